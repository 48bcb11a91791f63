/-
  Plain laws: a sentence that the given reader reads is made as it should be, and is no deeper than its text is long; no condition but those that stand in each theorem.
-/
/-
  What the given reader's parts, Depth and Reach do: for every sentence of the given reader's that lies in memory and is made as it should be; no condition but those that stand in each theorem.
-/
import Derived.Test.YtpbbmagjhkakgaaGreatDoorRSentPToRSentI
import Derived.Laws.AppendOwn
namespace Go.Proofs.YtpbbmagjhkakgaaGreatDoor
open Go.Deep (BT)

theorem window_ok {op : Int} {u t : List UInt8} {a b : Int} (h : windowR op u = some ((a, b), t)) : (0 ≤ a ∧ a ≤ b ∧ b ≤ 1000000) ∧ (winB op = false → a = 0 ∧ b = 0) := by
  by_cases hw : winB op = true
  · cases h1 : expectR 91 u with
    | none => rw [window_none1 hw h1] at h; cases h
    | some t1 =>
      rw [window_at hw h1] at h
      cases h2 : numAtR t1 with
      | none => rw [h2] at h; cases h
      | some p2 =>
        obtain ⟨a', t2⟩ := p2
        rw [h2] at h
        simp only at h
        have l2 := num_small h2
        cases h3 : expectR 44 t2 with
        | none => rw [h3] at h; cases h
        | some t3 =>
          rw [h3] at h
          simp only at h
          cases h4 : numAtR t3 with
          | none => rw [h4] at h; cases h
          | some p4 =>
            obtain ⟨b', t4⟩ := p4
            rw [h4] at h
            simp only at h
            have l4 := num_small h4
            cases h5 : expectR 93 t4 with
            | none => rw [h5] at h; cases h
            | some t5 =>
              rw [h5] at h
              simp only at h
              split at h
              · cases h
              · simp at h
                obtain ⟨⟨rfl, rfl⟩, _⟩ := h
                exact ⟨by omega, fun e => by rw [hw] at e; cases e⟩
  · unfold windowR at h
    rw [if_neg hw] at h
    simp at h
    obtain ⟨⟨rfl, rfl⟩, _⟩ := h
    exact ⟨by omega, fun _ => ⟨rfl, rfl⟩⟩

theorem word_good {c : UInt8} {r : List UInt8} {x : BT Pay} (hc : signF (c.toNat : Int) = 97) (h : wordT (wordR 97 (c :: r)) = some x) : Good x ∧ depthT x = 1 := by
  have hm : ∀ y, y ∈ wordR 97 (c :: r) → 97 ≤ y.toNat ∧ y.toNat ≤ 122 := by
    intro y hy
    rw [(word_let _).1] at hy
    have := List.all_eq_true.1 List.all_takeWhile y hy
    unfold pB at this
    simp at this
    exact this
  have hlen : 1 ≤ (wordR 97 (c :: r)).length := by
    unfold wordR
    rw [List.takeWhile_cons, hc]
    simp
  generalize wordR 97 (c :: r) = w at *
  unfold wordT at h
  split at h
  · injection h with h
    subst h
    exact ⟨.inl ⟨rfl, rfl, rfl, rfl, rfl, rfl⟩, rfl⟩
  · rename_i ht
    split at h
    · cases h
    · rename_i h8
      injection h with h
      subst h
      refine ⟨.inr (.inl ⟨rfl, ⟨?_, ?_, ?_, ?_⟩, rfl, rfl, rfl, rfl⟩), rfl⟩
      · show 1 ≤ (ByteArray.mk w.toArray).size
        rw [← size_list]
        simpa using hlen
      · show (ByteArray.mk w.toArray).size ≤ 8
        rw [← size_list]
        simp
        omega
      · intro e
        apply ht
        have := congrArg (fun b : ByteArray => b.data.toList) e
        simpa [trueB] using this
      · intro y hy
        exact hm y (by simpa using hy)

theorem sent_good : ∀ (n : Nat) (u : List UInt8) (x : BT Pay) (t : List UInt8), sentR n u = some (x, t) → Good x ∧ depthT x ≤ n
  | 0, u, x, t, h => by cases h
  | n + 1, u, x, t, h => by
    have ih := sent_good n
    simp only [sentR] at h
    cases hsk : skipR u with
    | nil => rw [hsk] at h; cases h
    | cons c r =>
      rw [hsk] at h
      simp only at h
      split at h
      · rename_i hc
        cases hw : wordT (wordR 97 (c :: r)) with
        | none => rw [hw] at h; cases h
        | some y =>
          rw [hw] at h
          simp at h
          obtain ⟨rfl, _⟩ := h
          obtain ⟨g, d⟩ := word_good hc hw
          exact ⟨g, by omega⟩
      · split at h
        · unfold pairR at h
          cases h1 : sentR n r with
          | none => rw [h1] at h; cases h
          | some p1 =>
            obtain ⟨x1, t1⟩ := p1
            obtain ⟨g1, d1⟩ := ih r x1 t1 h1
            rw [h1] at h
            simp only at h
            cases h2 : skipR t1 with
            | nil => rw [h2] at h; cases h
            | cons k t2 =>
              rw [h2] at h
              simp only at h
              split at h
              · rename_i hk
                cases h3 : windowR (signF (k.toNat : Int)) t2 with
                | none => rw [h3] at h; cases h
                | some p3 =>
                  obtain ⟨⟨a, b⟩, t3⟩ := p3
                  obtain ⟨w1, w2⟩ := window_ok h3
                  rw [h3] at h
                  simp only at h
                  cases h4 : sentR n t3 with
                  | none => rw [h4] at h; cases h
                  | some p4 =>
                    obtain ⟨q, t4⟩ := p4
                    obtain ⟨g4, d4⟩ := ih t3 q t4 h4
                    rw [h4] at h
                    simp only at h
                    cases h5 : expectR 41 t4 with
                    | none => rw [h5] at h; cases h
                    | some t5 =>
                      rw [h5] at h
                      simp at h
                      obtain ⟨rfl, _⟩ := h
                      have hs : signF (k.toNat : Int) = 8743 ∨ signF (k.toNat : Int) = 8744 ∨ signF (k.toNat : Int) = 83 := by
                        rcases hk with e | e | e <;> rw [e]
                        · exact .inl (by decide)
                        · exact .inr (.inl (by decide))
                        · exact .inr (.inr (by decide))
                      refine ⟨.inr (.inr (.inl ⟨hs, rfl, w1, w2, g1, g4⟩)), ?_⟩
                      show 1 + max (depthT x1) (depthT q) ≤ n + 1
                      omega
              · cases h
        · split at h
          · rename_i hc
            unfold singleR at h
            cases h3 : windowR (signF (c.toNat : Int)) r with
            | none => rw [h3] at h; cases h
            | some p3 =>
              obtain ⟨⟨a, b⟩, t3⟩ := p3
              obtain ⟨w1, w2⟩ := window_ok h3
              rw [h3] at h
              simp only at h
              cases h4 : sentR n t3 with
              | none => rw [h4] at h; cases h
              | some p4 =>
                obtain ⟨q, t4⟩ := p4
                obtain ⟨g4, d4⟩ := ih t3 q t4 h4
                rw [h4] at h
                simp at h
                obtain ⟨rfl, _⟩ := h
                have hs : signF (c.toNat : Int) = 172 ∨ signF (c.toNat : Int) = 89 ∨ signF (c.toNat : Int) = 79 ∨ signF (c.toNat : Int) = 72 := by
                  rcases hc with e | e | e | e <;> rw [e]
                  · exact .inl (by decide)
                  · exact .inr (.inl (by decide))
                  · exact .inr (.inr (.inl (by decide)))
                  · exact .inr (.inr (.inr (by decide)))
                refine ⟨.inr (.inr (.inr ⟨hs, rfl, w1, w2, g4, rfl⟩)), ?_⟩
                show 1 + max (depthT q) 0 ≤ n + 1
                omega
          · cases h

theorem blank_len (out : List UInt8) : (if out ≠ [] ∧ out.getLast? ≠ some 32 then out ++ [32] else out).length ≤ out.length + 1 := by
  split
  · simp
  · omega

theorem sig_len (s : ByteArray) : ∀ (f i : Nat) (out u : List UInt8), out.length ≤ i → i ≤ s.size → sigB s f i out = some u → u.length ≤ s.size := by
  intro f
  induction f with
  | zero =>
    intro i out u h hi e
    simp only [sigB] at e
    injection e with e
    subst e
    omega
  | succ f ih =>
    intro i out u h hi e
    simp only [sigB] at e
    split at e
    · rename_i hl
      split at e
      · rename_i hc
        exact ih _ _ _ (by simp; omega) (by omega) e
      · split at e
        · rename_i hc
          exact ih _ _ _ (by simp; omega) (by omega) e
        · split at e
          · rename_i hc
            exact ih _ _ _ (by simp; omega) (by omega) e
          · split at e
            · exact ih _ _ _ (by have := blank_len out; omega) (by omega) e
            · split at e
              · exact ih _ _ _ (by simp; omega) (by omega) e
              · cases e
    · injection e with e
      subst e
      omega

end Go.Proofs.YtpbbmagjhkakgaaGreatDoor

namespace Go.Proofs.YtpbbmagjhkakgaaGreatDoor
open Go.RowKit Go.Deep

theorem infoPtr : (Tryz.prog.info? 83).map (fun i => (i.zero, i.size, i.bytes)) = some (some (.pointer none), 1, 8) := by kernel_rfl

/-- The parts that are there. -/
def partL : Option Addr → List Value
  | none => []
  | some a => [.pointer (some a)]

theorem cell_new1 (w : World) (x : Value) (t : TypeId) : ∀ j u, [x][j]? = some u → (w.alloc (.cells #[x] t)).cell? ((⟨w.heap.size, 0, none⟩ : Addr).add j) = some u := by
  intro j u hj
  match j, hj with
  | 0, hj =>
    simp at hj
    subst hj
    simp [Addr.add]

set_option maxHeartbeats 1000000 in
theorem rparts_any (X : Nat) (w : World) (k : Int) (nm : ByteArray) (a b : Int) (pl pr : Option Addr) (h : XAt X w k nm a b (.pointer pl) (.pointer pr)) (hr : pl = none → pr = none) :
    Calls Tryz.prog 147 #[.pointer (some ⟨X, 0, none⟩)] w fun e w' => Below w.heap.size w w' ∧ ∃ v, e = .returned v ∧ w'.ownsRow w.heap.size 83 1 v (partL pl ++ partL pr).length (partL pl ++ partL pr) := by
  obtain ⟨⟨x0, x1, x2, x3, x4, x5⟩, _⟩ := h.facts
  obtain ⟨i0, hi, hz0, hz1, hz2⟩ := info_parts infoPtr
  cases pl with
  | none =>
    obtain rfl := hr rfl
    go_enter Tryz.func147, Tryz.ntmps147
    go_wp2_with fail
    go_ret
    exact ⟨Below.refl _ _, _, rfl, World.ownsRow_nil _ _ _ _⟩
  | some al =>
    go_enter Tryz.func147, Tryz.ntmps147
    go_wp2_with (at_builtin; refine wpList_append_own _ rfl _ _ 249 rfl w.heap.size 83 i0 _ 1 8 Tryz.underlying249 hi hz0 hz1 hz2 rfl (by decide) _ _ _ rfl (World.ownsRow_nil _ _ _ _) ⟨w.heap.size, 0, none⟩ 1 1 [.pointer (some al)] rfl rfl (cell_new1 w _ _) (by intro u hu; simp at hu; subst hu; rfl) (by unfold maxLen; omega) (by omega) (by simp) ?_)
    intro v' w2 hown hgrow _
    have hb2 : Below w.heap.size w w2 := ((Below.refl w.heap.size w).al _).grown hgrow (by simp) (fun k hk => by cases hk)
    have hX2 : XAt X w2 k nm a b (.pointer (some al)) (.pointer pr) := hb2.heapOf h
    obtain ⟨⟨y0, y1, y2, y3, y4, y5⟩, _⟩ := hX2.facts
    cases pr with
    | none =>
      go_wp2_with fail
      go_ret
      exact ⟨hb2, _, rfl, by simpa [partL] using hown⟩
    | some ar =>
      have z2 := hb2.size
      go_wp2_with (at_builtin; refine wpList_append_own _ rfl _ _ 249 rfl w.heap.size 83 i0 _ 1 8 Tryz.underlying249 hi hz0 hz1 hz2 rfl (by decide) _ _ _ rfl (hown.alloc _) ⟨w2.heap.size, 0, none⟩ 1 1 [.pointer (some ar)] rfl rfl (cell_new1 w2 _ _) (by intro u hu; simp at hu; subst hu; rfl) (by unfold maxLen; omega) (by omega) (by simp; omega) ?_)
      intro v3 w3 hown3 hgrow3 _
      go_wp2_with fail
      go_ret
      refine ⟨(hb2.alloc z2 _).grown hgrow3 (by simp; omega) (fun k hk => (hown.lt k hk).1), _, rfl, by simpa [partL] using hown3⟩

end Go.Proofs.YtpbbmagjhkakgaaGreatDoor
