/-
  The plain functions on sentences: depth, reach; definitions and bounds; no condition but those that stand in each theorem.
-/
/-
  What scan does: the tokens of a text, as its plain function says, or a *Fault; for every text of at most 300 bytes.
-/
import Derived.Test.YtpbbmagjhkakgaaGreatDoorSentToPureScan
import Derived.Test.YtpbbmagjhkakgaaGreatDoorHeapToWalk1
import Derived.Test.YtpbbmagjhkakgaaGreatDoorShelfToPure
namespace Go.Proofs.YtpbbmagjhkakgaaGreatDoor
open Go.Deep (BT)

/-- How deep a sentence is. -/
def depthT : BT Pay → Nat
  | .nil => 0
  | .node _ _ _ l r => 1 + max (depthT l) (depthT r)

/-- How far back it reaches. -/
def reachT : BT Pay → Int
  | .nil => 0
  | .node _ _ a l r => a.hi + max (reachT l) (reachT r)

/-- Each window is one that a sentence may have. -/
def WinOK : BT Pay → Prop
  | .nil => True
  | .node _ _ a l r => (0 ≤ a.lo ∧ a.lo ≤ a.hi ∧ a.hi ≤ 1000000) ∧ WinOK l ∧ WinOK r

theorem reachT_bound : ∀ {x : BT Pay}, WinOK x → 0 ≤ reachT x ∧ reachT x ≤ 1000000 * depthT x
  | .nil, _ => by simp [reachT, depthT]
  | .node _ _ a l r, ⟨h, hl, hr⟩ => by
    have h1 := reachT_bound hl
    have h2 := reachT_bound hr
    simp only [reachT, depthT]
    omega

/-- A reader of sentences that goes no deeper than n. -/
def Shallow (n : Nat) (f : List Tok → Option (BT Pay × List Tok)) : Prop := ∀ ts x r, f ts = some (x, r) → depthT x ≤ n

theorem shallow_step {n : Nat} {f : List Tok → Option (BT Pay × List Tok)} (hf : Shallow n f) : Shallow (n + 1) (stepF f) := by
  intro ts x r h
  unfold stepF at h
  split at h
  · cases hw : wordF (takeF ts).1 with
    | none => simp [hw] at h
    | some y =>
      simp [hw] at h
      obtain ⟨rfl, _⟩ := h
      unfold wordF at hw
      split at hw
      · injection hw with hw; subst hw; simp [mk, depthT]
      · split at hw
        · cases hw
        · injection hw with hw; subst hw; simp [mk, depthT]
  · split at h
    · unfold pairF at h
      cases h1 : f (takeF ts).2 with
      | none => simp [h1] at h
      | some y =>
        obtain ⟨p, t1⟩ := y
        have d1 := hf _ _ _ h1
        simp only [h1] at h
        split at h
        · cases h2 : windowF (takeF t1).1.sign (takeF t1).2 with
          | none => simp [h2] at h
          | some y =>
            obtain ⟨⟨a, b⟩, t2⟩ := y
            simp only [h2] at h
            cases h3 : f t2 with
            | none => simp [h3] at h
            | some z =>
              obtain ⟨q, t3⟩ := z
              have d2 := hf _ _ _ h3
              simp only [h3] at h
              cases h4 : expectF 41 t3 with
              | none => simp [h4] at h
              | some t4 =>
                simp only [h4] at h
                injection h with h; injection h with h _; subst h
                simp only [mk, depthT]; omega
        · cases h
    · split at h
      · unfold singleF at h
        cases h1 : windowF (takeF ts).1.sign (takeF ts).2 with
        | none => simp [h1] at h
        | some y =>
          obtain ⟨⟨a, b⟩, t1⟩ := y
          simp only [h1] at h
          cases h2 : f t1 with
          | none => simp [h2] at h
          | some z =>
            obtain ⟨p, t2⟩ := z
            have d1 := hf _ _ _ h2
            simp only [h2] at h
            injection h with h; injection h with h _; subst h
            simp only [mk, depthT]; omega
      · cases h

theorem shallow_parse : ∀ n, Shallow n (parseF n)
  | 0 => fun _ _ _ h => by cases h
  | n + 1 => shallow_step (shallow_parse n)

/-- What a text is read as: a sentence and 0; or 1: no sentence; or 2: too deep a one. -/
def readF (s : ByteArray) : Option (BT Pay) × Int :=
  if 300 < s.size then (none, 1)
  else match scanF s s.size 0 32 [] with
    | none => (none, 1)
    | some ts => match parseF ts.length ts with
      | none => (none, 1)
      | some (x, r) => match expectF (-1) r with
        | none => (none, 1)
        | some _ => if 12 < depthT x then (none, 2) else (some x, 0)

end Go.Proofs.YtpbbmagjhkakgaaGreatDoor

namespace Go.Proofs.YtpbbmagjhkakgaaGreatDoor
open Go.RowKit

set_option maxHeartbeats 400000 in
theorem whyNoSign_any (rest : ByteArray) (r : Int) (w : World) :
    Calls Tryz.prog 152 #[.string rest, .int .i32 r] w fun e w' => (∃ s, e = .returned (.string s)) ∧ w' = w := by
  by_cases hr : r = 65533
  · subst hr
    go_enter Tryz.func152, Tryz.ntmps152
    go_wp2_with (go_at_call 185; refine (Tryz.strings_HasPrefix _ _ _).mono ?_; rintro e w' ⟨rfl, rfl⟩)
    all_goals go_ret
    all_goals exact ⟨⟨_, rfl⟩, rfl⟩
  · have hr' : (r == 65533) = false := by simp [hr]
    go_enter Tryz.func152, Tryz.ntmps152
    go_wp2_with fail
    go_ret
    exact ⟨⟨_, rfl⟩, rfl⟩

theorem infoTok : (Tryz.prog.info? 260).map (fun i => (i.zero, i.size, i.bytes)) = some (some (.agg #[.int .i32 0, .int .i64 0, .string ⟨#[]⟩]), 3, 32) := by kernel_rfl

theorem cells_three_new (w : World) (t : Tok) (e : TypeId) : ∀ j u, (tokCells t)[j]? = some u → (w.alloc (.cells #[.int .i32 t.sign, .int .i64 t.place, .string t.word] e)).cell? ((⟨w.heap.size, 0, none⟩ : Addr).add j) = some u := by
  intro j u hj
  have hh := heap_new w (.cells #[.int .i32 t.sign, .int .i64 t.place, .string t.word] e (0, 0)) _ rfl
  have : (⟨w.heap.size, 0, none⟩ : Addr).add j = ⟨w.heap.size, j, none⟩ := by simp [Addr.add]; omega
  rw [this]
  exact cell_at hh (by simpa [tokCells] using hj)

theorem tok_one (t : Tok) : ∀ u, u ∈ tokCells t → u.oneCell' = true := by
  intro u hu
  simp [tokCells] at hu
  rcases hu with rfl | rfl | rfl <;> rfl

theorem flat_snoc (ts : List Tok) (t : Tok) : ((ts ++ [t]).map tokCells).flatten = (ts.map tokCells).flatten ++ tokCells t := by simp

theorem flat_len (ts : List Tok) : (ts.map tokCells).flatten.length = ts.length * 3 := by
  induction ts with
  | nil => rfl
  | cons a l ih => simp only [List.map_cons, List.flatten_cons, List.length_append, ih, List.length_cons]; simp [tokCells]; omega

theorem own_slice {w : World} {base size n : Nat} {e : TypeId} {v : Value} {xs : List Value} (h : w.ownsRow base e size v n xs) (hn : 0 < n) : ∃ g cap, v = .slice (some ⟨g, 0, none⟩) n cap ∧ base ≤ g ∧ g < w.heap.size ∧ n ≤ cap ∧ cap ≤ maxLen := by
  obtain ⟨_, ⟨_, hz⟩ | ⟨g, cap, cur, hv, hg, hh, hn, hm, hs, ht⟩⟩ := h
  · omega
  · exact ⟨g, cap, hv, hg, heap_lt hh, hn, hm⟩

/-- Behind an append the iterator stands as it stood. -/
theorem iter_grown {w W w2 : World} {o : Obj} {s : ByteArray} {p n : Nat} {e : TypeId} {size : Nat} {v : Value} {xs : List Value} (hit : W.heap[w.heap.size]? = some (.stringIter s p)) (hown : W.ownsRow (w.heap.size + 1) e size v n xs) (hg : (W.alloc o).grownBy w2 v.ownBlock) :
    w2.heap[w.heap.size]? = some (.stringIter s p) := by
  have hl := heap_lt hit
  rw [hg.block _ (by simp; omega) (fun h => by have := (hown.lt _ h.symm).1; omega), Lib.alloc_old W o _ hl]
  exact hit

theorem toks_of_own {base : Nat} {w : World} {v : Value} {ts : List Tok} (h : w.ownsRow base 260 3 v ts.length (ts.map tokCells).flatten) (hne : ts ≠ []) : ToksAt w.heap.size w v ts := by
  obtain ⟨hl, ⟨_, hz⟩ | ⟨g, cap, cur, hv, hg, hh, hn, hm, hs, ht⟩⟩ := h
  · exact absurd (List.length_eq_zero_iff.1 hz) hne
  · refine ⟨g, 0, cap, cur, _, _, cur.toList.drop (ts.length * 3), hv, heap_lt hh, hh, hn, hm, ?_⟩
    rw [← ht, List.drop_zero, List.take_append_drop]

/-- How scan ends. -/
def ScanEnd (w : World) (res : Option (List Tok)) (e : Ending) (w' : World) : Prop :=
  Below w.heap.size w w' ∧ ((∃ ts v, res = some ts ∧ e = .returned (.tuple #[v, .nilIface]) ∧ ToksAt w'.heap.size w' v ts ∧ Ends ts ∧ ts.length ≤ 305)
    ∨ (res = none ∧ ∃ fa, e = .returned (.tuple #[.slice none 0 0, .iface 201 (.pointer (some fa))])))

set_option maxHeartbeats 4000000 in
set_option maxRecDepth 100000 in
theorem scan_any (s : ByteArray) (w : World) (hs : s.size ≤ 300) :
    Calls Tryz.prog 113 #[.string s] w (ScanEnd w (scanF s s.size 0 32 [])) := by
  generalize hres : scanF s s.size 0 32 [] = res
  go_enter Tryz.func113, Tryz.ntmps113
  go_wp2
  go_loopw [4, 5] (fun v l wr => ∃ (pos b : Nat) (last : Int) (toks : List Tok), wr.heap[w.heap.size]? = some (.stringIter s pos) ∧ wr.ownsRow (w.heap.size + 1) 260 3 v toks.length (toks.map tokCells).flatten ∧ l = .int .i32 last ∧ Below w.heap.size w wr ∧ Hid (scanF s b pos last toks = res) ∧ s.size ≤ pos + b ∧ Mid pos last toks ∧ pos ≤ 304) (fun _ _ wr => s.size - wr.iterPos w.heap.size)
  case atStart =>
    refine ⟨0, s.size, 32, [], ?_, World.ownsRow_nil _ _ _ _, rfl, ?_, hres, by omega, Mid.start, by omega⟩
    · exact World.iter_heap w s 0
    · exact (Below.refl _ _).al (.stringIter s 0)
  case round =>
    clear hres
    obtain ⟨pos, b, last, toks, hit, hown, rfl, hbw, hsc, hfu, hmid, hpos⟩ := hrel
    have hlen := hmid.len
    by_cases hp : pos < s.size
    · have hnx : ∀ ty, (Instr.next (.pointer (some ⟨w.heap.size, 0, none⟩)) true ty).run Tryz.prog wr = _ := fun ty => Lib.run_next_any_at wr w.heap.size s pos ty hit hp
      have hwd := width_pos s pos hp
      have hwl := width_le s pos
      obtain ⟨f, rfl⟩ : ∃ f, b = f + 1 := ⟨b - 1, by omega⟩
      have hit2 := Lib.iterAt_heap wr w.heap.size s pos (pos + (Utf8.decode s pos).2) hit
      have hbw2 := Lib.below_iterAt hbw (k := w.heap.size) (Nat.le_refl _) s (pos + (Utf8.decode s pos).2)
      have hown2 := ownsRow_iterAt hown (k := w.heap.size) (by omega) s (pos + (Utf8.decode s pos).2)
      have hS : Hid (res = (if signF (Utf8.decode s pos).1 = -2 then none
        else if signF (Utf8.decode s pos).1 = last ∧ joinsB (signF (Utf8.decode s pos).1) = true then
          scanF s f (pos + (Utf8.decode s pos).2) (signF (Utf8.decode s pos).1) (growF s pos toks)
        else if signF (Utf8.decode s pos).1 = 32 then scanF s f (pos + (Utf8.decode s pos).2) (signF (Utf8.decode s pos).1) toks
        else scanF s f (pos + (Utf8.decode s pos).2) (signF (Utf8.decode s pos).1) (toks ++ [⟨signF (Utf8.decode s pos).1, pos, Utf8.encode (Utf8.decode s pos).1⟩]))) := by
        show _ = _
        rw [← hsc.out]
        show scanF s (f + 1) pos last toks = _
        rw [scanF, if_pos hp]
      have hm : Hid (wr.iterPos w.heap.size = pos) := iterPos_of hit
      have hsg := signF_ne (Utf8.decode s pos).1
      go_wp2_with fail
      refine (signOf_any _ _).mono ?_
      rintro e w1 ⟨rfl, rfl⟩
      clear hnx hit hown hbw hsc
      generalize wr.iterAt w.heap.size s (pos + (Utf8.decode s pos).2) = W at *
      generalize ((Utf8.decode s pos).1 : Int) = r at *
      generalize (Utf8.decode s pos).2 = wid at *
      generalize signF r = sg at *
      by_cases h2 : sg = -2
      · have hR : Hid (res = none) := by show _ = _; rw [hS.out, if_pos h2]
        subst h2
        clear hS
        go_wp2_with fail
        refine (whyNoSign_any _ _ _).mono ?_
        rintro e w1 ⟨⟨str, rfl⟩, rfl⟩
        go_wp2_with fail
        go_ret2
        exact ⟨hbw2.al _, .inr ⟨hR.out, _, rfl⟩⟩
      · have q1 : (sg == -2) = false := by simp [h2]
        have hs1 : sg ≠ -1 := by omega
        by_cases hj : sg = last ∧ joinsB sg = true
        · have hR : Hid (res = scanF s f (pos + wid) sg (growF s pos toks)) := by show _ = _; rw [hS.out, if_neg h2, if_pos hj]
          obtain ⟨hl, hjb⟩ := hj
          subst hl
          obtain ⟨ts, t, rfl⟩ : ∃ ts t, toks = ts ++ [t] := ⟨toks.dropLast, toks.getLast (hmid.join hjb), (List.dropLast_concat_getLast (hmid.join hjb)).symm⟩
          rw [growF_snoc] at hR
          obtain ⟨g, cap, hv, hg1, hg2, hcap, hmax⟩ := own_slice hown2 (by simp)
          subst hv
          simp only [List.length_append, List.length_cons, List.length_nil, Nat.zero_add] at *
          have cp : W.cell? ⟨g, ts.length * 3 + 1, none⟩ = some (.int .i64 t.place) := by
            rw [hown2.cellAt _ (by omega), flat_snoc, List.getElem?_append_right (by rw [flat_len]; omega), flat_len]
            simp [tokCells]
          have cw : W.cell? ⟨g, ts.length * 3 + 2, none⟩ = some (.string t.word) := by
            rw [hown2.cellAt _ (by omega), flat_snoc, List.getElem?_append_right (by rw [flat_len]; omega), flat_len]
            simp [tokCells]
          have fw : W.frozen? ⟨g, ts.length * 3 + 2, none⟩ = false := hown2.frozenAt _
          have htp := hmid.each t (by simp)
          obtain ⟨_, _, hp0, hp1⟩ := htp
          unfold maxLen at hmax
          go_wp2_with fail
          refine (joins_any _ _).mono ?_
          rintro e w1 ⟨rfl, rfl⟩
          clear hS h2 hsg
          go_wp2_with fail
          have hR' : Hid (scanF s f (pos + wid) sg (ts ++ [⟨t.sign, t.place, s.extract t.place.toNat (pos + 1)⟩]) = res) := hR.out.symm
          have hit3 : (w1.setCell ⟨g, ts.length * 3 + 2, none⟩ (.string (s.extract t.place.toNat (pos + 1)))).heap[w.heap.size]? = some (.stringIter s (pos + wid)) := by
            rw [Below.heap_setCell _ _ _ _ (by show w.heap.size ≠ g; omega)]; exact hit2
          refine ⟨⟨pos + wid, f, sg, ts ++ [⟨t.sign, t.place, s.extract t.place.toNat (pos + 1)⟩], hit3, ?_, rfl, ?_, hR', by omega, hmid.grow (by omega) hs, by omega⟩, ?_⟩
          · have := (hown2.stored (ts.length * 3 + 2) (.string (s.extract t.place.toNat (pos + 1)))).1
            rw [flat_snoc] at this
            rw [flat_snoc]
            rw [List.set_append_right _ _ (by rw [flat_len]; omega), flat_len] at this
            have e2 : ts.length * 3 + 2 - ts.length * 3 = 2 := by omega
            rw [e2] at this
            simpa [tokCells] using this
          · exact hbw2.setCell (p := ⟨g, ts.length * 3 + 2, none⟩) (by show w.heap.size ≤ g; omega) _
          · rw [iterPos_of hit3, hm.out]; omega
        · have hR : Hid (res = if sg = 32 then scanF s f (pos + wid) sg toks else scanF s f (pos + wid) sg (toks ++ [⟨sg, pos, Utf8.encode r⟩])) := by show _ = _; rw [hS.out, if_neg h2, if_neg hj]
          clear hS h2 hsg
          have hj2 : (sg == last) = false ∨ ((sg == last) = true ∧ joinsB sg = false) := by
            by_cases hl : sg = last
            · exact .inr ⟨by simp [hl], by cases hb : joinsB sg with | true => exact absurd ⟨hl, hb⟩ hj | false => rfl⟩
            · exact .inl (by simp [hl])
          clear hj
          obtain ⟨i0, hi, hz0, hz1, hz2⟩ := info_parts infoTok
          by_cases h32 : sg = 32
          · have hR2 : Hid (scanF s f (pos + wid) 32 toks = res) := by show _ = _; rw [hR.out, if_pos h32, h32]
            subst h32
            clear hR
            have hm3 := hmid.blank (p2 := pos + wid) (by omega)
            rcases hj2 with hj2 | ⟨hj2, hj3⟩
            · go_wp2_with fail
              exact ⟨⟨pos + wid, f, 32, toks, hit2, hown2, rfl, hbw2, hR2, by omega, hm3, by omega⟩, by rw [iterPos_of hit2, hm.out]; omega⟩
            · go_wp2_with fail
              refine (joins_any _ _).mono ?_
              rintro e w1 ⟨rfl, rfl⟩
              go_wp2_with fail
              exact ⟨⟨pos + wid, f, 32, toks, hit2, hown2, rfl, hbw2, hR2, by omega, hm3, by omega⟩, by rw [iterPos_of hit2, hm.out]; omega⟩
          · have hR2 : Hid (scanF s f (pos + wid) sg (toks ++ [⟨sg, pos, Utf8.encode r⟩]) = res) := by show _ = _; rw [hR.out, if_neg h32]
            have q3 : (sg != 32) = true := by simp [h32]
            clear hR h32
            rcases hj2 with hj2 | ⟨hj2, hj3⟩
            · go_wp2_with (at_builtin; refine wpList_append_own _ rfl _ _ 204 rfl (w.heap.size + 1) 260 i0 _ 3 32 Tryz.underlying204 hi hz0 hz1 hz2 rfl (by decide) _ _ _ rfl (hown2.alloc _) ⟨W.heap.size, 0, none⟩ 1 1 (tokCells ⟨sg, pos, Utf8.encode r⟩) rfl rfl ?c1 ?c2 ?c3 ?c4 ?c5 ?_)
              case c1 => exact cells_three_new W ⟨sg, pos, Utf8.encode r⟩ _
              case c2 => exact tok_one _
              case c3 => unfold maxLen; omega
              case c4 => omega
              case c5 => have := hbw2.size; have := heap_lt hit2; simp; omega
              intro v' w2 hown' hgrow _
              go_wp2_with fail
              have hit3 := iter_grown hit2 hown2 hgrow
              refine ⟨⟨pos + wid, f, sg, toks ++ [⟨sg, pos, Utf8.encode r⟩], hit3, ?_, rfl, ?_, hR2, by omega, hmid.more (by omega) hs1, by omega⟩, ?_⟩
              · rw [flat_snoc]; simpa using hown'
              · exact (hbw2.al _).grown hgrow (by have := hbw2.size; simp; omega) (fun k hk => by have := (hown2.lt k hk).1; omega)
              · rw [iterPos_of hit3, hm.out]; omega
            · go_wp2_with fail
              refine (joins_any _ _).mono ?_
              rintro e w1 ⟨rfl, rfl⟩
              go_wp2_with (at_builtin; refine wpList_append_own _ rfl _ _ 204 rfl (w.heap.size + 1) 260 i0 _ 3 32 Tryz.underlying204 hi hz0 hz1 hz2 rfl (by decide) _ _ _ rfl (hown2.alloc _) ⟨w1.heap.size, 0, none⟩ 1 1 (tokCells ⟨sg, pos, Utf8.encode r⟩) rfl rfl ?c1 ?c2 ?c3 ?c4 ?c5 ?_)
              case c1 => exact cells_three_new w1 ⟨sg, pos, Utf8.encode r⟩ _
              case c2 => exact tok_one _
              case c3 => unfold maxLen; omega
              case c4 => omega
              case c5 => have := hbw2.size; have := heap_lt hit2; simp; omega
              intro v' w2 hown' hgrow _
              go_wp2_with fail
              have hit3 := iter_grown hit2 hown2 hgrow
              refine ⟨⟨pos + wid, f, sg, toks ++ [⟨sg, pos, Utf8.encode r⟩], hit3, ?_, rfl, ?_, hR2, by omega, hmid.more (by omega) hs1, by omega⟩, ?_⟩
              · rw [flat_snoc]; simpa using hown'
              · exact (hbw2.al _).grown hgrow (by have := hbw2.size; simp; omega) (fun k hk => by have := (hown2.lt k hk).1; omega)
              · rw [iterPos_of hit3, hm.out]; omega
    · have hnx : ∀ ty, (Instr.next (.pointer (some ⟨w.heap.size, 0, none⟩)) true ty).run Tryz.prog wr = _ := fun ty => Lib.run_next_end_at wr w.heap.size s pos ty hit hp
      have hR : Hid (res = some (toks ++ [endTok s])) := by show _ = _; rw [← hsc.out, scanF_end s b pos last toks hp]
      have hends := hmid.ends s
      obtain ⟨i0, hi, hz0, hz1, hz2⟩ := info_parts infoTok
      clear hsc
      go_wp2_with (at_builtin; refine wpList_append_own _ rfl _ _ 204 rfl (w.heap.size + 1) 260 i0 _ 3 32 Tryz.underlying204 hi hz0 hz1 hz2 rfl (by decide) _ _ _ rfl (hown.alloc _) ⟨wr.heap.size, 0, none⟩ 1 1 (tokCells (endTok s)) rfl rfl ?c1 ?c2 ?c3 ?c4 ?c5 ?_)
      case c1 => exact cells_three_new wr (endTok s) _
      case c2 => exact tok_one _
      case c3 => unfold maxLen; omega
      case c4 => omega
      case c5 => have := heap_lt hit; simp; omega
      intro v' w2 hown' hgrow _
      go_wp2_with fail
      go_ret2
      have hown3 : w2.ownsRow (w.heap.size + 1) 260 3 v' (toks ++ [endTok s]).length ((toks ++ [endTok s]).map tokCells).flatten := by rw [flat_snoc]; simpa using hown'
      refine ⟨?_, .inl ⟨_, _, hR.out, rfl, toks_of_own hown3 (by simp), hends, by simp; omega⟩⟩
      exact (hbw.al _).grown hgrow (by have := hbw.size; simp; omega) (fun k hk => by have := (hown.lt k hk).1; omega)

end Go.Proofs.YtpbbmagjhkakgaaGreatDoor
