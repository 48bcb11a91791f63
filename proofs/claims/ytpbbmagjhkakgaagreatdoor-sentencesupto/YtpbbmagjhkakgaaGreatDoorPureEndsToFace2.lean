/-
  Plain laws: what is scanned ends as tokens should; so what is read is made as it should be, and its text is read again as it; no condition but those that stand in each theorem.
-/
/-
  What the faces Print and Reach do: for every text, in a world whose package-level variables are as the program's text lays them.
-/
import Derived.Test.YtpbbmagjhkakgaaGreatDoorPureRoundToPureSize
import Derived.Test.YtpbbmagjhkakgaaGreatDoorFaceToPurePrint
import Derived.Test.YtpbbmagjhkakgaaGreatDoorWriteToWrite2
namespace Go.Proofs.YtpbbmagjhkakgaaGreatDoor
open Go.Deep (BT)

theorem scan_ends (s : ByteArray) (hs : s.size ≤ 300) : ∀ (b pos : Nat) (last : Int) (toks ts : List Tok), Mid pos last toks → scanF s b pos last toks = some ts → Ends ts
  | 0, pos, last, toks, ts, hm, h => by
    simp only [scanF] at h
    injection h with h
    subst h
    exact hm.ends s
  | b + 1, pos, last, toks, ts, hm, h => by
    by_cases hp : pos < s.size
    · have hw := width_pos s pos hp
      simp only [scanF] at h
      rw [if_pos hp] at h
      by_cases h2 : signF (Utf8.decode s pos).1 = -2
      · rw [if_pos h2] at h; cases h
      · rw [if_neg h2] at h
        have hne : signF (Utf8.decode s pos).1 ≠ -1 := by
          rcases signF_ne (Utf8.decode s pos).1 with h | h
          · exact h
          · exact absurd h h2
        by_cases h3 : signF (Utf8.decode s pos).1 = last ∧ joinsB (signF (Utf8.decode s pos).1) = true
        · rw [if_pos h3] at h
          have hnn := hm.join (by rw [← h3.1]; exact h3.2)
          obtain ⟨ts0, t, rfl⟩ : ∃ ts0 t, toks = ts0 ++ [t] := ⟨toks.dropLast, toks.getLast hnn, (List.dropLast_concat_getLast hnn).symm⟩
          rw [growF_snoc] at h
          exact scan_ends s hs b _ _ _ ts (hm.grow (by omega) hs) h
        · rw [if_neg h3] at h
          by_cases h4 : signF (Utf8.decode s pos).1 = 32
          · rw [if_pos h4, h4] at h
            exact scan_ends s hs b _ _ _ ts (hm.blank (by omega)) h
          · rw [if_neg h4] at h
            exact scan_ends s hs b _ _ _ ts (hm.more (by omega) hne) h
    · rw [scanF_end s _ pos last toks hp] at h
      injection h with h
      subst h
      exact hm.ends s

/-- What is read is made as it should be. -/
theorem readF_sound {s : ByteArray} {x : BT Pay} {n : Int} (h : readF s = (some x, n)) : Good x ∧ ZeroT x ∧ depthT x ≤ 12 ∧ n = 0 := by
  have hs : s.size ≤ 300 := by
    refine Nat.le_of_not_lt fun h2 => ?_
    rw [readF_long h2] at h
    cases h
  exact ⟨readF_good h (fun ts hts => scan_ends s hs _ _ _ _ _ Mid.start hts), readF_zero h⟩

/-- What is not read: 1 or 2. -/
theorem readF_none {s : ByteArray} {n : Int} (h : readF s = (none, n)) : n = 1 ∨ n = 2 := by
  unfold readF at h
  split at h
  · simp at h; omega
  · cases h1 : scanF s s.size 0 32 [] with
    | none => simp [h1] at h; omega
    | some ts =>
      simp only [h1] at h
      cases h2 : parseF ts.length ts with
      | none => simp [h2] at h; omega
      | some y =>
        obtain ⟨z, r⟩ := y
        simp only [h2] at h
        cases h3 : expectF (-1) r with
        | none => simp [h3] at h; omega
        | some t3 =>
          simp only [h3] at h
          split at h
          · simp at h; omega
          · simp at h

/-- The text of what was read is read as the same, if it is not too long; else it is none. -/
theorem read_again {s : ByteArray} {x : BT Pay} {n : Int} (h : readF s = (some x, n)) : readF ⟨(printB x).toArray⟩ = if (printB x).length ≤ 300 then (some x, 0) else (none, 1) := by
  obtain ⟨hg, hz, hd, _⟩ := readF_sound h
  split
  · rename_i hl
    exact read_print x hg hz hd hl
  · rename_i hl
    exact readF_long (by simp [ByteArray.size]; omega)

theorem reachT_nonneg : ∀ {x : BT Pay}, WinOK x → 0 ≤ reachT x
  | .nil, _ => by simp [reachT]
  | .node _ _ a l r, h => by
    obtain ⟨h1, h2, h3⟩ := h
    have := reachT_nonneg h2
    have := reachT_nonneg h3
    simp only [reachT]
    omega

end Go.Proofs.YtpbbmagjhkakgaaGreatDoor

namespace Go.Proofs.YtpbbmagjhkakgaaGreatDoor
open Go.RowKit Go.Deep

/-- What Print answers. -/
def printA (s : ByteArray) : Value := match (readF s).1 with
  | some x => .tuple #[.string ⟨(printB x).toArray⟩, .int .i64 0]
  | none => .tuple #[.string ⟨#[]⟩, .int .i64 (readF s).2]

/-- What Reach answers. -/
def reachA (s : ByteArray) : Value := match (readF s).1 with
  | some x => .tuple #[.int .i64 (reachT x), .int .i64 0]
  | none => .tuple #[.int .i64 0, .int .i64 (readF s).2]

theorem below_drewN (w : World) (n : Nat) : Below w.heap.size w (w.drewN n) := ⟨rfl, rfl, rfl, Nat.le_refl _, fun _ _ => rfl⟩

set_option maxHeartbeats 400000 in
theorem print_any (s : ByteArray) (w : World) (hm : s.size ≤ maxLen) (hg : Glob w) (hw7 : 14 ≤ w.heap.size) :
    Calls Tryz.prog 14 #[.string s] w fun e w' => e = .returned (printA s) ∧ Below w.heap.size w w' := by
  have hr := readTop_any s w hm hg hw7
  have hso : ∀ x n, readF s = (some x, n) → Good x ∧ ZeroT x ∧ depthT x ≤ 12 ∧ n = 0 := fun x n h => readF_sound h
  have hA : Hid (printA s = match (readF s).1 with | some x => .tuple #[.string ⟨(printB x).toArray⟩, .int .i64 0] | none => .tuple #[.string ⟨#[]⟩, .int .i64 (readF s).2]) := rfl
  generalize printA s = ans at *
  generalize readF s = res at *
  go_enter Tryz.func14, Tryz.ntmps14
  go_wp2_with fail
  refine hr.mono ?_
  rintro e w1 ⟨hb, ⟨x, v, h1, rfl, hx, hd⟩ | ⟨h1, tb, fa, rfl, ht⟩ | ⟨h1, tb, fa, rfl, ht⟩⟩
  · subst h1
    obtain ⟨hgd, _, hd, _⟩ := hso x 0 rfl
    obtain ⟨vv, rfl⟩ := sent_ptr hx
    have hS := string_any x _ _ w1 hx hgd (hg.below hb) (Nat.le_trans hw7 hb.size) (by have := print_le hgd hd; omega)
    have hA2 : Hid (ans = .tuple #[.string ⟨(printB x).toArray⟩, .int .i64 0]) := hA.out
    clear hr hso hA hg
    generalize printB x = pb at *
    go_wp2_with fail
    refine hS.mono ?_
    rintro e w2 ⟨rfl, hb2⟩
    go_wp2_with fail
    go_ret2
    exact ⟨congrArg Ending.returned hA2.out.symm, hb.tr hb2⟩
  · subst h1
    have hE := errno_text s tb fa w1 (hg.below hb) ht
    have hA2 : Hid (ans = .tuple #[.string ⟨#[]⟩, .int .i64 1]) := hA.out
    clear hr hso hA hg
    go_wp2_with fail
    refine hE.mono ?_
    rintro e w2 ⟨rfl, hb2⟩
    go_wp2_with fail
    go_ret2
    exact ⟨congrArg Ending.returned hA2.out.symm, hb.tr hb2⟩
  · subst h1
    have hE := errno_deep s tb fa w1 (hg.below hb) ht
    have hA2 : Hid (ans = .tuple #[.string ⟨#[]⟩, .int .i64 2]) := hA.out
    clear hr hso hA hg
    go_wp2_with fail
    refine hE.mono ?_
    rintro e w2 ⟨rfl, hb2⟩
    go_wp2_with fail
    go_ret2
    exact ⟨congrArg Ending.returned hA2.out.symm, hb.tr hb2⟩

set_option maxHeartbeats 400000 in
theorem reachTop_any (s : ByteArray) (w : World) (hm : s.size ≤ maxLen) (hg : Glob w) (hw7 : 14 ≤ w.heap.size) :
    Calls Tryz.prog 15 #[.string s] w fun e w' => e = .returned (reachA s) ∧ Below w.heap.size w w' := by
  have hr := readTop_any s w hm hg hw7
  have hso : ∀ x n, readF s = (some x, n) → Good x ∧ ZeroT x ∧ depthT x ≤ 12 ∧ n = 0 := fun x n h => readF_sound h
  have hA : Hid (reachA s = match (readF s).1 with | some x => .tuple #[.int .i64 (reachT x), .int .i64 0] | none => .tuple #[.int .i64 0, .int .i64 (readF s).2]) := rfl
  generalize reachA s = ans at *
  generalize readF s = res at *
  go_enter Tryz.func15, Tryz.ntmps15
  go_wp2_with fail
  refine hr.mono ?_
  rintro e w1 ⟨hb, ⟨x, v, h1, rfl, hx, hd⟩ | ⟨h1, tb, fa, rfl, ht⟩ | ⟨h1, tb, fa, rfl, ht⟩⟩
  · subst h1
    obtain ⟨hgd, _, hd, _⟩ := hso x 0 rfl
    obtain ⟨vv, rfl⟩ := sent_ptr hx
    have hS := reach_any x _ _ w1 hx (by omega) hgd.win
    have hA2 : Hid (ans = .tuple #[.int .i64 (reachT x), .int .i64 0]) := hA.out
    clear hr hso hA hg
    generalize reachT x = rb at *
    go_wp2_with fail
    refine hS.mono ?_
    rintro e w2 ⟨rfl, n, rfl⟩
    go_wp2_with fail
    go_ret2
    exact ⟨congrArg Ending.returned hA2.out.symm, hb.tr (below_drewN w1 n)⟩
  · subst h1
    have hE := errno_text s tb fa w1 (hg.below hb) ht
    have hA2 : Hid (ans = .tuple #[.int .i64 0, .int .i64 1]) := hA.out
    clear hr hso hA hg
    go_wp2_with fail
    refine hE.mono ?_
    rintro e w2 ⟨rfl, hb2⟩
    go_wp2_with fail
    go_ret2
    exact ⟨congrArg Ending.returned hA2.out.symm, hb.tr hb2⟩
  · subst h1
    have hE := errno_deep s tb fa w1 (hg.below hb) ht
    have hA2 : Hid (ans = .tuple #[.int .i64 0, .int .i64 2]) := hA.out
    clear hr hso hA hg
    go_wp2_with fail
    refine hE.mono ?_
    rintro e w2 ⟨rfl, hb2⟩
    go_wp2_with fail
    go_ret2
    exact ⟨congrArg Ending.returned hA2.out.symm, hb.tr hb2⟩

end Go.Proofs.YtpbbmagjhkakgaaGreatDoor
