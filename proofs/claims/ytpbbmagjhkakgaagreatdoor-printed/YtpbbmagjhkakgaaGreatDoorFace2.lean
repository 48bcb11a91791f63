/-
  What the faces Print and Reach do: for every text, in a world whose package-level variables are as the program's text lays them.
-/
import Derived.Test.YtpbbmagjhkakgaaGreatDoorFace
import Derived.Test.YtpbbmagjhkakgaaGreatDoorWrite2
import Derived.Test.YtpbbmagjhkakgaaGreatDoorPureEnds
namespace Go.Proofs.YtpbbmagjhkakgaaGreatDoor
open Go.RowKit Go.Deep

/-- What Print answers. -/
def printA (s : ByteArray) : Value := match (readF s).1 with
  | some x => .tuple #[.string ⟨(printB x).toArray⟩, .int .i64 0]
  | none => .tuple #[.string ⟨#[]⟩, .int .i64 (readF s).2]

/-- What Reach answers. -/
def reachA (s : ByteArray) : Value := match (readF s).1 with
  | some x => .tuple #[.int .i64 (reachT x), .int .i64 0]
  | none => .tuple #[.int .i64 0, .int .i64 (readF s).2]

theorem below_drewN (w : World) (n : Nat) : Below w.heap.size w (w.drewN n) := ⟨rfl, rfl, rfl, Nat.le_refl _, fun _ _ => rfl⟩

set_option maxHeartbeats 400000 in
theorem print_any (s : ByteArray) (w : World) (hm : s.size ≤ maxLen) (hg : Glob w) (hw7 : 14 ≤ w.heap.size) :
    Calls Tryz.prog 14 #[.string s] w fun e w' => e = .returned (printA s) ∧ Below w.heap.size w w' := by
  have hr := readTop_any s w hm hg hw7
  have hso : ∀ x n, readF s = (some x, n) → Good x ∧ ZeroT x ∧ depthT x ≤ 12 ∧ n = 0 := fun x n h => readF_sound h
  have hA : Hid (printA s = match (readF s).1 with | some x => .tuple #[.string ⟨(printB x).toArray⟩, .int .i64 0] | none => .tuple #[.string ⟨#[]⟩, .int .i64 (readF s).2]) := rfl
  generalize printA s = ans at *
  generalize readF s = res at *
  go_enter Tryz.func14, Tryz.ntmps14
  go_wp2_with fail
  refine hr.mono ?_
  rintro e w1 ⟨hb, ⟨x, v, h1, rfl, hx, hd⟩ | ⟨h1, tb, fa, rfl, ht⟩ | ⟨h1, tb, fa, rfl, ht⟩⟩
  · subst h1
    obtain ⟨hgd, _, hd, _⟩ := hso x 0 rfl
    obtain ⟨vv, rfl⟩ := sent_ptr hx
    have hS := string_any x _ _ w1 hx hgd (hg.below hb) (Nat.le_trans hw7 hb.size) (by have := print_le hgd hd; omega)
    have hA2 : Hid (ans = .tuple #[.string ⟨(printB x).toArray⟩, .int .i64 0]) := hA.out
    clear hr hso hA hg
    generalize printB x = pb at *
    go_wp2_with fail
    refine hS.mono ?_
    rintro e w2 ⟨rfl, hb2⟩
    go_wp2_with fail
    go_ret2
    exact ⟨congrArg Ending.returned hA2.out.symm, hb.tr hb2⟩
  · subst h1
    have hE := errno_text s tb fa w1 (hg.below hb) ht
    have hA2 : Hid (ans = .tuple #[.string ⟨#[]⟩, .int .i64 1]) := hA.out
    clear hr hso hA hg
    go_wp2_with fail
    refine hE.mono ?_
    rintro e w2 ⟨rfl, hb2⟩
    go_wp2_with fail
    go_ret2
    exact ⟨congrArg Ending.returned hA2.out.symm, hb.tr hb2⟩
  · subst h1
    have hE := errno_deep s tb fa w1 (hg.below hb) ht
    have hA2 : Hid (ans = .tuple #[.string ⟨#[]⟩, .int .i64 2]) := hA.out
    clear hr hso hA hg
    go_wp2_with fail
    refine hE.mono ?_
    rintro e w2 ⟨rfl, hb2⟩
    go_wp2_with fail
    go_ret2
    exact ⟨congrArg Ending.returned hA2.out.symm, hb.tr hb2⟩

set_option maxHeartbeats 400000 in
theorem reachTop_any (s : ByteArray) (w : World) (hm : s.size ≤ maxLen) (hg : Glob w) (hw7 : 14 ≤ w.heap.size) :
    Calls Tryz.prog 15 #[.string s] w fun e w' => e = .returned (reachA s) ∧ Below w.heap.size w w' := by
  have hr := readTop_any s w hm hg hw7
  have hso : ∀ x n, readF s = (some x, n) → Good x ∧ ZeroT x ∧ depthT x ≤ 12 ∧ n = 0 := fun x n h => readF_sound h
  have hA : Hid (reachA s = match (readF s).1 with | some x => .tuple #[.int .i64 (reachT x), .int .i64 0] | none => .tuple #[.int .i64 0, .int .i64 (readF s).2]) := rfl
  generalize reachA s = ans at *
  generalize readF s = res at *
  go_enter Tryz.func15, Tryz.ntmps15
  go_wp2_with fail
  refine hr.mono ?_
  rintro e w1 ⟨hb, ⟨x, v, h1, rfl, hx, hd⟩ | ⟨h1, tb, fa, rfl, ht⟩ | ⟨h1, tb, fa, rfl, ht⟩⟩
  · subst h1
    obtain ⟨hgd, _, hd, _⟩ := hso x 0 rfl
    obtain ⟨vv, rfl⟩ := sent_ptr hx
    have hS := reach_any x _ _ w1 hx (by omega) hgd.win
    have hA2 : Hid (ans = .tuple #[.int .i64 (reachT x), .int .i64 0]) := hA.out
    clear hr hso hA hg
    generalize reachT x = rb at *
    go_wp2_with fail
    refine hS.mono ?_
    rintro e w2 ⟨rfl, n, rfl⟩
    go_wp2_with fail
    go_ret2
    exact ⟨congrArg Ending.returned hA2.out.symm, hb.tr (below_drewN w1 n)⟩
  · subst h1
    have hE := errno_text s tb fa w1 (hg.below hb) ht
    have hA2 : Hid (ans = .tuple #[.int .i64 0, .int .i64 1]) := hA.out
    clear hr hso hA hg
    go_wp2_with fail
    refine hE.mono ?_
    rintro e w2 ⟨rfl, hb2⟩
    go_wp2_with fail
    go_ret2
    exact ⟨congrArg Ending.returned hA2.out.symm, hb.tr hb2⟩
  · subst h1
    have hE := errno_deep s tb fa w1 (hg.below hb) ht
    have hA2 : Hid (ans = .tuple #[.int .i64 0, .int .i64 2]) := hA.out
    clear hr hso hA hg
    go_wp2_with fail
    refine hE.mono ?_
    rintro e w2 ⟨rfl, hb2⟩
    go_wp2_with fail
    go_ret2
    exact ⟨congrArg Ending.returned hA2.out.symm, hb.tr hb2⟩

end Go.Proofs.YtpbbmagjhkakgaaGreatDoor
