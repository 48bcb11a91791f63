/-
  What (*Sentence).Depth and Reach do: each answers as its plain function, and turns nothing; for every sentence that lies in memory, no deeper than 400; Reach: whose windows are such as a sentence may have.
-/
/-
  What read and Read do: the sentence of a text, or an error that tells no sentence from too deep a one; for every text, in a world whose variables of package strconv are there.
-/
import Derived.Test.YthpjkagopankbaaGreatDoorHeapToWalk1
import Derived.Test.YthpjkagopankbaaGreatDoorPureTreeToScan
import Derived.Test.YthpjkagopankbaaGreatDoorSentToPureScan
import Derived.Test.YthpjkagopankbaaGreatDoorProg
import Derived.Deep.QuietTactic
import Derived.Deep.RegionWith
import Derived.BigQuiet
namespace Go.Proofs.YthpjkagopankbaaGreatDoor
open Go.RowKit Go.Deep

theorem SentAt.drewN {S : TypeId} {B : Nat} {w : World} {x : BT Pay} {v : Value} (h : SentAt S B w x v) (n : Nat) : SentAt S B (w.drewN n) x v :=
  SentAt.heap (w := w) (w' := w.drewN n) (fun _ _ _ hc => hc) h

set_option maxHeartbeats 1000000 in
theorem depth_any : ∀ (x : BT Pay) (v : Value) (B : Nat) (w : World), SentAt 116 B w x v → depthT x ≤ 400 →
    Calls Tryz.prog 95 #[v] w fun e w' => e = .returned (.int .i64 (depthT x)) ∧ ∃ n, w' = w.drewN n := by
  intro x
  induction x with
  | nil =>
    intro v B w h _
    subst h
    go_enter Tryz.func95, Tryz.ntmps95
    go_wp2_with fail
    go_ret
    exact ⟨rfl, 0, rfl⟩
  | node b0 o0 a l r ihl ihr =>
    intro v B w h hd
    obtain ⟨b, vl, vr, rfl, hB, hh, hl, hr⟩ := h
    have c4 := cell_at (i := 4) hh rfl
    have c5 := cell_at (i := 5) hh rfl
    have dl : depthT l ≤ 399 := by simp only [depthT] at hd; omega
    have dr : depthT r ≤ 399 := by simp only [depthT] at hd; omega
    have hD : Hid (depthT (.node b0 o0 a l r) = 1 + max (depthT l) (depthT r)) := rfl
    generalize depthT (.node b0 o0 a l r) = D at *
    have il := fun W (hW : SentAt 116 B W l vl) => ihl vl B W hW (by omega)
    have ir := fun W (hW : SentAt 116 B W r vr) => ihr vr B W hW (by omega)
    have Il : Hid (∀ W, SentAt 116 B W l vl → _) := il
    have Ir : Hid (∀ W, SentAt 116 B W r vr → _) := ir
    generalize depthT l = p at *
    generalize depthT r = q at *
    clear il ir ihl ihr hh
    go_enter Tryz.func95, Tryz.ntmps95
    go_wp2_with fail
    go_quiet (first
      | (go_at_call_of 95 (vl); exact Calls.quiet_of (Il.out _ (hl.drewN _)))
      | (go_at_call_of 95 (vr); exact Calls.quiet_of (Ir.out _ (hr.drewN _))))
    go_wp2_with fail
    all_goals go_ret
    all_goals exact ⟨ret_int (by rw [hD.out]; omega), _, rfl⟩

set_option maxHeartbeats 1000000 in
theorem reach_any : ∀ (x : BT Pay) (v : Value) (B : Nat) (w : World), SentAt 116 B w x v → depthT x ≤ 400 → WinOK x →
    Calls Tryz.prog 32 #[v] w fun e w' => e = .returned (.int .i64 (reachT x)) ∧ ∃ n, w' = w.drewN n := by
  intro x
  induction x with
  | nil =>
    intro v B w h _ _
    subst h
    go_enter Tryz.func32, Tryz.ntmps32
    go_wp2_with fail
    go_ret
    exact ⟨rfl, 0, rfl⟩
  | node b0 o0 a l r ihl ihr =>
    intro v B w h hd hw
    obtain ⟨b, vl, vr, rfl, hB, hh, hl, hr⟩ := h
    obtain ⟨⟨hw1, hw2, hw3⟩, wl, wr'⟩ := hw
    have c3 := cell_at (i := 3) hh rfl
    have c4 := cell_at (i := 4) hh rfl
    have c5 := cell_at (i := 5) hh rfl
    have dl : depthT l ≤ 399 := by simp only [depthT] at hd; omega
    have dr : depthT r ≤ 399 := by simp only [depthT] at hd; omega
    have bl := reachT_bound wl
    have br := reachT_bound wr'
    have hD : Hid (reachT (.node b0 o0 a l r) = a.hi + max (reachT l) (reachT r)) := rfl
    generalize reachT (.node b0 o0 a l r) = D at *
    have il := fun W (hW : SentAt 116 B W l vl) => ihl vl B W hW (by omega) wl
    have ir := fun W (hW : SentAt 116 B W r vr) => ihr vr B W hW (by omega) wr'
    have Il : Hid (∀ W, SentAt 116 B W l vl → _) := il
    have Ir : Hid (∀ W, SentAt 116 B W r vr → _) := ir
    have p1 : 0 ≤ reachT l := bl.1
    have p2 : reachT l ≤ 399000000 := by omega
    have q1 : 0 ≤ reachT r := br.1
    have q2 : reachT r ≤ 399000000 := by omega
    clear bl br il ir ihl ihr hh hd dl dr wl wr'
    generalize reachT l = p at *
    generalize reachT r = q at *
    have hx : 0 ≤ a.hi := by omega
    generalize a.hi = hi at *
    go_enter Tryz.func32, Tryz.ntmps32
    go_wp2_with fail
    go_quiet (first
      | (go_at_call_of 32 (vl); exact Calls.quiet_of (Il.out _ (hl.drewN _)))
      | (go_at_call_of 32 (vr); exact Calls.quiet_of (Ir.out _ (hr.drewN _))))
    go_wp2_with fail
    all_goals go_ret
    all_goals exact ⟨ret_int (by rw [hD.out]; omega), _, rfl⟩

end Go.Proofs.YthpjkagopankbaaGreatDoor

namespace Go.Proofs.YthpjkagopankbaaGreatDoor
open Go.RowKit Go.Deep

/-- How read ends. -/
def ReadEnd (w : World) (res : Option (BT Pay) × Int) (e : Ending) (w' : World) : Prop :=
  Below w.heap.size w w' ∧ ((∃ x v, res = (some x, 0) ∧ e = .returned (.tuple #[v, .nilIface]) ∧ SentAt 116 w.heap.size w' x v ∧ depthT x ≤ 12)
    ∨ (res = (none, 1) ∧ ∃ fa, e = .returned (.tuple #[.pointer none, .iface 175 (.pointer (some fa))]))
    ∨ (res = (none, 2) ∧ ∃ fa, e = .returned (.tuple #[.pointer none, .iface 103 (.pointer (some fa))])))

set_option maxHeartbeats 400000 in
theorem read_long (s : ByteArray) (w : World) (hs : 300 < s.size) (hm : s.size ≤ maxLen) : Calls Tryz.prog 50 #[.string s] w (ReadEnd w (readF s)) := by
  have hR : readF s = (none, 1) := by unfold readF; rw [if_pos hs]
  rw [hR]
  unfold maxLen at hm
  clear hR
  go_enter Tryz.func50, Tryz.ntmps50
  go_wp2_with fail
  go_ret2
  exact ⟨(Below.refl _ _).al _, .inr (.inl ⟨rfl, _, rfl⟩)⟩

set_option maxHeartbeats 1000000 in
theorem read_short (s : ByteArray) (w : World) (hs : s.size ≤ 300) (hg : ConvAt w) (hw7 : 14 ≤ w.heap.size) : Calls Tryz.prog 50 #[.string s] w (ReadEnd w (readF s)) := by
  have hR : Hid (readF s = match scanF s s.size 0 32 [] with
    | none => (none, 1)
    | some ts => match parseF ts.length ts with
      | none => (none, 1)
      | some (x, r) => match expectF (-1) r with
        | none => (none, 1)
        | some _ => if 12 < depthT x then (none, 2) else (some x, 0)) := by show _ = _; unfold readF; rw [if_neg (by omega)]; rfl
  generalize readF s = res at *
  go_enter Tryz.func50, Tryz.ntmps50
  go_wp2_with fail
  refine (scan_any s w hs).mono ?_
  rintro e w1 ⟨hb1, ⟨ts, v, h1, rfl, ht1, he1, hl1⟩ | ⟨h1, fa, rfl⟩⟩
  rotate_left
  · go_wp2_with fail
    go_ret2
    exact ⟨hb1, .inr (.inl ⟨by rw [hR.out]; simp only [h1], _, rfl⟩)⟩
  have z1 := hb1.size
  obtain ⟨tb, off, cap, cs, te, tm, tail, hv, htb, hx⟩ := id ht1
  rw [hv] at ht1
  rw [hv]
  clear hx hv
  have hr1 : RdAt 182 w1.heap.size (w1.alloc (.cells #[.slice (some ⟨tb, off, none⟩) ts.length cap] 182 (0, 0))) ts :=
    ⟨_, heap_new _ _ _ rfl, ht1.only (s := w1.heap.size) ((Only.refl _ _).alloc _) (Nat.le_refl _)⟩
  have g1 : ConvAt (w1.alloc (.cells #[.slice (some ⟨tb, off, none⟩) ts.length cap] 182 (0, 0))) := (hg.below hb1).below ((Below.refl _ _).al _)
  clear ht1
  go_wp2_with fail
  refine (sentence_any ts.length w1.heap.size ts _ hr1 he1 g1 (by omega) (Nat.le_refl _)).mono ?_
  rintro e w2 ⟨ho2, ⟨x, r, v, h2, rfl, hx2, hr2⟩ | ⟨h2, fa, rfl⟩⟩
  rotate_left
  · have b2 := (hb1.al (.cells #[.slice (some ⟨tb, off, none⟩) ts.length cap] 182 (0, 0))).trans (ho2.below z1 (by simp; omega))
    clear hr1 g1 ho2
    go_wp2_with fail
    go_ret2
    exact ⟨b2, .inr (.inl ⟨by rw [hR.out]; simp only [h1, h2], _, rfl⟩)⟩
  have b2 := (hb1.al (.cells #[.slice (some ⟨tb, off, none⟩) ts.length cap] 182 (0, 0))).trans (ho2.below z1 (by simp; omega))
  obtain ⟨e2, l2⟩ := keeps_parse _ _ _ _ he1 h2
  have d2 := shallow_parse _ _ _ _ h2
  obtain ⟨vx, rfl⟩ := sent_ptr hx2
  clear hr1 g1 ho2 he1
  go_wp2_with fail
  refine (expect_any w1.heap.size r (-1) _ _ hr2 e2).mono ?_
  rintro e w3 ⟨ho3, ⟨t3, h3, rfl, hr3⟩ | ⟨h3, fa, rfl⟩⟩
  rotate_left
  · have b3 := b2.trans (ho3.below z1 (by have := b2.size; omega))
    clear hr2 ho3
    go_wp2_with fail
    go_ret2
    exact ⟨b3, .inr (.inl ⟨by rw [hR.out]; simp only [h1, h2, h3], _, rfl⟩)⟩
  have b3 := b2.trans (ho3.below z1 (by have := b2.size; omega))
  have hx3 := (hx2.only ho3 (by omega)).low (B' := w.heap.size) (by omega)
  have hR3 : Hid (res = if 12 < depthT x then (none, 2) else (some x, 0)) := by show _ = _; rw [hR.out]; simp only [h1, h2, h3]
  clear hr2 ho3 hx2 hr3 hR h1 h2 h3 b2
  go_wp2_with fail
  refine (depth_any x _ _ _ hx3 (by omega)).mono ?_
  rintro e w4 ⟨rfl, n4, rfl⟩
  have b4 : Below w.heap.size w (w3.drewN n4) := below_drewN b3 n4
  have hx4 := hx3.drewN n4
  by_cases hd : 12 < depthT x
  · have hR4 : Hid (res = (none, 2)) := by show _ = _; rw [hR3.out, if_pos hd]
    clear hR3 hx3 hx4
    generalize depthT x = D at *
    go_wp2_with fail
    go_ret2
    exact ⟨b4.al _, .inr (.inr ⟨hR4.out, _, rfl⟩)⟩
  · have hR4 : Hid (res = (some x, 0)) := by show _ = _; rw [hR3.out, if_neg hd]
    have hd' : depthT x ≤ 12 := by omega
    have Hd : Hid (depthT x ≤ 12) := hd'
    clear hR3 hx3
    generalize depthT x = D at hd hd' d2
    go_wp2_with fail
    go_ret2
    exact ⟨b4, .inl ⟨x, _, hR4.out, rfl, hx4, Hd.out⟩⟩

end Go.Proofs.YthpjkagopankbaaGreatDoor
