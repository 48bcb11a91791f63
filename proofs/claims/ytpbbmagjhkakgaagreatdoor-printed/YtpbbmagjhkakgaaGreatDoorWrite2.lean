/-
  What (*Sentence).write, writePair and String do: a sentence that lies in memory is written as its plain function says; for every sentence that is made as it should be, and whose text is no longer than 100,000,000 bytes, in a world whose package-level variables are as the program's text lays them.
-/
import Derived.Test.YtpbbmagjhkakgaaGreatDoorWrite
namespace Go.Proofs.YtpbbmagjhkakgaaGreatDoor
open Go.RowKit Go.Deep

/-- write does as printB says at this sentence. -/
def WriteOK (x : BT Pay) : Prop := ∀ (v : Value) (Bt B b : Nat) (l : List UInt8) (w : World), SentAt 143 Bt w x v → Good x → BB B b l w → Glob w → 14 ≤ B → B ≤ w.heap.size → l.length + (printB x).length ≤ 100000000 →
  Calls Tryz.prog 81 #[v, .pointer (some ⟨b, 0, none⟩)] w fun e w' => e = .returned (.tuple #[]) ∧ BBPost B b (l ++ printB x) w w'

theorem sent_kept {B b Bt : Nat} {l l' : List UInt8} {w w' : World} {x : BT Pay} {v : Value} (hs : SentAt 143 Bt w x v) (hb : BB B b l w) (hp : BBPost B b l' w w') : SentAt 143 Bt w' x v := by
  obtain ⟨_, cb, hc⟩ := hb.at
  exact SentAt.others hc hp.2.2 hs

set_option maxHeartbeats 2000000 in
theorem writePair_any (a : Pay) (x y : BT Pay) (hop : a.op = 8743 ∨ a.op = 8744 ∨ a.op = 83) (hlo : 0 ≤ a.lo ∧ a.lo ≤ 1000000) (hhi : 0 ≤ a.hi ∧ a.hi ≤ 1000000) (hx : WriteOK x) (hy : WriteOK y) (gx : Good x) (gy : Good y)
    (Bt B b sb : Nat) (l : List UInt8) (vl vr : Value) (w : World)
    (hs : w.heap[sb]? = some (.cells #[.int .i32 a.op, .string a.name, .int .i64 a.lo, .int .i64 a.hi, vl, vr] 143 (0, 0))) (hl : SentAt 143 Bt w x vl) (hr : SentAt 143 Bt w y vr)
    (hb : BB B b l w) (hg : Glob w) (hB7 : 14 ≤ B) (hBw : B ≤ w.heap.size) (hlen : l.length + ([40] ++ printB x ++ [32] ++ opW a ++ [32] ++ printB y ++ [41]).length ≤ 100000000) :
    Calls Tryz.prog 121 #[.pointer (some ⟨sb, 0, none⟩), .pointer (some ⟨b, 0, none⟩)] w fun e w' => e = .returned (.tuple #[]) ∧ BBPost B b (l ++ ([40] ++ printB x ++ [32] ++ opW a ++ [32] ++ printB y ++ [41])) w w' := by
  simp only [List.length_append, List.length_cons, List.length_nil] at hlen
  go_enter Tryz.func121, Tryz.ntmps121
  go_wp2_with fail
  refine (wByte B b l 40 _ hb (by omega) hBw).mono ?_
  rintro e w1 ⟨rfl, p1⟩
  have s1 := step_kept hs hb p1
  have l1 := sent_kept hl hb p1
  have r1 := sent_kept hr hb p1
  have z1 := p1.2.1.size
  have g1 := hg.belowB p1.2.1 hB7
  clear hs hl hr hg
  have c4 := cell_at (i := 4) s1 rfl
  go_wp2_with fail
  refine (hx vl Bt B b _ _ l1 gx p1.1 g1 hB7 (by omega) (by simp; omega)).mono ?_
  rintro e w2 ⟨rfl, p2⟩
  have s2 := step_kept s1 p1.1 p2
  have r2 := sent_kept r1 p1.1 p2
  have z2 := p2.2.1.size
  have g2 := g1.belowB p2.2.1 hB7
  have q2 := p1.trans p2
  clear s1 l1 r1 g1 c4
  go_wp2_with fail
  refine (wByte B b _ 32 _ q2.1 (by simp; omega) (by omega)).mono ?_
  rintro e w3 ⟨rfl, p3⟩
  have s3 := step_kept s2 q2.1 p3
  have r3 := sent_kept r2 q2.1 p3
  have z3 := p3.2.1.size
  have g3 := g2.belowB p3.2.1 hB7
  have q3 := q2.trans p3
  clear s2 r2 g2
  go_wp2_with fail
  refine (writeOp_any a (by unfold isSign; omega) hlo hhi B b sb _ vl vr _ s3 q3.1 g3 hB7 (by omega) (by simp; omega) (by omega)).mono ?_
  rintro e w4 ⟨rfl, p4⟩
  have s4 := step_kept s3 q3.1 p4
  have r4 := sent_kept r3 q3.1 p4
  have z4 := p4.2.1.size
  have g4 := g3.belowB p4.2.1 hB7
  have q4 := q3.trans p4
  clear s3 r3 g3
  go_wp2_with fail
  refine (wByte B b _ 32 _ q4.1 (by simp; omega) (by omega)).mono ?_
  rintro e w5 ⟨rfl, p5⟩
  have s5 := step_kept s4 q4.1 p5
  have r5 := sent_kept r4 q4.1 p5
  have z5 := p5.2.1.size
  have g5 := g4.belowB p5.2.1 hB7
  have q5 := q4.trans p5
  clear s4 r4 g4
  have c5 := cell_at (i := 5) s5 rfl
  go_wp2_with fail
  refine (hy vr Bt B b _ _ r5 gy q5.1 g5 hB7 (by omega) (by simp; omega)).mono ?_
  rintro e w6 ⟨rfl, p6⟩
  have z6 := p6.2.1.size
  have q6 := q5.trans p6
  clear s5 r5 g5 c5
  go_wp2_with fail
  refine (wByte B b _ 41 _ q6.1 (by simp; omega) (by omega)).mono ?_
  rintro e w7 ⟨rfl, p7⟩
  have q7 := q6.trans p7
  go_wp2_with fail
  go_end0
  exact ⟨rfl, by simpa using q7⟩

set_option maxHeartbeats 2000000 in
theorem write_any : ∀ x : BT Pay, WriteOK x := by
  intro x
  induction x with
  | nil => intro _ _ _ _ _ _ _ h; exact h.elim
  | node b0 o0 a x y ihx ihy =>
    intro v Bt B b l w hs hgd hb hg hB7 hBw hlen
    obtain ⟨sb, vl, vr, rfl, hBt, hs, hl, hr⟩ := hs
    have c0 := cell_at (i := 0) hs rfl
    have hP : Hid (printB (.node b0 o0 a x y) = if a.op = 116 then [116, 114, 117, 101]
      else if a.op = 97 then a.name.data.toList
      else if a.op = 8743 ∨ a.op = 8744 ∨ a.op = 83 then [40] ++ printB x ++ [32] ++ opW a ++ [32] ++ printB y ++ [41]
      else opW a ++ printB x) := rfl
    generalize printB (.node b0 o0 a x y) = out at *
    rcases hgd with ⟨h1, _⟩ | ⟨h1, _⟩ | ⟨h1, _, h3, _, gx, gy⟩ | ⟨h1, _, h3, _, gx, h4⟩
    · have hO : Hid (out = [116, 114, 117, 101]) := by show _ = _; rw [hP.out, if_pos h1]
      have hO2 : out.length = 4 := by rw [hO.out]; rfl
      rw [h1] at c0
      clear hP h1 ihx ihy
      go_enter Tryz.func81, Tryz.ntmps81
      go_wp2_with fail
      refine (wStr B b l [116, 114, 117, 101] _ hb (by simp; omega) hBw).mono ?_
      rintro e w1 ⟨⟨n1, rfl⟩, p1⟩
      go_wp2_with fail
      go_end0
      exact ⟨rfl, by rw [hO.out]; exact p1⟩
    · have hO : Hid (out = a.name.data.toList) := by show _ = _; rw [hP.out, if_neg (by omega), if_pos h1]
      have hO2 : out.length = a.name.data.toList.length := by rw [hO.out]
      have c1 := cell_at (i := 1) hs rfl
      rw [h1] at c0
      clear hP h1 ihx ihy
      go_enter Tryz.func81, Tryz.ntmps81
      go_wp2_with fail
      refine (wStr B b l a.name.data.toList _ hb (by omega) hBw).mono ?_
      rintro e w1 ⟨⟨n1, rfl⟩, p1⟩
      go_wp2_with fail
      go_end0
      exact ⟨rfl, by rw [hO.out]; exact p1⟩
    · have hO : Hid (out = [40] ++ printB x ++ [32] ++ opW a ++ [32] ++ printB y ++ [41]) := by show _ = _; rw [hP.out, if_neg (by omega), if_neg (by omega), if_pos h1]
      have hW := writePair_any a x y h1 (by omega) (by omega) ihx ihy gx gy Bt B b sb l vl vr w hs hl hr hb hg hB7 hBw (by rw [← hO.out]; exact hlen)
      rw [← hO.out] at hW
      have hq : (a.op == 116) = false ∧ (a.op == 97) = false ∧ ((a.op == 8743) = true ∨ ((a.op == 8743) = false ∧ (a.op == 8744) = true) ∨ ((a.op == 8743) = false ∧ (a.op == 8744) = false ∧ (a.op == 83) = true)) := by
        rcases h1 with h1 | h1 | h1 <;> rw [h1] <;> decide
      obtain ⟨q1, q2, hq⟩ := hq
      clear hP h1 ihx ihy hO hlen
      rcases hq with q3 | ⟨q3, q4⟩ | ⟨q3, q4, q5⟩
      all_goals
        go_enter Tryz.func81, Tryz.ntmps81
        go_wp2_with fail
        refine hW.mono ?_
        rintro e w1 ⟨rfl, p1⟩
        go_wp2_with fail
        go_end0
        exact ⟨rfl, p1⟩
    · have hO : Hid (out = opW a ++ printB x) := by show _ = _; rw [hP.out, if_neg (by omega), if_neg (by omega), if_neg (by omega)]
      have hO2 : out.length = (opW a).length + (printB x).length := by rw [hO.out]; simp
      have hW := writeOp_any a (by unfold isSign; omega) (by omega) (by omega) B b sb l vl vr w hs hb hg hB7 hBw (by omega) (by omega)
      have hq : (a.op == 116) = false ∧ (a.op == 97) = false ∧ (a.op == 8743) = false ∧ (a.op == 8744) = false ∧ (a.op == 83) = false := by
        rcases h1 with h1 | h1 | h1 | h1 <;> rw [h1] <;> decide
      obtain ⟨q1, q2, q3, q4, q5⟩ := hq
      have Ix : Hid (WriteOK x) := ihx
      clear hP h1 ihx ihy
      go_enter Tryz.func81, Tryz.ntmps81
      go_wp2_with fail
      refine hW.mono ?_
      rintro e w1 ⟨rfl, p1⟩
      have s1 := step_kept hs hb p1
      have l1 := sent_kept hl hb p1
      have z1 := p1.2.1.size
      have g1 := hg.belowB p1.2.1 hB7
      clear hs hl hg c0
      have c4 := cell_at (i := 4) s1 rfl
      go_wp2_with fail
      refine (Ix.out vl Bt B b _ _ l1 gx p1.1 g1 hB7 (by omega) (by simp; omega)).mono ?_
      rintro e w2 ⟨rfl, p2⟩
      have q2 := p1.trans p2
      go_wp2_with fail
      go_end0
      exact ⟨rfl, by rw [hO.out]; simpa using q2⟩

set_option maxHeartbeats 1000000 in
theorem string_any (x : BT Pay) (v : Value) (Bt : Nat) (w : World) (hs : SentAt 143 Bt w x v) (hgd : Good x) (hg : Glob w) (hw7 : 14 ≤ w.heap.size) (hlen : (printB x).length ≤ 100000000) :
    Calls Tryz.prog 41 #[v] w fun e w' => e = .returned (.string ⟨(printB x).toArray⟩) ∧ Below w.heap.size w w' := by
  have h0 : BB w.heap.size w.heap.size [] (w.alloc (.cells #[.pointer none, .slice none 0 0] 137)) := Lib.IsBuilderF.of (Lib.fresh_isBuilder 137 5 w)
  have hb := (Below.refl w.heap.size w).al (.cells #[.pointer none, .slice none 0 0] 137 (0, 0))
  have hW := write_any x v Bt w.heap.size w.heap.size [] _ (hs.below hb) hgd h0 (hg.below hb) hw7 (by simp) (by simpa using hlen)
  obtain ⟨vv, rfl⟩ : ∃ vv, v = Value.pointer vv := sent_ptr hs
  go_enter Tryz.func41, Tryz.ntmps41
  go_wp2_with fail
  refine hW.mono ?_
  rintro e w1 ⟨rfl, p1⟩
  have z1 := p1.2.1.size
  go_wp2_with fail
  refine (Tryz.Builder_String_any_k w.heap.size w.heap.size (printB x) _ (by have h := p1.1; rw [List.nil_append] at h; exact h) (by simp at z1; omega)).mono ?_
  rintro e w2 ⟨rfl, _, b2, _⟩
  go_wp2_with fail
  go_ret
  exact ⟨rfl, (hb.trans p1.2.1).trans b2⟩

end Go.Proofs.YtpbbmagjhkakgaaGreatDoor
