/-
  What the given reader's Depth and Reach do: for every sentence of the given reader's that lies in memory and is made as it should be; no condition but those that stand in each theorem.
-/
/-
  What the given reader's digits does: a number that is not below nought, as it is written; no condition but those that stand in each theorem.
-/
import Derived.Test.YtpbbmagjhkakgaaGreatDoorRefGoodToRParts
import Derived.Test.YtpbbmagjhkakgaaGreatDoorPureTreeToScan
import Derived.Test.YtpbbmagjhkakgaaGreatDoorFaceToPurePrint
import Derived.Test.YtpbbmagjhkakgaaGreatDoorPureNumToPureGood
import Derived.Laws.IdiomStrings
namespace Go.Proofs.YtpbbmagjhkakgaaGreatDoor
open Go.RowKit Go.Deep

/-- What a sentence that is made as it should be points to. -/
theorem ref_parts {B : Nat} {w : World} {b0 o0 : Nat} {a : Pay} {l r : BT Pay} {v : Value} (h : RefAt B w (.node b0 o0 a l r) v) (hg : Good (.node b0 o0 a l r)) :
    ∃ X pl pr, v = .pointer (some ⟨X, 0, none⟩) ∧ B ≤ X ∧ XAt X w (kindB a.op) a.name a.lo a.hi (.pointer pl) (.pointer pr) ∧ (pl = none → pr = none) ∧ RefAt B w l (.pointer pl) ∧ RefAt B w r (.pointer pr) ∧
      ((l = .nil ∧ r = .nil ∧ pl = none ∧ pr = none) ∨ (Good l ∧ r = .nil ∧ pr = none ∧ ∃ al, pl = some al) ∨ (Good l ∧ Good r ∧ (∃ al, pl = some al) ∧ ∃ ar, pr = some ar)) := by
  obtain ⟨X, vl, vr, rfl, hB, hc, hl, hr⟩ := h
  obtain ⟨pl, rfl⟩ := ref_ptr hl
  obtain ⟨pr, rfl⟩ := ref_ptr hr
  have hsome : ∀ {x : BT Pay} {p : Option Addr}, Good x → RefAt B w x (.pointer p) → ∃ q, p = some q := by
    intro x p gx hx
    cases x with
    | nil => exact gx.elim
    | node _ _ _ _ _ =>
      obtain ⟨q, _, _, hq, _⟩ := hx
      injection hq with hq
      exact ⟨_, hq⟩
  have hnone : ∀ {p : Option Addr}, RefAt B w .nil (.pointer p) → p = none := by
    intro p hx
    have : (Value.pointer p) = .pointer none := hx
    injection this
  refine ⟨X, pl, pr, rfl, hB, hc, ?_, hl, hr, ?_⟩
  · rcases hg with ⟨_, _, _, _, rfl, rfl⟩ | ⟨_, _, _, _, rfl, rfl⟩ | ⟨_, _, _, _, gl, gr⟩ | ⟨_, _, _, _, gl, rfl⟩
    · exact fun _ => hnone hr
    · exact fun _ => hnone hr
    · intro e; obtain ⟨q, hq⟩ := hsome gl hl; rw [e] at hq; cases hq
    · exact fun _ => hnone hr
  · rcases hg with ⟨_, _, _, _, rfl, rfl⟩ | ⟨_, _, _, _, rfl, rfl⟩ | ⟨_, _, _, _, gl, gr⟩ | ⟨_, _, _, _, gl, rfl⟩
    · exact .inl ⟨rfl, rfl, hnone hl, hnone hr⟩
    · exact .inl ⟨rfl, rfl, hnone hl, hnone hr⟩
    · exact .inr (.inr ⟨gl, gr, hsome gl hl, hsome gr hr⟩)
    · exact .inr (.inl ⟨gl, rfl, hnone hr, hsome gl hl⟩)

set_option maxHeartbeats 2000000 in
theorem rdepth_any : ∀ (x : BT Pay) (v : Value) (B : Nat) (w : World), RefAt B w x v → Good x → depthT x ≤ 400 →
    Calls Tryz.prog 181 #[v] w fun e w' => e = .returned (.int .i64 (depthT x)) ∧ Below w.heap.size w w' := by
  intro x
  induction x with
  | nil => intro v B w _ hg _; exact hg.elim
  | node b0 o0 a l r ihl ihr =>
    intro v B w h hg hd
    obtain ⟨X, pl, pr, rfl, hB, hX, hpn, hl, hr, hcase⟩ := ref_parts h hg
    have hP := rparts_any X w _ _ _ _ pl pr hX hpn
    have hD : Hid (depthT (.node b0 o0 a l r) = 1 + max (depthT l) (depthT r)) := rfl
    have dl : depthT l ≤ 399 := by simp only [depthT] at hd; omega
    have dr : depthT r ≤ 399 := by simp only [depthT] at hd; omega
    generalize depthT (.node b0 o0 a l r) = D at *
    go_enter Tryz.func181, Tryz.ntmps181
    go_wp2_with fail
    refine hP.mono ?_
    rintro e w1 ⟨b1, v, rfl, hown⟩
    clear hP
    rcases hcase with ⟨rfl, rfl, rfl, rfl⟩ | ⟨gl, rfl, rfl, al, rfl⟩ | ⟨gl, gr, ⟨al, rfl⟩, ar, rfl⟩
    · have hv : ∃ p cap, v = .slice p 0 cap := by
        obtain ⟨_, ⟨rfl, _⟩ | ⟨g, cap, cur, rfl, _⟩⟩ := hown
        · exact ⟨_, _, rfl⟩
        · exact ⟨_, _, rfl⟩
      obtain ⟨p, cap, rfl⟩ := hv
      have HE : Hid (D = 1) := by show _ = _; rw [hD.out]; simp [depthT]
      clear ihl ihr hD
      go_wp2_with fail
      refine wp_loop_rounds 1 ?_
      rw [rounds_succ]
      go_wp2_with fail
      go_ret
      exact ⟨ret_int (by rw [HE.out]; try omega), b1⟩
    · obtain ⟨g, cap, rfl, hg1, hg2, hg3, hg4⟩ := own_slice hown (by simp [partL])
      have c0 : w1.cell? ⟨g, 0, none⟩ = some (.pointer (some al)) := by rw [hown.cellAt 0 (by simp [partL])]; rfl
      have iC := ihl _ B w1 (hl.below b1) gl (by omega)
      have bl0 : (0 : Int) ≤ depthT l ∧ (depthT l : Int) ≤ 399 := by constructor <;> omega
      have HE : Hid (D = depthT l + 1) := by show _ = _; rw [hD.out]; simp [depthT]; try omega
      simp only [partL, List.append_nil, List.length_cons, List.length_nil, Nat.zero_add] at *
      generalize depthT l = p at *
      clear ihl ihr hD hown
      go_wp2_with fail
      refine wp_loop_rounds 2 ?_
      rw [rounds_succ]
      go_wp2_with fail
      refine iC.mono ?_
      rintro e w2 ⟨rfl, b2⟩
      clear iC
      by_cases hp : p > 0
      all_goals
        go_wp2_with fail
        rw [rounds_succ]
        go_wp2_with fail
        go_ret
        exact ⟨ret_int (by rw [HE.out]; try omega), b1.tr b2⟩
    · obtain ⟨g, cap, rfl, hg1, hg2, hg3, hg4⟩ := own_slice hown (by simp [partL])
      have c0 : w1.cell? ⟨g, 0, none⟩ = some (.pointer (some al)) := by rw [hown.cellAt 0 (by simp [partL])]; rfl
      have c1 : w1.cell? ⟨g, 1, none⟩ = some (.pointer (some ar)) := by rw [hown.cellAt 1 (by simp [partL])]; rfl
      have iC := ihl _ B w1 (hl.below b1) gl (by omega)
      have iR : Hid (∀ W, Below w1.heap.size w1 W → _) := fun W hW => ihr _ B W ((hr.below b1).below hW) gr (by omega)
      have bl0 : (0 : Int) ≤ depthT l ∧ (depthT l : Int) ≤ 399 := by constructor <;> omega
      have br0 : (0 : Int) ≤ depthT r ∧ (depthT r : Int) ≤ 399 := by constructor <;> omega
      have HE : Hid (D = 1 + max (depthT l) (depthT r)) := by show _ = _; rw [hD.out]
      simp only [partL, List.cons_append, List.nil_append, List.length_cons, List.length_nil, Nat.zero_add] at *
      generalize depthT l = p at *
      generalize depthT r = q at *
      clear ihl ihr hD hown
      go_wp2_with fail
      refine wp_loop_rounds 3 ?_
      rw [rounds_succ]
      go_wp2_with fail
      refine iC.mono ?_
      rintro e w2 ⟨rfl, b2⟩
      have c1' : w2.cell? ⟨g, 1, none⟩ = some (.pointer (some ar)) := (b2.cell (p := ⟨g, 1, none⟩) hg2).trans c1
      have iC2 := iR.out w2 b2
      clear iC iR
      by_cases hp : p > 0
      all_goals
        go_wp2_with fail
        rw [rounds_succ]
        go_wp2_with fail
        refine iC2.mono ?_
        rintro e w3 ⟨rfl, b3⟩
        go_wp2_with fail
        all_goals
          rw [rounds_succ]
          go_wp2_with fail
          go_ret
          exact ⟨ret_int (by rw [HE.out]; omega), (b1.tr b2).tr b3⟩

set_option maxHeartbeats 2000000 in
theorem rreach_any : ∀ (x : BT Pay) (v : Value) (B : Nat) (w : World), RefAt B w x v → Good x → depthT x ≤ 400 →
    Calls Tryz.prog 146 #[v] w fun e w' => e = .returned (.int .i64 (reachT x)) ∧ Below w.heap.size w w' := by
  intro x
  induction x with
  | nil => intro v B w _ hg _; exact hg.elim
  | node b0 o0 a l r ihl ihr =>
    intro v B w h hg hd
    have hwin := Good.win hg
    obtain ⟨⟨hw1, hw2, hw3⟩, wl, wr'⟩ := hwin
    have bl := reachT_bound wl
    have br := reachT_bound wr'
    obtain ⟨X, pl, pr, rfl, hB, hX, hpn, hl, hr, hcase⟩ := ref_parts h hg
    have hP := rparts_any X w _ _ _ _ pl pr hX hpn
    have hD : Hid (reachT (.node b0 o0 a l r) = a.hi + max (reachT l) (reachT r)) := rfl
    have dl : depthT l ≤ 399 := by simp only [depthT] at hd; omega
    have dr : depthT r ≤ 399 := by simp only [depthT] at hd; omega
    generalize reachT (.node b0 o0 a l r) = D at *
    go_enter Tryz.func146, Tryz.ntmps146
    go_wp2_with fail
    refine hP.mono ?_
    rintro e w1 ⟨b1, v, rfl, hown⟩
    clear hP
    rcases hcase with ⟨rfl, rfl, rfl, rfl⟩ | ⟨gl, rfl, rfl, al, rfl⟩ | ⟨gl, gr, ⟨al, rfl⟩, ar, rfl⟩
    · have hv : ∃ p cap, v = .slice p 0 cap := by
        obtain ⟨_, ⟨rfl, _⟩ | ⟨g, cap, cur, rfl, _⟩⟩ := hown
        · exact ⟨_, _, rfl⟩
        · exact ⟨_, _, rfl⟩
      obtain ⟨p, cap, rfl⟩ := hv
      have HE : Hid (D = a.hi) := by show _ = _; rw [hD.out]; simp [reachT]
      have hX1 : XAt X w1 (kindB a.op) a.name a.lo a.hi _ _ := b1.heapOf hX
      obtain ⟨⟨x0, x1, x2, x3, x4, x5⟩, _⟩ := hX1.facts
      clear ihl ihr hD
      go_wp2_with fail
      refine wp_loop_rounds 1 ?_
      rw [rounds_succ]
      go_wp2_with fail
      go_ret
      exact ⟨ret_int (by rw [HE.out]; try omega), b1⟩
    · obtain ⟨g, cap, rfl, hg1, hg2, hg3, hg4⟩ := own_slice hown (by simp [partL])
      have c0 : w1.cell? ⟨g, 0, none⟩ = some (.pointer (some al)) := by rw [hown.cellAt 0 (by simp [partL])]; rfl
      have iC := ihl _ B w1 (hl.below b1) gl (by omega)
      have bl0 : 0 ≤ reachT l ∧ reachT l ≤ 400000000 := by constructor <;> omega
      have HE : Hid (D = a.hi + reachT l) := by show _ = _; rw [hD.out]; simp [reachT]; try omega
      simp only [partL, List.append_nil, List.length_cons, List.length_nil, Nat.zero_add] at *
      generalize reachT l = p at *
      clear ihl ihr hD hown
      have hX1 : XAt X w1 (kindB a.op) a.name a.lo a.hi _ _ := b1.heapOf hX
      obtain ⟨⟨x0, x1, x2, x3, x4, x5⟩, _⟩ := hX1.facts
      go_wp2_with fail
      refine wp_loop_rounds 2 ?_
      rw [rounds_succ]
      go_wp2_with fail
      refine iC.mono ?_
      rintro e w2 ⟨rfl, b2⟩
      have hX2 : XAt X w2 (kindB a.op) a.name a.lo a.hi _ _ := b2.heapOf hX1
      obtain ⟨⟨y0, y1, y2, y3, y4, y5⟩, _⟩ := hX2.facts
      clear iC
      by_cases hp : p > 0
      all_goals
        go_wp2_with fail
        rw [rounds_succ]
        go_wp2_with fail
        go_ret
        exact ⟨ret_int (by rw [HE.out]; try omega), b1.tr b2⟩
    · obtain ⟨g, cap, rfl, hg1, hg2, hg3, hg4⟩ := own_slice hown (by simp [partL])
      have c0 : w1.cell? ⟨g, 0, none⟩ = some (.pointer (some al)) := by rw [hown.cellAt 0 (by simp [partL])]; rfl
      have c1 : w1.cell? ⟨g, 1, none⟩ = some (.pointer (some ar)) := by rw [hown.cellAt 1 (by simp [partL])]; rfl
      have iC := ihl _ B w1 (hl.below b1) gl (by omega)
      have iR : Hid (∀ W, Below w1.heap.size w1 W → _) := fun W hW => ihr _ B W ((hr.below b1).below hW) gr (by omega)
      have bl0 : 0 ≤ reachT l ∧ reachT l ≤ 400000000 := by constructor <;> omega
      have br0 : 0 ≤ reachT r ∧ reachT r ≤ 400000000 := by constructor <;> omega
      have HE : Hid (D = a.hi + max (reachT l) (reachT r)) := by show _ = _; rw [hD.out]
      simp only [partL, List.cons_append, List.nil_append, List.length_cons, List.length_nil, Nat.zero_add] at *
      generalize reachT l = p at *
      generalize reachT r = q at *
      clear ihl ihr hD hown
      have hX1 : XAt X w1 (kindB a.op) a.name a.lo a.hi _ _ := b1.heapOf hX
      obtain ⟨⟨x0, x1, x2, x3, x4, x5⟩, _⟩ := hX1.facts
      go_wp2_with fail
      refine wp_loop_rounds 3 ?_
      rw [rounds_succ]
      go_wp2_with fail
      refine iC.mono ?_
      rintro e w2 ⟨rfl, b2⟩
      have c1' : w2.cell? ⟨g, 1, none⟩ = some (.pointer (some ar)) := (b2.cell (p := ⟨g, 1, none⟩) hg2).trans c1
      have iC2 := iR.out w2 b2
      clear iC iR
      by_cases hp : p > 0
      all_goals
        go_wp2_with fail
        rw [rounds_succ]
        go_wp2_with fail
        refine iC2.mono ?_
        rintro e w3 ⟨rfl, b3⟩
        have hX3 : XAt X w3 (kindB a.op) a.name a.lo a.hi _ _ := b3.heapOf (b2.heapOf hX1)
        obtain ⟨⟨y0, y1, y2, y3, y4, y5⟩, _⟩ := hX3.facts
        go_wp2_with fail
        all_goals
          rw [rounds_succ]
          go_wp2_with fail
          go_ret
          exact ⟨ret_int (by rw [HE.out]; omega), (b1.tr b2).tr b3⟩

end Go.Proofs.YtpbbmagjhkakgaaGreatDoor

namespace Go.Proofs.YtpbbmagjhkakgaaGreatDoor
open Go.RowKit Go.Deep

def preD (m : Nat) : List UInt8 := if m < 10 then [] else Lib.decDigits (m / 10)
def digD (m : Nat) : UInt8 := UInt8.ofNat (48 + m % 10)

theorem digD_int (m : Nat) : ((digD m).toNat : Int) = 48 + (m : Int) % 10 := by
  unfold digD
  rw [UInt8.toNat_ofNat']
  omega

theorem dec_pre (m : Nat) : Lib.decDigits m = preD m ++ [digD m] := by
  unfold preD digD
  rw [Lib.decDigits]
  split
  · rename_i h
    rw [show m % 10 = m by omega]
    rfl
  · rfl

theorem conv_one (W : World) (b : Nat) (k : Int) (c : UInt8) (hk : (c.toNat : Int) = k) (hW : W.cell? ⟨b, 0, none⟩ = some (.int .u8 k)) : (convert 99 9 (.slice (some ⟨b, 0, none⟩) 1 1)).run Tryz.prog W = .ok (.string ⟨#[c]⟩) W :=
  run_convert_bytes_back W 99 9 5 ⟨b, 0, none⟩ 1 [c] Tryz.underlying99 Tryz.underlying5 Tryz.underlying9 (fun j hj => by
    have hj0 : j = 0 := by simpa using hj
    subst hj0
    rw [← hk] at hW
    simpa [Addr.add] using hW)

set_option maxHeartbeats 2000000 in
set_option maxRecDepth 100000 in
theorem rdigits_any (n : Nat) (w : World) (hn : n ≤ 1000000) :
    Calls Tryz.prog 182 #[.int .i64 (n : Int)] w fun e w' => Below w.heap.size w w' ∧ ∃ d, e = .returned (.string d) ∧ d.data.toList = Lib.decDigits n := by
  have hcv0 := conv_one (w.alloc (.cells #[.int .u8 (48 + (n : Int) % 10)] 5)) w.heap.size (48 + (n : Int) % 10) (digD n) (digD_int n) (by rw [World.cell?_alloc_at _ _ _ _ rfl]; rfl)
  have hmod : 0 ≤ (n : Int) % 10 ∧ (n : Int) % 10 < 10 := by omega
  go_enter Tryz.func182, Tryz.ntmps182
  go_wp2_with fail
  go_loopw [0, 3] (fun nv sv wr => ∃ (m : Nat) (d : ByteArray), nv = .int .i64 (m : Int) ∧ sv = .string d ∧ m ≤ 1000000 ∧ d.size + m ≤ 1000001 ∧ Below w.heap.size w wr ∧ Hid (Lib.decDigits n = preD m ++ d.data.toList)) (fun nv _ _ => (intOf nv).toNat)
  case atStart => exact ⟨n, _, rfl, rfl, hn, by show 1 + n ≤ _; omega, (Below.refl _ _).al _, dec_pre n⟩
  case round =>
    clear hcv0 hmod
    obtain ⟨m, d, rfl, rfl, hm, hds, hbw, hD⟩ := hrel
    by_cases h10 : m < 10
    · have hge : decide ((10 : Int) ≤ (m : Int)) = false := by simp; omega
      have hD2 : Hid (d.data.toList = Lib.decDigits n) := by
        show _ = _
        rw [hD.out]
        unfold preD
        rw [if_pos h10]
        rfl
      clear hD
      go_wp2_with fail
      go_ret
      exact ⟨hbw, d, rfl, hD2.out⟩
    · have hge : decide ((10 : Int) ≤ (m : Int)) = true := by simp; omega
      have hcv := conv_one (wr.alloc (.cells #[.int .u8 (48 + (m : Int) / 10 % 10)] 5)) wr.heap.size (48 + (m : Int) / 10 % 10) (digD (m / 10)) (by have := digD_int (m / 10); omega) (by rw [World.cell?_alloc_at _ _ _ _ rfl]; rfl)
      have hno : ¬ 9223372036854775807 < 1 + d.size := by omega
      have hmod : 0 ≤ (m : Int) / 10 % 10 ∧ (m : Int) / 10 % 10 < 10 := by omega
      have hD2 : Hid (Lib.decDigits n = preD (m / 10) ++ ((⟨#[digD (m / 10)]⟩ : ByteArray) ++ d).data.toList) := by
        show _ = _
        rw [hD.out]
        have e : preD m = Lib.decDigits (m / 10) := by unfold preD; rw [if_neg h10]
        rw [e, dec_pre (m / 10)]
        simp [ByteArray.data_append]
      clear hD
      go_wp2_with fail
      go_roundw
      case rel => exact ⟨m / 10, _, by go_num, rfl, by omega, by rw [ByteArray.size_append]; show 1 + d.size + m / 10 ≤ _; omega, hbw.al _, hD2⟩
      case measure => simp only [intOf]; omega

end Go.Proofs.YtpbbmagjhkakgaaGreatDoor
