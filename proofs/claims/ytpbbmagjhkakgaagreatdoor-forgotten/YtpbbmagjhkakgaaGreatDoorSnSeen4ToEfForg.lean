import Derived.Test.YtpbbmagjhkakgaaGreatDoorSmLoopToEfLoop
import Derived.Test.YtpbbmagjhkakgaaGreatDoorEdWatchToSnOps
import Derived.Test.YtpbbmagjhkakgaaGreatDoorFace2ToEvJudge0
namespace Go.Proofs.YtpbbmagjhkakgaaGreatDoor.Ev
open Go.RowKit Go.Deep Go.Maps Go.Proofs.YtpbbmagjhkakgaaGreatDoor.Lf Go.Conc
theorem row_slice {w : World} {B n : Nat} {t : TypeId} {v : Value} {xs : List Value} (h : w.ownsRow B t 1 v n xs) (hn : 0 < n) : ∃ g cp, v = .slice (some ⟨g, 0, none⟩) n cp := by
  obtain ⟨_, ⟨rfl, h2⟩ | ⟨g, cap, cur, rfl, _⟩⟩ := h
  · omega
  · exact ⟨g, cap, rfl⟩
section
variable {K : Goroutine → World → Prop} {b : Frame} {k : List Item} {cs : List Frame} {A : Act} {w : World} {ops : Array Oper} {i d N : Nat} {rest : List Nat} {v : Value} {l : List (Nat × Value)}
theorem idxC {x y : Operand} {g off n cp j : Nat} (h : IsOp ops i d (.indexAddr 34 x y)) (hA : Fx N l A) (hx : evl l x = some (.slice (some ⟨g, off, none⟩) n cp)) (hy : evl l y = some (.int .i64 (j : Int))) (hj : j < n) (hn : n ≤ 9223372036854775807) (hd : d < N) (hi : ∀ it ∈ k, okItem it) (hc : ∀ fr ∈ cs, okFrame fr)
    (hk : ∀ A', Fx N ((d, .pointer (some ⟨g, off + j * 2, none⟩)) :: l) A' → LeadsR Tryz.prog K (G (b.at A' (.inRegion ops rest :: k)) cs) w) : LeadsR Tryz.prog K (G (b.at A (.inRegion ops (i :: rest) :: k)) cs) w :=
  LeadsR.isVal plain_prog h (fun o ho w => by
    refine run_eq_of fun K hK => ?_
    have e0 := hA.ev hx
    have e1 := hA.ev hy
    have hn1 := hn
    unfold execOp
    rw [ho]
    simp only [e0, e1]
    go_simp
    exact hK) hi hc (hk _ (hA.put hd _))
theorem fldC {x : Operand} {g off : Nat} (h : IsOp ops i d (.fieldAddr 45 x 1)) (hA : Fx N l A) (hx : evl l x = some (.pointer (some ⟨g, off, none⟩))) (hd : d < N) (hi : ∀ it ∈ k, okItem it) (hc : ∀ fr ∈ cs, okFrame fr)
    (hk : ∀ A', Fx N ((d, .pointer (some ⟨g, off + 1, none⟩)) :: l) A' → LeadsR Tryz.prog K (G (b.at A' (.inRegion ops rest :: k)) cs) w) : LeadsR Tryz.prog K (G (b.at A (.inRegion ops (i :: rest) :: k)) cs) w :=
  LeadsR.isVal plain_prog h (fun o ho w => by
    refine run_eq_of fun K hK => ?_
    have e0 := hA.ev hx
    unfold execOp
    rw [ho]
    simp only [e0]
    go_simp
    exact hK) hi hc (hk _ (hA.put hd _))
theorem loadI {x : Operand} {g j : Nat} {z : Int} (h : IsOp ops i d (.load 3 x)) (hA : Fx N l A) (hx : evl l x = some (.pointer (some ⟨g, j, none⟩))) (hs : w.cell? ⟨g, j, none⟩ = some (.int .i64 z)) (hd : d < N) (hi : ∀ it ∈ k, okItem it) (hc : ∀ fr ∈ cs, okFrame fr)
    (hk : ∀ A', Fx N ((d, .int .i64 z) :: l) A' → LeadsR Tryz.prog K (G (b.at A' (.inRegion ops rest :: k)) cs) w) : LeadsR Tryz.prog K (G (b.at A (.inRegion ops (i :: rest) :: k)) cs) w := by
  obtain ⟨o, o1, o2, o3, o4⟩ := h
  refine LeadsR.val plain_prog (w' := w) (v := .int .i64 z) o1 (isOp_wanted o4) (fun τ d => run_eq_of ?_) hi hc (by rw [o2]; exact hk _ (hA.put hd _))
  intro K hK
  have e0 := hA.ev hx
  have c1 : (re w τ d).cell? ⟨g, j, none⟩ = some (.int .i64 z) := hs
  unfold execOp
  rw [o3]
  simp only [e0]
  go_simp
  exact hK
end
def Sh8 (L : List (Int × Int)) (eo : Option Addr) (cap : Nat) (n : Int) (mb wtb : Nat) (w0 : World) (now : Int) (i tn zi : Nat) (q : Int) (A : Act) (w : World) : Prop := ∃ tv, Fx 133 (H8 eo L.length cap n mb now tv i q) A ∧ Mem8 L n mb wtb w0 tv tn zi w
theorem rp8_2 : part8 2 = .region 18 (opp8 2) false := rfl
theorem zp8_2 : (opp8 2).size = 10 := rfl
theorem ev8_go (L : List (Int × Int)) (eo : Option Addr) (cap : Nat) (n : Int) (mb wtb : Nat) (w0 : World) (i : Nat) (A : Act) (w : World) (hLm : L.length ≤ 9223372036854775807) (hL : ∀ p ∈ L, I64 p.1 ∧ I64 p.2) (hC : ComesAt w0 eo L) (h1 : i < 25) (h2 : i < L.length) (h : St8 L eo cap n mb wtb w0 (timeZ L (i + 1)) i (i + 1) i A w) :
    HWp Tryz.prog (part8 2) (fun e A' w' => e = .normal ∧ Sg8 L eo cap n mb wtb w0 (timeZ L (i + 1)) i (i + 1) (i + 1) A' w') A w := by
  have hP := plain_prog
  obtain ⟨tv, hA, hr1, hZ, hs⟩ := h
  obtain ⟨bb, off, rfl, hbl, hcells⟩ := (hC.move hs) (by intro e; rw [e] at h2; simp at h2)
  have hmem : L.getD i (0, 0) ∈ L := by rw [List.getD_eq_getElem?_getD, List.getElem?_eq_getElem h2]; exact List.getElem_mem h2
  unfold F8 at hA
  refine HWp.of_lead fun b k cs hi0 hcs => ?_
  rw [rp8_2]
  refine LeadsR.region hP hi0 hcs ?_
  rw [zp8_2]
  simp only [List.range, List.range.loop]
  refine mvF ⟨_, rfl, rfl, rfl, rfl⟩ hA rfl (by decide) hi0 hcs fun A hA => ?_
  refine mvF ⟨_, rfl, rfl, rfl, rfl⟩ hA rfl (by decide) hi0 hcs fun A hA => ?_
  refine mvF ⟨_, rfl, rfl, rfl, rfl⟩ hA rfl (by decide) hi0 hcs fun A hA => ?_
  refine mvF ⟨_, rfl, rfl, rfl, rfl⟩ hA rfl (by decide) hi0 hcs fun A hA => ?_
  refine idxC ⟨_, rfl, rfl, rfl, rfl⟩ hA rfl rfl h2 hLm (by decide) hi0 hcs fun A hA => ?_
  refine fldC ⟨_, rfl, rfl, rfl, rfl⟩ hA rfl (by decide) hi0 hcs fun A hA => ?_
  refine loadI ⟨_, rfl, rfl, rfl, rfl⟩ hA rfl (hcells i h2).2 (by decide) hi0 hcs fun A hA => ?_
  refine callFx ⟨_, rfl, rfl, rfl, rfl⟩ Tryz.func25 (by decide) rfl hA rfl (by decide) hi0 hcs (atoms_H _ w (hL _ hmem).2) (fun e w' x => by obtain ⟨ao, cp, x1, _⟩ := x; exact ⟨_, x1⟩) ?_
  rintro v w1 A ⟨ao, acap, hv, hcp, hst, hs1⟩ hA
  cases hv
  refine callFx ⟨_, rfl, rfl, rfl, rfl⟩ Tryz.func24 (by decide) rfl hA rfl (by decide) hi0 hcs (step_none (hZ.move hs1) h1 ao acap hst hcp) (fun e w' x => ⟨_, x.1⟩) ?_
  rintro v w2 A ⟨hv, hZ2, hs2, hik⟩ hA
  cases hv
  refine asgF ⟨_, rfl, rfl, rfl, rfl⟩ hA rfl (by decide) hi0 hcs fun A hA => ?_
  refine LeadsR.nil hP hi0 hcs (LeadsR.here fun τ d => ⟨A, ⟨tv, ?_, ?_⟩, rfl⟩)
  · refine hA.less ?_
    unfold G8
    simp only [List.forall_mem_cons, List.not_mem_nil, false_implies, implies_true, and_true]
    exact ⟨rfl, rfl, rfl, rfl, rfl, rfl, rfl⟩
  · refine Mem8.tapeR ⟨own_heap (own_heap hr1 (w' := w1) fun b hb => hs1.block b (hr1.lt b hb).2 id) fun b hb => ?_, hZ2, spare_out (hs.trans hs1) hs2⟩ τ d
    obtain ⟨cur, hc⟩ := own_tag hr1 hb
    have hc1 : w1.heap[b]? = some (.cells cur 3 (0, 0)) := hs1.get hc id
    rw [hik b _ _ hc1, hc1]
set_option maxRecDepth 100000 in
set_option maxHeartbeats 16000000 in
theorem keep8_go (L : List (Int × Int)) (eo : Option Addr) (cap : Nat) (n : Int) (mb wtb : Nat) (w0 : World) (i : Nat) (A : Act) (w : World) (h : Sg8 L eo cap n mb wtb w0 (timeZ L (i + 1)) i (i + 1) (i + 1) A w) : (part8 3).wp Tryz.prog (fun e A' w' => e = .normal ∧ Sh8 L eo cap n mb wtb w0 (timeZ L (i + 1)) i (i + 1) (i + 1) 0 A' w') A w := by
  obtain ⟨tv, hA, hM⟩ := h
  have hP : ∀ A', Fx 133 (H8 eo L.length cap n mb (timeZ L (i + 1)) tv i 0) A' → Sh8 L eo cap n mb wtb w0 (timeZ L (i + 1)) i (i + 1) (i + 1) 0 A' w := fun A' h => ⟨tv, h, hM⟩
  replace hP : Hid _ := hP
  clear hM
  obtain ⟨u, hu, rfl⟩ := open133 hA.size hA.defers
  have k1 := hu 1 _ (hA.get 1 _ rfl)
  have k8 := hu 8 _ (hA.get 8 _ rfl)
  have k14 := hu 14 _ (hA.get 14 _ rfl)
  have k16 := hu 16 _ (hA.get 16 _ rfl)
  have k17 := hu 17 _ (hA.get 17 _ rfl)
  have k18 := hu 18 _ (hA.get 18 _ rfl)
  have k19 := hu 19 _ (hA.get 19 _ rfl)
  clear hu hA
  simp only [k1, k8, k14, k16, k17, k18, k19]
  clear k1 k8 k14 k16 k17 k18 k19
  generalize Sh8 L eo cap n mb wtb w0 (timeZ L (i + 1)) i (i + 1) (i + 1) 0 = Q at *
  generalize timeZ L (i + 1) = tz at *
  generalize L.length = ln at *
  simp only [part8, seqC, in8, loop8, rest8, body8, Tryz.f8, Option.getD_some]
  go_wp2_with fail
  first | refine hP.out _ ?_ | refine ⟨rfl, hP.out _ ?_⟩
  refine Fx.of rfl rfl ?_
  unfold H8
  simp only [List.forall_mem_cons, List.not_mem_nil, false_implies, implies_true, and_true]
  exact ⟨rfl, rfl, rfl, rfl, rfl, rfl, rfl, rfl⟩
set_option maxRecDepth 100000 in
set_option maxHeartbeats 16000000 in
theorem inner8_go (L : List (Int × Int)) (eo : Option Addr) (ln cap : Nat) (n : Int) (mb g cp : Nat) (i : Nat) (A : Act) (w : World) (h1 : i < 25) (hn : 0 ≤ n ∧ n ≤ 100000) (hA : Fx 133 (H8 eo ln cap n mb (timeZ L (i + 1)) (.slice (some ⟨g, 0, none⟩) (i + 1) cp) i 0) A) (ht : ∀ j, j ≤ i → w.cell? ⟨g, j, none⟩ = some (.int .i64 (timeZ L (j + 1)))) :
    (part8 4).wp Tryz.prog (fun e A' w' => e = .normal ∧ w' = w ∧ Fx 133 (H8 eo ln cap n mb (timeZ L (i + 1)) (.slice (some ⟨g, 0, none⟩) (i + 1) cp) i (kN L (timeZ L (i + 1) - n) (i + 1) : Nat)) A') A w := by
  have hTi := timeZ_range L (i + 1)
  have Ht : Hid (∀ j, j ≤ i → w.cell? ⟨g, j, none⟩ = some (.int .i64 (timeZ L (j + 1)))) := ht
  have hP : ∀ A', Fx 133 (H8 eo ln cap n mb (timeZ L (i + 1)) (.slice (some ⟨g, 0, none⟩) (i + 1) cp) i (kN L (timeZ L (i + 1) - n) (i + 1) : Nat)) A' → (fun A' w' => w' = w ∧ Fx 133 (H8 eo ln cap n mb (timeZ L (i + 1)) (.slice (some ⟨g, 0, none⟩) (i + 1) cp) i (kN L (timeZ L (i + 1) - n) (i + 1) : Nat)) A') A' w := fun A' h => ⟨rfl, h⟩
  replace hP : Hid _ := hP
  clear ht
  obtain ⟨u, hu, rfl⟩ := open133 hA.size hA.defers
  have k1 := hu 1 _ (hA.get 1 _ rfl)
  have k8 := hu 8 _ (hA.get 8 _ rfl)
  have k14 := hu 14 _ (hA.get 14 _ rfl)
  have k16 := hu 16 _ (hA.get 16 _ rfl)
  have k17 := hu 17 _ (hA.get 17 _ rfl)
  have k18 := hu 18 _ (hA.get 18 _ rfl)
  have k19 := hu 19 _ (hA.get 19 _ rfl)
  have k20 := hu 20 _ (hA.get 20 _ rfl)
  clear hu hA
  simp only [k1, k8, k14, k16, k17, k18, k19, k20]
  clear k1 k8 k14 k16 k17 k18 k19 k20
  have hPQ : ∀ Q : Act → World → Prop, (∀ A', Fx 133 (H8 eo ln cap n mb (timeZ L (i + 1)) (.slice (some ⟨g, 0, none⟩) (i + 1) cp) i (kN L (timeZ L (i + 1) - n) (i + 1) : Nat)) A' → Q A' w) → (part8 4).wp Tryz.prog (fun e A' w' => e = .normal ∧ Q A' w') ⟨#[u 0, .slice eo ln cap, u 2, u 3, u 4, u 5, u 6, u 7, .int .i64 n, u 9, u 10, u 11, u 12, u 13, .pointer (some ⟨mb, 0, none⟩), u 15, .int .i64 (timeZ L (i + 1)), .slice (some ⟨g, 0, none⟩) (i + 1) cp, .int .i64 (i : Int), .int .i64 0, .int .i64 0, u 21, u 22, u 23, u 24, u 25, u 26, u 27, u 28, u 29, u 30, u 31, u 32, u 33, u 34, u 35, u 36, u 37, u 38, u 39, u 40, u 41, u 42, u 43, u 44, u 45, u 46, u 47, u 48, u 49, u 50, u 51, u 52, u 53, u 54, u 55, u 56, u 57, u 58, u 59, u 60, u 61, u 62, u 63, u 64, u 65, u 66, u 67, u 68, u 69, u 70, u 71, u 72, u 73, u 74, u 75, u 76, u 77, u 78, u 79, u 80, u 81, u 82, u 83, u 84, u 85, u 86, u 87, u 88, u 89, u 90, u 91, u 92, u 93, u 94, u 95, u 96, u 97, u 98, u 99, u 100, u 101, u 102, u 103, u 104, u 105, u 106, u 107, u 108, u 109, u 110, u 111, u 112, u 113, u 114, u 115, u 116, u 117, u 118, u 119, u 120, u 121, u 122, u 123, u 124, u 125, u 126, u 127, u 128, u 129, u 130, u 131, u 132], []⟩ w := by
    intro Q hQ
    replace hQ : Hid _ := hQ
    clear hP
    simp only [part8, seqC, in8, loop8, rest8, body8, Tryz.f8, Option.getD_some]
    go_wp2_with fail
    go_loopw [21, 20] (fun jv qv wr => ∃ j : Nat, j ≤ i + 1 ∧ jv = .int .i64 j ∧ qv = .int .i64 (kN L (timeZ L (i + 1) - n) j : Nat) ∧ wr = w) (fun jv _ _ => i + 1 - (intOf jv).toNat)
    case atStart => exact ⟨0, by omega, rfl, rfl, rfl⟩
    case round =>
      obtain ⟨j, hj, rfl, rfl, rfl⟩ := hrel
      by_cases hji : j < i + 1
      · have c1 := Ht.out j (by omega)
        have hTj := timeZ_range L (j + 1)
        have hkl := kN_le L (timeZ L (i + 1) - n) j
        have hk : kN L (timeZ L (i + 1) - n) (j + 1) = kN L (timeZ L (i + 1) - n) j + (if timeZ L (i + 1) - n ≤ timeZ L (j + 1) then 1 else 0) := rfl
        by_cases hc : timeZ L (i + 1) - n ≤ timeZ L (j + 1)
        · rw [if_pos hc] at hk
          replace hk : Hid _ := hk
          generalize timeZ L (j + 1) = tj at *
          generalize kN L (timeZ L (i + 1) - n) j = q at *
          go_wp2_with fail
          go_roundw
          case rel => exact ⟨j + 1, by omega, by go_num, by rw [hk.out]; go_num, by first | rfl | trivial⟩
          case measure => simp only [intOf]; omega
        · rw [if_neg hc] at hk
          replace hk : Hid _ := hk
          generalize timeZ L (j + 1) = tj at *
          generalize kN L (timeZ L (i + 1) - n) j = q at *
          go_wp2_with fail
          go_roundw
          case rel => exact ⟨j + 1, by omega, by go_num, by rw [hk.out]; rfl, by first | rfl | trivial⟩
          case measure => simp only [intOf]; omega
      · obtain rfl : j = i + 1 := by omega
        go_wp2_with fail
        first | refine hQ.out _ ?_ | refine ⟨rfl, hQ.out _ ?_⟩
        refine Fx.of rfl rfl ?_
        unfold H8
        simp only [List.forall_mem_cons, List.not_mem_nil, false_implies, implies_true, and_true]
        exact ⟨rfl, rfl, rfl, rfl, rfl, rfl, rfl, rfl⟩
  exact hPQ _ hP.out
set_option maxRecDepth 100000 in
set_option maxHeartbeats 16000000 in
theorem kept8_go (L : List (Int × Int)) (eo : Option Addr) (cap : Nat) (n : Int) (mb wtb : Nat) (w0 : World) (i : Nat) (q : Int) (A : Act) (w : World) (hq : q = (kN L (timeZ L (i + 1) - n) (i + 1) : Nat)) (tv : Value) (hA : Fx 133 (H8 eo L.length cap n mb (timeZ L (i + 1)) tv i q) A) (hM : Mem8 L n mb wtb w0 tv (i + 1) (i + 1) w) : (part8 5).wp Tryz.prog (fun e A' w' => e = .normal ∧ w' = w ∧ Fx 133 (J8 eo L.length cap n mb (timeZ L (i + 1)) tv i q q) A') A w := by
  have hK := hM.2.1.keptIs
  rw [← hq] at hK
  clear hM hq
  have hPQ : ∀ Q : Act → World → Prop, (∀ A', Fx 133 (J8 eo L.length cap n mb (timeZ L (i + 1)) tv i q q) A' → Q A' w) → (part8 5).wp Tryz.prog (fun e A' w' => e = .normal ∧ Q A' w') A w := by
    intro Q hQ
    replace hQ : Hid _ := hQ
    obtain ⟨u, hu, rfl⟩ := open133 hA.size hA.defers
    have k1 := hu 1 _ (hA.get 1 _ rfl)
    have k8 := hu 8 _ (hA.get 8 _ rfl)
    have k14 := hu 14 _ (hA.get 14 _ rfl)
    have k16 := hu 16 _ (hA.get 16 _ rfl)
    have k17 := hu 17 _ (hA.get 17 _ rfl)
    have k18 := hu 18 _ (hA.get 18 _ rfl)
    have k19 := hu 19 _ (hA.get 19 _ rfl)
    have k20 := hu 20 _ (hA.get 20 _ rfl)
    clear hu hA
    simp only [k1, k8, k14, k16, k17, k18, k19, k20]
    clear k1 k8 k14 k16 k17 k18 k19 k20
    generalize timeZ L (i + 1) = tz at *
    generalize L.length = ln at *
    simp only [part8, seqC, in8, loop8, rest8, body8, Tryz.f8, Option.getD_some]
    go_wp2_with fail
    refine hK.mono ?_
    rintro e w2 ⟨rfl, hw2⟩
    have hw2 := hw2.symm
    subst hw2
    go_wp2_with fail
    first | refine hQ.out _ ?_ | refine ⟨rfl, hQ.out _ ?_⟩
    refine Fx.of rfl rfl ?_
    unfold J8
    simp only [List.forall_mem_cons, List.not_mem_nil, false_implies, implies_true, and_true]
    exact ⟨rfl, rfl, rfl, rfl, rfl, rfl, rfl, rfl, rfl⟩
  exact hPQ (fun A' w' => w' = w ∧ Fx 133 (J8 eo L.length cap n mb (timeZ L (i + 1)) tv i q q) A') fun A' h => ⟨rfl, h⟩
set_option maxRecDepth 100000 in
set_option maxHeartbeats 16000000 in
theorem chk8_go (L : List (Int × Int)) (eo : Option Addr) (cap : Nat) (n : Int) (mb wtb : Nat) (w0 : World) (i : Nat) (q : Int) (A : Act) (w : World) (tv : Value) (hA : Fx 133 (J8 eo L.length cap n mb (timeZ L (i + 1)) tv i q q) A) (hM : Mem8 L n mb wtb w0 tv (i + 1) (i + 1) w) : chk8.wp Tryz.prog (fun e A' w' => e = .normal ∧ St8 L eo cap n mb wtb w0 (timeZ L (i + 1)) i (i + 1) (i + 1) A' w') A w := by
  have hP : ∀ A', Fx 133 (F8 eo L.length cap n mb (timeZ L (i + 1)) tv i) A' → St8 L eo cap n mb wtb w0 (timeZ L (i + 1)) i (i + 1) (i + 1) A' w := fun A' h => ⟨tv, h, hM⟩
  replace hP : Hid _ := hP
  clear hM
  obtain ⟨u, hu, rfl⟩ := open133 hA.size hA.defers
  have k1 := hu 1 _ (hA.get 1 _ rfl)
  have k8 := hu 8 _ (hA.get 8 _ rfl)
  have k14 := hu 14 _ (hA.get 14 _ rfl)
  have k16 := hu 16 _ (hA.get 16 _ rfl)
  have k17 := hu 17 _ (hA.get 17 _ rfl)
  have k18 := hu 18 _ (hA.get 18 _ rfl)
  have k19 := hu 19 _ (hA.get 19 _ rfl)
  have k20 := hu 20 _ (hA.get 20 _ rfl)
  have k22 := hu 22 _ (hA.get 22 _ rfl)
  clear hu hA
  simp only [k1, k8, k14, k16, k17, k18, k19, k20, k22]
  clear k1 k8 k14 k16 k17 k18 k19 k20 k22
  generalize St8 L eo cap n mb wtb w0 (timeZ L (i + 1)) i (i + 1) (i + 1) = Q at *
  generalize timeZ L (i + 1) = tz at *
  generalize L.length = ln at *
  simp only [chk8, in8, loop8, rest8, body8, Tryz.f8, Option.getD_some]
  go_wp2_with fail
  first | refine hP.out _ ?_ | refine ⟨rfl, hP.out _ ?_⟩
  refine Fx.of rfl rfl ?_
  unfold F8
  simp only [List.forall_mem_cons, List.not_mem_nil, false_implies, implies_true, and_true]
  exact ⟨rfl, rfl, rfl, rfl, rfl, rfl⟩
set_option maxRecDepth 100000 in
set_option maxHeartbeats 16000000 in
theorem fin8_go (eo : Option Addr) (ln cap : Nat) (n : Int) (mb : Nat) (now : Int) (tv : Value) (i : Int) (w0 : World) (A : Act) (w : World) (hA : Fx 133 (F8 eo ln cap n mb now tv i) A) (hs : SpareR (fun _ => False) w0 w) : fin8.wp Tryz.prog (bodyPost Tryz.prog Tryz.f8 (LawPost w0)) A w := by
  have hQ0 : LawPost w0 (.returned (.bool true)) w := ⟨rfl, hs⟩
  replace hQ0 : Hid _ := hQ0
  clear hs
  obtain ⟨u, hu, rfl⟩ := open133 hA.size hA.defers
  have k1 := hu 1 _ (hA.get 1 _ rfl)
  have k8 := hu 8 _ (hA.get 8 _ rfl)
  have k14 := hu 14 _ (hA.get 14 _ rfl)
  have k16 := hu 16 _ (hA.get 16 _ rfl)
  have k17 := hu 17 _ (hA.get 17 _ rfl)
  have k18 := hu 18 _ (hA.get 18 _ rfl)
  clear hu hA
  simp only [k1, k8, k14, k16, k17, k18]
  clear k1 k8 k14 k16 k17 k18
  generalize hQ : bodyPost Tryz.prog Tryz.f8 (LawPost w0) = Q
  simp only [fin8, rest8, body8, Tryz.f8, Option.getD_some]
  go_wp2_with fail
  rw [← hQ]
  go_ret
  exact ⟨rfl, hQ0.out.2⟩
noncomputable def tail8 : Code := match in8 with
  | .seq _ (.seq _ (.seq _ x)) => x
  | _ => .skip
theorem tail8_go (L : List (Int × Int)) (eo : Option Addr) (cap : Nat) (n : Int) (mb wtb : Nat) (w0 : World) (i : Nat) (A : Act) (w : World) (h1 : i < 25) (hn : 0 ≤ n ∧ n ≤ 100000) (h : Sg8 L eo cap n mb wtb w0 (timeZ L (i + 1)) i (i + 1) (i + 1) A w) : tail8.wp Tryz.prog (fun e A' w' => e = .normal ∧ St8 L eo cap n mb wtb w0 (timeZ L (i + 1)) i (i + 1) (i + 1) A' w') A w := by
  have e0 : tail8 = .seq (part8 3) (.seq (part8 4) (.seq (part8 5) chk8)) := rfl
  rw [e0]
  refine wp_seq (wp_mono (keep8_go L eo cap n mb wtb w0 i A w h) ?_)
  rintro e A w ⟨rfl, tv, hA, hM⟩
  obtain ⟨g, cp, rfl⟩ := row_slice hM.1 (by omega)
  refine wp_seq (wp_mono (inner8_go L eo L.length cap n mb g cp i A w h1 hn hA fun j hj => row_cell hM.1 rfl (timesV_get L (i + 1) j (by omega))) ?_)
  rintro e A w1 ⟨rfl, e1, hA⟩
  obtain rfl := e1.symm
  refine wp_seq (wp_mono (kept8_go L eo cap n mb wtb w0 i _ A w rfl _ hA hM) ?_)
  rintro e A w1 ⟨rfl, e1, hA⟩
  obtain rfl := e1.symm
  exact chk8_go L eo cap n mb wtb w0 i _ A w _ hA hM
theorem round8 (L : List (Int × Int)) (eo : Option Addr) (cap : Nat) (n : Int) (mb wtb : Nat) (w0 : World) (i : Nat) (A : Act) (w : World) (hLm : L.length ≤ 9223372036854775807) (hL : ∀ p ∈ L, I64 p.1 ∧ I64 p.2) (hC : ComesAt w0 eo L) (hn : 0 ≤ n ∧ n ≤ 100000) (h1 : i ≤ 25) (h2 : i ≤ L.length) (h : St8 L eo cap n mb wtb w0 (timeZ L i) i i i A w) :
    HWp Tryz.prog loop8 (fun e A' w' => (e = .normal ∧ i < 25 ∧ i < L.length ∧ St8 L eo cap n mb wtb w0 (timeZ L (i + 1)) (i + 1) (i + 1) (i + 1) A' w') ∨ (e = .exit 0 ∧ (i = 25 ∨ i = L.length) ∧ St8 L eo cap n mb wtb w0 (timeZ L i) i i i A' w')) A w := by
  have hP := plain_prog
  have e0 : loop8 = .seq head8 (.seq (.block 1 (.seq (part8 0) (.seq (part8 1) (.seq (part8 2) tail8)))) next8) := rfl
  rw [e0]
  by_cases hin : i < 25 ∧ i < L.length
  · obtain ⟨h3, h4⟩ := hin
    refine HWp.seqL hP (St8 L eo cap n mb wtb w0 (timeZ L i) i i i) (fun _ _ τ d x => x.tapeR τ d) (fun τ d => head8_go L eo cap n mb wtb w0 i A _ hLm h3 h4 (h.tapeR τ d)) fun A w h => ?_
    refine HWp.seqH hP (St8 L eo cap n mb wtb w0 (timeZ L (i + 1)) i (i + 1) (i + 1)) (HWp.blockN hP (fun _ _ τ d x => x.tapeR τ d) ?_) fun A w h => ?_
    · refine HWp.seqL hP (St8 L eo cap n mb wtb w0 (timeZ L (i + 1)) i i i) (fun _ _ τ d x => x.tapeR τ d) (fun τ d => now8_go L eo cap n mb wtb w0 i A _ hLm hL hC h3 h4 (h.tapeR τ d)) fun A w h => ?_
      refine HWp.seqL hP (St8 L eo cap n mb wtb w0 (timeZ L (i + 1)) i (i + 1) i) (fun _ _ τ d x => x.tapeR τ d) (fun τ d => times8_go L eo cap n mb wtb w0 i A _ h3 (h.tapeR τ d)) fun A w h => ?_
      refine HWp.seqH hP (Sg8 L eo cap n mb wtb w0 (timeZ L (i + 1)) i (i + 1) (i + 1)) (ev8_go L eo cap n mb wtb w0 i A w hLm hL hC h3 h4 h) fun A w h => ?_
      exact HWp.loneN hP (fun _ _ τ d x => x.tapeR τ d) fun τ d => tail8_go L eo cap n mb wtb w0 i A _ h3 hn (h.tapeR τ d)
    · refine (HWp.loneN hP (J := St8 L eo cap n mb wtb w0 (timeZ L (i + 1)) (i + 1) (i + 1) (i + 1)) (fun _ _ τ d x => x.tapeR τ d) fun τ d => next8_go L eo cap n mb wtb w0 i A _ h3 (h.tapeR τ d)).mono ?_
      rintro e a w ⟨rfl, h⟩
      exact .inl ⟨rfl, h3, h4, h⟩
  · have h3 : i = 25 ∨ i = L.length := by omega
    refine HWp.seq hP ((HWp.of_wp hP (Q := fun e A' w' => e = .exit 0 ∧ St8 L eo cap n mb wtb w0 (timeZ L i) i i i A' w') (fun _ _ _ τ d x => ⟨x.1, x.2.tapeR τ d⟩) (fun _ _ x => by cases x.1) (fun τ d => head8_end L eo cap n mb wtb w0 i A _ hLm h1 h2 h3 (h.tapeR τ d))).mono ?_)
    rintro e a w ⟨rfl, h⟩
    exact .inr ⟨rfl, h3, h⟩
theorem loop8_lead (L : List (Int × Int)) (eo : Option Addr) (cap : Nat) (n : Int) (mb wtb : Nat) (w0 : World) (w : World) (A : Act) (hLm : L.length ≤ 9223372036854775807) (hL : ∀ p ∈ L, I64 p.1 ∧ I64 p.2) (hC : ComesAt w0 eo L) (hn : 0 ≤ n ∧ n ≤ 100000) (hA : Fx 133 [(1, .slice eo L.length cap), (8, .int .i64 n), (14, .pointer (some ⟨mb, 0, none⟩)), (16, .int .i64 0), (17, .slice none 0 0)] A) (hZ : ZInv L w0.heap.size mb wtb n 0 w) (hs : SpareR (fun _ => False) w0 w) (cs : List Frame) (hcs : ∀ fr ∈ cs, okFrame fr) :
    LeadsR Tryz.prog (fun g w' => ∃ e fr, g = G fr cs ∧ okFrame fr ∧ LawPost w0 e w' ∧ fr.fn = 8 ∧ fr.leaving Tryz.prog w' e) (G ((base 8).at A [.code rest8]) cs) w := by
  have hP := plain_prog
  have hi0 : ∀ it ∈ ([] : List Item), okItem it := by simp
  have hi1 : ∀ (c : Code), ∀ it ∈ [Item.code c], okItem it := fun c => okItems_cons trivial (by simp)
  have hi2 : ∀ (c d : Code), ∀ it ∈ [Item.code c, Item.code d], okItem it := fun c d => okItems_cons trivial (hi1 d)
  have e0 : rest8 = .seq (.seq zero8 (.block 0 (.loop loop8))) fin8 := rfl
  rw [e0]
  refine LeadsR.seq hP hi0 hcs (LeadsR.seq hP (hi1 _) hcs ?_)
  have hM : Mem8 L n mb wtb w0 (.slice none 0 0) 0 0 w := ⟨World.ownsRow_nil _ _ _ _, hZ, hs⟩
  refine LeadsR.piece hP (St8 L eo cap n mb wtb w0 (timeZ L 0) 0 0 0) (fun _ _ τ d x => x.tapeR τ d) (hi2 _ _) hcs (fun τ d => zero8_go L eo cap n mb wtb w0 (.slice none 0 0) A _ hA (hM.tapeR τ d)) fun A w h0 => ?_
  refine LeadsR.hpiece (St8 L eo cap n mb wtb w0 (timeZ L (min L.length 25)) (min L.length 25) (min L.length 25) (min L.length 25)) (hi1 _) hcs (HWp.blockLoop hP (fun m A w' => ∃ i : Nat, m = 25 - i ∧ i ≤ 25 ∧ i ≤ L.length ∧ St8 L eo cap n mb wtb w0 (timeZ L i) i i i A w') _ (fun _ _ τ d x => x.tapeR τ d) 25 ⟨0, rfl, by omega, by omega, h0⟩ ?_) fun A w h2 => ?_
  · rintro m A w2 ⟨i, rfl, h1, h2, h3⟩
    refine (round8 L eo cap n mb wtb w0 i A w2 hLm hL hC hn h1 h2 h3).mono ?_
    rintro e A w3 (⟨rfl, h4, h5, h6⟩ | ⟨rfl, h4, h6⟩)
    · exact .inl ⟨rfl, 25 - (i + 1), by omega, i + 1, rfl, by omega, by omega, h6⟩
    · have e1 : i = min L.length 25 := by omega
      rw [e1] at h6
      exact .inr ⟨rfl, h6⟩
  · obtain ⟨tv, hA, hM⟩ := h2
    refine LeadsR.last hP hcs Tryz.func8 LawPost.tapeR LawPost.out fun τ d => ?_
    exact fin8_go eo L.length cap n mb _ tv _ w0 A _ hA (hM.2.2.tapeR τ d)
end Go.Proofs.YtpbbmagjhkakgaaGreatDoor.Ev
namespace Go.Proofs.YtpbbmagjhkakgaaGreatDoor.Ev
open Go.RowKit Go.Deep Go.Maps Go.Proofs.YtpbbmagjhkakgaaGreatDoor.Lf Go.Conc
theorem reach_H (s : ByteArray) (x : BT Pay) (w : World) (tx : TextOK s x) (hg : Glob w) (hw7 : 14 ≤ w.heap.size) : HCalls Tryz.prog 15 #[.string s] w fun e w' => e = .returned (.tuple #[.int .i64 (reachT x), .int .i64 0]) ∧ SpareR (fun _ => False) w w' := by
  have hA : reachA s = .tuple #[.int .i64 (reachT x), .int .i64 0] := by unfold reachA; rw [tx.read]
  refine lift (fun e w' τ d x => ⟨x.1, x.2.tapeR τ d⟩) (fun w x => by cases x.1) fun τ d => (reachTop_any s (re w τ d) (Nat.le_trans tx.size (by decide)) (glob_tape hg τ d) hw7).mono ?_
  rintro e w' ⟨rfl, hb⟩
  exact ⟨by rw [hA], hb.os, hb.output, hb.size, fun x hx _ => hb.block x hx⟩
theorem new_H (n : Int) (w : World) (hn : 0 ≤ n ∧ n ≤ 100000) : HCalls Tryz.prog 23 #[.int .i64 n, .int .i64 60] w fun e w' => ∃ mb wtb, e = .returned (.tuple #[.pointer (some ⟨mb, 0, none⟩), .int .i64 0]) ∧ w.heap.size ≤ mb ∧ w.heap.size ≤ wtb ∧ w'.heap[mb]? = some (.cells #[.pointer (some ⟨wtb, 0, none⟩)] 104 (0, 0)) ∧ w'.heap[wtb]? = some (.cells #[.int .i64 n, .int .i64 60, .slice none 0 0, .slice none 0 0, .slice none 0 0] 153 (0, 0)) ∧ SpareR (fun _ => False) w w' := by
  refine lift ?_ ?_ fun τ d => (new_ok n 60 (re w τ d) hn (by decide)).mono ?_
  · rintro e w' τ d ⟨mb, wtb, h1, h2, h3, h4, h5, h6⟩
    exact ⟨mb, wtb, h1, h2, h3, h4, h5, h6.tapeR τ d⟩
  · rintro w' ⟨mb, wtb, h1, _⟩
    cases h1
  · rintro e w' ⟨mb, wtb, h1, h2, h3, h4, h5, hb⟩
    exact ⟨mb, wtb, h1, h2, h3, h4, h5, hb.os, hb.output, hb.size, fun x hx _ => hb.block x hx⟩
set_option maxRecDepth 100000 in
set_option maxHeartbeats 16000000 in
theorem chka8_go (eo : Option Addr) (ln cap : Nat) (vs : ByteArray) (n : Int) {w1 w : World} (A : Act) (hA : Fx 133 [(1, .slice eo ln cap), (5, .bool true), (8, .int .i64 n), (9, .int .i64 0), (10, .string vs), (11, .bool true), (12, .string vs), (13, .bool true)] A) (hs : SpareR (fun _ => False) w1 w) : (reg8 6).wp Tryz.prog (fun e A' w' => e = .normal ∧ (Fx 133 [(1, .slice eo ln cap), (5, .bool true), (8, .int .i64 n), (9, .int .i64 0), (10, .string vs), (11, .bool true), (12, .string vs), (13, .bool true)] A' ∧ SpareR (fun _ => False) w1 w')) A w := by
  have hPQ : ∀ Q : Act → World → Prop, (∀ A', Fx 133 [(1, .slice eo ln cap), (5, .bool true), (8, .int .i64 n), (9, .int .i64 0), (10, .string vs), (11, .bool true), (12, .string vs), (13, .bool true)] A' → Q A' w) → (reg8 6).wp Tryz.prog (fun e A' w' => e = .normal ∧ Q A' w') A w := by
    intro Q hQ
    replace hQ : Hid _ := hQ
    obtain ⟨u, hu, rfl⟩ := open133 hA.size hA.defers
    have k1 := hu 1 _ (hA.get 1 _ rfl)
    have k5 := hu 5 _ (hA.get 5 _ rfl)
    have k8 := hu 8 _ (hA.get 8 _ rfl)
    have k9 := hu 9 _ (hA.get 9 _ rfl)
    have k10 := hu 10 _ (hA.get 10 _ rfl)
    have k11 := hu 11 _ (hA.get 11 _ rfl)
    have k12 := hu 12 _ (hA.get 12 _ rfl)
    have k13 := hu 13 _ (hA.get 13 _ rfl)
    clear hu hA
    simp only [k1, k5, k8, k9, k10, k11, k12, k13]
    clear k1 k5 k8 k9 k10 k11 k12 k13
    simp only [reg8, seqC, body8, Tryz.f8, Option.getD_some]
    go_wp2_with fail
    first | refine hQ.out _ ?_ | refine ⟨rfl, hQ.out _ ?_⟩
    refine Fx.of rfl rfl ?_
    simp only [List.forall_mem_cons, List.not_mem_nil, false_implies, implies_true, and_true]
    exact ⟨rfl, rfl, rfl, rfl, rfl, rfl, rfl, rfl⟩
  exact hPQ (fun A' w' => Fx 133 [(1, .slice eo ln cap), (5, .bool true), (8, .int .i64 n), (9, .int .i64 0), (10, .string vs), (11, .bool true), (12, .string vs), (13, .bool true)] A' ∧ SpareR (fun _ => False) w1 w') fun A' h => ⟨h, hs⟩
set_option maxRecDepth 100000 in
set_option maxHeartbeats 16000000 in
theorem chkb8_go (eo : Option Addr) (ln cap : Nat) (n : Int) (mb : Nat) {w1 w : World} (A : Act) (hA : Fx 133 [(1, .slice eo ln cap), (8, .int .i64 n), (14, .pointer (some ⟨mb, 0, none⟩)), (15, .int .i64 0)] A) (hs : SpareR (fun _ => False) w1 w) : (reg8 8).wp Tryz.prog (fun e A' w' => e = .normal ∧ (Fx 133 [(1, .slice eo ln cap), (8, .int .i64 n), (14, .pointer (some ⟨mb, 0, none⟩)), (15, .int .i64 0)] A' ∧ SpareR (fun _ => False) w1 w')) A w := by
  have hPQ : ∀ Q : Act → World → Prop, (∀ A', Fx 133 [(1, .slice eo ln cap), (8, .int .i64 n), (14, .pointer (some ⟨mb, 0, none⟩)), (15, .int .i64 0)] A' → Q A' w) → (reg8 8).wp Tryz.prog (fun e A' w' => e = .normal ∧ Q A' w') A w := by
    intro Q hQ
    replace hQ : Hid _ := hQ
    obtain ⟨u, hu, rfl⟩ := open133 hA.size hA.defers
    have k1 := hu 1 _ (hA.get 1 _ rfl)
    have k8 := hu 8 _ (hA.get 8 _ rfl)
    have k14 := hu 14 _ (hA.get 14 _ rfl)
    have k15 := hu 15 _ (hA.get 15 _ rfl)
    clear hu hA
    simp only [k1, k8, k14, k15]
    clear k1 k8 k14 k15
    simp only [reg8, seqC, body8, Tryz.f8, Option.getD_some]
    go_wp2_with fail
    first | refine hQ.out _ ?_ | refine ⟨rfl, hQ.out _ ?_⟩
    refine Fx.of rfl rfl ?_
    simp only [List.forall_mem_cons, List.not_mem_nil, false_implies, implies_true, and_true]
    exact ⟨rfl, rfl, rfl, rfl⟩
  exact hPQ (fun A' w' => Fx 133 [(1, .slice eo ln cap), (8, .int .i64 n), (14, .pointer (some ⟨mb, 0, none⟩)), (15, .int .i64 0)] A' ∧ SpareR (fun _ => False) w1 w') fun A' h => ⟨h, hs⟩
theorem rg8_0 : reg8 0 = .region 0 (ops8 0) false := rfl
theorem sz8_0 : (ops8 0).size = 1 := rfl
theorem rg8_1 : reg8 1 = .region 1 (ops8 1) false := rfl
theorem sz8_1 : (ops8 1).size = 2 := rfl
theorem rg8_2 : reg8 2 = .region 2 (ops8 2) false := rfl
theorem sz8_2 : (ops8 2).size = 7 := rfl
theorem rg8_3 : reg8 3 = .region 3 (ops8 3) false := rfl
theorem sz8_3 : (ops8 3).size = 7 := rfl
theorem rg8_4 : reg8 4 = .region 4 (ops8 4) false := rfl
theorem sz8_4 : (ops8 4).size = 8 := rfl
theorem rg8_5 : reg8 5 = .region 5 (ops8 5) false := rfl
theorem sz8_5 : (ops8 5).size = 9 := rfl
theorem rg8_7 : reg8 7 = .region 8 (ops8 7) false := rfl
theorem sz8_7 : (ops8 7).size = 7 := rfl
theorem rg8_9 : reg8 9 = .region 11 (ops8 9) false := rfl
theorem sz8_9 : (ops8 9).size = 1 := rfl
theorem rg8_10 : reg8 10 = .region 12 (ops8 10) false := rfl
theorem sz8_10 : (ops8 10).size = 1 := rfl
set_option maxRecDepth 100000 in
set_option maxHeartbeats 16000000 in
theorem forgotten_H (R : List Int) (o1 : Option Addr) (cpR : Nat) (L : List (Int × Int)) (eo : Option Addr) (cap : Nat) (w : World) (hg : Glob w) (hw7 : 14 ≤ w.heap.size) (hlR : R.length ≤ 4611686018427387904) (hIR : ∀ r ∈ R, I64 r) (hR : RawAt w o1 R) (hLm : L.length ≤ 9223372036854775807) (hL : ∀ p ∈ L, I64 p.1 ∧ I64 p.2) (hC : ComesAt w eo L) :
    HCalls Tryz.prog 8 #[.slice o1 R.length cpR, .slice eo L.length cap] w (LawPost w) := by
  have hP := plain_prog
  have hi0 : ∀ it ∈ ([] : List Item), okItem it := by simp
  have hi1 : ∀ (c : Code), ∀ it ∈ [Item.code c], okItem it := fun c => okItems_cons trivial (by simp)
  have hb : Tryz.f8.body = some body8 := rfl
  refine HCalls.of_lead Tryz.func8 hb fun cs hcs => ?_
  rw [Tryz.ntmps8]
  obtain ⟨A, eA⟩ : ∃ A : Act, A = { tmps := #[.slice o1 R.length cpR, .slice eo L.length cap] ++ Array.replicate (133 - (#[.slice o1 R.length cpR, .slice eo L.length cap] : Array Value).size) undef, defers := [] } := ⟨_, rfl⟩
  have hA : Fx 133 [(0, .slice o1 R.length cpR), (1, .slice eo L.length cap)] A := Fx.of (by rw [eA]; simp) (by rw [eA]) (by rw [eA]; simp)
  rw [← eA]
  clear eA
  have er : body8 = .seq (reg8 0) (.seq (reg8 1) (.seq (reg8 2) (.seq (reg8 3) (.seq (reg8 4) (.seq (reg8 5) (.seq (reg8 6) (.seq (reg8 7) (.seq (reg8 8) (.seq (reg8 9) (.seq (reg8 10) rest8)))))))))) := rfl
  rw [er]
  have hS0 := SpareR.refl (fun _ => False) w
  refine LeadsR.seq hP hi0 hcs ?_
  rw [rg8_0]
  refine LeadsR.region hP (hi1 _) hcs ?_
  rw [sz8_0]
  simp only [List.range, List.range.loop]
  refine asgF ⟨_, rfl, rfl, rfl, rfl⟩ hA rfl (by decide) (hi1 _) hcs fun A hA => ?_
  refine LeadsR.nil hP (hi1 _) hcs ?_
  replace hA := hA.less (m := [(0, .slice o1 R.length cpR), (1, .slice eo L.length cap)]) (by simp only [List.forall_mem_cons, List.not_mem_nil, false_implies, implies_true, and_true]; exact ⟨rfl, rfl⟩)
  refine LeadsR.seq hP hi0 hcs ?_
  rw [rg8_1]
  refine LeadsR.region hP (hi1 _) hcs ?_
  rw [sz8_1]
  simp only [List.range, List.range.loop]
  refine callFx ⟨_, rfl, rfl, rfl, rfl⟩ Tryz.func17 (by decide) rfl hA rfl (by decide) (hi1 _) hcs (works_H w (glob_spare hg hS0) (Nat.le_trans hw7 hS0.size)) (fun e w' x => ⟨_, x.1⟩) ?_
  rintro v w1 A ⟨hv, ht1⟩ hA
  cases hv
  have hS1 := hS0.trans ht1
  refine asgF ⟨_, rfl, rfl, rfl, rfl⟩ hA rfl (by decide) (hi1 _) hcs fun A hA => ?_
  refine LeadsR.nil hP (hi1 _) hcs ?_
  replace hA := hA.less (m := [(0, .slice o1 R.length cpR), (1, .slice eo L.length cap), (5, .bool true)]) (by simp only [List.forall_mem_cons, List.not_mem_nil, false_implies, implies_true, and_true]; exact ⟨rfl, rfl, rfl⟩)
  refine LeadsR.seq hP hi0 hcs ?_
  rw [rg8_2]
  refine LeadsR.region hP (hi1 _) hcs ?_
  rw [sz8_2]
  simp only [List.range, List.range.loop]
  refine mvF ⟨_, rfl, rfl, rfl, rfl⟩ hA rfl (by decide) (hi1 _) hcs fun A hA => ?_
  refine callFx ⟨_, rfl, rfl, rfl, rfl⟩ Tryz.func18 (by decide) rfl hA rfl (by decide) (hi1 _) hcs (sent_H R o1 cpR 3 w1 hlR hIR (by decide) (hR.move hS1) 0 (by decide)) (fun e w' x => by obtain ⟨⟨q, hq, _⟩, _⟩ := x; exact ⟨_, hq⟩) ?_
  rintro v w2 A ⟨⟨sp, hv, hsp⟩, ht2⟩ hA
  cases hv
  have hp := (sent_made R 3 0).1
  have tx : TextOK sp (sentF R 3 0).x := hp.text (by decide) (by decide) (by decide) (by decide) hsp
  have hgx := hp.good
  have hn0 := reachT_nonneg hgx.win
  have hn1 : reachT (sentF R 3 0).x ≤ 24 := hp.rea
  obtain ⟨x, hx⟩ : ∃ x, x = (sentF R 3 0).x := ⟨_, rfl⟩
  rw [← hx] at tx hgx hn0 hn1
  have hS2 := hS1.trans ht2
  refine mvF ⟨_, rfl, rfl, rfl, rfl⟩ hA rfl (by decide) (hi1 _) hcs fun A hA => ?_
  refine extF ⟨_, rfl, rfl, rfl, rfl⟩ hA rfl (v := .string sp) rfl (by decide) (hi1 _) hcs fun A hA => ?_
  refine extF ⟨_, rfl, rfl, rfl, rfl⟩ hA rfl (v := .int .i64 ((sentF R 3 0).next : Int)) rfl (by decide) (hi1 _) hcs fun A hA => ?_
  refine asgF ⟨_, rfl, rfl, rfl, rfl⟩ hA rfl (by decide) (hi1 _) hcs fun A hA => ?_
  refine asgF ⟨_, rfl, rfl, rfl, rfl⟩ hA rfl (by decide) (hi1 _) hcs fun A hA => ?_
  refine LeadsR.nil hP (hi1 _) hcs ?_
  replace hA := hA.less (m := [(0, .slice o1 R.length cpR), (1, .slice eo L.length cap), (5, .bool true), (6, .string sp)]) (by simp only [List.forall_mem_cons, List.not_mem_nil, false_implies, implies_true, and_true]; exact ⟨rfl, rfl, rfl, rfl⟩)
  refine LeadsR.seq hP hi0 hcs ?_
  rw [rg8_3]
  refine LeadsR.region hP (hi1 _) hcs ?_
  rw [sz8_3]
  simp only [List.range, List.range.loop]
  refine mvF ⟨_, rfl, rfl, rfl, rfl⟩ hA rfl (by decide) (hi1 _) hcs fun A hA => ?_
  refine callFx ⟨_, rfl, rfl, rfl, rfl⟩ Tryz.func15 (by decide) rfl hA rfl (by decide) (hi1 _) hcs (reach_H sp x w2 tx (glob_spare hg hS2) (Nat.le_trans hw7 hS2.size)) (fun e w' x => ⟨_, x.1⟩) ?_
  rintro v w3 A ⟨hv, ht3⟩ hA
  cases hv
  have hS3 := hS2.trans ht3
  refine mvF ⟨_, rfl, rfl, rfl, rfl⟩ hA rfl (by decide) (hi1 _) hcs fun A hA => ?_
  refine extF ⟨_, rfl, rfl, rfl, rfl⟩ hA rfl (v := .int .i64 (reachT x)) rfl (by decide) (hi1 _) hcs fun A hA => ?_
  refine extF ⟨_, rfl, rfl, rfl, rfl⟩ hA rfl (v := .int .i64 0) rfl (by decide) (hi1 _) hcs fun A hA => ?_
  refine asgF ⟨_, rfl, rfl, rfl, rfl⟩ hA rfl (by decide) (hi1 _) hcs fun A hA => ?_
  refine asgF ⟨_, rfl, rfl, rfl, rfl⟩ hA rfl (by decide) (hi1 _) hcs fun A hA => ?_
  refine LeadsR.nil hP (hi1 _) hcs ?_
  replace hA := hA.less (m := [(0, .slice o1 R.length cpR), (1, .slice eo L.length cap), (5, .bool true), (6, .string sp), (8, .int .i64 (reachT x)), (9, .int .i64 0)]) (by simp only [List.forall_mem_cons, List.not_mem_nil, false_implies, implies_true, and_true]; exact ⟨rfl, rfl, rfl, rfl, rfl, rfl⟩)
  refine LeadsR.seq hP hi0 hcs ?_
  rw [rg8_4]
  refine LeadsR.region hP (hi1 _) hcs ?_
  rw [sz8_4]
  simp only [List.range, List.range.loop]
  refine mvF ⟨_, rfl, rfl, rfl, rfl⟩ hA rfl (by decide) (hi1 _) hcs fun A hA => ?_
  refine mvF ⟨_, rfl, rfl, rfl, rfl⟩ hA rfl (by decide) (hi1 _) hcs fun A hA => ?_
  refine watchF (X := x) (L := L) ⟨_, rfl, rfl, rfl, rfl⟩ ⟨_, rfl, rfl, rfl, rfl⟩ ⟨_, rfl, rfl, rfl, rfl⟩ ⟨_, rfl, rfl, rfl, rfl⟩ ⟨_, rfl, rfl, rfl, rfl⟩ ⟨_, rfl, rfl, rfl, rfl⟩ (by decide) (by decide) hA rfl rfl rfl (hi1 _) hcs (tx.watched L eo cap w3 (glob_spare hg hS3) (Nat.le_trans hw7 hS3.size) hLm hL (hC.move hS3)) [(0, .slice o1 R.length cpR), (1, .slice eo L.length cap), (5, .bool true), (6, .string sp), (8, .int .i64 (reachT x)), (9, .int .i64 0)] (by simp only [List.forall_mem_cons, List.not_mem_nil, false_implies, implies_true, and_true]; exact ⟨⟨rfl, by decide, by decide, by decide, by decide, by decide, by decide⟩, ⟨rfl, by decide, by decide, by decide, by decide, by decide, by decide⟩, ⟨rfl, by decide, by decide, by decide, by decide, by decide, by decide⟩, ⟨rfl, by decide, by decide, by decide, by decide, by decide, by decide⟩, ⟨rfl, by decide, by decide, by decide, by decide, by decide, by decide⟩, ⟨rfl, by decide, by decide, by decide, by decide, by decide, by decide⟩⟩) fun A w4 hA ht4 => ?_
  have hS4 := hS3.trans ht4
  refine LeadsR.seq hP hi0 hcs ?_
  rw [rg8_5]
  refine LeadsR.region hP (hi1 _) hcs ?_
  rw [sz8_5]
  simp only [List.range, List.range.loop]
  refine mvF ⟨_, rfl, rfl, rfl, rfl⟩ hA rfl (by decide) (hi1 _) hcs fun A hA => ?_
  refine mvF ⟨_, rfl, rfl, rfl, rfl⟩ hA rfl (by decide) (hi1 _) hcs fun A hA => ?_
  refine mvF ⟨_, rfl, rfl, rfl, rfl⟩ hA rfl (by decide) (hi1 _) hcs fun A hA => ?_
  refine watchF (X := x) (L := L) ⟨_, rfl, rfl, rfl, rfl⟩ ⟨_, rfl, rfl, rfl, rfl⟩ ⟨_, rfl, rfl, rfl, rfl⟩ ⟨_, rfl, rfl, rfl, rfl⟩ ⟨_, rfl, rfl, rfl, rfl⟩ ⟨_, rfl, rfl, rfl, rfl⟩ (by decide) (by decide) hA rfl rfl rfl (hi1 _) hcs (watched_any sp x L (reachT x) eo cap w4 (glob_spare hg hS4) (Nat.le_trans hw7 hS4.size) (Nat.le_trans tx.size (by decide)) tx.read (Int.le_refl _) (few_nodes tx.nodes) (Nat.le_trans tx.nodes (by decide)) (by omega) hLm hL (hC.move hS4)) [(0, .slice o1 R.length cpR), (1, .slice eo L.length cap), (5, .bool true), (6, .string sp), (8, .int .i64 (reachT x)), (9, .int .i64 0), (10, .string (verS (x) L (min L.length 25))), (11, .bool true)] (by simp only [List.forall_mem_cons, List.not_mem_nil, false_implies, implies_true, and_true]; exact ⟨⟨rfl, by decide, by decide, by decide, by decide, by decide, by decide⟩, ⟨rfl, by decide, by decide, by decide, by decide, by decide, by decide⟩, ⟨rfl, by decide, by decide, by decide, by decide, by decide, by decide⟩, ⟨rfl, by decide, by decide, by decide, by decide, by decide, by decide⟩, ⟨rfl, by decide, by decide, by decide, by decide, by decide, by decide⟩, ⟨rfl, by decide, by decide, by decide, by decide, by decide, by decide⟩, ⟨rfl, by decide, by decide, by decide, by decide, by decide, by decide⟩, ⟨rfl, by decide, by decide, by decide, by decide, by decide, by decide⟩⟩) fun A w5 hA ht5 => ?_
  have hS5 := hS4.trans ht5
  generalize hvs : verS x L (min L.length 25) = vs at *
  replace hA := hA.less (m := [(1, .slice eo L.length cap), (5, .bool true), (8, .int .i64 (reachT x)), (9, .int .i64 0), (10, .string vs), (11, .bool true), (12, .string vs), (13, .bool true)]) (by simp only [List.forall_mem_cons, List.not_mem_nil, false_implies, implies_true, and_true]; exact ⟨rfl, rfl, rfl, rfl, rfl, rfl, rfl, rfl⟩)
  refine LeadsR.seq hP hi0 hcs ?_
  refine LeadsR.piece hP (fun A' w' => Fx 133 [(1, .slice eo L.length cap), (5, .bool true), (8, .int .i64 (reachT x)), (9, .int .i64 0), (10, .string vs), (11, .bool true), (12, .string vs), (13, .bool true)] A' ∧ SpareR (fun _ => False) w5 w') (fun _ _ τ d x => ⟨x.1, x.2.tapeR τ d⟩) (hi1 _) hcs (fun τ d => chka8_go eo L.length cap vs (reachT x) _ hA ((SpareR.refl _ w5).tapeR τ d)) ?_
  rintro A w6 ⟨hA, ht6⟩
  have hS6 := hS5.trans ht6
  refine LeadsR.seq hP hi0 hcs ?_
  rw [rg8_7]
  refine LeadsR.region hP (hi1 _) hcs ?_
  rw [sz8_7]
  simp only [List.range, List.range.loop]
  refine mvF ⟨_, rfl, rfl, rfl, rfl⟩ hA rfl (by decide) (hi1 _) hcs fun A hA => ?_
  refine callFx ⟨_, rfl, rfl, rfl, rfl⟩ Tryz.func23 (by decide) rfl hA rfl (by decide) (hi1 _) hcs (new_H (reachT x) w6 (by omega)) (fun e w' x => by obtain ⟨mb, wtb, x1, _⟩ := x; exact ⟨_, x1⟩) ?_
  rintro v w7 A ⟨mb, wtb, hv, n1, n2, n3, n4, ht7⟩ hA
  cases hv
  have hS7 := hS6.trans ht7
  refine mvF ⟨_, rfl, rfl, rfl, rfl⟩ hA rfl (by decide) (hi1 _) hcs fun A hA => ?_
  refine extF ⟨_, rfl, rfl, rfl, rfl⟩ hA rfl (v := .pointer (some ⟨mb, 0, none⟩)) rfl (by decide) (hi1 _) hcs fun A hA => ?_
  refine extF ⟨_, rfl, rfl, rfl, rfl⟩ hA rfl (v := .int .i64 0) rfl (by decide) (hi1 _) hcs fun A hA => ?_
  refine asgF ⟨_, rfl, rfl, rfl, rfl⟩ hA rfl (by decide) (hi1 _) hcs fun A hA => ?_
  refine asgF ⟨_, rfl, rfl, rfl, rfl⟩ hA rfl (by decide) (hi1 _) hcs fun A hA => ?_
  refine LeadsR.nil hP (hi1 _) hcs ?_
  replace hA := hA.less (m := [(1, .slice eo L.length cap), (5, .bool true), (8, .int .i64 (reachT x)), (9, .int .i64 0), (10, .string vs), (11, .bool true), (12, .string vs), (13, .bool true), (14, .pointer (some ⟨mb, 0, none⟩)), (15, .int .i64 0)]) (by simp only [List.forall_mem_cons, List.not_mem_nil, false_implies, implies_true, and_true]; exact ⟨rfl, rfl, rfl, rfl, rfl, rfl, rfl, rfl, rfl, rfl⟩)
  replace hA := hA.less (m := [(1, .slice eo L.length cap), (8, .int .i64 (reachT x)), (14, .pointer (some ⟨mb, 0, none⟩)), (15, .int .i64 0)]) (by simp only [List.forall_mem_cons, List.not_mem_nil, false_implies, implies_true, and_true]; exact ⟨rfl, rfl, rfl, rfl⟩)
  refine LeadsR.seq hP hi0 hcs ?_
  refine LeadsR.piece hP (fun A' w' => Fx 133 [(1, .slice eo L.length cap), (8, .int .i64 (reachT x)), (14, .pointer (some ⟨mb, 0, none⟩)), (15, .int .i64 0)] A' ∧ SpareR (fun _ => False) w7 w') (fun _ _ τ d x => ⟨x.1, x.2.tapeR τ d⟩) (hi1 _) hcs (fun τ d => chkb8_go eo L.length cap (reachT x) mb _ hA ((SpareR.refl _ w7).tapeR τ d)) ?_
  rintro A w8 ⟨hA, ht8⟩
  have hS8 := hS7.trans ht8
  refine LeadsR.seq hP hi0 hcs ?_
  rw [rg8_9]
  refine LeadsR.region hP (hi1 _) hcs ?_
  rw [sz8_9]
  simp only [List.range, List.range.loop]
  refine asgF ⟨_, rfl, rfl, rfl, rfl⟩ hA rfl (by decide) (hi1 _) hcs fun A hA => ?_
  refine LeadsR.nil hP (hi1 _) hcs ?_
  replace hA := hA.less (m := [(1, .slice eo L.length cap), (8, .int .i64 (reachT x)), (14, .pointer (some ⟨mb, 0, none⟩)), (15, .int .i64 0), (16, (Value.int IntKind.i64 0))]) (by simp only [List.forall_mem_cons, List.not_mem_nil, false_implies, implies_true, and_true]; exact ⟨rfl, rfl, rfl, rfl, rfl⟩)
  refine LeadsR.seq hP hi0 hcs ?_
  rw [rg8_10]
  refine LeadsR.region hP (hi1 _) hcs ?_
  rw [sz8_10]
  simp only [List.range, List.range.loop]
  refine asgF ⟨_, rfl, rfl, rfl, rfl⟩ hA rfl (by decide) (hi1 _) hcs fun A hA => ?_
  refine LeadsR.nil hP (hi1 _) hcs ?_
  replace hA := hA.less (m := [(1, .slice eo L.length cap), (8, .int .i64 (reachT x)), (14, .pointer (some ⟨mb, 0, none⟩)), (15, .int .i64 0), (16, (Value.int IntKind.i64 0)), (17, (Value.slice none 0 0))]) (by simp only [List.forall_mem_cons, List.not_mem_nil, false_implies, implies_true, and_true]; exact ⟨rfl, rfl, rfl, rfl, rfl, rfl⟩)
  replace hA := hA.less (m := [(1, .slice eo L.length cap), (8, .int .i64 (reachT x)), (14, .pointer (some ⟨mb, 0, none⟩)), (16, (Value.int IntKind.i64 0)), (17, (Value.slice none 0 0))]) (by simp only [List.forall_mem_cons, List.not_mem_nil, false_implies, implies_true, and_true]; exact ⟨rfl, rfl, rfl, rfl, rfl⟩)
  have hZ : ZInv L w.heap.size mb wtb (reachT x) 0 w8 := (ZInv.start (by omega) n3 n4 (Nat.le_trans hS6.size n2)).move ht8
  exact loop8_lead L eo cap (reachT x) mb wtb w w8 A hLm hL hC (by omega) hA hZ hS8 cs hcs
end Go.Proofs.YtpbbmagjhkakgaaGreatDoor.Ev
