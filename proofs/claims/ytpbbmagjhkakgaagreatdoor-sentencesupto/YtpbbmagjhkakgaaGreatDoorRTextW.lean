/-
  What the given reader's Text does at a sign with a window; no condition but those that stand in each theorem.
-/
import Derived.Test.YtpbbmagjhkakgaaGreatDoorRText2
namespace Go.Proofs.YtpbbmagjhkakgaaGreatDoor
open Go.RowKit Go.Deep

set_option maxHeartbeats 40000000 in
set_option maxRecDepth 100000 in
theorem rtext_win (K : UInt8) (hK : K.toNat = 89 ∨ K.toNat = 79 ∨ K.toNat = 72) (x : BT Pay) (ih : TextOK x) (gx : Good x) (B X : Nat) (w : World) (a : Pay) (pl pr : Option Addr) (hX : XAt X w (kindB a.op) a.name a.lo a.hi (.pointer pl) (.pointer pr)) (hl : RefAt B w x (.pointer pl)) (hk : kindB a.op = (K.toNat : Int)) (hlo : 0 ≤ a.lo ∧ a.lo ≤ 1000000) (hhi : 0 ≤ a.hi ∧ a.hi ≤ 1000000) (hlen : (printB x).length ≤ 100000000) :
    Calls Tryz.prog 145 #[.pointer (some ⟨X, 0, none⟩)] w fun e w' => Below w.heap.size w w' ∧ ∃ d, e = .returned (.string d) ∧ d.data.toList = ([K] ++ winD a) ++ printB x := by
  obtain ⟨⟨x0, x1, x2, x3, x4, x5⟩, _⟩ := hX.facts
  have hXk : Hid (∀ W, Below w.heap.size w W → XAt X W (kindB a.op) a.name a.lo a.hi (.pointer pl) (.pointer pr)) := fun W h => h.heapOf hX
  have hXb : Hid (∀ W, Below w.heap.size w W → W.cell? ⟨X, 2, none⟩ = some (.int .i64 a.lo) ∧ W.cell? ⟨X, 3, none⟩ = some (.int .i64 a.hi) ∧ Below w.heap.size w W) := fun W h => by
    obtain ⟨⟨_, _, y2, y3, _⟩, _⟩ := (hXk.out W h).facts
    exact ⟨y2, y3, h⟩
  have dA : Hid (∀ W, Calls Tryz.prog 182 #[.int .i64 a.lo] W fun e w' => Below W.heap.size W w' ∧ ∃ d, e = .returned (.string d) ∧ d.data.toList = Lib.itoa a.lo) := fun W => by
    have := rdigits_any a.lo.toNat W (by omega)
    rwa [show ((a.lo.toNat : Nat) : Int) = a.lo by omega, ← itoa_nat _ hlo.1] at this
  have dB : Hid (∀ W, Calls Tryz.prog 182 #[.int .i64 a.hi] W fun e w' => Below W.heap.size W w' ∧ ∃ d, e = .returned (.string d) ∧ d.data.toList = Lib.itoa a.hi) := fun W => by
    have := rdigits_any a.hi.toNat W (by omega)
    rwa [show ((a.hi.toNat : Nat) : Int) = a.hi by omega, ← itoa_nat _ hhi.1] at this
  have la := itoa_len a.lo hlo.1 hlo.2
  have lb := itoa_len a.hi hhi.1 hhi.2
  go_enter Tryz.func145, Tryz.ntmps145
  go_upto_region 1 with fail
  go_cut [3] from 4 (fun v wx => (∃ d, v = .string d ∧ d.data.toList = winD a) ∧ Below w.heap.size w wx)
  case first =>
    go_region_held3 (fun w' => w'.cell? ⟨X, 2, none⟩ = some (.int .i64 a.lo) ∧ w'.cell? ⟨X, 3, none⟩ = some (.int .i64 a.hi) ∧ Below w.heap.size w w')
      ((refine hXb.out _ ?_; (repeat (with_reducible (first | exact Below.refl _ _ | refine Below.drew ?_ | refine Below.tr ?_ bA | refine Below.tr ?_ bB)))))
      (first
        | (go_at_call_of 182 (Value.int IntKind.i64 a.lo); refine (dA.out _).mono ?_; rintro e wA ⟨bA, da, rfl, ha⟩; have za : da.size ≤ 7 := (by rw [size_of ha]; exact la); have n1 : ¬ 9223372036854775807 < 1 + da.size := (by omega); have n2 : ¬ 9223372036854775807 < 1 + da.size + 1 := (by omega); (try have n3 : ¬ 9223372036854775807 < 1 + da.size + 1 + db.size := (by omega)); (try have n4 : ¬ 9223372036854775807 < 1 + da.size + 1 + db.size + 1 := (by omega)))
        | (go_at_call_of 182 (Value.int IntKind.i64 a.hi); refine (dB.out _).mono ?_; rintro e wB ⟨bB, db, rfl, hb⟩; have zb : db.size ≤ 7 := (by rw [size_of hb]; exact lb); (try have n3 : ¬ 9223372036854775807 < 1 + da.size + 1 + db.size := (by omega)); (try have n4 : ¬ 9223372036854775807 < 1 + da.size + 1 + db.size + 1 := (by omega))))
    all_goals go_wp2_with fail
    all_goals go_meet
    all_goals exact ⟨⟨_, rfl, by simp [ByteArray.data_append, ha, hb, winD]⟩, by repeat (with_reducible (first | exact Below.refl _ _ | refine Below.drew ?_ | refine Below.tr ?_ bA | refine Below.tr ?_ bB))⟩
  case rest =>
    obtain ⟨⟨dw, rfl, hdw⟩, bw⟩ := hcut
    clear dA dB hXb
    have hX1 := hXk.out _ bw
    clear x0 x1 x2 x3 x4 x5
    obtain ⟨⟨x0, x1, x2, x3, x4, x5⟩, _⟩ := hX1.facts
    have zw : dw.size ≤ 17 := by rw [size_of hdw]; simp [winD]; omega
    rw [hk] at x0
    have q116 : ((K.toNat : Int) == 116) = false := by simp only [beq_eq_false_iff_ne]; omega
    have q97 : ((K.toNat : Int) == 97) = false := by simp only [beq_eq_false_iff_ne]; omega
    have q33 : ((K.toNat : Int) == 33) = false := by simp only [beq_eq_false_iff_ne]; omega
    have q38 : ((K.toNat : Int) == 38) = false := by simp only [beq_eq_false_iff_ne]; omega
    have q124 : ((K.toNat : Int) == 124) = false := by simp only [beq_eq_false_iff_ne]; omega
    have q83 : ((K.toNat : Int) == 83) = false := by simp only [beq_eq_false_iff_ne]; omega
    have hcv1 := conv_one ((wc.alloc (.cells #[.int .u8 (K.toNat : Int)] 5)).drew) wc.heap.size (K.toNat : Int) K rfl (show (wc.alloc (.cells #[.int .u8 (K.toNat : Int)] 5)).cell? _ = _ by rw [World.cell?_alloc_at _ _ _ _ rfl]; rfl)
    have hC : Hid (∀ W, Below w.heap.size w W → _) := fun W hW => ih (.pointer pl) B W (hl.below hW) gx hlen
    have hXc : Hid (∀ W, Below w.heap.size w W → W.cell? ⟨X, 0, none⟩ = some (.int .u8 (K.toNat : Int)) ∧ W.cell? ⟨X, 4, none⟩ = some (.pointer pl) ∧ Below w.heap.size w W) := fun W h => by
      obtain ⟨⟨y0, _, _, _, y4, _⟩, _⟩ := (hXk.out W h).facts
      rw [hk] at y0
      exact ⟨y0, y4, h⟩
    have n1 : ¬ 9223372036854775807 < 1 + dw.size := by omega
    have hXlt : X < wc.heap.size := heap_lt hX1
    have hXne : X ≠ wc.heap.size := by omega
    clear hK
    go_wp2_with fail
    go_region_with (first | (go_at_call_of 145 (Value.pointer pl); refine (hC.out _ ?_).mono ?_; (repeat (with_reducible (first | exact bw | refine Below.drew ?_ | refine Below.al ?_ _))); rintro e w2 ⟨b2, d, rfl, hd⟩; have zd : d.size ≤ 100000000 := (by rw [size_of hd]; exact hlen); have n2 : ¬ 9223372036854775807 < 1 + dw.size + d.size := (by omega); have hcv3 := conv_one (w2.alloc (.cells #[.int .u8 (K.toNat : Int)] 5)) w2.heap.size (K.toNat : Int) K rfl (by rw [World.cell?_alloc_at _ _ _ _ rfl]; rfl); have b3 := hXc.out w2 (by repeat (with_reducible (first | exact bw | refine Below.drew ?_ | refine Below.al ?_ _ | refine Below.tr ?_ b2))); obtain ⟨y0, y4, b4⟩ := b3; have hX2l : X < w2.heap.size := (cell_lt y0); have hX2n : X ≠ w2.heap.size := (by omega); (try have hcv2 := conv_one w2 wc.heap.size (K.toNat : Int) K rfl ((b2.cell (p := ⟨wc.heap.size, 0, none⟩) (by simp)).trans (show (wc.alloc (.cells #[.int .u8 (K.toNat : Int)] 5)).cell? _ = _ by rw [World.cell?_alloc_at _ _ _ _ rfl]; rfl)))))
    all_goals
      as_aux_lemma =>
        go_wp2_with fail
        go_ret
        exact ⟨by repeat (with_reducible (first | exact bw | refine Below.drew ?_ | refine Below.al ?_ _ | refine Below.tr ?_ b2)), _, rfl, by simp [ByteArray.data_append, hd, hdw]⟩

end Go.Proofs.YtpbbmagjhkakgaaGreatDoor
