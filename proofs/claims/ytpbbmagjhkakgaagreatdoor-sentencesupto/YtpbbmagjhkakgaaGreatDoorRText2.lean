/-
  What the given reader's Text does: a sentence of the given reader's that lies in memory is written as the plain function says; for every sentence that is made as it should be and whose text is no longer than 100,000,000 bytes.
-/
import Derived.Test.YtpbbmagjhkakgaaGreatDoorRDepthToRText
import Derived.Test.YtpbbmagjhkakgaaGreatDoorPureRoundToPureSize
import Derived.Deep.RegionHeld3
import Derived.Deep.RegionWith
import Derived.Deep.CutRange
namespace Go.Proofs.YtpbbmagjhkakgaaGreatDoor
open Go.RowKit Go.Deep

def TextOK (x : BT Pay) : Prop := ∀ (v : Value) (B : Nat) (w : World), RefAt B w x v → Good x → (printB x).length ≤ 100000000 →
  Calls Tryz.prog 145 #[v] w fun e w' => Below w.heap.size w w' ∧ ∃ d, e = .returned (.string d) ∧ d.data.toList = printB x

def winD (a : Pay) : List UInt8 := [91] ++ Lib.itoa a.lo ++ [44] ++ Lib.itoa a.hi ++ [93]

theorem size_of {d : ByteArray} {l : List UInt8} (h : d.data.toList = l) : d.size = l.length := by rw [← h, size_list]

theorem itoa_nat (v : Int) (h : 0 ≤ v) : Lib.itoa v = Lib.decDigits v.toNat := itoa_eq v h

set_option maxHeartbeats 4000000 in
set_option maxRecDepth 100000 in
theorem rtext_leaf (X : Nat) (w : World) (a : Pay) (pl pr : Option Addr) (hX : XAt X w (kindB a.op) a.name a.lo a.hi (.pointer pl) (.pointer pr)) (hop : a.op = 116 ∨ a.op = 97) (hlo : 0 ≤ a.lo ∧ a.lo ≤ 1000000) (hhi : 0 ≤ a.hi ∧ a.hi ≤ 1000000) :
    Calls Tryz.prog 145 #[.pointer (some ⟨X, 0, none⟩)] w fun e w' => Below w.heap.size w w' ∧ ∃ d, e = .returned (.string d) ∧ d.data.toList = if a.op = 116 then [116, 114, 117, 101] else a.name.data.toList := by
  obtain ⟨⟨x0, x1, x2, x3, x4, x5⟩, _⟩ := hX.facts
  have hXk : Hid (∀ W, Below w.heap.size w W → XAt X W (kindB a.op) a.name a.lo a.hi (.pointer pl) (.pointer pr)) := fun W h => h.heapOf hX
  have hXb : Hid (∀ W, Below w.heap.size w W → W.cell? ⟨X, 2, none⟩ = some (.int .i64 a.lo) ∧ W.cell? ⟨X, 3, none⟩ = some (.int .i64 a.hi) ∧ Below w.heap.size w W) := fun W h => by
    obtain ⟨⟨_, _, y2, y3, _⟩, _⟩ := (hXk.out W h).facts
    exact ⟨y2, y3, h⟩
  have dA : Hid (∀ W, Calls Tryz.prog 182 #[.int .i64 a.lo] W fun e w' => Below W.heap.size W w' ∧ ∃ d, e = .returned (.string d) ∧ d.data.toList = Lib.itoa a.lo) := fun W => by
    have := rdigits_any a.lo.toNat W (by omega)
    rwa [show ((a.lo.toNat : Nat) : Int) = a.lo by omega, ← itoa_nat _ hlo.1] at this
  have dB : Hid (∀ W, Calls Tryz.prog 182 #[.int .i64 a.hi] W fun e w' => Below W.heap.size W w' ∧ ∃ d, e = .returned (.string d) ∧ d.data.toList = Lib.itoa a.hi) := fun W => by
    have := rdigits_any a.hi.toNat W (by omega)
    rwa [show ((a.hi.toNat : Nat) : Int) = a.hi by omega, ← itoa_nat _ hhi.1] at this
  have la := itoa_len a.lo hlo.1 hlo.2
  have lb := itoa_len a.hi hhi.1 hhi.2
  go_enter Tryz.func145, Tryz.ntmps145
  go_upto_region 1 with fail
  go_cut [3] from 4 (fun v wx => (∃ d, v = .string d ∧ d.data.toList = winD a) ∧ Below w.heap.size w wx)
  case first =>
    go_region_held3 (fun w' => w'.cell? ⟨X, 2, none⟩ = some (.int .i64 a.lo) ∧ w'.cell? ⟨X, 3, none⟩ = some (.int .i64 a.hi) ∧ Below w.heap.size w w')
      ((refine hXb.out _ ?_; (repeat (with_reducible (first | exact Below.refl _ _ | refine Below.drew ?_ | refine Below.tr ?_ bA | refine Below.tr ?_ bB)))))
      (first
        | (go_at_call_of 182 (Value.int IntKind.i64 a.lo); refine (dA.out _).mono ?_; rintro e wA ⟨bA, da, rfl, ha⟩; have za : da.size ≤ 7 := (by rw [size_of ha]; exact la); have n1 : ¬ 9223372036854775807 < 1 + da.size := (by omega); have n2 : ¬ 9223372036854775807 < 1 + da.size + 1 := (by omega); (try have n3 : ¬ 9223372036854775807 < 1 + da.size + 1 + db.size := (by omega)); (try have n4 : ¬ 9223372036854775807 < 1 + da.size + 1 + db.size + 1 := (by omega)))
        | (go_at_call_of 182 (Value.int IntKind.i64 a.hi); refine (dB.out _).mono ?_; rintro e wB ⟨bB, db, rfl, hb⟩; have zb : db.size ≤ 7 := (by rw [size_of hb]; exact lb); (try have n3 : ¬ 9223372036854775807 < 1 + da.size + 1 + db.size := (by omega)); (try have n4 : ¬ 9223372036854775807 < 1 + da.size + 1 + db.size + 1 := (by omega))))
    all_goals go_wp2_with fail
    all_goals go_meet
    all_goals exact ⟨⟨_, rfl, by simp [ByteArray.data_append, ha, hb, winD]⟩, by repeat (with_reducible (first | exact Below.refl _ _ | refine Below.drew ?_ | refine Below.tr ?_ bA | refine Below.tr ?_ bB))⟩
  case rest =>
    obtain ⟨⟨dw, rfl, hdw⟩, bw⟩ := hcut
    clear dA dB hXb
    have hX1 := hXk.out _ bw
    clear x0 x1 x2 x3 x4 x5
    obtain ⟨⟨x0, x1, x2, x3, x4, x5⟩, _⟩ := hX1.facts
    have zw : dw.size ≤ 17 := by rw [size_of hdw]; simp [winD]; omega
    have hk : kindB a.op = a.op := by unfold kindB; rw [if_neg (by omega), if_neg (by omega), if_neg (by omega)]
    rw [hk] at x0
    rcases hop with e | e
    · have HE : Hid ((if a.op = 116 then [116, 114, 117, 101] else a.name.data.toList) = [116, 114, 117, 101]) := by show _ = _; rw [if_pos e]
      rw [e] at x0
      generalize (if a.op = 116 then [116, 114, 117, 101] else a.name.data.toList) = res at *
      go_wp2_with fail
      go_ret
      exact ⟨bw, _, rfl, by first | rfl | exact HE.out.symm⟩
    · have HE : Hid ((if a.op = 116 then [116, 114, 117, 101] else a.name.data.toList) = a.name.data.toList) := by show _ = _; rw [if_neg (by omega)]
      rw [e] at x0
      generalize (if a.op = 116 then [116, 114, 117, 101] else a.name.data.toList) = res at *
      go_wp2_with fail
      go_ret
      exact ⟨bw, _, rfl, by first | rfl | exact HE.out.symm⟩

set_option maxHeartbeats 4000000 in
set_option maxRecDepth 100000 in
theorem rtext_not (x : BT Pay) (ih : TextOK x) (gx : Good x) (B X : Nat) (w : World) (a : Pay) (pl pr : Option Addr) (hX : XAt X w (kindB a.op) a.name a.lo a.hi (.pointer pl) (.pointer pr)) (hl : RefAt B w x (.pointer pl)) (hop : a.op = 172) (hlo : 0 ≤ a.lo ∧ a.lo ≤ 1000000) (hhi : 0 ≤ a.hi ∧ a.hi ≤ 1000000) (hlen : (printB x).length ≤ 100000000) :
    Calls Tryz.prog 145 #[.pointer (some ⟨X, 0, none⟩)] w fun e w' => Below w.heap.size w w' ∧ ∃ d, e = .returned (.string d) ∧ d.data.toList = [194, 172] ++ printB x := by
  obtain ⟨⟨x0, x1, x2, x3, x4, x5⟩, _⟩ := hX.facts
  have hXk : Hid (∀ W, Below w.heap.size w W → XAt X W (kindB a.op) a.name a.lo a.hi (.pointer pl) (.pointer pr)) := fun W h => h.heapOf hX
  have hXb : Hid (∀ W, Below w.heap.size w W → W.cell? ⟨X, 2, none⟩ = some (.int .i64 a.lo) ∧ W.cell? ⟨X, 3, none⟩ = some (.int .i64 a.hi) ∧ Below w.heap.size w W) := fun W h => by
    obtain ⟨⟨_, _, y2, y3, _⟩, _⟩ := (hXk.out W h).facts
    exact ⟨y2, y3, h⟩
  have dA : Hid (∀ W, Calls Tryz.prog 182 #[.int .i64 a.lo] W fun e w' => Below W.heap.size W w' ∧ ∃ d, e = .returned (.string d) ∧ d.data.toList = Lib.itoa a.lo) := fun W => by
    have := rdigits_any a.lo.toNat W (by omega)
    rwa [show ((a.lo.toNat : Nat) : Int) = a.lo by omega, ← itoa_nat _ hlo.1] at this
  have dB : Hid (∀ W, Calls Tryz.prog 182 #[.int .i64 a.hi] W fun e w' => Below W.heap.size W w' ∧ ∃ d, e = .returned (.string d) ∧ d.data.toList = Lib.itoa a.hi) := fun W => by
    have := rdigits_any a.hi.toNat W (by omega)
    rwa [show ((a.hi.toNat : Nat) : Int) = a.hi by omega, ← itoa_nat _ hhi.1] at this
  have la := itoa_len a.lo hlo.1 hlo.2
  have lb := itoa_len a.hi hhi.1 hhi.2
  go_enter Tryz.func145, Tryz.ntmps145
  go_upto_region 1 with fail
  go_cut [3] from 4 (fun v wx => (∃ d, v = .string d ∧ d.data.toList = winD a) ∧ Below w.heap.size w wx)
  case first =>
    go_region_held3 (fun w' => w'.cell? ⟨X, 2, none⟩ = some (.int .i64 a.lo) ∧ w'.cell? ⟨X, 3, none⟩ = some (.int .i64 a.hi) ∧ Below w.heap.size w w')
      ((refine hXb.out _ ?_; (repeat (with_reducible (first | exact Below.refl _ _ | refine Below.drew ?_ | refine Below.tr ?_ bA | refine Below.tr ?_ bB)))))
      (first
        | (go_at_call_of 182 (Value.int IntKind.i64 a.lo); refine (dA.out _).mono ?_; rintro e wA ⟨bA, da, rfl, ha⟩; have za : da.size ≤ 7 := (by rw [size_of ha]; exact la); have n1 : ¬ 9223372036854775807 < 1 + da.size := (by omega); have n2 : ¬ 9223372036854775807 < 1 + da.size + 1 := (by omega); (try have n3 : ¬ 9223372036854775807 < 1 + da.size + 1 + db.size := (by omega)); (try have n4 : ¬ 9223372036854775807 < 1 + da.size + 1 + db.size + 1 := (by omega)))
        | (go_at_call_of 182 (Value.int IntKind.i64 a.hi); refine (dB.out _).mono ?_; rintro e wB ⟨bB, db, rfl, hb⟩; have zb : db.size ≤ 7 := (by rw [size_of hb]; exact lb); (try have n3 : ¬ 9223372036854775807 < 1 + da.size + 1 + db.size := (by omega)); (try have n4 : ¬ 9223372036854775807 < 1 + da.size + 1 + db.size + 1 := (by omega))))
    all_goals go_wp2_with fail
    all_goals go_meet
    all_goals exact ⟨⟨_, rfl, by simp [ByteArray.data_append, ha, hb, winD]⟩, by repeat (with_reducible (first | exact Below.refl _ _ | refine Below.drew ?_ | refine Below.tr ?_ bA | refine Below.tr ?_ bB))⟩
  case rest =>
    obtain ⟨⟨dw, rfl, hdw⟩, bw⟩ := hcut
    clear dA dB hXb
    have hX1 := hXk.out _ bw
    clear x0 x1 x2 x3 x4 x5
    obtain ⟨⟨x0, x1, x2, x3, x4, x5⟩, _⟩ := hX1.facts
    have zw : dw.size ≤ 17 := by rw [size_of hdw]; simp [winD]; omega
    have hk : kindB a.op = 33 := by rw [hop]; rfl
    rw [hk] at x0
    have hC := ih (.pointer pl) B _ (hl.below bw) gx hlen
    go_wp2_with fail
    refine hC.mono ?_
    rintro e w2 ⟨b2, d, rfl, hd⟩
    have zd : d.size ≤ 100000000 := by rw [size_of hd]; exact hlen
    have n1 : ¬ 9223372036854775807 < 2 + d.size := by omega
    clear hC
    go_wp2_with fail
    go_ret
    exact ⟨bw.tr b2, _, rfl, by simp [ByteArray.data_append, hd]⟩

set_option maxHeartbeats 4000000 in
set_option maxRecDepth 100000 in
theorem rtext_and (x y : BT Pay) (ihx : TextOK x) (ihy : TextOK y) (gx : Good x) (gy : Good y) (B X : Nat) (w : World) (a : Pay) (pl pr : Option Addr) (hX : XAt X w (kindB a.op) a.name a.lo a.hi (.pointer pl) (.pointer pr)) (hl : RefAt B w x (.pointer pl)) (hr : RefAt B w y (.pointer pr)) (hop : a.op = 8743) (hlo : 0 ≤ a.lo ∧ a.lo ≤ 1000000) (hhi : 0 ≤ a.hi ∧ a.hi ≤ 1000000) (hlen : (printB x).length + (printB y).length ≤ 100000000) :
    Calls Tryz.prog 145 #[.pointer (some ⟨X, 0, none⟩)] w fun e w' => Below w.heap.size w w' ∧ ∃ d, e = .returned (.string d) ∧ d.data.toList = [40] ++ printB x ++ [32, 226, 136, 167, 32] ++ printB y ++ [41] := by
  obtain ⟨⟨x0, x1, x2, x3, x4, x5⟩, _⟩ := hX.facts
  have hXk : Hid (∀ W, Below w.heap.size w W → XAt X W (kindB a.op) a.name a.lo a.hi (.pointer pl) (.pointer pr)) := fun W h => h.heapOf hX
  have hXb : Hid (∀ W, Below w.heap.size w W → W.cell? ⟨X, 2, none⟩ = some (.int .i64 a.lo) ∧ W.cell? ⟨X, 3, none⟩ = some (.int .i64 a.hi) ∧ Below w.heap.size w W) := fun W h => by
    obtain ⟨⟨_, _, y2, y3, _⟩, _⟩ := (hXk.out W h).facts
    exact ⟨y2, y3, h⟩
  have dA : Hid (∀ W, Calls Tryz.prog 182 #[.int .i64 a.lo] W fun e w' => Below W.heap.size W w' ∧ ∃ d, e = .returned (.string d) ∧ d.data.toList = Lib.itoa a.lo) := fun W => by
    have := rdigits_any a.lo.toNat W (by omega)
    rwa [show ((a.lo.toNat : Nat) : Int) = a.lo by omega, ← itoa_nat _ hlo.1] at this
  have dB : Hid (∀ W, Calls Tryz.prog 182 #[.int .i64 a.hi] W fun e w' => Below W.heap.size W w' ∧ ∃ d, e = .returned (.string d) ∧ d.data.toList = Lib.itoa a.hi) := fun W => by
    have := rdigits_any a.hi.toNat W (by omega)
    rwa [show ((a.hi.toNat : Nat) : Int) = a.hi by omega, ← itoa_nat _ hhi.1] at this
  have la := itoa_len a.lo hlo.1 hlo.2
  have lb := itoa_len a.hi hhi.1 hhi.2
  go_enter Tryz.func145, Tryz.ntmps145
  go_upto_region 1 with fail
  go_cut [3] from 4 (fun v wx => (∃ d, v = .string d ∧ d.data.toList = winD a) ∧ Below w.heap.size w wx)
  case first =>
    go_region_held3 (fun w' => w'.cell? ⟨X, 2, none⟩ = some (.int .i64 a.lo) ∧ w'.cell? ⟨X, 3, none⟩ = some (.int .i64 a.hi) ∧ Below w.heap.size w w')
      ((refine hXb.out _ ?_; (repeat (with_reducible (first | exact Below.refl _ _ | refine Below.drew ?_ | refine Below.tr ?_ bA | refine Below.tr ?_ bB)))))
      (first
        | (go_at_call_of 182 (Value.int IntKind.i64 a.lo); refine (dA.out _).mono ?_; rintro e wA ⟨bA, da, rfl, ha⟩; have za : da.size ≤ 7 := (by rw [size_of ha]; exact la); have n1 : ¬ 9223372036854775807 < 1 + da.size := (by omega); have n2 : ¬ 9223372036854775807 < 1 + da.size + 1 := (by omega); (try have n3 : ¬ 9223372036854775807 < 1 + da.size + 1 + db.size := (by omega)); (try have n4 : ¬ 9223372036854775807 < 1 + da.size + 1 + db.size + 1 := (by omega)))
        | (go_at_call_of 182 (Value.int IntKind.i64 a.hi); refine (dB.out _).mono ?_; rintro e wB ⟨bB, db, rfl, hb⟩; have zb : db.size ≤ 7 := (by rw [size_of hb]; exact lb); (try have n3 : ¬ 9223372036854775807 < 1 + da.size + 1 + db.size := (by omega)); (try have n4 : ¬ 9223372036854775807 < 1 + da.size + 1 + db.size + 1 := (by omega))))
    all_goals go_wp2_with fail
    all_goals go_meet
    all_goals exact ⟨⟨_, rfl, by simp [ByteArray.data_append, ha, hb, winD]⟩, by repeat (with_reducible (first | exact Below.refl _ _ | refine Below.drew ?_ | refine Below.tr ?_ bA | refine Below.tr ?_ bB))⟩
  case rest =>
    obtain ⟨⟨dw, rfl, hdw⟩, bw⟩ := hcut
    clear dA dB hXb
    have hX1 := hXk.out _ bw
    clear x0 x1 x2 x3 x4 x5
    obtain ⟨⟨x0, x1, x2, x3, x4, x5⟩, _⟩ := hX1.facts
    have zw : dw.size ≤ 17 := by rw [size_of hdw]; simp [winD]; omega
    have hk : kindB a.op = 38 := by rw [hop]; rfl
    rw [hk] at x0
    have hC : Hid (∀ W, Below w.heap.size w W → _) := fun W hW => ihx (.pointer pl) B W (hl.below hW) gx (by omega)
    have hD : Hid (∀ W, Below w.heap.size w W → _) := fun W hW => ihy (.pointer pr) B W (hr.below hW) gy (by omega)
    have hXc : Hid (∀ W, Below w.heap.size w W → W.cell? ⟨X, 4, none⟩ = some (.pointer pl) ∧ W.cell? ⟨X, 5, none⟩ = some (.pointer pr) ∧ Below w.heap.size w W) := fun W h => by
      obtain ⟨⟨_, _, _, _, y4, y5⟩, _⟩ := (hXk.out W h).facts
      exact ⟨y4, y5, h⟩
    go_wp2_with fail
    go_region_held3 (fun w' => w'.cell? ⟨X, 4, none⟩ = some (.pointer pl) ∧ w'.cell? ⟨X, 5, none⟩ = some (.pointer pr) ∧ Below w.heap.size w w')
      ((refine hXc.out _ ?_; (repeat (with_reducible (first | exact bw | refine Below.drew ?_ | refine Below.tr ?_ bA | refine Below.tr ?_ bB)))))
      (first
        | (go_at_call_of 145 (Value.pointer pl); refine (hC.out _ ?_).mono ?_; (repeat (with_reducible (first | exact bw | refine Below.drew ?_ | refine Below.tr ?_ bB))); rintro e wA ⟨bA, da, rfl, ha⟩; have za : da.size ≤ 100000000 := (by rw [size_of ha]; omega); have n1 : ¬ 9223372036854775807 < 1 + da.size := (by omega); have n2 : ¬ 9223372036854775807 < 1 + da.size + 5 := (by omega); (try have n3 : ¬ 9223372036854775807 < 1 + da.size + 5 + db.size := (by omega)); (try have n4 : ¬ 9223372036854775807 < 1 + da.size + 5 + db.size + 1 := (by omega)))
        | (go_at_call_of 145 (Value.pointer pr); refine (hD.out _ ?_).mono ?_; (repeat (with_reducible (first | exact bw | refine Below.drew ?_ | refine Below.tr ?_ bA))); rintro e wB ⟨bB, db, rfl, hb⟩; have zb : db.size ≤ 100000000 := (by rw [size_of hb]; omega); (try have n3 : ¬ 9223372036854775807 < 1 + da.size + 5 + db.size := (by omega)); (try have n4 : ¬ 9223372036854775807 < 1 + da.size + 5 + db.size + 1 := (by omega))))
    all_goals go_wp2_with fail
    all_goals go_ret
    all_goals exact ⟨by repeat (with_reducible (first | exact bw | refine Below.drew ?_ | refine Below.tr ?_ bA | refine Below.tr ?_ bB)), _, rfl, by simp [ByteArray.data_append, ha, hb]⟩

set_option maxHeartbeats 4000000 in
set_option maxRecDepth 100000 in
theorem rtext_or (x y : BT Pay) (ihx : TextOK x) (ihy : TextOK y) (gx : Good x) (gy : Good y) (B X : Nat) (w : World) (a : Pay) (pl pr : Option Addr) (hX : XAt X w (kindB a.op) a.name a.lo a.hi (.pointer pl) (.pointer pr)) (hl : RefAt B w x (.pointer pl)) (hr : RefAt B w y (.pointer pr)) (hop : a.op = 8744) (hlo : 0 ≤ a.lo ∧ a.lo ≤ 1000000) (hhi : 0 ≤ a.hi ∧ a.hi ≤ 1000000) (hlen : (printB x).length + (printB y).length ≤ 100000000) :
    Calls Tryz.prog 145 #[.pointer (some ⟨X, 0, none⟩)] w fun e w' => Below w.heap.size w w' ∧ ∃ d, e = .returned (.string d) ∧ d.data.toList = [40] ++ printB x ++ [32, 226, 136, 168, 32] ++ printB y ++ [41] := by
  obtain ⟨⟨x0, x1, x2, x3, x4, x5⟩, _⟩ := hX.facts
  have hXk : Hid (∀ W, Below w.heap.size w W → XAt X W (kindB a.op) a.name a.lo a.hi (.pointer pl) (.pointer pr)) := fun W h => h.heapOf hX
  have hXb : Hid (∀ W, Below w.heap.size w W → W.cell? ⟨X, 2, none⟩ = some (.int .i64 a.lo) ∧ W.cell? ⟨X, 3, none⟩ = some (.int .i64 a.hi) ∧ Below w.heap.size w W) := fun W h => by
    obtain ⟨⟨_, _, y2, y3, _⟩, _⟩ := (hXk.out W h).facts
    exact ⟨y2, y3, h⟩
  have dA : Hid (∀ W, Calls Tryz.prog 182 #[.int .i64 a.lo] W fun e w' => Below W.heap.size W w' ∧ ∃ d, e = .returned (.string d) ∧ d.data.toList = Lib.itoa a.lo) := fun W => by
    have := rdigits_any a.lo.toNat W (by omega)
    rwa [show ((a.lo.toNat : Nat) : Int) = a.lo by omega, ← itoa_nat _ hlo.1] at this
  have dB : Hid (∀ W, Calls Tryz.prog 182 #[.int .i64 a.hi] W fun e w' => Below W.heap.size W w' ∧ ∃ d, e = .returned (.string d) ∧ d.data.toList = Lib.itoa a.hi) := fun W => by
    have := rdigits_any a.hi.toNat W (by omega)
    rwa [show ((a.hi.toNat : Nat) : Int) = a.hi by omega, ← itoa_nat _ hhi.1] at this
  have la := itoa_len a.lo hlo.1 hlo.2
  have lb := itoa_len a.hi hhi.1 hhi.2
  go_enter Tryz.func145, Tryz.ntmps145
  go_upto_region 1 with fail
  go_cut [3] from 4 (fun v wx => (∃ d, v = .string d ∧ d.data.toList = winD a) ∧ Below w.heap.size w wx)
  case first =>
    go_region_held3 (fun w' => w'.cell? ⟨X, 2, none⟩ = some (.int .i64 a.lo) ∧ w'.cell? ⟨X, 3, none⟩ = some (.int .i64 a.hi) ∧ Below w.heap.size w w')
      ((refine hXb.out _ ?_; (repeat (with_reducible (first | exact Below.refl _ _ | refine Below.drew ?_ | refine Below.tr ?_ bA | refine Below.tr ?_ bB)))))
      (first
        | (go_at_call_of 182 (Value.int IntKind.i64 a.lo); refine (dA.out _).mono ?_; rintro e wA ⟨bA, da, rfl, ha⟩; have za : da.size ≤ 7 := (by rw [size_of ha]; exact la); have n1 : ¬ 9223372036854775807 < 1 + da.size := (by omega); have n2 : ¬ 9223372036854775807 < 1 + da.size + 1 := (by omega); (try have n3 : ¬ 9223372036854775807 < 1 + da.size + 1 + db.size := (by omega)); (try have n4 : ¬ 9223372036854775807 < 1 + da.size + 1 + db.size + 1 := (by omega)))
        | (go_at_call_of 182 (Value.int IntKind.i64 a.hi); refine (dB.out _).mono ?_; rintro e wB ⟨bB, db, rfl, hb⟩; have zb : db.size ≤ 7 := (by rw [size_of hb]; exact lb); (try have n3 : ¬ 9223372036854775807 < 1 + da.size + 1 + db.size := (by omega)); (try have n4 : ¬ 9223372036854775807 < 1 + da.size + 1 + db.size + 1 := (by omega))))
    all_goals go_wp2_with fail
    all_goals go_meet
    all_goals exact ⟨⟨_, rfl, by simp [ByteArray.data_append, ha, hb, winD]⟩, by repeat (with_reducible (first | exact Below.refl _ _ | refine Below.drew ?_ | refine Below.tr ?_ bA | refine Below.tr ?_ bB))⟩
  case rest =>
    obtain ⟨⟨dw, rfl, hdw⟩, bw⟩ := hcut
    clear dA dB hXb
    have hX1 := hXk.out _ bw
    clear x0 x1 x2 x3 x4 x5
    obtain ⟨⟨x0, x1, x2, x3, x4, x5⟩, _⟩ := hX1.facts
    have zw : dw.size ≤ 17 := by rw [size_of hdw]; simp [winD]; omega
    have hk : kindB a.op = 124 := by rw [hop]; rfl
    rw [hk] at x0
    have hC : Hid (∀ W, Below w.heap.size w W → _) := fun W hW => ihx (.pointer pl) B W (hl.below hW) gx (by omega)
    have hD : Hid (∀ W, Below w.heap.size w W → _) := fun W hW => ihy (.pointer pr) B W (hr.below hW) gy (by omega)
    have hXc : Hid (∀ W, Below w.heap.size w W → W.cell? ⟨X, 4, none⟩ = some (.pointer pl) ∧ W.cell? ⟨X, 5, none⟩ = some (.pointer pr) ∧ Below w.heap.size w W) := fun W h => by
      obtain ⟨⟨_, _, _, _, y4, y5⟩, _⟩ := (hXk.out W h).facts
      exact ⟨y4, y5, h⟩
    go_wp2_with fail
    go_region_held3 (fun w' => w'.cell? ⟨X, 4, none⟩ = some (.pointer pl) ∧ w'.cell? ⟨X, 5, none⟩ = some (.pointer pr) ∧ Below w.heap.size w w')
      ((refine hXc.out _ ?_; (repeat (with_reducible (first | exact bw | refine Below.drew ?_ | refine Below.tr ?_ bA | refine Below.tr ?_ bB)))))
      (first
        | (go_at_call_of 145 (Value.pointer pl); refine (hC.out _ ?_).mono ?_; (repeat (with_reducible (first | exact bw | refine Below.drew ?_ | refine Below.tr ?_ bB))); rintro e wA ⟨bA, da, rfl, ha⟩; have za : da.size ≤ 100000000 := (by rw [size_of ha]; omega); have n1 : ¬ 9223372036854775807 < 1 + da.size := (by omega); have n2 : ¬ 9223372036854775807 < 1 + da.size + 5 := (by omega); (try have n3 : ¬ 9223372036854775807 < 1 + da.size + 5 + db.size := (by omega)); (try have n4 : ¬ 9223372036854775807 < 1 + da.size + 5 + db.size + 1 := (by omega)))
        | (go_at_call_of 145 (Value.pointer pr); refine (hD.out _ ?_).mono ?_; (repeat (with_reducible (first | exact bw | refine Below.drew ?_ | refine Below.tr ?_ bA))); rintro e wB ⟨bB, db, rfl, hb⟩; have zb : db.size ≤ 100000000 := (by rw [size_of hb]; omega); (try have n3 : ¬ 9223372036854775807 < 1 + da.size + 5 + db.size := (by omega)); (try have n4 : ¬ 9223372036854775807 < 1 + da.size + 5 + db.size + 1 := (by omega))))
    all_goals go_wp2_with fail
    all_goals go_ret
    all_goals exact ⟨by repeat (with_reducible (first | exact bw | refine Below.drew ?_ | refine Below.tr ?_ bA | refine Below.tr ?_ bB)), _, rfl, by simp [ByteArray.data_append, ha, hb]⟩

set_option maxHeartbeats 4000000 in
set_option maxRecDepth 100000 in
theorem rtext_since (x y : BT Pay) (ihx : TextOK x) (ihy : TextOK y) (gx : Good x) (gy : Good y) (B X : Nat) (w : World) (a : Pay) (pl pr : Option Addr) (hX : XAt X w (kindB a.op) a.name a.lo a.hi (.pointer pl) (.pointer pr)) (hl : RefAt B w x (.pointer pl)) (hr : RefAt B w y (.pointer pr)) (hop : a.op = 83) (hlo : 0 ≤ a.lo ∧ a.lo ≤ 1000000) (hhi : 0 ≤ a.hi ∧ a.hi ≤ 1000000) (hlen : (printB x).length + (printB y).length ≤ 100000000) :
    Calls Tryz.prog 145 #[.pointer (some ⟨X, 0, none⟩)] w fun e w' => Below w.heap.size w w' ∧ ∃ d, e = .returned (.string d) ∧ d.data.toList = [40] ++ printB x ++ [32, 83] ++ winD a ++ [32] ++ printB y ++ [41] := by
  obtain ⟨⟨x0, x1, x2, x3, x4, x5⟩, _⟩ := hX.facts
  have hXk : Hid (∀ W, Below w.heap.size w W → XAt X W (kindB a.op) a.name a.lo a.hi (.pointer pl) (.pointer pr)) := fun W h => h.heapOf hX
  have hXb : Hid (∀ W, Below w.heap.size w W → W.cell? ⟨X, 2, none⟩ = some (.int .i64 a.lo) ∧ W.cell? ⟨X, 3, none⟩ = some (.int .i64 a.hi) ∧ Below w.heap.size w W) := fun W h => by
    obtain ⟨⟨_, _, y2, y3, _⟩, _⟩ := (hXk.out W h).facts
    exact ⟨y2, y3, h⟩
  have dA : Hid (∀ W, Calls Tryz.prog 182 #[.int .i64 a.lo] W fun e w' => Below W.heap.size W w' ∧ ∃ d, e = .returned (.string d) ∧ d.data.toList = Lib.itoa a.lo) := fun W => by
    have := rdigits_any a.lo.toNat W (by omega)
    rwa [show ((a.lo.toNat : Nat) : Int) = a.lo by omega, ← itoa_nat _ hlo.1] at this
  have dB : Hid (∀ W, Calls Tryz.prog 182 #[.int .i64 a.hi] W fun e w' => Below W.heap.size W w' ∧ ∃ d, e = .returned (.string d) ∧ d.data.toList = Lib.itoa a.hi) := fun W => by
    have := rdigits_any a.hi.toNat W (by omega)
    rwa [show ((a.hi.toNat : Nat) : Int) = a.hi by omega, ← itoa_nat _ hhi.1] at this
  have la := itoa_len a.lo hlo.1 hlo.2
  have lb := itoa_len a.hi hhi.1 hhi.2
  go_enter Tryz.func145, Tryz.ntmps145
  go_upto_region 1 with fail
  go_cut [3] from 4 (fun v wx => (∃ d, v = .string d ∧ d.data.toList = winD a) ∧ Below w.heap.size w wx)
  case first =>
    go_region_held3 (fun w' => w'.cell? ⟨X, 2, none⟩ = some (.int .i64 a.lo) ∧ w'.cell? ⟨X, 3, none⟩ = some (.int .i64 a.hi) ∧ Below w.heap.size w w')
      ((refine hXb.out _ ?_; (repeat (with_reducible (first | exact Below.refl _ _ | refine Below.drew ?_ | refine Below.tr ?_ bA | refine Below.tr ?_ bB)))))
      (first
        | (go_at_call_of 182 (Value.int IntKind.i64 a.lo); refine (dA.out _).mono ?_; rintro e wA ⟨bA, da, rfl, ha⟩; have za : da.size ≤ 7 := (by rw [size_of ha]; exact la); have n1 : ¬ 9223372036854775807 < 1 + da.size := (by omega); have n2 : ¬ 9223372036854775807 < 1 + da.size + 1 := (by omega); (try have n3 : ¬ 9223372036854775807 < 1 + da.size + 1 + db.size := (by omega)); (try have n4 : ¬ 9223372036854775807 < 1 + da.size + 1 + db.size + 1 := (by omega)))
        | (go_at_call_of 182 (Value.int IntKind.i64 a.hi); refine (dB.out _).mono ?_; rintro e wB ⟨bB, db, rfl, hb⟩; have zb : db.size ≤ 7 := (by rw [size_of hb]; exact lb); (try have n3 : ¬ 9223372036854775807 < 1 + da.size + 1 + db.size := (by omega)); (try have n4 : ¬ 9223372036854775807 < 1 + da.size + 1 + db.size + 1 := (by omega))))
    all_goals go_wp2_with fail
    all_goals go_meet
    all_goals exact ⟨⟨_, rfl, by simp [ByteArray.data_append, ha, hb, winD]⟩, by repeat (with_reducible (first | exact Below.refl _ _ | refine Below.drew ?_ | refine Below.tr ?_ bA | refine Below.tr ?_ bB))⟩
  case rest =>
    obtain ⟨⟨dw, rfl, hdw⟩, bw⟩ := hcut
    clear dA dB hXb
    have hX1 := hXk.out _ bw
    clear x0 x1 x2 x3 x4 x5
    obtain ⟨⟨x0, x1, x2, x3, x4, x5⟩, _⟩ := hX1.facts
    have zw : dw.size ≤ 17 := by rw [size_of hdw]; simp [winD]; omega
    have hk : kindB a.op = 83 := by rw [hop]; rfl
    rw [hk] at x0
    have hC : Hid (∀ W, Below w.heap.size w W → _) := fun W hW => ihx (.pointer pl) B W (hl.below hW) gx (by omega)
    have hD : Hid (∀ W, Below w.heap.size w W → _) := fun W hW => ihy (.pointer pr) B W (hr.below hW) gy (by omega)
    have hXc : Hid (∀ W, Below w.heap.size w W → W.cell? ⟨X, 4, none⟩ = some (.pointer pl) ∧ W.cell? ⟨X, 5, none⟩ = some (.pointer pr) ∧ Below w.heap.size w W) := fun W h => by
      obtain ⟨⟨_, _, _, _, y4, y5⟩, _⟩ := (hXk.out W h).facts
      exact ⟨y4, y5, h⟩
    go_wp2_with fail
    go_region_held3 (fun w' => w'.cell? ⟨X, 4, none⟩ = some (.pointer pl) ∧ w'.cell? ⟨X, 5, none⟩ = some (.pointer pr) ∧ Below w.heap.size w w')
      ((refine hXc.out _ ?_; (repeat (with_reducible (first | exact bw | refine Below.drew ?_ | refine Below.tr ?_ bA | refine Below.tr ?_ bB)))))
      (first
        | (go_at_call_of 145 (Value.pointer pl); refine (hC.out _ ?_).mono ?_; (repeat (with_reducible (first | exact bw | refine Below.drew ?_ | refine Below.tr ?_ bB))); rintro e wA ⟨bA, da, rfl, ha⟩; have za : da.size ≤ 100000000 := (by rw [size_of ha]; omega); have n1 : ¬ 9223372036854775807 < 1 + da.size := (by omega); have n2 : ¬ 9223372036854775807 < 1 + da.size + 2 := (by omega); have n3 : ¬ 9223372036854775807 < 1 + da.size + 2 + dw.size := (by omega); have n4 : ¬ 9223372036854775807 < 1 + da.size + 2 + dw.size + 1 := (by omega); (try have n5 : ¬ 9223372036854775807 < 1 + da.size + 2 + dw.size + 1 + db.size := (by omega)); (try have n6 : ¬ 9223372036854775807 < 1 + da.size + 2 + dw.size + 1 + db.size + 1 := (by omega)))
        | (go_at_call_of 145 (Value.pointer pr); refine (hD.out _ ?_).mono ?_; (repeat (with_reducible (first | exact bw | refine Below.drew ?_ | refine Below.tr ?_ bA))); rintro e wB ⟨bB, db, rfl, hb⟩; have zb : db.size ≤ 100000000 := (by rw [size_of hb]; omega); (try have n5 : ¬ 9223372036854775807 < 1 + da.size + 2 + dw.size + 1 + db.size := (by omega)); (try have n6 : ¬ 9223372036854775807 < 1 + da.size + 2 + dw.size + 1 + db.size + 1 := (by omega))))
    all_goals go_wp2_with fail
    all_goals go_ret
    all_goals exact ⟨by repeat (with_reducible (first | exact bw | refine Below.drew ?_ | refine Below.tr ?_ bA | refine Below.tr ?_ bB)), _, rfl, by simp [ByteArray.data_append, ha, hb, hdw]⟩

end Go.Proofs.YtpbbmagjhkakgaaGreatDoor
