/-
  What the given reader's sentence does, its simple ways: a text that is bad already, one that is at its end, one sign and a sentence; for every place in a text; no condition but those that stand in each theorem.
-/
/-
  What the given reader's sentence does: a sign with a window, a pair in brackets, a word; so at every text; no condition but those that stand in each theorem.
-/
import Derived.Test.YtpbbmagjhkakgaaGreatDoorRWordToRNumber
namespace Go.Proofs.YtpbbmagjhkakgaaGreatDoor
open Go.RowKit Go.Deep

theorem skip_len (u : List UInt8) : (skipR u).length ≤ u.length := by
  cases u with
  | nil => exact Nat.le_refl _
  | cons c r =>
    by_cases h : c = 32
    · have e : skipR (c :: r) = r := if_pos h
      rw [e]; simp
    · have e : skipR (c :: r) = c :: r := if_neg h
      rw [e]; exact Nat.le_refl _

theorem skip_ne (c : UInt8) (r : List UInt8) (h : c ≠ 32) : skipR (c :: r) = c :: r := if_neg h

theorem expect_len {c : UInt8} {u t : List UInt8} (h : expectR c u = some t) : t.length < u.length := by
  have hl := skip_len u
  cases hs : skipR u with
  | nil => rw [expect_nil hs] at h; cases h
  | cons d r =>
    rw [expect_cons hs] at h
    rw [hs] at hl
    split at h
    · injection h with h
      subst h
      simp at hl
      omega
    · cases h

theorem num_len {u t : List UInt8} {n : Int} (h : numAtR u = some (n, t)) : t.length ≤ u.length := by
  rw [num_at] at h
  cases hn : numR ((skipR u).takeWhile (pB 48 57)) with
  | none => rw [hn] at h; cases h
  | some v =>
    rw [hn] at h
    simp at h
    rw [← h.2]
    exact Nat.le_trans (List.dropWhile_sublist _).length_le (skip_len u)

theorem window_len {op : Int} {u t : List UInt8} {ab : Int × Int} (h : windowR op u = some (ab, t)) : t.length ≤ u.length := by
  by_cases hw : winB op = true
  · cases h1 : expectR 91 u with
    | none => rw [window_none1 hw h1] at h; cases h
    | some t1 =>
      rw [window_at hw h1] at h
      have l1 := expect_len h1
      cases h2 : numAtR t1 with
      | none => rw [h2] at h; cases h
      | some p2 =>
        obtain ⟨a, t2⟩ := p2
        rw [h2] at h
        simp only at h
        have l2 := num_len h2
        cases h3 : expectR 44 t2 with
        | none => rw [h3] at h; cases h
        | some t3 =>
          rw [h3] at h
          simp only at h
          have l3 := expect_len h3
          cases h4 : numAtR t3 with
          | none => rw [h4] at h; cases h
          | some p4 =>
            obtain ⟨b, t4⟩ := p4
            rw [h4] at h
            simp only at h
            have l4 := num_len h4
            cases h5 : expectR 93 t4 with
            | none => rw [h5] at h; cases h
            | some t5 =>
              rw [h5] at h
              simp only at h
              have l5 := expect_len h5
              split at h
              · cases h
              · simp at h
                rw [← h.2]
                omega
  · unfold windowR at h
    rw [if_neg hw] at h
    simp at h
    rw [← h.2]
    exact Nat.le_refl _

/-- The given reader's byte for a sign. -/
def kindB (op : Int) : Int := if op = 172 then 33 else if op = 8743 then 38 else if op = 8744 then 124 else op

/-- The value v points to the sentence, as the given reader makes them, in w; its blocks lie from B on. -/
def RefAt (B : Nat) (w : World) : BT Pay → Value → Prop
  | .nil, v => v = .pointer none
  | .node _ _ a l r, v => ∃ b vl vr, v = .pointer (some ⟨b, 0, none⟩) ∧ B ≤ b ∧ w.heap[b]? = some (.cells #[.int .u8 (kindB a.op), .string a.name, .int .i64 a.lo, .int .i64 a.hi, vl, vr] 252 (0, 0)) ∧ RefAt B w l vl ∧ RefAt B w r vr

theorem RefAt.heap {B : Nat} {w w' : World} (hh : ∀ k o, B ≤ k → w.heap[k]? = some o → w'.heap[k]? = some o) : ∀ {x : BT Pay} {v : Value}, RefAt B w x v → RefAt B w' x v
  | .nil, _, h => h
  | .node _ _ _ l r, _, ⟨b, vl, vr, e, hb, hc, hl, hr⟩ => ⟨b, vl, vr, e, hb, hh b _ hb hc, RefAt.heap hh (x := l) hl, RefAt.heap hh (x := r) hr⟩

theorem RefAt.only {B s : Nat} {w w' : World} {x : BT Pay} {v : Value} (h : RefAt B w x v) (ho : Only s w w') (hs : s < B) : RefAt B w' x v :=
  RefAt.heap (fun k o hk hc => ho.heap hc (by omega)) h

theorem RefAt.below {B : Nat} {w w' : World} {x : BT Pay} {v : Value} (h : RefAt B w x v) (hb : Below w.heap.size w w') : RefAt B w' x v :=
  RefAt.heap (fun _ _ _ hc => Below.heapOf hb hc) h

theorem RefAt.low {B B' : Nat} {w : World} (hB : B' ≤ B) : ∀ {x : BT Pay} {v : Value}, RefAt B w x v → RefAt B' w x v
  | .nil, _, h => h
  | .node _ _ _ l r, _, ⟨b, vl, vr, e, hb, hc, hl, hr⟩ => ⟨b, vl, vr, e, Nat.le_trans hB hb, hc, RefAt.low hB (x := l) hl, RefAt.low hB (x := r) hr⟩

theorem RefAt.setNew {B : Nat} {w : World} {x : BT Pay} {v : Value} (h : RefAt B w x v) {p : Addr} (hp : p.block < B) (u : Value) : RefAt B (w.setCell p u) x v :=
  RefAt.heap (fun k o hk hc => by rw [Below.heap_setCell _ _ _ _ (by omega)]; exact hc) h

theorem ref_ptr {B : Nat} {w : World} {x : BT Pay} {v : Value} (h : RefAt B w x v) : ∃ vv, v = Value.pointer vv := by
  cases x with
  | nil => exact ⟨_, h⟩
  | node _ _ _ _ _ => obtain ⟨b, _, _, hb, _⟩ := h; exact ⟨_, hb⟩

/-- A sentence under way, in block X. -/
def XAt (X : Nat) (w : World) (k : Int) (nm : ByteArray) (a b : Int) (p q : Value) : Prop := w.heap[X]? = some (.cells #[.int .u8 k, .string nm, .int .i64 a, .int .i64 b, p, q] 252 (0, 0))

theorem XAt.k {X : Nat} {w : World} {k a b : Int} {nm : ByteArray} {p q : Value} (h : XAt X w k nm a b p q) (k' : Int) : XAt X (w.setCell ⟨X, 0, none⟩ (.int .u8 k')) k' nm a b p q := by
  unfold XAt at *; simp [World.setCell, Array.getElem?_modify, h]
theorem XAt.nm {X : Nat} {w : World} {k a b : Int} {nm : ByteArray} {p q : Value} (h : XAt X w k nm a b p q) (nm' : ByteArray) : XAt X (w.setCell ⟨X, 1, none⟩ (.string nm')) k nm' a b p q := by
  unfold XAt at *; simp [World.setCell, Array.getElem?_modify, h]
theorem XAt.ab {X : Nat} {w : World} {k a b : Int} {nm : ByteArray} {p q : Value} (h : XAt X w k nm a b p q) (a' b' : Int) : XAt X ((w.setCell ⟨X, 2, none⟩ (.int .i64 a')).setCell ⟨X, 3, none⟩ (.int .i64 b')) k nm a' b' p q := by
  unfold XAt at *; simp [World.setCell, Array.getElem?_modify, h]
theorem XAt.p {X : Nat} {w : World} {k a b : Int} {nm : ByteArray} {p q : Value} (h : XAt X w k nm a b p q) (p' : Value) : XAt X (w.setCell ⟨X, 4, none⟩ p') k nm a b p' q := by
  unfold XAt at *; simp [World.setCell, Array.getElem?_modify, h]
theorem XAt.q {X : Nat} {w : World} {k a b : Int} {nm : ByteArray} {p q : Value} (h : XAt X w k nm a b p q) (q' : Value) : XAt X (w.setCell ⟨X, 5, none⟩ q') k nm a b p q' := by
  unfold XAt at *; simp [World.setCell, Array.getElem?_modify, h]
theorem XAt.only {X s : Nat} {w w' : World} {k a b : Int} {nm : ByteArray} {p q : Value} (h : XAt X w k nm a b p q) (ho : Only s w w') (hs : X ≠ s) : XAt X w' k nm a b p q := ho.heap h hs

theorem XAt.facts {X : Nat} {w : World} {k a b : Int} {nm : ByteArray} {p q : Value} (h : XAt X w k nm a b p q) : (w.cell? ⟨X, 0, none⟩ = some (.int .u8 k) ∧ w.cell? ⟨X, 1, none⟩ = some (.string nm) ∧ w.cell? ⟨X, 2, none⟩ = some (.int .i64 a) ∧ w.cell? ⟨X, 3, none⟩ = some (.int .i64 b) ∧ w.cell? ⟨X, 4, none⟩ = some p ∧ w.cell? ⟨X, 5, none⟩ = some q)
    ∧ (w.frozen? ⟨X, 0, none⟩ = false ∧ w.frozen? ⟨X, 1, none⟩ = false ∧ w.frozen? ⟨X, 2, none⟩ = false ∧ w.frozen? ⟨X, 3, none⟩ = false ∧ w.frozen? ⟨X, 4, none⟩ = false ∧ w.frozen? ⟨X, 5, none⟩ = false) :=
  ⟨⟨cell_at h rfl, cell_at h rfl, cell_at h rfl, cell_at h rfl, cell_at h rfl, cell_at h rfl⟩, ⟨Lib.frozen_of_heap h 0, Lib.frozen_of_heap h 1, Lib.frozen_of_heap h 2, Lib.frozen_of_heap h 3, Lib.frozen_of_heap h 4, Lib.frozen_of_heap h 5⟩⟩

theorem ref_mk {B X : Nat} {w : World} {op lo hi : Int} {k : Int} {nm : ByteArray} {l r : BT Pay} {vl vr : Value} (h : XAt X w k nm lo hi vl vr) (hk : k = kindB op) (hB : B ≤ X) (hl : RefAt B w l vl) (hr : RefAt B w r vr) : RefAt B w (mk op nm lo hi l r) (.pointer (some ⟨X, 0, none⟩)) := by
  subst hk
  exact ⟨X, vl, vr, rfl, hB, h, hl, hr⟩

theorem ScAt.lt {rb i : Nat} {w : World} {s : ByteArray} {bad : Bool} (h : ScAt rb w s i bad) : rb < w.heap.size := heap_lt h
theorem ScAt.alloc {rb i : Nat} {w : World} {s : ByteArray} {bad : Bool} (h : ScAt rb w s i bad) (o : Obj) : ScAt rb (w.alloc o) s i bad := by
  unfold ScAt at *
  rw [Below.heap_alloc _ _ _ (heap_lt h)]
  exact h
theorem ScAt.setX {rb i : Nat} {w : World} {s : ByteArray} {bad : Bool} (h : ScAt rb w s i bad) {p : Addr} (hp : p.block ≠ rb) (u : Value) : ScAt rb (w.setCell p u) s i bad := by
  unfold ScAt at *
  rw [Below.heap_setCell _ _ _ _ (fun e => hp e.symm)]
  exact h

/-- How sentence ends. -/
def SEnd (s : ByteArray) (rb B : Nat) (bad : Bool) (res : Option (BT Pay × List UInt8)) (e : Ending) (w' : World) : Prop :=
  ∃ j p bad', j ≤ s.size ∧ ScAt rb w' s j bad' ∧ e = .returned (.pointer p) ∧ ((bad = false ∧ bad' = false ∧ ∃ x t, res = some (x, t) ∧ At s j t ∧ RefAt B w' x (.pointer p)) ∨ (bad' = true ∧ (bad = true ∨ res = none)))

set_option maxHeartbeats 2000000 in
set_option maxRecDepth 100000 in
/-- A text that is bad already. -/
theorem rsent_bad (rb i : Nat) (s : ByteArray) (u : List UInt8) (res : Option (BT Pay × List UInt8)) (w : World) (h : ScAt rb w s i true) (hs : s.size ≤ 1000000) (hi : i ≤ s.size) (hu : At s i u) :
    Calls Tryz.prog 179 #[.pointer (some ⟨rb, 0, none⟩)] w fun e w' => Only rb w w' ∧ SEnd s rb w.heap.size true res e w' := by
  have hlk := rlook_any rb i s true u w h hs hi hu
  have hv : lookV true (skipR u) = 0 := by cases skipR u <;> rfl
  rw [hv] at hlk
  go_enter Tryz.func179, Tryz.ntmps179
  go_wp2_with fail
  refine hlk.mono ?_
  rintro e w1 ⟨ho, rfl, j, hj, ha, h1⟩
  have c2 : w1.cell? ⟨rb, 2, none⟩ = some (.bool true) := cell_at h1 rfl
  have f2 : w1.frozen? ⟨rb, 2, none⟩ = false := Lib.frozen_of_heap h1 2
  have hlt := h1.lt
  have hne : rb ≠ w1.heap.size := by omega
  clear hlk
  go_wp2_with fail
  go_ret
  exact ⟨(ho.setCell (p := ⟨rb, 2, none⟩) (.inl rfl) _).alloc _, j, _, true, hj, (set_bad h1).alloc _, rfl, .inr ⟨rfl, .inl rfl⟩⟩

set_option maxHeartbeats 2000000 in
set_option maxRecDepth 100000 in
/-- The text is at its end. -/
theorem rsent_nil (rb i : Nat) (s : ByteArray) (u : List UInt8) (res : Option (BT Pay × List UInt8)) (w : World) (h : ScAt rb w s i false) (hs : s.size ≤ 1000000) (hi : i ≤ s.size) (hu : At s i u) (hn : skipR u = []) (hres : res = none) :
    Calls Tryz.prog 179 #[.pointer (some ⟨rb, 0, none⟩)] w fun e w' => Only rb w w' ∧ SEnd s rb w.heap.size false res e w' := by
  have hlk := rlook_any rb i s false u w h hs hi hu
  have hv : lookV false (skipR u) = 0 := by rw [hn]; rfl
  rw [hv] at hlk
  have HR : Hid (res = none) := hres
  clear hres
  go_enter Tryz.func179, Tryz.ntmps179
  go_wp2_with fail
  refine hlk.mono ?_
  rintro e w1 ⟨ho, rfl, j, hj, ha, h1⟩
  have c2 : w1.cell? ⟨rb, 2, none⟩ = some (.bool false) := cell_at h1 rfl
  have f2 : w1.frozen? ⟨rb, 2, none⟩ = false := Lib.frozen_of_heap h1 2
  have hlt := h1.lt
  have hne : rb ≠ w1.heap.size := by omega
  clear hlk
  go_wp2_with fail
  go_ret
  exact ⟨(ho.setCell (p := ⟨rb, 2, none⟩) (.inl rfl) _).alloc _, j, _, true, hj, (set_bad h1).alloc _, rfl, .inr ⟨rfl, .inr HR.out⟩⟩

/-- The reader's sentence does as f says, at texts shorter than n. -/
def SOK (n : Nat) (f : List UInt8 → Option (BT Pay × List UInt8)) : Prop :=
  ∀ (rb i : Nat) (s : ByteArray) (u : List UInt8) (w : World), ScAt rb w s i false → s.size ≤ 1000000 → i ≤ s.size → At s i u → u.length < n →
    Calls Tryz.prog 179 #[.pointer (some ⟨rb, 0, none⟩)] w fun e w' => Only rb w w' ∧ SEnd s rb w.heap.size false (f u) e w'

/-- The same, whether or not it is bad. -/
theorem SOK.any {n : Nat} {f : List UInt8 → Option (BT Pay × List UInt8)} (ih : SOK n f) (rb i : Nat) (s : ByteArray) (bad : Bool) (u : List UInt8) (w : World) (h : ScAt rb w s i bad) (hs : s.size ≤ 1000000) (hi : i ≤ s.size) (hu : At s i u) (hn : bad = false → u.length < n) :
    Calls Tryz.prog 179 #[.pointer (some ⟨rb, 0, none⟩)] w fun e w' => Only rb w w' ∧ SEnd s rb w.heap.size bad (f u) e w' := by
  cases bad with
  | true => exact rsent_bad rb i s u _ w h hs hi hu
  | false => exact ih rb i s u w h hs hi hu (hn rfl)

set_option maxHeartbeats 2000000 in
set_option maxRecDepth 100000 in
/-- A sentence behind ¬. -/
theorem rsent_not (n : Nat) (f : List UInt8 → Option (BT Pay × List UInt8)) (ih : SOK n f) (rb i : Nat) (s : ByteArray) (u : List UInt8) (c : UInt8) (r : List UInt8) (w : World) (h : ScAt rb w s i false) (hs : s.size ≤ 1000000) (hi : i ≤ s.size) (hu : At s i u) (hsk : skipR u = c :: r) (hc : c.toNat = 33) (hn : r.length < n) :
    Calls Tryz.prog 179 #[.pointer (some ⟨rb, 0, none⟩)] w fun e w' => Only rb w w' ∧ SEnd s rb w.heap.size false (singleR f 172 r) e w' := by
  have hlk := rlook_any rb i s false u w h hs hi hu
  have hv : lookV false (skipR u) = 33 := by rw [hsk]; show (c.toNat : Int) = 33; omega
  rw [hv, hsk] at hlk
  have HF : Hid (singleR f 172 r = match f r with | none => none | some (p, t2) => some (mk 172 ByteArray.empty 0 0 p .nil, t2)) := rfl
  generalize singleR f 172 r = res at *
  go_enter Tryz.func179, Tryz.ntmps179
  go_wp2_with fail
  refine hlk.mono ?_
  rintro e w1 ⟨ho, rfl, j, hj, ha, h1⟩
  obtain ⟨hl, hcc, ht⟩ := ha.cons
  have c1 : w1.cell? ⟨rb, 1, none⟩ = some (.int .i64 j) := cell_at h1 rfl
  have c2 : w1.cell? ⟨rb, 2, none⟩ = some (.bool false) := cell_at h1 rfl
  have f1 : w1.frozen? ⟨rb, 1, none⟩ = false := Lib.frozen_of_heap h1 1
  have hlt := h1.lt
  have hne : rb ≠ w1.heap.size := by omega
  have z0 := ho.size
  clear hlk hcc
  have h2 := (set_at (j := j + 1) h1).alloc (.cells #[.int .u8 33, .string ⟨#[]⟩, .int .i64 0, .int .i64 0, .pointer none, .pointer none] 252 (0, 0))
  have hX : XAt w1.heap.size ((w1.setCell ⟨rb, 1, none⟩ (.int .i64 ((j + 1 : Nat) : Int))).alloc (.cells #[.int .u8 33, .string ⟨#[]⟩, .int .i64 0, .int .i64 0, .pointer none, .pointer none] 252 (0, 0))) 33 ⟨#[]⟩ 0 0 (.pointer none) (.pointer none) := heap_new _ _ _ (by simp [World.setCell])
  have hC := ih rb (j + 1) s r _ h2 hs hl ht hn
  go_wp2_with fail
  refine hC.mono ?_
  rintro e w2 ⟨o2, j2, p, bad2, hj2, h3, rfl, r2⟩
  have hX2 := hX.only o2 (by omega)
  obtain ⟨⟨x0, x1, x2, x3, x4, x5⟩, ⟨y0, y1, y2, y3, y4, y5⟩⟩ := hX2.facts
  have oo := ((ho.setCell (p := ⟨rb, 1, none⟩) (.inl rfl) (.int .i64 ((j + 1 : Nat) : Int))).alloc (.cells #[.int .u8 33, .string ⟨#[]⟩, .int .i64 0, .int .i64 0, .pointer none, .pointer none] 252 (0, 0))).trans o2
  clear hC h2 hX
  go_wp2_with fail
  go_ret
  refine ⟨oo.setCell (p := ⟨w1.heap.size, 4, none⟩) (.inr z0) _, j2, _, bad2, hj2, h3.setX (by show w1.heap.size ≠ rb; omega) _, rfl, ?_⟩
  rcases r2 with ⟨_, a2, x, t, a3, a4, a5⟩ | ⟨a1, a2⟩
  · refine .inl ⟨rfl, a2, mk 172 ByteArray.empty 0 0 x .nil, t, by rw [HF.out, a3], a4, ?_⟩
    exact ref_mk (hX2.p (.pointer p)) rfl (by omega) ((RefAt.setNew a5 (by simp [World.setCell]) _).low (by simp [World.setCell]; omega)) rfl
  · refine .inr ⟨a1, .inr ?_⟩
    rcases a2 with a2 | a2
    · cases a2
    · rw [HF.out, a2]

end Go.Proofs.YtpbbmagjhkakgaaGreatDoor

namespace Go.Proofs.YtpbbmagjhkakgaaGreatDoor
open Go.RowKit Go.Deep

set_option maxHeartbeats 4000000 in
set_option maxRecDepth 100000 in
theorem rsent_y (n : Nat) (f : List UInt8 → Option (BT Pay × List UInt8)) (ih : SOK n f) (rb i : Nat) (s : ByteArray) (u : List UInt8) (c : UInt8) (r : List UInt8) (w : World) (h : ScAt rb w s i false) (hs : s.size ≤ 1000000) (hi : i ≤ s.size) (hu : At s i u) (hsk : skipR u = c :: r) (hc : c.toNat = 89) (hn : r.length < n) :
    Calls Tryz.prog 179 #[.pointer (some ⟨rb, 0, none⟩)] w fun e w' => Only rb w w' ∧ SEnd s rb w.heap.size false (singleR f 89 r) e w' := by
  have hlk := rlook_any rb i s false u w h hs hi hu
  have hv : lookV false (skipR u) = 89 := by rw [hsk]; show (c.toNat : Int) = 89; omega
  rw [hv, hsk] at hlk
  have HF : Hid (singleR f 89 r = match windowR 89 r with | none => none | some ((a, b), t1) => match f t1 with | none => none | some (p, t2) => some (mk 89 ByteArray.empty a b p .nil, t2)) := rfl
  generalize singleR f 89 r = res at *
  go_enter Tryz.func179, Tryz.ntmps179
  go_wp2_with fail
  refine hlk.mono ?_
  rintro e w1 ⟨ho, rfl, j, hj, ha, h1⟩
  obtain ⟨hl, hcc, ht⟩ := ha.cons
  have c1 : w1.cell? ⟨rb, 1, none⟩ = some (.int .i64 j) := cell_at h1 rfl
  have c2 : w1.cell? ⟨rb, 2, none⟩ = some (.bool false) := cell_at h1 rfl
  have f1 : w1.frozen? ⟨rb, 1, none⟩ = false := Lib.frozen_of_heap h1 1
  have hlt := h1.lt
  have hne : rb ≠ w1.heap.size := by omega
  have hne2 : w1.heap.size ≠ rb := by omega
  have z0 := ho.size
  clear hlk hcc
  have h2 := (set_at (j := j + 1) h1).alloc (.cells #[.int .u8 89, .string ⟨#[]⟩, .int .i64 0, .int .i64 0, .pointer none, .pointer none] 252 (0, 0))
  have hX : XAt w1.heap.size ((w1.setCell ⟨rb, 1, none⟩ (.int .i64 ((j + 1 : Nat) : Int))).alloc (.cells #[.int .u8 89, .string ⟨#[]⟩, .int .i64 0, .int .i64 0, .pointer none, .pointer none] 252 (0, 0))) 89 ⟨#[]⟩ 0 0 (.pointer none) (.pointer none) := heap_new _ _ _ (by simp [World.setCell])
  have oo := (ho.setCell (p := ⟨rb, 1, none⟩) (.inl rfl) (.int .i64 ((j + 1 : Nat) : Int))).alloc (.cells #[.int .u8 89, .string ⟨#[]⟩, .int .i64 0, .int .i64 0, .pointer none, .pointer none] 252 (0, 0))
  have hsz : ((w1.setCell ⟨rb, 1, none⟩ (.int .i64 ((j + 1 : Nat) : Int))).alloc (.cells #[.int .u8 89, .string ⟨#[]⟩, .int .i64 0, .int .i64 0, .pointer none, .pointer none] 252 (0, 0))).heap.size = w1.heap.size + 1 := by simp [World.setCell]
  have hW := rwindow_any rb (j + 1) s false r 89 _ h2 hs hl ht rfl
  go_wp2_with fail
  refine hW.mono ?_
  rintro e w2 ⟨o2, j2, a, b, bad2, hj2, h3, rfl, r2⟩
  have hX2 := hX.only o2 (by omega)
  have z2 := o2.size
  rw [hsz] at z2
  have o3 := ((oo.trans o2).setCell (p := ⟨w1.heap.size, 2, none⟩) (.inr z0) (.int .i64 a)).setCell (p := ⟨w1.heap.size, 3, none⟩) (.inr z0) (.int .i64 b)
  have hX3 := hX2.ab a b
  have h4 := (h3.setX (p := ⟨w1.heap.size, 2, none⟩) hne2 (.int .i64 a)).setX (p := ⟨w1.heap.size, 3, none⟩) hne2 (.int .i64 b)
  obtain ⟨⟨x0, x1, x2, x3, x4, x5⟩, ⟨y0, y1, y2, y3, y4, y5⟩⟩ := hX2.facts
  have k2 : ∃ u2, At s j2 u2 ∧ ((bad2 = false ∧ windowR 89 r = some ((a, b), u2)) ∨ (bad2 = true ∧ windowR 89 r = none)) := by
    rcases r2 with ⟨_, a2, t, a3, a4⟩ | ⟨a1, a2 | a2⟩
    · exact ⟨t, a4, .inl ⟨a2, a3⟩⟩
    · cases a2
    · exact ⟨_, at_drop s j2, .inr ⟨a1, a2⟩⟩
  obtain ⟨u2, hu2, q2⟩ := k2
  have hC := ih.any rb j2 s bad2 u2 _ h4 hs hj2 hu2 (fun hb => by
    rcases q2 with ⟨_, b2⟩ | ⟨b1, _⟩
    · have := window_len b2; omega
    · rw [hb] at b1; cases b1)
  clear hW h2 hX r2 h3 hX2
  go_wp2_with fail
  refine hC.mono ?_
  rintro e w3 ⟨o4, j3, p, bad3, hj3, h5, rfl, r3⟩
  have hX4 := hX3.only o4 (by omega)
  obtain ⟨⟨v0, v1, v2, v3, v4, v5⟩, ⟨t0, t1, t2, t3, t4, t5⟩⟩ := hX4.facts
  clear hC h4 hX3 x0 x1 x2 x3 x4 x5 y0 y1 y2 y3 y4 y5
  go_wp2_with fail
  go_ret
  refine ⟨(o3.trans o4).setCell (p := ⟨w1.heap.size, 4, none⟩) (.inr z0) _, j3, _, bad3, hj3, h5.setX hne2 _, rfl, ?_⟩
  rcases r3 with ⟨e1, a2, x, t, a3, a4, a5⟩ | ⟨a1, a2⟩
  · rcases q2 with ⟨_, b2⟩ | ⟨b1, _⟩
    · refine .inl ⟨rfl, a2, mk 89 ByteArray.empty a b x .nil, t, by rw [HF.out, b2]; simp only; rw [a3], a4, ?_⟩
      exact ref_mk (hX4.p (.pointer p)) rfl z0 ((RefAt.setNew a5 (by simp [World.setCell]; omega) _).low (by simp [World.setCell]; omega)) rfl
    · rw [e1] at b1; cases b1
  · refine .inr ⟨a1, .inr ?_⟩
    rcases q2 with ⟨b1, b2⟩ | ⟨_, b2⟩
    · rcases a2 with a2 | a2
      · rw [b1] at a2; cases a2
      · rw [HF.out, b2]; simp only; rw [a2]
    · rw [HF.out, b2]

set_option maxHeartbeats 4000000 in
set_option maxRecDepth 100000 in
theorem rsent_o (n : Nat) (f : List UInt8 → Option (BT Pay × List UInt8)) (ih : SOK n f) (rb i : Nat) (s : ByteArray) (u : List UInt8) (c : UInt8) (r : List UInt8) (w : World) (h : ScAt rb w s i false) (hs : s.size ≤ 1000000) (hi : i ≤ s.size) (hu : At s i u) (hsk : skipR u = c :: r) (hc : c.toNat = 79) (hn : r.length < n) :
    Calls Tryz.prog 179 #[.pointer (some ⟨rb, 0, none⟩)] w fun e w' => Only rb w w' ∧ SEnd s rb w.heap.size false (singleR f 79 r) e w' := by
  have hlk := rlook_any rb i s false u w h hs hi hu
  have hv : lookV false (skipR u) = 79 := by rw [hsk]; show (c.toNat : Int) = 79; omega
  rw [hv, hsk] at hlk
  have HF : Hid (singleR f 79 r = match windowR 79 r with | none => none | some ((a, b), t1) => match f t1 with | none => none | some (p, t2) => some (mk 79 ByteArray.empty a b p .nil, t2)) := rfl
  generalize singleR f 79 r = res at *
  go_enter Tryz.func179, Tryz.ntmps179
  go_wp2_with fail
  refine hlk.mono ?_
  rintro e w1 ⟨ho, rfl, j, hj, ha, h1⟩
  obtain ⟨hl, hcc, ht⟩ := ha.cons
  have c1 : w1.cell? ⟨rb, 1, none⟩ = some (.int .i64 j) := cell_at h1 rfl
  have c2 : w1.cell? ⟨rb, 2, none⟩ = some (.bool false) := cell_at h1 rfl
  have f1 : w1.frozen? ⟨rb, 1, none⟩ = false := Lib.frozen_of_heap h1 1
  have hlt := h1.lt
  have hne : rb ≠ w1.heap.size := by omega
  have hne2 : w1.heap.size ≠ rb := by omega
  have z0 := ho.size
  clear hlk hcc
  have h2 := (set_at (j := j + 1) h1).alloc (.cells #[.int .u8 79, .string ⟨#[]⟩, .int .i64 0, .int .i64 0, .pointer none, .pointer none] 252 (0, 0))
  have hX : XAt w1.heap.size ((w1.setCell ⟨rb, 1, none⟩ (.int .i64 ((j + 1 : Nat) : Int))).alloc (.cells #[.int .u8 79, .string ⟨#[]⟩, .int .i64 0, .int .i64 0, .pointer none, .pointer none] 252 (0, 0))) 79 ⟨#[]⟩ 0 0 (.pointer none) (.pointer none) := heap_new _ _ _ (by simp [World.setCell])
  have oo := (ho.setCell (p := ⟨rb, 1, none⟩) (.inl rfl) (.int .i64 ((j + 1 : Nat) : Int))).alloc (.cells #[.int .u8 79, .string ⟨#[]⟩, .int .i64 0, .int .i64 0, .pointer none, .pointer none] 252 (0, 0))
  have hsz : ((w1.setCell ⟨rb, 1, none⟩ (.int .i64 ((j + 1 : Nat) : Int))).alloc (.cells #[.int .u8 79, .string ⟨#[]⟩, .int .i64 0, .int .i64 0, .pointer none, .pointer none] 252 (0, 0))).heap.size = w1.heap.size + 1 := by simp [World.setCell]
  have hW := rwindow_any rb (j + 1) s false r 79 _ h2 hs hl ht rfl
  go_wp2_with fail
  refine hW.mono ?_
  rintro e w2 ⟨o2, j2, a, b, bad2, hj2, h3, rfl, r2⟩
  have hX2 := hX.only o2 (by omega)
  have z2 := o2.size
  rw [hsz] at z2
  have o3 := ((oo.trans o2).setCell (p := ⟨w1.heap.size, 2, none⟩) (.inr z0) (.int .i64 a)).setCell (p := ⟨w1.heap.size, 3, none⟩) (.inr z0) (.int .i64 b)
  have hX3 := hX2.ab a b
  have h4 := (h3.setX (p := ⟨w1.heap.size, 2, none⟩) hne2 (.int .i64 a)).setX (p := ⟨w1.heap.size, 3, none⟩) hne2 (.int .i64 b)
  obtain ⟨⟨x0, x1, x2, x3, x4, x5⟩, ⟨y0, y1, y2, y3, y4, y5⟩⟩ := hX2.facts
  have k2 : ∃ u2, At s j2 u2 ∧ ((bad2 = false ∧ windowR 79 r = some ((a, b), u2)) ∨ (bad2 = true ∧ windowR 79 r = none)) := by
    rcases r2 with ⟨_, a2, t, a3, a4⟩ | ⟨a1, a2 | a2⟩
    · exact ⟨t, a4, .inl ⟨a2, a3⟩⟩
    · cases a2
    · exact ⟨_, at_drop s j2, .inr ⟨a1, a2⟩⟩
  obtain ⟨u2, hu2, q2⟩ := k2
  have hC := ih.any rb j2 s bad2 u2 _ h4 hs hj2 hu2 (fun hb => by
    rcases q2 with ⟨_, b2⟩ | ⟨b1, _⟩
    · have := window_len b2; omega
    · rw [hb] at b1; cases b1)
  clear hW h2 hX r2 h3 hX2
  go_wp2_with fail
  refine hC.mono ?_
  rintro e w3 ⟨o4, j3, p, bad3, hj3, h5, rfl, r3⟩
  have hX4 := hX3.only o4 (by omega)
  obtain ⟨⟨v0, v1, v2, v3, v4, v5⟩, ⟨t0, t1, t2, t3, t4, t5⟩⟩ := hX4.facts
  clear hC h4 hX3 x0 x1 x2 x3 x4 x5 y0 y1 y2 y3 y4 y5
  go_wp2_with fail
  go_ret
  refine ⟨(o3.trans o4).setCell (p := ⟨w1.heap.size, 4, none⟩) (.inr z0) _, j3, _, bad3, hj3, h5.setX hne2 _, rfl, ?_⟩
  rcases r3 with ⟨e1, a2, x, t, a3, a4, a5⟩ | ⟨a1, a2⟩
  · rcases q2 with ⟨_, b2⟩ | ⟨b1, _⟩
    · refine .inl ⟨rfl, a2, mk 79 ByteArray.empty a b x .nil, t, by rw [HF.out, b2]; simp only; rw [a3], a4, ?_⟩
      exact ref_mk (hX4.p (.pointer p)) rfl z0 ((RefAt.setNew a5 (by simp [World.setCell]; omega) _).low (by simp [World.setCell]; omega)) rfl
    · rw [e1] at b1; cases b1
  · refine .inr ⟨a1, .inr ?_⟩
    rcases q2 with ⟨b1, b2⟩ | ⟨_, b2⟩
    · rcases a2 with a2 | a2
      · rw [b1] at a2; cases a2
      · rw [HF.out, b2]; simp only; rw [a2]
    · rw [HF.out, b2]

set_option maxHeartbeats 4000000 in
set_option maxRecDepth 100000 in
theorem rsent_h (n : Nat) (f : List UInt8 → Option (BT Pay × List UInt8)) (ih : SOK n f) (rb i : Nat) (s : ByteArray) (u : List UInt8) (c : UInt8) (r : List UInt8) (w : World) (h : ScAt rb w s i false) (hs : s.size ≤ 1000000) (hi : i ≤ s.size) (hu : At s i u) (hsk : skipR u = c :: r) (hc : c.toNat = 72) (hn : r.length < n) :
    Calls Tryz.prog 179 #[.pointer (some ⟨rb, 0, none⟩)] w fun e w' => Only rb w w' ∧ SEnd s rb w.heap.size false (singleR f 72 r) e w' := by
  have hlk := rlook_any rb i s false u w h hs hi hu
  have hv : lookV false (skipR u) = 72 := by rw [hsk]; show (c.toNat : Int) = 72; omega
  rw [hv, hsk] at hlk
  have HF : Hid (singleR f 72 r = match windowR 72 r with | none => none | some ((a, b), t1) => match f t1 with | none => none | some (p, t2) => some (mk 72 ByteArray.empty a b p .nil, t2)) := rfl
  generalize singleR f 72 r = res at *
  go_enter Tryz.func179, Tryz.ntmps179
  go_wp2_with fail
  refine hlk.mono ?_
  rintro e w1 ⟨ho, rfl, j, hj, ha, h1⟩
  obtain ⟨hl, hcc, ht⟩ := ha.cons
  have c1 : w1.cell? ⟨rb, 1, none⟩ = some (.int .i64 j) := cell_at h1 rfl
  have c2 : w1.cell? ⟨rb, 2, none⟩ = some (.bool false) := cell_at h1 rfl
  have f1 : w1.frozen? ⟨rb, 1, none⟩ = false := Lib.frozen_of_heap h1 1
  have hlt := h1.lt
  have hne : rb ≠ w1.heap.size := by omega
  have hne2 : w1.heap.size ≠ rb := by omega
  have z0 := ho.size
  clear hlk hcc
  have h2 := (set_at (j := j + 1) h1).alloc (.cells #[.int .u8 72, .string ⟨#[]⟩, .int .i64 0, .int .i64 0, .pointer none, .pointer none] 252 (0, 0))
  have hX : XAt w1.heap.size ((w1.setCell ⟨rb, 1, none⟩ (.int .i64 ((j + 1 : Nat) : Int))).alloc (.cells #[.int .u8 72, .string ⟨#[]⟩, .int .i64 0, .int .i64 0, .pointer none, .pointer none] 252 (0, 0))) 72 ⟨#[]⟩ 0 0 (.pointer none) (.pointer none) := heap_new _ _ _ (by simp [World.setCell])
  have oo := (ho.setCell (p := ⟨rb, 1, none⟩) (.inl rfl) (.int .i64 ((j + 1 : Nat) : Int))).alloc (.cells #[.int .u8 72, .string ⟨#[]⟩, .int .i64 0, .int .i64 0, .pointer none, .pointer none] 252 (0, 0))
  have hsz : ((w1.setCell ⟨rb, 1, none⟩ (.int .i64 ((j + 1 : Nat) : Int))).alloc (.cells #[.int .u8 72, .string ⟨#[]⟩, .int .i64 0, .int .i64 0, .pointer none, .pointer none] 252 (0, 0))).heap.size = w1.heap.size + 1 := by simp [World.setCell]
  have hW := rwindow_any rb (j + 1) s false r 72 _ h2 hs hl ht rfl
  go_wp2_with fail
  refine hW.mono ?_
  rintro e w2 ⟨o2, j2, a, b, bad2, hj2, h3, rfl, r2⟩
  have hX2 := hX.only o2 (by omega)
  have z2 := o2.size
  rw [hsz] at z2
  have o3 := ((oo.trans o2).setCell (p := ⟨w1.heap.size, 2, none⟩) (.inr z0) (.int .i64 a)).setCell (p := ⟨w1.heap.size, 3, none⟩) (.inr z0) (.int .i64 b)
  have hX3 := hX2.ab a b
  have h4 := (h3.setX (p := ⟨w1.heap.size, 2, none⟩) hne2 (.int .i64 a)).setX (p := ⟨w1.heap.size, 3, none⟩) hne2 (.int .i64 b)
  obtain ⟨⟨x0, x1, x2, x3, x4, x5⟩, ⟨y0, y1, y2, y3, y4, y5⟩⟩ := hX2.facts
  have k2 : ∃ u2, At s j2 u2 ∧ ((bad2 = false ∧ windowR 72 r = some ((a, b), u2)) ∨ (bad2 = true ∧ windowR 72 r = none)) := by
    rcases r2 with ⟨_, a2, t, a3, a4⟩ | ⟨a1, a2 | a2⟩
    · exact ⟨t, a4, .inl ⟨a2, a3⟩⟩
    · cases a2
    · exact ⟨_, at_drop s j2, .inr ⟨a1, a2⟩⟩
  obtain ⟨u2, hu2, q2⟩ := k2
  have hC := ih.any rb j2 s bad2 u2 _ h4 hs hj2 hu2 (fun hb => by
    rcases q2 with ⟨_, b2⟩ | ⟨b1, _⟩
    · have := window_len b2; omega
    · rw [hb] at b1; cases b1)
  clear hW h2 hX r2 h3 hX2
  go_wp2_with fail
  refine hC.mono ?_
  rintro e w3 ⟨o4, j3, p, bad3, hj3, h5, rfl, r3⟩
  have hX4 := hX3.only o4 (by omega)
  obtain ⟨⟨v0, v1, v2, v3, v4, v5⟩, ⟨t0, t1, t2, t3, t4, t5⟩⟩ := hX4.facts
  clear hC h4 hX3 x0 x1 x2 x3 x4 x5 y0 y1 y2 y3 y4 y5
  go_wp2_with fail
  go_ret
  refine ⟨(o3.trans o4).setCell (p := ⟨w1.heap.size, 4, none⟩) (.inr z0) _, j3, _, bad3, hj3, h5.setX hne2 _, rfl, ?_⟩
  rcases r3 with ⟨e1, a2, x, t, a3, a4, a5⟩ | ⟨a1, a2⟩
  · rcases q2 with ⟨_, b2⟩ | ⟨b1, _⟩
    · refine .inl ⟨rfl, a2, mk 72 ByteArray.empty a b x .nil, t, by rw [HF.out, b2]; simp only; rw [a3], a4, ?_⟩
      exact ref_mk (hX4.p (.pointer p)) rfl z0 ((RefAt.setNew a5 (by simp [World.setCell]; omega) _).low (by simp [World.setCell]; omega)) rfl
    · rw [e1] at b1; cases b1
  · refine .inr ⟨a1, .inr ?_⟩
    rcases q2 with ⟨b1, b2⟩ | ⟨_, b2⟩
    · rcases a2 with a2 | a2
      · rw [b1] at a2; cases a2
      · rw [HF.out, b2]; simp only; rw [a2]
    · rw [HF.out, b2]

end Go.Proofs.YtpbbmagjhkakgaaGreatDoor
