/-
  What the given reader's sentence does at a pair in brackets; no condition but those that stand in each theorem.
-/
/-
  What the given reader's sentence does: a word, a sign that begins no sentence; so at every text; no condition but those that stand in each theorem.
-/
import Derived.Test.YtpbbmagjhkakgaaGreatDoorRSentToRSentW
namespace Go.Proofs.YtpbbmagjhkakgaaGreatDoor
open Go.RowKit Go.Deep

theorem XAt.setR {X : Nat} {w : World} {k a b : Int} {nm : ByteArray} {p q : Value} (h : XAt X w k nm a b p q) {ad : Addr} (hp : ad.block ≠ X) (u : Value) : XAt X (w.setCell ad u) k nm a b p q := by
  unfold XAt at *
  rw [Below.heap_setCell _ _ _ _ (fun e => hp e.symm)]
  exact h

theorem pairR_at {f : List UInt8 → Option (BT Pay × List UInt8)} {r t1 t2 : List UInt8} {x1 : BT Pay} {k : UInt8} (hf : f r = some (x1, t1)) (hk : skipR t1 = k :: t2) (hk3 : k = 38 ∨ k = 124 ∨ k = 83) : pairR f r = match windowR (signF (k.toNat : Int)) t2 with
        | none => none
        | some ((a, b), t3) => match f t3 with
          | none => none
          | some (q, t4) => match expectR 41 t4 with
            | none => none
            | some t5 => some (mk (signF (k.toNat : Int)) ByteArray.empty a b x1 q, t5) := by
  unfold pairR
  rw [hf]
  simp only
  rw [hk]
  simp only
  rw [if_pos hk3]
  rfl

set_option maxHeartbeats 4000000 in
set_option maxRecDepth 100000 in
theorem rsent_pairNone (n : Nat) (f : List UInt8 → Option (BT Pay × List UInt8)) (ih : SOK n f) (rb i : Nat) (s : ByteArray) (u : List UInt8) (c : UInt8) (r : List UInt8) (w : World) (h : ScAt rb w s i false) (hs : s.size ≤ 1000000) (hi : i ≤ s.size) (hu : At s i u) (hsk : skipR u = c :: r) (hc : c.toNat = 40) (hn : r.length < n) (hres : pairR f r = none) (hG : ∀ x t k t2, f r = some (x, t) → skipR t = k :: t2 → ¬ (k.toNat = 38 ∨ k.toNat = 124 ∨ k.toNat = 83)) :
    Calls Tryz.prog 179 #[.pointer (some ⟨rb, 0, none⟩)] w fun e w' => Only rb w w' ∧ SEnd s rb w.heap.size false (pairR f r) e w' := by
  have hlk := rlook_any rb i s false u w h hs hi hu
  have hv : lookV false (skipR u) = 40 := by rw [hsk]; show (c.toNat : Int) = 40; omega
  rw [hv, hsk] at hlk
  have HR : Hid (pairR f r = none) := hres
  generalize pairR f r = res at *
  go_enter Tryz.func179, Tryz.ntmps179
  go_wp2_with fail
  refine hlk.mono ?_
  rintro e w1 ⟨ho, rfl, j, hj, ha, h1⟩
  obtain ⟨hl, hcc, ht⟩ := ha.cons
  have c1 : w1.cell? ⟨rb, 1, none⟩ = some (.int .i64 j) := cell_at h1 rfl
  have c2 : w1.cell? ⟨rb, 2, none⟩ = some (.bool false) := cell_at h1 rfl
  have f1 : w1.frozen? ⟨rb, 1, none⟩ = false := Lib.frozen_of_heap h1 1
  have hlt := h1.lt
  have hne : rb ≠ w1.heap.size := by omega
  have hne2 : w1.heap.size ≠ rb := by omega
  have z0 := ho.size
  clear hlk hcc
  have h2 := (set_at (j := j + 1) h1).alloc (.cells #[.int .u8 40, .string ⟨#[]⟩, .int .i64 0, .int .i64 0, .pointer none, .pointer none] 252 (0, 0))
  have hX : XAt w1.heap.size ((w1.setCell ⟨rb, 1, none⟩ (.int .i64 ((j + 1 : Nat) : Int))).alloc (.cells #[.int .u8 40, .string ⟨#[]⟩, .int .i64 0, .int .i64 0, .pointer none, .pointer none] 252 (0, 0))) 40 ⟨#[]⟩ 0 0 (.pointer none) (.pointer none) := heap_new _ _ _ (by simp [World.setCell])
  have oo := (ho.setCell (p := ⟨rb, 1, none⟩) (.inl rfl) (.int .i64 ((j + 1 : Nat) : Int))).alloc (.cells #[.int .u8 40, .string ⟨#[]⟩, .int .i64 0, .int .i64 0, .pointer none, .pointer none] 252 (0, 0))
  have hsz : ((w1.setCell ⟨rb, 1, none⟩ (.int .i64 ((j + 1 : Nat) : Int))).alloc (.cells #[.int .u8 40, .string ⟨#[]⟩, .int .i64 0, .int .i64 0, .pointer none, .pointer none] 252 (0, 0))).heap.size = w1.heap.size + 1 := by simp [World.setCell]
  have hC := ih rb (j + 1) s r _ h2 hs hl ht hn
  go_wp2_with fail
  refine hC.mono ?_
  rintro e w2 ⟨o2, j2, p, bad2, hj2, h3, rfl, r2⟩
  have hX2 := hX.only o2 (by omega)
  have z2 := o2.size
  rw [hsz] at z2
  have hX3 := hX2.p (.pointer p)
  have h4 := h3.setX (p := ⟨w1.heap.size, 4, none⟩) hne2 (.pointer p)
  have o3 := (oo.trans o2).setCell (p := ⟨w1.heap.size, 4, none⟩) (.inr z0) (.pointer p)
  obtain ⟨⟨x0, x1', x2, x3, x4, x5⟩, ⟨y0, y1, y2, y3, y4, y5⟩⟩ := hX2.facts
  clear hC h2 hX
  have k2 : ∃ u2, At s j2 u2 ∧ ((lookV bad2 (skipR u2) != 38) = true ∧ (lookV bad2 (skipR u2) != 124) = true ∧ (lookV bad2 (skipR u2) != 83) = true) ∧ 0 ≤ lookV bad2 (skipR u2) ∧ lookV bad2 (skipR u2) < 256 := by
    have hz : ∀ u2, bad2 = true ∨ skipR u2 = [] → lookV bad2 (skipR u2) = 0 := by
      rintro u2 (e | e)
      · subst e; cases skipR u2 <;> rfl
      · rw [e]; rfl
    rcases r2 with ⟨_, a2, x, t, a3, a4, _⟩ | ⟨a1, _⟩
    · refine ⟨t, a4, ?_⟩
      cases hst : skipR t with
      | nil => have := hz t (.inr hst); rw [hst] at this; rw [this]; decide
      | cons k t2 =>
        have hg := hG x t k t2 a3 hst
        have hlt := UInt8.toNat_lt k
        subst a2
        have e : lookV false (k :: t2) = (k.toNat : Int) := rfl
        rw [e]
        simp only [bne_iff_ne]
        omega
    · exact ⟨_, at_drop s j2, by rw [hz _ (.inl a1)]; decide⟩
  obtain ⟨u2, hu2, ⟨q1, q2, q3⟩, lo, hi2⟩ := k2
  have hlk2 := rlook_any rb j2 s bad2 u2 _ h4 hs hj2 hu2
  generalize lookV bad2 (skipR u2) = lv at *
  clear r2 hG h3 hX2
  go_wp2_with fail
  refine hlk2.mono ?_
  rintro e w3 ⟨o4, rfl, j3, hj3, ha3, h5⟩
  have hX4 := hX3.only o4 (by omega)
  obtain ⟨⟨v0, v1, v2, v3, v4, v5⟩, ⟨t0, t1, t2, t3, t4, t5⟩⟩ := hX4.facts
  have d2 : w3.cell? ⟨rb, 2, none⟩ = some (.bool bad2) := cell_at h5 rfl
  have g2 : w3.frozen? ⟨rb, 2, none⟩ = false := Lib.frozen_of_heap h5 2
  clear hlk2 h4 hX3 x0 x1' x2 x3 x4 x5 y0 y1 y2 y3 y4 y5
  go_wp2_with fail
  go_ret
  refine ⟨((o3.trans o4).setCell (p := ⟨w1.heap.size, 0, none⟩) (.inr z0) _).setCell (p := ⟨rb, 2, none⟩) (.inl rfl) _, j3, _, true, hj3, set_bad (h5.setX (p := ⟨w1.heap.size, 0, none⟩) hne2 _), rfl, .inr ⟨rfl, .inr HR.out⟩⟩

set_option maxHeartbeats 4000000 in
set_option maxRecDepth 100000 in
theorem rsent_and (n : Nat) (f : List UInt8 → Option (BT Pay × List UInt8)) (ih : SOK n f) (rb i : Nat) (s : ByteArray) (u : List UInt8) (c : UInt8) (r : List UInt8) (w : World) (h : ScAt rb w s i false) (hs : s.size ≤ 1000000) (hi : i ≤ s.size) (hu : At s i u) (hsk : skipR u = c :: r) (hc : c.toNat = 40) (hn : r.length < n) (x1 : BT Pay) (t1 t2 : List UInt8) (k : UInt8) (hf : f r = some (x1, t1)) (hk : skipR t1 = k :: t2) (hkk : k = 38) (hlen : t2.length < n) :
    Calls Tryz.prog 179 #[.pointer (some ⟨rb, 0, none⟩)] w fun e w' => Only rb w w' ∧ SEnd s rb w.heap.size false (pairR f r) e w' := by
  have hlk := rlook_any rb i s false u w h hs hi hu
  have hv : lookV false (skipR u) = 40 := by rw [hsk]; show (c.toNat : Int) = 40; omega
  rw [hv, hsk] at hlk
  have HF : Hid (pairR f r = match f t2 with | none => none | some (q, t4) => match expectR 41 t4 with | none => none | some t5 => some (mk 8743 ByteArray.empty 0 0 x1 q, t5)) := by
    show _ = _
    subst hkk
    rw [pairR_at hf hk (by decide)]
    rfl
  generalize pairR f r = res at *
  go_enter Tryz.func179, Tryz.ntmps179
  go_wp2_with fail
  refine hlk.mono ?_
  rintro e w1 ⟨ho, rfl, j, hj, ha, h1⟩
  obtain ⟨hl, hcc, ht⟩ := ha.cons
  have c1 : w1.cell? ⟨rb, 1, none⟩ = some (.int .i64 j) := cell_at h1 rfl
  have c2 : w1.cell? ⟨rb, 2, none⟩ = some (.bool false) := cell_at h1 rfl
  have f1 : w1.frozen? ⟨rb, 1, none⟩ = false := Lib.frozen_of_heap h1 1
  have hlt := h1.lt
  have hne : rb ≠ w1.heap.size := by omega
  have hne2 : w1.heap.size ≠ rb := by omega
  have z0 := ho.size
  clear hlk hcc
  have h2 := (set_at (j := j + 1) h1).alloc (.cells #[.int .u8 40, .string ⟨#[]⟩, .int .i64 0, .int .i64 0, .pointer none, .pointer none] 252 (0, 0))
  have hX : XAt w1.heap.size ((w1.setCell ⟨rb, 1, none⟩ (.int .i64 ((j + 1 : Nat) : Int))).alloc (.cells #[.int .u8 40, .string ⟨#[]⟩, .int .i64 0, .int .i64 0, .pointer none, .pointer none] 252 (0, 0))) 40 ⟨#[]⟩ 0 0 (.pointer none) (.pointer none) := heap_new _ _ _ (by simp [World.setCell])
  have oo := (ho.setCell (p := ⟨rb, 1, none⟩) (.inl rfl) (.int .i64 ((j + 1 : Nat) : Int))).alloc (.cells #[.int .u8 40, .string ⟨#[]⟩, .int .i64 0, .int .i64 0, .pointer none, .pointer none] 252 (0, 0))
  have hsz : ((w1.setCell ⟨rb, 1, none⟩ (.int .i64 ((j + 1 : Nat) : Int))).alloc (.cells #[.int .u8 40, .string ⟨#[]⟩, .int .i64 0, .int .i64 0, .pointer none, .pointer none] 252 (0, 0))).heap.size = w1.heap.size + 1 := by simp [World.setCell]
  have hC := ih rb (j + 1) s r _ h2 hs hl ht hn
  go_wp2_with fail
  refine hC.mono ?_
  rintro e w2 ⟨o2, j2, p, bad2, hj2, h3, rfl, r2⟩
  have hX2 := hX.only o2 (by omega)
  have z2 := o2.size
  rw [hsz] at z2
  have hX3 := hX2.p (.pointer p)
  have h4 := h3.setX (p := ⟨w1.heap.size, 4, none⟩) hne2 (.pointer p)
  have o3 := (oo.trans o2).setCell (p := ⟨w1.heap.size, 4, none⟩) (.inr z0) (.pointer p)
  obtain ⟨⟨x0, x1', x2, x3, x4, x5⟩, ⟨y0, y1, y2, y3, y4, y5⟩⟩ := hX2.facts
  clear hC h2 hX
  have k2 : At s j2 t1 ∧ bad2 = false ∧ RefAt (w1.heap.size + 1) w2 x1 (.pointer p) := by
    rcases r2 with ⟨_, a2, x, t, a3, a4, a5⟩ | ⟨_, a2 | a2⟩
    · rw [hf] at a3
      injection a3 with a3
      injection a3 with e1 e2
      subst e1; subst e2
      exact ⟨a4, a2, by rw [hsz] at a5; exact a5⟩
    · cases a2
    · rw [hf] at a2; cases a2
  obtain ⟨hu2, rfl, hx1⟩ := k2
  have hlk2 := rlook_any rb j2 s false t1 _ h4 hs hj2 hu2
  have hv2 : lookV false (skipR t1) = 38 := by rw [hk, hkk]; rfl
  rw [hv2, hk] at hlk2
  clear r2 h3 hX2
  go_wp2_with fail
  refine hlk2.mono ?_
  rintro e w3 ⟨o4, rfl, j3, hj3, ha3, h5⟩
  obtain ⟨hl3, _, ht3⟩ := ha3.cons
  have hX4 := hX3.only o4 (by omega)
  have hx2 := (hx1.setNew (p := ⟨w1.heap.size, 4, none⟩) (Nat.lt_succ_self _) (.pointer p)).only o4 (by omega)
  have z4 := o4.size
  simp only [World.size_setCell] at z4
  obtain ⟨⟨v0, v1, v2, v3, v4, v5⟩, ⟨t0', t1', t2', t3', t4', t5'⟩⟩ := hX4.facts
  have d1 : w3.cell? ⟨rb, 1, none⟩ = some (.int .i64 j3) := cell_at h5 rfl
  have g1 : w3.frozen? ⟨rb, 1, none⟩ = false := Lib.frozen_of_heap h5 1
  have hX5 := (hX4.k 38).setR (ad := ⟨rb, 1, none⟩) hne (.int .i64 ((j3 + 1 : Nat) : Int))
  have h6 := set_at (j := j3 + 1) (h5.setX (p := ⟨w1.heap.size, 0, none⟩) hne2 (.int .u8 38))
  have hx3 := (hx2.setNew (p := ⟨w1.heap.size, 0, none⟩) (Nat.lt_succ_self _) (.int .u8 38)).setNew (p := ⟨rb, 1, none⟩) (show rb < _ by omega) (.int .i64 ((j3 + 1 : Nat) : Int))
  have o5 := ((o3.trans o4).setCell (p := ⟨w1.heap.size, 0, none⟩) (.inr z0) (.int .u8 38)).setCell (p := ⟨rb, 1, none⟩) (.inl rfl) (.int .i64 ((j3 + 1 : Nat) : Int))
  clear hlk2 h4 hX3 hx1 hx2 x0 x1' x2 x3 x4 x5 y0 y1 y2 y3 y4 y5
  have hC := ih rb (j3 + 1) s t2 _ h6 hs hl3 ht3 hlen
  go_wp2_with fail
  refine hC.mono ?_
  rintro e w5 ⟨o8, j5, q, bad5, hj5, h9, rfl, r5⟩
  have hX8 := hX5.only o8 (by omega)
  have z8 := o8.size
  simp only [World.size_setCell] at z8
  have hx5 := (hx3.only o8 (by omega)).setNew (p := ⟨w1.heap.size, 5, none⟩) (Nat.lt_succ_self _) (.pointer q)
  obtain ⟨⟨x0, x1', x2, x3, x4, x5⟩, ⟨y0, y1, y2, y3, y4, y5⟩⟩ := hX8.facts
  have hXf := hX8.q (.pointer q)
  have hS := h9.setX (p := ⟨w1.heap.size, 5, none⟩) hne2 (.pointer q)
  have o9 := (o5.trans o8).setCell (p := ⟨w1.heap.size, 5, none⟩) (.inr z0) (.pointer q)
  have k5 : ∃ u5, At s j5 u5 ∧ ((bad5 = false ∧ ∃ x2, f t2 = some (x2, u5) ∧ RefAt (w1.heap.size + 1) (w5.setCell ⟨w1.heap.size, 5, none⟩ (.pointer q)) x2 (.pointer q)) ∨ (bad5 = true ∧ res = none)) := by
    rcases r5 with ⟨e1, a2, x, t, a3, a4, a5⟩ | ⟨a1, a2 | a2⟩
    · exact ⟨t, a4, .inl ⟨a2, x, a3, ((RefAt.setNew a5 (by simp only [World.size_setCell]; omega) _).low (by simp only [World.size_setCell]; omega))⟩⟩
    · cases a2
    · exact ⟨_, at_drop s j5, .inr ⟨a1, by rw [HF.out, a2]⟩⟩
  obtain ⟨u5, hu5, q5⟩ := k5
  have hM := rmust_any rb j5 s bad5 u5 41 _ hS hs hj5 hu5 (by decide)
  clear hC h6 hX5 hX8 hx3 h9 r5 v0 v1 v2 v3 v4 v5 t0' t1' t2' t3' t4' t5' d1 g1
  go_wp2_with fail
  refine hM.mono ?_
  rintro e w6 ⟨oA, rfl, j6, bad6, hj6, hA, r6⟩
  have hXg := hXf.only oA (by omega)
  have hx6 := hx5.only oA (by omega)
  clear hM
  go_wp2_with fail
  go_ret
  refine ⟨o9.trans oA, j6, _, bad6, hj6, hA, rfl, ?_⟩
  rcases r6 with ⟨e1, a2, t, a3, a4⟩ | ⟨a1, a2⟩
  · rcases q5 with ⟨_, x2, b3, b4⟩ | ⟨b1, _⟩
    · refine .inl ⟨rfl, a2, mk 8743 ByteArray.empty 0 0 x1 x2, t, by rw [HF.out, b3]; simp only; rw [a3], a4, ?_⟩
      exact ref_mk hXg rfl z0 (hx6.low (by omega)) ((b4.only oA (by omega)).low (by omega))
    · rw [e1] at b1; cases b1
  · refine .inr ⟨a1, .inr ?_⟩
    rcases q5 with ⟨b1, x2, b3, b4⟩ | ⟨_, b2⟩
    · rcases a2 with a2 | a2
      · rw [b1] at a2; cases a2
      · rw [HF.out, b3]; simp only; rw [a2]
    · exact b2

set_option maxHeartbeats 4000000 in
set_option maxRecDepth 100000 in
theorem rsent_or (n : Nat) (f : List UInt8 → Option (BT Pay × List UInt8)) (ih : SOK n f) (rb i : Nat) (s : ByteArray) (u : List UInt8) (c : UInt8) (r : List UInt8) (w : World) (h : ScAt rb w s i false) (hs : s.size ≤ 1000000) (hi : i ≤ s.size) (hu : At s i u) (hsk : skipR u = c :: r) (hc : c.toNat = 40) (hn : r.length < n) (x1 : BT Pay) (t1 t2 : List UInt8) (k : UInt8) (hf : f r = some (x1, t1)) (hk : skipR t1 = k :: t2) (hkk : k = 124) (hlen : t2.length < n) :
    Calls Tryz.prog 179 #[.pointer (some ⟨rb, 0, none⟩)] w fun e w' => Only rb w w' ∧ SEnd s rb w.heap.size false (pairR f r) e w' := by
  have hlk := rlook_any rb i s false u w h hs hi hu
  have hv : lookV false (skipR u) = 40 := by rw [hsk]; show (c.toNat : Int) = 40; omega
  rw [hv, hsk] at hlk
  have HF : Hid (pairR f r = match f t2 with | none => none | some (q, t4) => match expectR 41 t4 with | none => none | some t5 => some (mk 8744 ByteArray.empty 0 0 x1 q, t5)) := by
    show _ = _
    subst hkk
    rw [pairR_at hf hk (by decide)]
    rfl
  generalize pairR f r = res at *
  go_enter Tryz.func179, Tryz.ntmps179
  go_wp2_with fail
  refine hlk.mono ?_
  rintro e w1 ⟨ho, rfl, j, hj, ha, h1⟩
  obtain ⟨hl, hcc, ht⟩ := ha.cons
  have c1 : w1.cell? ⟨rb, 1, none⟩ = some (.int .i64 j) := cell_at h1 rfl
  have c2 : w1.cell? ⟨rb, 2, none⟩ = some (.bool false) := cell_at h1 rfl
  have f1 : w1.frozen? ⟨rb, 1, none⟩ = false := Lib.frozen_of_heap h1 1
  have hlt := h1.lt
  have hne : rb ≠ w1.heap.size := by omega
  have hne2 : w1.heap.size ≠ rb := by omega
  have z0 := ho.size
  clear hlk hcc
  have h2 := (set_at (j := j + 1) h1).alloc (.cells #[.int .u8 40, .string ⟨#[]⟩, .int .i64 0, .int .i64 0, .pointer none, .pointer none] 252 (0, 0))
  have hX : XAt w1.heap.size ((w1.setCell ⟨rb, 1, none⟩ (.int .i64 ((j + 1 : Nat) : Int))).alloc (.cells #[.int .u8 40, .string ⟨#[]⟩, .int .i64 0, .int .i64 0, .pointer none, .pointer none] 252 (0, 0))) 40 ⟨#[]⟩ 0 0 (.pointer none) (.pointer none) := heap_new _ _ _ (by simp [World.setCell])
  have oo := (ho.setCell (p := ⟨rb, 1, none⟩) (.inl rfl) (.int .i64 ((j + 1 : Nat) : Int))).alloc (.cells #[.int .u8 40, .string ⟨#[]⟩, .int .i64 0, .int .i64 0, .pointer none, .pointer none] 252 (0, 0))
  have hsz : ((w1.setCell ⟨rb, 1, none⟩ (.int .i64 ((j + 1 : Nat) : Int))).alloc (.cells #[.int .u8 40, .string ⟨#[]⟩, .int .i64 0, .int .i64 0, .pointer none, .pointer none] 252 (0, 0))).heap.size = w1.heap.size + 1 := by simp [World.setCell]
  have hC := ih rb (j + 1) s r _ h2 hs hl ht hn
  go_wp2_with fail
  refine hC.mono ?_
  rintro e w2 ⟨o2, j2, p, bad2, hj2, h3, rfl, r2⟩
  have hX2 := hX.only o2 (by omega)
  have z2 := o2.size
  rw [hsz] at z2
  have hX3 := hX2.p (.pointer p)
  have h4 := h3.setX (p := ⟨w1.heap.size, 4, none⟩) hne2 (.pointer p)
  have o3 := (oo.trans o2).setCell (p := ⟨w1.heap.size, 4, none⟩) (.inr z0) (.pointer p)
  obtain ⟨⟨x0, x1', x2, x3, x4, x5⟩, ⟨y0, y1, y2, y3, y4, y5⟩⟩ := hX2.facts
  clear hC h2 hX
  have k2 : At s j2 t1 ∧ bad2 = false ∧ RefAt (w1.heap.size + 1) w2 x1 (.pointer p) := by
    rcases r2 with ⟨_, a2, x, t, a3, a4, a5⟩ | ⟨_, a2 | a2⟩
    · rw [hf] at a3
      injection a3 with a3
      injection a3 with e1 e2
      subst e1; subst e2
      exact ⟨a4, a2, by rw [hsz] at a5; exact a5⟩
    · cases a2
    · rw [hf] at a2; cases a2
  obtain ⟨hu2, rfl, hx1⟩ := k2
  have hlk2 := rlook_any rb j2 s false t1 _ h4 hs hj2 hu2
  have hv2 : lookV false (skipR t1) = 124 := by rw [hk, hkk]; rfl
  rw [hv2, hk] at hlk2
  clear r2 h3 hX2
  go_wp2_with fail
  refine hlk2.mono ?_
  rintro e w3 ⟨o4, rfl, j3, hj3, ha3, h5⟩
  obtain ⟨hl3, _, ht3⟩ := ha3.cons
  have hX4 := hX3.only o4 (by omega)
  have hx2 := (hx1.setNew (p := ⟨w1.heap.size, 4, none⟩) (Nat.lt_succ_self _) (.pointer p)).only o4 (by omega)
  have z4 := o4.size
  simp only [World.size_setCell] at z4
  obtain ⟨⟨v0, v1, v2, v3, v4, v5⟩, ⟨t0', t1', t2', t3', t4', t5'⟩⟩ := hX4.facts
  have d1 : w3.cell? ⟨rb, 1, none⟩ = some (.int .i64 j3) := cell_at h5 rfl
  have g1 : w3.frozen? ⟨rb, 1, none⟩ = false := Lib.frozen_of_heap h5 1
  have hX5 := (hX4.k 124).setR (ad := ⟨rb, 1, none⟩) hne (.int .i64 ((j3 + 1 : Nat) : Int))
  have h6 := set_at (j := j3 + 1) (h5.setX (p := ⟨w1.heap.size, 0, none⟩) hne2 (.int .u8 124))
  have hx3 := (hx2.setNew (p := ⟨w1.heap.size, 0, none⟩) (Nat.lt_succ_self _) (.int .u8 124)).setNew (p := ⟨rb, 1, none⟩) (show rb < _ by omega) (.int .i64 ((j3 + 1 : Nat) : Int))
  have o5 := ((o3.trans o4).setCell (p := ⟨w1.heap.size, 0, none⟩) (.inr z0) (.int .u8 124)).setCell (p := ⟨rb, 1, none⟩) (.inl rfl) (.int .i64 ((j3 + 1 : Nat) : Int))
  clear hlk2 h4 hX3 hx1 hx2 x0 x1' x2 x3 x4 x5 y0 y1 y2 y3 y4 y5
  have hC := ih rb (j3 + 1) s t2 _ h6 hs hl3 ht3 hlen
  go_wp2_with fail
  refine hC.mono ?_
  rintro e w5 ⟨o8, j5, q, bad5, hj5, h9, rfl, r5⟩
  have hX8 := hX5.only o8 (by omega)
  have z8 := o8.size
  simp only [World.size_setCell] at z8
  have hx5 := (hx3.only o8 (by omega)).setNew (p := ⟨w1.heap.size, 5, none⟩) (Nat.lt_succ_self _) (.pointer q)
  obtain ⟨⟨x0, x1', x2, x3, x4, x5⟩, ⟨y0, y1, y2, y3, y4, y5⟩⟩ := hX8.facts
  have hXf := hX8.q (.pointer q)
  have hS := h9.setX (p := ⟨w1.heap.size, 5, none⟩) hne2 (.pointer q)
  have o9 := (o5.trans o8).setCell (p := ⟨w1.heap.size, 5, none⟩) (.inr z0) (.pointer q)
  have k5 : ∃ u5, At s j5 u5 ∧ ((bad5 = false ∧ ∃ x2, f t2 = some (x2, u5) ∧ RefAt (w1.heap.size + 1) (w5.setCell ⟨w1.heap.size, 5, none⟩ (.pointer q)) x2 (.pointer q)) ∨ (bad5 = true ∧ res = none)) := by
    rcases r5 with ⟨e1, a2, x, t, a3, a4, a5⟩ | ⟨a1, a2 | a2⟩
    · exact ⟨t, a4, .inl ⟨a2, x, a3, ((RefAt.setNew a5 (by simp only [World.size_setCell]; omega) _).low (by simp only [World.size_setCell]; omega))⟩⟩
    · cases a2
    · exact ⟨_, at_drop s j5, .inr ⟨a1, by rw [HF.out, a2]⟩⟩
  obtain ⟨u5, hu5, q5⟩ := k5
  have hM := rmust_any rb j5 s bad5 u5 41 _ hS hs hj5 hu5 (by decide)
  clear hC h6 hX5 hX8 hx3 h9 r5 v0 v1 v2 v3 v4 v5 t0' t1' t2' t3' t4' t5' d1 g1
  go_wp2_with fail
  refine hM.mono ?_
  rintro e w6 ⟨oA, rfl, j6, bad6, hj6, hA, r6⟩
  have hXg := hXf.only oA (by omega)
  have hx6 := hx5.only oA (by omega)
  clear hM
  go_wp2_with fail
  go_ret
  refine ⟨o9.trans oA, j6, _, bad6, hj6, hA, rfl, ?_⟩
  rcases r6 with ⟨e1, a2, t, a3, a4⟩ | ⟨a1, a2⟩
  · rcases q5 with ⟨_, x2, b3, b4⟩ | ⟨b1, _⟩
    · refine .inl ⟨rfl, a2, mk 8744 ByteArray.empty 0 0 x1 x2, t, by rw [HF.out, b3]; simp only; rw [a3], a4, ?_⟩
      exact ref_mk hXg rfl z0 (hx6.low (by omega)) ((b4.only oA (by omega)).low (by omega))
    · rw [e1] at b1; cases b1
  · refine .inr ⟨a1, .inr ?_⟩
    rcases q5 with ⟨b1, x2, b3, b4⟩ | ⟨_, b2⟩
    · rcases a2 with a2 | a2
      · rw [b1] at a2; cases a2
      · rw [HF.out, b3]; simp only; rw [a2]
    · exact b2

set_option maxHeartbeats 4000000 in
set_option maxRecDepth 100000 in
theorem rsent_since (n : Nat) (f : List UInt8 → Option (BT Pay × List UInt8)) (ih : SOK n f) (rb i : Nat) (s : ByteArray) (u : List UInt8) (c : UInt8) (r : List UInt8) (w : World) (h : ScAt rb w s i false) (hs : s.size ≤ 1000000) (hi : i ≤ s.size) (hu : At s i u) (hsk : skipR u = c :: r) (hc : c.toNat = 40) (hn : r.length < n) (x1 : BT Pay) (t1 t2 : List UInt8) (k : UInt8) (hf : f r = some (x1, t1)) (hk : skipR t1 = k :: t2) (hkk : k = 83) (hlen : t2.length < n) :
    Calls Tryz.prog 179 #[.pointer (some ⟨rb, 0, none⟩)] w fun e w' => Only rb w w' ∧ SEnd s rb w.heap.size false (pairR f r) e w' := by
  have hlk := rlook_any rb i s false u w h hs hi hu
  have hv : lookV false (skipR u) = 40 := by rw [hsk]; show (c.toNat : Int) = 40; omega
  rw [hv, hsk] at hlk
  have HF : Hid (pairR f r = match windowR 83 t2 with | none => none | some ((a, b), t3) => match f t3 with | none => none | some (q, t4) => match expectR 41 t4 with | none => none | some t5 => some (mk 83 ByteArray.empty a b x1 q, t5)) := by
    show _ = _
    subst hkk
    rw [pairR_at hf hk (by decide)]
    rfl
  generalize pairR f r = res at *
  go_enter Tryz.func179, Tryz.ntmps179
  go_wp2_with fail
  refine hlk.mono ?_
  rintro e w1 ⟨ho, rfl, j, hj, ha, h1⟩
  obtain ⟨hl, hcc, ht⟩ := ha.cons
  have c1 : w1.cell? ⟨rb, 1, none⟩ = some (.int .i64 j) := cell_at h1 rfl
  have c2 : w1.cell? ⟨rb, 2, none⟩ = some (.bool false) := cell_at h1 rfl
  have f1 : w1.frozen? ⟨rb, 1, none⟩ = false := Lib.frozen_of_heap h1 1
  have hlt := h1.lt
  have hne : rb ≠ w1.heap.size := by omega
  have hne2 : w1.heap.size ≠ rb := by omega
  have z0 := ho.size
  clear hlk hcc
  have h2 := (set_at (j := j + 1) h1).alloc (.cells #[.int .u8 40, .string ⟨#[]⟩, .int .i64 0, .int .i64 0, .pointer none, .pointer none] 252 (0, 0))
  have hX : XAt w1.heap.size ((w1.setCell ⟨rb, 1, none⟩ (.int .i64 ((j + 1 : Nat) : Int))).alloc (.cells #[.int .u8 40, .string ⟨#[]⟩, .int .i64 0, .int .i64 0, .pointer none, .pointer none] 252 (0, 0))) 40 ⟨#[]⟩ 0 0 (.pointer none) (.pointer none) := heap_new _ _ _ (by simp [World.setCell])
  have oo := (ho.setCell (p := ⟨rb, 1, none⟩) (.inl rfl) (.int .i64 ((j + 1 : Nat) : Int))).alloc (.cells #[.int .u8 40, .string ⟨#[]⟩, .int .i64 0, .int .i64 0, .pointer none, .pointer none] 252 (0, 0))
  have hsz : ((w1.setCell ⟨rb, 1, none⟩ (.int .i64 ((j + 1 : Nat) : Int))).alloc (.cells #[.int .u8 40, .string ⟨#[]⟩, .int .i64 0, .int .i64 0, .pointer none, .pointer none] 252 (0, 0))).heap.size = w1.heap.size + 1 := by simp [World.setCell]
  have hC := ih rb (j + 1) s r _ h2 hs hl ht hn
  go_wp2_with fail
  refine hC.mono ?_
  rintro e w2 ⟨o2, j2, p, bad2, hj2, h3, rfl, r2⟩
  have hX2 := hX.only o2 (by omega)
  have z2 := o2.size
  rw [hsz] at z2
  have hX3 := hX2.p (.pointer p)
  have h4 := h3.setX (p := ⟨w1.heap.size, 4, none⟩) hne2 (.pointer p)
  have o3 := (oo.trans o2).setCell (p := ⟨w1.heap.size, 4, none⟩) (.inr z0) (.pointer p)
  obtain ⟨⟨x0, x1', x2, x3, x4, x5⟩, ⟨y0, y1, y2, y3, y4, y5⟩⟩ := hX2.facts
  clear hC h2 hX
  have k2 : At s j2 t1 ∧ bad2 = false ∧ RefAt (w1.heap.size + 1) w2 x1 (.pointer p) := by
    rcases r2 with ⟨_, a2, x, t, a3, a4, a5⟩ | ⟨_, a2 | a2⟩
    · rw [hf] at a3
      injection a3 with a3
      injection a3 with e1 e2
      subst e1; subst e2
      exact ⟨a4, a2, by rw [hsz] at a5; exact a5⟩
    · cases a2
    · rw [hf] at a2; cases a2
  obtain ⟨hu2, rfl, hx1⟩ := k2
  have hlk2 := rlook_any rb j2 s false t1 _ h4 hs hj2 hu2
  have hv2 : lookV false (skipR t1) = 83 := by rw [hk, hkk]; rfl
  rw [hv2, hk] at hlk2
  clear r2 h3 hX2
  go_wp2_with fail
  refine hlk2.mono ?_
  rintro e w3 ⟨o4, rfl, j3, hj3, ha3, h5⟩
  obtain ⟨hl3, _, ht3⟩ := ha3.cons
  have hX4 := hX3.only o4 (by omega)
  have hx2 := (hx1.setNew (p := ⟨w1.heap.size, 4, none⟩) (Nat.lt_succ_self _) (.pointer p)).only o4 (by omega)
  have z4 := o4.size
  simp only [World.size_setCell] at z4
  obtain ⟨⟨v0, v1, v2, v3, v4, v5⟩, ⟨t0', t1', t2', t3', t4', t5'⟩⟩ := hX4.facts
  have d1 : w3.cell? ⟨rb, 1, none⟩ = some (.int .i64 j3) := cell_at h5 rfl
  have g1 : w3.frozen? ⟨rb, 1, none⟩ = false := Lib.frozen_of_heap h5 1
  have hX5 := (hX4.k 83).setR (ad := ⟨rb, 1, none⟩) hne (.int .i64 ((j3 + 1 : Nat) : Int))
  have h6 := set_at (j := j3 + 1) (h5.setX (p := ⟨w1.heap.size, 0, none⟩) hne2 (.int .u8 83))
  have hx3 := (hx2.setNew (p := ⟨w1.heap.size, 0, none⟩) (Nat.lt_succ_self _) (.int .u8 83)).setNew (p := ⟨rb, 1, none⟩) (show rb < _ by omega) (.int .i64 ((j3 + 1 : Nat) : Int))
  have o5 := ((o3.trans o4).setCell (p := ⟨w1.heap.size, 0, none⟩) (.inr z0) (.int .u8 83)).setCell (p := ⟨rb, 1, none⟩) (.inl rfl) (.int .i64 ((j3 + 1 : Nat) : Int))
  clear hlk2 h4 hX3 hx1 hx2 x0 x1' x2 x3 x4 x5 y0 y1 y2 y3 y4 y5
  have hW := rwindow_any rb (j3 + 1) s false t2 83 _ h6 hs hl3 ht3 rfl
  go_wp2_with fail
  refine hW.mono ?_
  rintro e w4 ⟨o6, j4, a, b, bad4, hj4, h7, rfl, r4⟩
  have hX6 := hX5.only o6 (by omega)
  have z6 := o6.size
  simp only [World.size_setCell] at z6
  have hx4 := ((hx3.only o6 (by omega)).setNew (p := ⟨w1.heap.size, 2, none⟩) (Nat.lt_succ_self _) (.int .i64 a)).setNew (p := ⟨w1.heap.size, 3, none⟩) (Nat.lt_succ_self _) (.int .i64 b)
  have hX7 := hX6.ab a b
  have h8 := (h7.setX (p := ⟨w1.heap.size, 2, none⟩) hne2 (.int .i64 a)).setX (p := ⟨w1.heap.size, 3, none⟩) hne2 (.int .i64 b)
  have o7 := ((o5.trans o6).setCell (p := ⟨w1.heap.size, 2, none⟩) (.inr z0) (.int .i64 a)).setCell (p := ⟨w1.heap.size, 3, none⟩) (.inr z0) (.int .i64 b)
  obtain ⟨⟨x0, x1', x2, x3, x4, x5⟩, ⟨y0, y1, y2, y3, y4, y5⟩⟩ := hX6.facts
  have k4 : ∃ u4, At s j4 u4 ∧ ((bad4 = false ∧ windowR 83 t2 = some ((a, b), u4)) ∨ (bad4 = true ∧ windowR 83 t2 = none)) := by
    rcases r4 with ⟨_, a2, t, a3, a4⟩ | ⟨a1, a2 | a2⟩
    · exact ⟨t, a4, .inl ⟨a2, a3⟩⟩
    · cases a2
    · exact ⟨_, at_drop s j4, .inr ⟨a1, a2⟩⟩
  obtain ⟨u4, hu4, q4⟩ := k4
  have hC := ih.any rb j4 s bad4 u4 _ h8 hs hj4 hu4 (fun hb => by
    rcases q4 with ⟨_, b2⟩ | ⟨b1, _⟩
    · have := window_len b2; omega
    · rw [hb] at b1; cases b1)
  clear hW h6 hX5 hX6 hx3 h7 r4 v0 v1 v2 v3 v4 v5 t0' t1' t2' t3' t4' t5' d1 g1
  go_wp2_with fail
  refine hC.mono ?_
  rintro e w5 ⟨o8, j5, q, bad5, hj5, h9, rfl, r5⟩
  have hX8 := hX7.only o8 (by omega)
  have z8 := o8.size
  simp only [World.size_setCell] at z8
  have hx5 := (hx4.only o8 (by omega)).setNew (p := ⟨w1.heap.size, 5, none⟩) (Nat.lt_succ_self _) (.pointer q)
  obtain ⟨⟨v0, v1, v2, v3, v4, v5⟩, ⟨t0', t1', t2', t3', t4', t5'⟩⟩ := hX8.facts
  have hXf := hX8.q (.pointer q)
  have hS := h9.setX (p := ⟨w1.heap.size, 5, none⟩) hne2 (.pointer q)
  have o9 := (o7.trans o8).setCell (p := ⟨w1.heap.size, 5, none⟩) (.inr z0) (.pointer q)
  have k5 : ∃ u5, At s j5 u5 ∧ ((bad5 = false ∧ ∃ u4 x2, windowR 83 t2 = some ((a, b), u4) ∧ f u4 = some (x2, u5) ∧ RefAt (w1.heap.size + 1) (w5.setCell ⟨w1.heap.size, 5, none⟩ (.pointer q)) x2 (.pointer q)) ∨ (bad5 = true ∧ res = none)) := by
    rcases r5 with ⟨e1, a2, x, t, a3, a4, a5⟩ | ⟨a1, a2⟩
    · rcases q4 with ⟨_, b2⟩ | ⟨b1, _⟩
      · exact ⟨t, a4, .inl ⟨a2, u4, x, b2, a3, ((RefAt.setNew a5 (by simp only [World.size_setCell]; omega) _).low (by simp only [World.size_setCell]; omega))⟩⟩
      · rw [e1] at b1; cases b1
    · refine ⟨_, at_drop s j5, .inr ⟨a1, ?_⟩⟩
      rcases q4 with ⟨b1, b2⟩ | ⟨_, b2⟩
      · rcases a2 with a2 | a2
        · rw [b1] at a2; cases a2
        · rw [HF.out, b2]; simp only; rw [a2]
      · rw [HF.out, b2]
  obtain ⟨u5, hu5, q5⟩ := k5
  have hM := rmust_any rb j5 s bad5 u5 41 _ hS hs hj5 hu5 (by decide)
  clear hC h8 hX7 hX8 hx4 h9 r5 x0 x1' x2 x3 x4 x5 y0 y1 y2 y3 y4 y5
  go_wp2_with fail
  refine hM.mono ?_
  rintro e w6 ⟨oA, rfl, j6, bad6, hj6, hA, r6⟩
  have hXg := hXf.only oA (by omega)
  have hx6 := hx5.only oA (by omega)
  clear hM
  go_wp2_with fail
  go_ret
  refine ⟨o9.trans oA, j6, _, bad6, hj6, hA, rfl, ?_⟩
  rcases r6 with ⟨e1, a2, t, a3, a4⟩ | ⟨a1, a2⟩
  · rcases q5 with ⟨_, u4', x2, b2, b3, b4⟩ | ⟨b1, _⟩
    · refine .inl ⟨rfl, a2, mk 83 ByteArray.empty a b x1 x2, t, by rw [HF.out, b2]; simp only; rw [b3]; simp only; rw [a3], a4, ?_⟩
      exact ref_mk hXg rfl z0 (hx6.low (by omega)) ((b4.only oA (by omega)).low (by omega))
    · rw [e1] at b1; cases b1
  · refine .inr ⟨a1, .inr ?_⟩
    rcases q5 with ⟨b1, u4', x2, b2, b3, b4⟩ | ⟨_, b2⟩
    · rcases a2 with a2 | a2
      · rw [b1] at a2; cases a2
      · rw [HF.out, b2]; simp only; rw [b3]; simp only; rw [a2]
    · exact b2

end Go.Proofs.YtpbbmagjhkakgaaGreatDoor

namespace Go.Proofs.YtpbbmagjhkakgaaGreatDoor
open Go.RowKit Go.Deep

set_option maxHeartbeats 4000000 in
set_option maxRecDepth 100000 in
/-- A sign that begins no sentence. -/
theorem rsent_other (rb i : Nat) (s : ByteArray) (u : List UInt8) (c : UInt8) (r : List UInt8) (res : Option (BT Pay × List UInt8)) (w : World) (h : ScAt rb w s i false) (hs : s.size ≤ 1000000) (hi : i ≤ s.size) (hu : At s i u) (hsk : skipR u = c :: r) (hres : res = none)
    (hc : ¬ (c.toNat = 33 ∨ c.toNat = 89 ∨ c.toNat = 79 ∨ c.toNat = 72 ∨ c.toNat = 40)) (hlet : ¬ (97 ≤ c.toNat ∧ c.toNat ≤ 122)) :
    Calls Tryz.prog 179 #[.pointer (some ⟨rb, 0, none⟩)] w fun e w' => Only rb w w' ∧ SEnd s rb w.heap.size false res e w' := by
  have hlk := rlook_any rb i s false u w h hs hi hu
  have hv : lookV false (skipR u) = (c.toNat : Int) := by rw [hsk]; rfl
  rw [hv, hsk] at hlk
  have HR : Hid (res = none) := hres
  have hcs := UInt8.toNat_lt c
  have q33 : ((c.toNat : Int) == 33) = false := by simp only [beq_eq_false_iff_ne]; omega
  have q89 : ((c.toNat : Int) == 89) = false := by simp only [beq_eq_false_iff_ne]; omega
  have q79 : ((c.toNat : Int) == 79) = false := by simp only [beq_eq_false_iff_ne]; omega
  have q72 : ((c.toNat : Int) == 72) = false := by simp only [beq_eq_false_iff_ne]; omega
  have q40 : ((c.toNat : Int) == 40) = false := by simp only [beq_eq_false_iff_ne]; omega
  have hz : ((c.toNat : Int) == 0) = true ∨ (((c.toNat : Int) == 0) = false ∧ (decide (97 ≤ (c.toNat : Int)) = false ∨ (decide (97 ≤ (c.toNat : Int)) = true ∧ decide ((c.toNat : Int) ≤ 122) = false))) := by
    by_cases h0 : c.toNat = 0
    · exact .inl (by rw [h0]; rfl)
    · refine .inr ⟨by simp only [beq_eq_false_iff_ne]; omega, ?_⟩
      by_cases h97 : 97 ≤ c.toNat
      · exact .inr ⟨by simp; omega, by simp; omega⟩
      · exact .inl (by simp; omega)
  clear hc hlet hres
  generalize (c.toNat : Int) = cc at *
  rcases hz with z0 | ⟨z0, z97 | ⟨z97, z122⟩⟩
  all_goals
    go_enter Tryz.func179, Tryz.ntmps179
    go_wp2_with fail
    refine hlk.mono ?_
    rintro e w1 ⟨ho, rfl, j, hj, ha, h1⟩
    have c2 : w1.cell? ⟨rb, 2, none⟩ = some (.bool false) := cell_at h1 rfl
    have f2 : w1.frozen? ⟨rb, 2, none⟩ = false := Lib.frozen_of_heap h1 2
    have hlt := h1.lt
    have hne : rb ≠ w1.heap.size := by omega
    clear hlk
    go_wp2_with fail
    go_ret
    exact ⟨(ho.setCell (p := ⟨rb, 2, none⟩) (.inl rfl) _).alloc _, j, _, true, hj, (set_bad h1).alloc _, rfl, .inr ⟨rfl, .inr HR.out⟩⟩

set_option maxHeartbeats 4000000 in
set_option maxRecDepth 100000 in
/-- A word. -/
theorem rsent_word (rb i : Nat) (s : ByteArray) (u : List UInt8) (c : UInt8) (r : List UInt8) (w : World) (h : ScAt rb w s i false) (hs : s.size ≤ 1000000) (hi : i ≤ s.size) (hu : At s i u) (hsk : skipR u = c :: r) (hlet : 97 ≤ c.toNat ∧ c.toNat ≤ 122) :
    Calls Tryz.prog 179 #[.pointer (some ⟨rb, 0, none⟩)] w fun e w' => Only rb w w' ∧ SEnd s rb w.heap.size false ((wordT (wordR 97 (c :: r))).map fun x => (x, restR 97 (c :: r))) e w' := by
  have hlk := rlook_any rb i s false u w h hs hi hu
  have hv : lookV false (skipR u) = (c.toNat : Int) := by rw [hsk]; rfl
  rw [hv, hsk] at hlk
  have hcs := UInt8.toNat_lt c
  have h32 : c ≠ 32 := by intro e; subst e; exact absurd hlet.1 (by decide)
  have hsk2 := skip_ne c r h32
  rw [(word_let _).1, (word_let _).2]
  have q0 : ((c.toNat : Int) == 0) = false := by simp only [beq_eq_false_iff_ne]; omega
  have q33 : ((c.toNat : Int) == 33) = false := by simp only [beq_eq_false_iff_ne]; omega
  have q89 : ((c.toNat : Int) == 89) = false := by simp only [beq_eq_false_iff_ne]; omega
  have q79 : ((c.toNat : Int) == 79) = false := by simp only [beq_eq_false_iff_ne]; omega
  have q72 : ((c.toNat : Int) == 72) = false := by simp only [beq_eq_false_iff_ne]; omega
  have q40 : ((c.toNat : Int) == 40) = false := by simp only [beq_eq_false_iff_ne]; omega
  have q97 : decide (97 ≤ (c.toNat : Int)) = true := by simp; omega
  have q122 : decide ((c.toNat : Int) ≤ 122) = true := by simp; omega
  clear hlet hcs
  generalize hL : (c :: r).takeWhile (pB 97 122) = l
  generalize hT : (c :: r).dropWhile (pB 97 122) = t
  go_enter Tryz.func179, Tryz.ntmps179
  go_wp2_with fail
  refine hlk.mono ?_
  rintro e w1 ⟨ho, rfl, j, hj, ha, h1⟩
  have c2 : w1.cell? ⟨rb, 2, none⟩ = some (.bool false) := cell_at h1 rfl
  have hlt := h1.lt
  have hne : rb ≠ w1.heap.size := by omega
  have hne2 : w1.heap.size ≠ rb := by omega
  have z0 := ho.size
  clear hlk
  have h2 := h1.alloc (.cells #[.int .u8 97, .string ⟨#[]⟩, .int .i64 0, .int .i64 0, .pointer none, .pointer none] 252 (0, 0))
  have hX : XAt w1.heap.size (w1.alloc (.cells #[.int .u8 97, .string ⟨#[]⟩, .int .i64 0, .int .i64 0, .pointer none, .pointer none] 252 (0, 0))) 97 ⟨#[]⟩ 0 0 (.pointer none) (.pointer none) := heap_new _ _ _ rfl
  have oo := ho.alloc (.cells #[.int .u8 97, .string ⟨#[]⟩, .int .i64 0, .int .i64 0, .pointer none, .pointer none] 252 (0, 0))
  have hW := rword_any rb j s false (c :: r) 97 122 _ h2 hs hj ha
  rw [hsk2, hL, hT] at hW
  clear hL hT
  go_wp2_with fail
  refine hW.mono ?_
  rintro e w2 ⟨o2, k, d, hk, h3, rfl, hd, hr⟩
  have hX2 := hX.only o2 (by omega)
  have hX3 := hX2.nm d
  have h4 := h3.setX (p := ⟨w1.heap.size, 1, none⟩) hne2 (.string d)
  have o3 := (oo.trans o2).setCell (p := ⟨w1.heap.size, 1, none⟩) (.inr z0) (.string d)
  obtain ⟨⟨x0, x1, x2, x3, x4, x5⟩, ⟨y0, y1, y2, y3, y4, y5⟩⟩ := hX2.facts
  have e2 : w2.cell? ⟨rb, 2, none⟩ = some (.bool false) := cell_at h3 rfl
  have g2 : w2.frozen? ⟨rb, 2, none⟩ = false := Lib.frozen_of_heap h3 2
  have hsz : d.size = l.length := by rw [← hd, size_list]
  clear hW h2 hX
  by_cases ht : l = [116, 114, 117, 101]
  · have hdt : (d.toList == [116, 114, 117, 101]) = true := by rw [Lib.toList_data, hd, ht]; rfl
    have hres : Hid (wordT l = some (mk 116 ByteArray.empty 0 0 .nil .nil)) := by show _ = _; unfold wordT; rw [if_pos ht]
    have hX4 := (hX3.k 116).nm ⟨#[]⟩
    go_wp2_with fail
    go_ret
    refine ⟨(o3.setCell (p := ⟨w1.heap.size, 0, none⟩) (.inr z0) _).setCell (p := ⟨w1.heap.size, 1, none⟩) (.inr z0) _, k, _, false, hk, (h4.setX (p := ⟨w1.heap.size, 0, none⟩) hne2 _).setX (p := ⟨w1.heap.size, 1, none⟩) hne2 _, rfl, .inl ⟨rfl, rfl, _, t, by rw [hres.out]; rfl, hr, ?_⟩⟩
    exact ref_mk hX4 rfl z0 rfl rfl
  · have hdt : (d.toList == [116, 114, 117, 101]) = false := by
      rw [Lib.toList_data, hd, beq_eq_false_iff_ne]; exact ht
    by_cases h8 : 8 < l.length
    · have hres : Hid (wordT l = none) := by show _ = _; unfold wordT; rw [if_neg ht, if_pos h8]
      have z8 : decide (8 < (l.length : Int)) = true := by simp; omega
      go_wp2_with fail
      go_ret
      exact ⟨o3.setCell (p := ⟨rb, 2, none⟩) (.inl rfl) _, k, _, true, hk, set_bad h4, rfl, .inr ⟨rfl, .inr (by rw [hres.out]; rfl)⟩⟩
    · have hdl : d = ⟨l.toArray⟩ := bytes_ext hd
      have hres : Hid (wordT l = some (mk 97 d 0 0 .nil .nil)) := by show _ = _; unfold wordT; rw [if_neg ht, if_neg h8, ← hdl]
      have z8 : decide (8 < (l.length : Int)) = false := by simp; omega
      clear hdl
      go_wp2_with fail
      go_ret
      refine ⟨o3, k, _, false, hk, h4, rfl, .inl ⟨rfl, rfl, _, t, by rw [hres.out]; rfl, hr, ?_⟩⟩
      exact ref_mk hX3 rfl z0 rfl rfl

theorem sent_len : ∀ (n : Nat) (u : List UInt8) (x : BT Pay) (t : List UInt8), sentR n u = some (x, t) → t.length ≤ u.length
  | 0, u, x, t, h => by cases h
  | n + 1, u, x, t, h => by
    have ih := sent_len n
    have hsl := skip_len u
    simp only [sentR] at h
    cases hsk : skipR u with
    | nil => rw [hsk] at h; cases h
    | cons c r =>
      rw [hsk] at h hsl
      simp only at h
      have hr : r.length ≤ u.length := by simp at hsl; omega
      split at h
      · cases hw : wordT (wordR 97 (c :: r)) with
        | none => rw [hw] at h; cases h
        | some y =>
          rw [hw] at h
          simp at h
          rw [← h.2]
          exact Nat.le_trans (List.dropWhile_sublist _).length_le hsl
      · split at h
        · unfold pairR at h
          cases h1 : sentR n r with
          | none => rw [h1] at h; cases h
          | some p1 =>
            obtain ⟨x1, t1⟩ := p1
            have l1 := ih r x1 t1 h1
            have l2 := skip_len t1
            rw [h1] at h
            simp only at h
            cases h2 : skipR t1 with
            | nil => rw [h2] at h; cases h
            | cons k t2 =>
              rw [h2] at h l2
              simp only at h
              simp at l2
              split at h
              · cases h3 : windowR (signF (k.toNat : Int)) t2 with
                | none => rw [h3] at h; cases h
                | some p3 =>
                  obtain ⟨⟨a, b⟩, t3⟩ := p3
                  have l3 := window_len h3
                  rw [h3] at h
                  simp only at h
                  cases h4 : sentR n t3 with
                  | none => rw [h4] at h; cases h
                  | some p4 =>
                    obtain ⟨q, t4⟩ := p4
                    have l4 := ih t3 q t4 h4
                    rw [h4] at h
                    simp only at h
                    cases h5 : expectR 41 t4 with
                    | none => rw [h5] at h; cases h
                    | some t5 =>
                      have l5 := expect_len h5
                      rw [h5] at h
                      simp at h
                      rw [← h.2]
                      omega
              · cases h
        · split at h
          · unfold singleR at h
            cases h3 : windowR (signF (c.toNat : Int)) r with
            | none => rw [h3] at h; cases h
            | some p3 =>
              obtain ⟨⟨a, b⟩, t3⟩ := p3
              have l3 := window_len h3
              rw [h3] at h
              simp only at h
              cases h4 : sentR n t3 with
              | none => rw [h4] at h; cases h
              | some p4 =>
                obtain ⟨q, t4⟩ := p4
                have l4 := ih t3 q t4 h4
                rw [h4] at h
                simp at h
                rw [← h.2]
                omega
          · cases h

theorem toNat_lit {c : UInt8} {n : Nat} (h : c.toNat = n) (hn : n < 256) : c = UInt8.ofNat n := by
  rw [← UInt8.toNat_inj, h, UInt8.toNat_ofNat']
  omega

/-- The given reader's sentence, whatever the text. -/
theorem rsent_any : ∀ n, SOK n (sentR n)
  | 0 => fun rb i s u w h hs hi hu hn => absurd hn (Nat.not_lt_zero _)
  | n + 1 => by
    have ih := rsent_any n
    intro rb i s u w h hs hi hu hn
    have hsl := skip_len u
    cases hsk : skipR u with
    | nil => exact rsent_nil rb i s u _ w h hs hi hu hsk (by simp only [sentR]; rw [hsk])
    | cons c r =>
      rw [hsk] at hsl
      have hr : r.length < n := by simp at hsl; omega
      have hF : sentR (n + 1) u = if signF (c.toNat : Int) = 97 then (wordT (wordR 97 (c :: r))).map fun x => (x, restR 97 (c :: r))
        else if c = 40 then pairR (sentR n) r
        else if c = 33 ∨ c = 89 ∨ c = 79 ∨ c = 72 then singleR (sentR n) (signF (c.toNat : Int)) r
        else none := by simp only [sentR]; rw [hsk]
      rw [hF]
      have hl97 := pB_let c
      by_cases hlet : 97 ≤ c.toNat ∧ c.toNat ≤ 122
      · have : signF (c.toNat : Int) = 97 := by
          have h2 : (signF (c.toNat : Int) == 97) = true := by rw [hl97]; unfold pB; simp [hlet]
          simpa using h2
        rw [if_pos this]
        exact rsent_word rb i s u c r w h hs hi hu hsk hlet
      · have hns : ¬ signF (c.toNat : Int) = 97 := by
          intro e
          have h2 : pB 97 122 c = true := by rw [← hl97, e]; rfl
          unfold pB at h2
          simp at h2
          exact hlet h2
        rw [if_neg hns]
        by_cases h40 : c.toNat = 40
        · have hc : c = 40 := toNat_lit (n := 40) h40 (by decide)
          rw [if_pos hc]
          cases hf : sentR n r with
          | none =>
            exact rsent_pairNone n _ ih rb i s u c r w h hs hi hu hsk h40 hr (by unfold pairR; rw [hf]) (fun x t k t2 e => by rw [hf] at e; cases e)
          | some p1 =>
            obtain ⟨x1, t1⟩ := p1
            cases hk : skipR t1 with
            | nil =>
              exact rsent_pairNone n _ ih rb i s u c r w h hs hi hu hsk h40 hr (by unfold pairR; rw [hf]; simp only; rw [hk]) (fun x t k t2 e e2 => by
                rw [hf] at e; injection e with e; injection e with _ e; subst e; rw [hk] at e2; cases e2)
            | cons k t2 =>
              have hlen : t2.length < n := by
                have l1 := sent_len n r x1 t1 hf
                have l2 := skip_len t1
                rw [hk] at l2
                simp at l2
                omega
              by_cases h38 : k.toNat = 38
              · exact rsent_and n _ ih rb i s u c r w h hs hi hu hsk h40 hr x1 t1 t2 k hf hk (toNat_lit (n := 38) h38 (by decide)) hlen
              · by_cases h124 : k.toNat = 124
                · exact rsent_or n _ ih rb i s u c r w h hs hi hu hsk h40 hr x1 t1 t2 k hf hk (toNat_lit (n := 124) h124 (by decide)) hlen
                · by_cases h83 : k.toNat = 83
                  · exact rsent_since n _ ih rb i s u c r w h hs hi hu hsk h40 hr x1 t1 t2 k hf hk (toNat_lit (n := 83) h83 (by decide)) hlen
                  · refine rsent_pairNone n _ ih rb i s u c r w h hs hi hu hsk h40 hr ?_ (fun x t k' t2' e e2 => ?_)
                    · unfold pairR; rw [hf]; simp only; rw [hk]; simp only
                      rw [if_neg]
                      rintro (e | e | e)
                      · exact h38 (by rw [e]; rfl)
                      · exact h124 (by rw [e]; rfl)
                      · exact h83 (by rw [e]; rfl)
                    · rw [hf] at e; injection e with e; injection e with _ e; subst e; rw [hk] at e2; injection e2 with e2 _; subst e2
                      omega
        · have hc40 : ¬ c = 40 := fun e => h40 (by rw [e]; rfl)
          rw [if_neg hc40]
          by_cases h33 : c.toNat = 33
          · have hc : c = 33 := toNat_lit (n := 33) h33 (by decide)
            rw [if_pos (.inl hc), show signF (c.toNat : Int) = 172 by rw [h33]; decide]
            exact rsent_not n _ ih rb i s u c r w h hs hi hu hsk h33 hr
          · by_cases h89 : c.toNat = 89
            · have hc : c = 89 := toNat_lit (n := 89) h89 (by decide)
              rw [if_pos (.inr (.inl hc)), show signF (c.toNat : Int) = 89 by rw [h89]; decide]
              exact rsent_y n _ ih rb i s u c r w h hs hi hu hsk h89 hr
            · by_cases h79 : c.toNat = 79
              · have hc : c = 79 := toNat_lit (n := 79) h79 (by decide)
                rw [if_pos (.inr (.inr (.inl hc))), show signF (c.toNat : Int) = 79 by rw [h79]; decide]
                exact rsent_o n _ ih rb i s u c r w h hs hi hu hsk h79 hr
              · by_cases h72 : c.toNat = 72
                · have hc : c = 72 := toNat_lit (n := 72) h72 (by decide)
                  rw [if_pos (.inr (.inr (.inr hc))), show signF (c.toNat : Int) = 72 by rw [h72]; decide]
                  exact rsent_h n _ ih rb i s u c r w h hs hi hu hsk h72 hr
                · rw [if_neg (by rintro (e | e | e | e) <;> (rw [e] at h33 h89 h79 h72; first | exact h33 rfl | exact h89 rfl | exact h79 rfl | exact h72 rfl))]
                  exact rsent_other rb i s u c r none w h hs hi hu hsk rfl (by omega) hlet

end Go.Proofs.YtpbbmagjhkakgaaGreatDoor
