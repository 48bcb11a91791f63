/-
  What (*Table).put, Put and Count do: a core with all its parts is put into the table of nodes as the plain function says; for every sentence that is made as it should be.
-/
import Derived.Test.YtiilkkahpbnogaaGreatDoorTab
import Derived.Test.YtiilkkahpbnogaaGreatDoorCore
import Derived.Deep.RegionHeld3
namespace Go.Proofs.YtiilkkahpbnogaaGreatDoor
open Go.RowKit Go.Deep Go.Maps

/-- A table: block tb holds the map in block mb, which is K. -/
def TabAt (tb mb : Nat) (w : World) (K : List Key) : Prop := w.heap[tb]? = some (.cells #[.map (some mb)] 53 (0, 0)) ∧ MapAt mb w K

theorem TabAt.ne {tb mb : Nat} {w : World} {K : List Key} (h : TabAt tb mb w K) : tb ≠ mb := by
  obtain ⟨h1, n, D, ⟨es, clock, h2, _⟩, _⟩ := h
  intro e
  subst e
  rw [h1] at h2
  simp at h2

theorem TabAt.sent {tb mb sb : Nat} {w : World} {K : List Key} {cs : Array Value} {e : TypeId} {m : Nat × Nat} (h : TabAt tb mb w K) (hs : w.heap[sb]? = some (.cells cs e m)) : sb ≠ mb := by
  obtain ⟨h1, n, D, ⟨es, clock, h2, _⟩, _⟩ := h
  intro e
  subst e
  rw [hs] at h2
  simp at h2

theorem TabAt.tlt {tb mb : Nat} {w : World} {K : List Key} (h : TabAt tb mb w K) : tb < w.heap.size := heap_lt h.1

theorem TabAt.new {tb mb X : Nat} {w w' : World} {K : List Key} (h : TabAt tb mb w K) (ht : tb ≠ X) (hm : mb ≠ X) (ho : Only X w w') : TabAt tb mb w' K :=
  ⟨ho.heap h.1 ht, h.2.heap (ho.block mb h.2.lt hm)⟩

theorem Only.setIn {s o : Nat} {a w : World} (h : Only s a w) (u : Value) : Only s a (w.setCell ⟨s, o, none⟩ u) := h.setCell (p := ⟨s, o, none⟩) (.inl rfl) u

theorem tail_gen {Q : Exit → Act → World → Prop} {e : Exit} {a : Act} {W : World} {F : World → Prop} (hF : F W) (h : ∀ W', F W' → Q e a W') : Q e a W := h W hF

theorem TabAt.below {tb mb : Nat} {w w' : World} {K : List Key} (h : TabAt tb mb w K) (hb : Below w.heap.size w w') : TabAt tb mb w' K := ⟨hb.heapOf h.1, h.2.below hb⟩

theorem SentAt.map {S Bt mb : Nat} {w w' : World} {es : Array MapEntry} {clock : Nat} (hm : w.heap[mb]? = some (.map es clock)) (ho : Only mb w w') : ∀ {x : BT Pay} {v : Value}, SentAt S Bt w x v → SentAt S Bt w' x v
  | .nil, _, h => h
  | .node _ _ _ l r, _, ⟨sb, vl, vr, e, hB, hc, hl, hr⟩ => ⟨sb, vl, vr, e, hB, ho.heap hc (by intro e; subst e; rw [hc] at hm; simp at hm), SentAt.map hm ho (x := l) hl, SentAt.map hm ho (x := r) hr⟩

/-- A node that is empty yet, in its block. -/
def Bare (X : Nat) (w : World) : Prop := w.heap[X]? = some (.cells #[.int .i32 0, .string ⟨#[]⟩, .int .i64 0, .int .i64 0, .int .i64 0, .int .i64 0] 146 (0, 0))

theorem Bare.facts {X : Nat} {w : World} (h : Bare X w) : (w.cell? ⟨X, 0, none⟩ = some (.int .i32 0) ∧ w.cell? ⟨X, 1, none⟩ = some (.string ⟨#[]⟩) ∧ w.cell? ⟨X, 2, none⟩ = some (.int .i64 0) ∧ w.cell? ⟨X, 3, none⟩ = some (.int .i64 0) ∧ w.cell? ⟨X, 4, none⟩ = some (.int .i64 0) ∧ w.cell? ⟨X, 5, none⟩ = some (.int .i64 0))
    ∧ (w.frozen? ⟨X, 0, none⟩ = false ∧ w.frozen? ⟨X, 1, none⟩ = false ∧ w.frozen? ⟨X, 2, none⟩ = false ∧ w.frozen? ⟨X, 3, none⟩ = false ∧ w.frozen? ⟨X, 4, none⟩ = false ∧ w.frozen? ⟨X, 5, none⟩ = false) :=
  ⟨⟨cell_at h rfl, cell_at h rfl, cell_at h rfl, cell_at h rfl, cell_at h rfl, cell_at h rfl⟩, ⟨Lib.frozen_of_heap h 0, Lib.frozen_of_heap h 1, Lib.frozen_of_heap h 2, Lib.frozen_of_heap h 3, Lib.frozen_of_heap h 4, Lib.frozen_of_heap h 5⟩⟩

theorem Only.bare {X mb : Nat} {w w' : World} (ho : Only mb w w') (h : Bare X w) (hne : X ≠ mb) : Bare X w' := ho.heap h hne

/-- put does as putK says at this core. -/
def PutOK (x : BT Pay) : Prop := ∀ (v : Value) (Bt tb mb : Nat) (K : List Key) (w : World), SentAt 88 Bt w x v → (x = .nil ∨ Good x) → TabAt tb mb w K → K.length + nodesT x ≤ 1000000000000000000 →
  Calls Tryz.prog 36 #[.pointer (some ⟨tb, 0, none⟩), v] w fun e w' => e = .returned (.int .i64 (putK K x).1) ∧ TabAt tb mb w' (putK K x).2 ∧ Only mb w w'

set_option maxHeartbeats 400000 in
theorem put_nil (p : Value) (w : World) : Calls Tryz.prog 36 #[p, .pointer none] w fun e w' => e = .returned (.int .i64 0) ∧ w' = w := by
  go_enter Tryz.func36, Tryz.ntmps36
  go_wp2_with fail
  go_ret
  exact ⟨rfl, rfl⟩

set_option maxHeartbeats 4000000 in
theorem put_node (b0 o0 : Nat) (a : Pay) (l r : BT Pay) (il : PutOK l) (ir : PutOK r) (gl : l = .nil ∨ Good l) (gr : r = .nil ∨ Good r) (v : Value) (Bt tb mb : Nat) (K : List Key) (w : World) (hs : SentAt 88 Bt w (.node b0 o0 a l r) v)
    (hk : ∀ p q : Int, 0 ≤ p → p ≤ 1000000000000000000 → 0 ≤ q → q ≤ 1000000000000000000 → Key.OK ⟨a.op, a.name, a.lo, a.hi, p, q⟩) (ht : TabAt tb mb w K) (hlen : K.length + (nodesT l + nodesT r + 1) ≤ 1000000000000000000) :
    Calls Tryz.prog 36 #[.pointer (some ⟨tb, 0, none⟩), v] w fun e w' => e = .returned (.int .i64 (putK K (.node b0 o0 a l r)).1) ∧ TabAt tb mb w' (putK K (.node b0 o0 a l r)).2 ∧ Only mb w w' := by
  obtain ⟨sb, vl, vr, rfl, hB, hh, hl, hr⟩ := hs
  have hsm := ht.sent hh
  have htm := ht.ne
  have hmb : mb < w.heap.size := ht.2.lt
  obtain ⟨n0, D0, ⟨es, clock, hmap, hm2⟩, hm3⟩ := id ht.2
  clear hm2 hm3
  have hst : ∀ w', Only mb w w' → w'.cell? ⟨sb, 0, none⟩ = some (.int .i32 a.op) ∧ w'.cell? ⟨sb, 1, none⟩ = some (.string a.name) ∧ w'.cell? ⟨sb, 2, none⟩ = some (.int .i64 a.lo) ∧ w'.cell? ⟨sb, 3, none⟩ = some (.int .i64 a.hi) ∧ w'.cell? ⟨sb, 4, none⟩ = some vl ∧ w'.cell? ⟨sb, 5, none⟩ = some vr ∧ Only mb w w' := fun w' h => by
    have hc := h.heap hh hsm
    exact ⟨cell_at hc rfl, cell_at hc rfl, cell_at hc rfl, cell_at hc rfl, cell_at hc rfl, cell_at hc rfl, h⟩
  have Hst : Hid (∀ w', Only mb w w' → w'.cell? ⟨sb, 0, none⟩ = some (.int .i32 a.op) ∧ w'.cell? ⟨sb, 1, none⟩ = some (.string a.name) ∧ w'.cell? ⟨sb, 2, none⟩ = some (.int .i64 a.lo) ∧ w'.cell? ⟨sb, 3, none⟩ = some (.int .i64 a.hi) ∧ w'.cell? ⟨sb, 4, none⟩ = some vl ∧ w'.cell? ⟨sb, 5, none⟩ = some vr ∧ Only mb w w') := hst
  have hL := fun (W : World) (hW : SentAt 88 Bt W l vl) (hT : TabAt tb mb W K) => il vl Bt tb mb K W hW gl hT (by omega)
  have HL : Hid (∀ W : World, SentAt 88 Bt W l vl → TabAt tb mb W K → _) := hL
  have bl := putK_len l K
  have hR := fun (W : World) (hW : SentAt 88 Bt W r vr) (hT : TabAt tb mb W (putK K l).2) => ir vr Bt tb mb (putK K l).2 W hW gr hT (by omega)
  have HR : Hid (∀ W : World, SentAt 88 Bt W r vr → TabAt tb mb W (putK K l).2 → _) := hR
  have br := putK_len r (putK K l).2
  have hPut : Hid (putK K (.node b0 o0 a l r) = addK (putK (putK K l).2 r).2 ⟨a.op, a.name, a.lo, a.hi, (putK K l).1, (putK (putK K l).2 r).1⟩) := rfl
  generalize putK K (.node b0 o0 a l r) = out at *
  have hSr : Hid (∀ W', Only mb w W' → SentAt 88 Bt W' r vr) := fun W' h => SentAt.map hmap h hr
  have hkk := hk (putK K l).1 (putK (putK K l).2 r).1 (by omega) (by omega) (by omega) (by omega)
  clear hst hL hR hk il ir hh
  generalize (putK K l).1 = nl at *
  generalize (putK K l).2 = K1 at *
  generalize (putK K1 r).1 = nr at *
  generalize (putK K1 r).2 = K2 at *
  go_enter Tryz.func36, Tryz.ntmps36
  go_wp2_with fail
  go_region_held3 (fun w' => w'.cell? ⟨sb, 0, none⟩ = some (.int .i32 a.op) ∧ w'.cell? ⟨sb, 1, none⟩ = some (.string a.name) ∧ w'.cell? ⟨sb, 2, none⟩ = some (.int .i64 a.lo) ∧ w'.cell? ⟨sb, 3, none⟩ = some (.int .i64 a.hi) ∧ w'.cell? ⟨sb, 4, none⟩ = some vl ∧ w'.cell? ⟨sb, 5, none⟩ = some vr ∧ Only mb w w')
    ((refine Hst.out _ ?_; repeat (with_reducible (first | refine Only.setCell ?_ (Or.inr (Nat.le_refl _)) _ | refine Only.setCell ?_ (Or.inr z1) _ | refine Only.setCell ?_ (Or.inr z2) _ | refine Only.alloc ?_ _ | refine Only.drew ?_ | refine Only.trans ?_ ho2 | refine Only.trans ?_ ho1 | exact Only.refl _ _))))
    (first
      | (go_at_call_of 36 (vl); refine (HL.out _ ?_ ?_).mono ?_; (first | exact hl.below (Below.refl _ _).drew | exact hl.below ((Below.refl _ _).drew.al _)); (first | exact ht.below (Below.refl _ _).drew | exact ht.below ((Below.refl _ _).drew.al _)); rintro e w1 ⟨rfl, ht1, ho1⟩; have z1 : w.heap.size ≤ w1.heap.size := Nat.le_trans (by simp) ho1.size; (first | (have k1 : Bare w.heap.size w1 := Only.bare ho1 (heap_new _ _ _ rfl) (by omega); obtain ⟨⟨c0, c1, c2, c3, c4, c5⟩, ⟨f0, f1, f2, f3, f4, f5⟩⟩ := k1.facts) | skip))
      | (go_at_call_of 36 (vr); refine (HR.out _ ?_ ?_).mono ?_; (refine hSr.out _ ?_; (repeat (with_reducible (first | refine Only.alloc ?_ _ | refine Only.drew ?_ | refine Only.trans ?_ ho1 | exact Only.refl _ _)))); (first | exact ht1 | exact ht1.below ((Below.refl _ _).al _)); rintro e w2 ⟨rfl, ht2, ho2⟩; have z2 : w.heap.size ≤ w2.heap.size := Nat.le_trans z1 (Nat.le_trans (by simp) ho2.size); (first | (have k2 := Only.bare ho2 k1 (by omega); obtain ⟨⟨d0, d1, d2, d3, d4, d5⟩, ⟨g0, g1, g2, g3, g4, g5⟩⟩ := k2.facts) | (have k3 : Bare w1.heap.size w2 := Only.bare ho2 (heap_new _ _ _ rfl) (Nat.ne_of_gt ht1.2.lt); obtain ⟨⟨d0, d1, d2, d3, d4, d5⟩, ⟨g0, g1, g2, g3, g4, g5⟩⟩ := k3.facts) | skip)))
  · refine tail_gen (F := (fun W => TabAt tb mb W K2 ∧ (W.cell? ⟨w2.heap.size, 0, none⟩ = some (.int .i32 a.op) ∧ W.cell? ⟨w2.heap.size, 1, none⟩ = some (.string a.name) ∧ W.cell? ⟨w2.heap.size, 2, none⟩ = some (.int .i64 a.lo) ∧ W.cell? ⟨w2.heap.size, 3, none⟩ = some (.int .i64 a.hi) ∧ W.cell? ⟨w2.heap.size, 4, none⟩ = some (.int .i64 nl) ∧ W.cell? ⟨w2.heap.size, 5, none⟩ = some (.int .i64 nr)) ∧ Only mb w W)) ⟨ht2.new (X := w2.heap.size) (by have := ht.tlt; omega) (by omega) (by repeat (with_reducible (first | refine Only.setIn ?_ _ | refine Only.alloc ?_ _ | exact Only.refl _ _))), ⟨by go_simp, by go_simp, by go_simp, by go_simp, by go_simp, by go_simp⟩, by repeat (with_reducible (first | refine Only.setCell ?_ (Or.inr (Nat.le_refl _)) _ | refine Only.setCell ?_ (Or.inr z1) _ | refine Only.setCell ?_ (Or.inr z2) _ | refine Only.alloc ?_ _ | refine Only.drew ?_ | refine Only.trans ?_ ho2 | refine Only.trans ?_ ho1 | exact Only.refl _ _))⟩ ?_
    rintro W ⟨hT, ⟨q0, q1, q2, q3, q4, q5⟩, hoW⟩
    have hM := hT.2
    have hmc : W.cell? ⟨tb, 0, none⟩ = some (.map (some mb)) := cell_at hT.1 rfl
    have hbig : (K2.length : Int) + 1 ≤ 9223372036854775807 := by omega
    have hlk : ∀ W' : World, W'.heap[mb]? = W.heap[mb]? → (Instr.lookup 51 (.map (some mb)) (.agg #[.int .i32 a.op, .string a.name, .int .i64 a.lo, .int .i64 a.hi, .int .i64 nl, .int .i64 nr]) true).run Tryz.prog W' = .ok (.tuple #[.int .i64 (numI K2 ⟨a.op, a.name, a.lo, a.hi, nl, nr⟩), .bool (numK K2 ⟨a.op, a.name, a.lo, a.hi, nl, nr⟩).isSome]) W' := fun W' h => (hM.heap h).look ⟨a.op, a.name, a.lo, a.hi, nl, nr⟩ hkk
    clear Hst HL HR hSr hl hr
    have hP := hPut.out
    unfold addK at hP
    unfold numI at hlk
    cases hn : numK K2 ⟨a.op, a.name, a.lo, a.hi, nl, nr⟩ with
    | some i =>
      rw [hn] at hP hlk
      have hi := numK_lt hn
      simp only [Option.isSome_some] at hP hlk
      have hlk1 := hlk W.drew rfl
      clear hlk
      subst hP
      go_wp2_with fail
      go_region
      go_wp2_with fail
      go_ret
      exact ⟨rfl, ⟨hT.1, hM.heap rfl⟩, hoW.drew⟩
    | none =>
      rw [hn] at hP hlk
      simp only [Option.isSome_none] at hP hlk
      have hlk1 := hlk W.drew rfl
      have hln := fun ty => MapAt.len (hM.heap (w' := W.drew) rfl) ty
      obtain ⟨W2, hst, hM2, ho2'⟩ := MapAt.store (hM.heap (w' := W.drew.drew) rfl) ⟨a.op, a.name, a.lo, a.hi, nl, nr⟩ hkk hn (by omega)
      have hst2 : (Instr.mapUpdate 51 (.map (some mb)) (.agg #[.int .i32 a.op, .string a.name, .int .i64 a.lo, .int .i64 a.hi, .int .i64 nl, .int .i64 nr]) (.int .i64 ((K2.length : Int) + 1))).run Tryz.prog W.drew.drew = .ok () W2 := hst
      have hT2 : W2.heap[tb]? = _ := ho2'.heap (show W.drew.drew.heap[tb]? = _ from hT.1) htm
      clear hlk hst
      subst hP
      go_wp2_with fail
      go_region
      go_wp2_with fail
      go_region
      go_wp2_with fail
      go_ret
      exact ⟨rfl, ⟨hT2, hM2⟩, hoW.drew.drew.trans ho2'⟩
  · refine tail_gen (F := (fun W => TabAt tb mb W K2 ∧ (W.cell? ⟨w1.heap.size, 0, none⟩ = some (.int .i32 a.op) ∧ W.cell? ⟨w1.heap.size, 1, none⟩ = some (.string a.name) ∧ W.cell? ⟨w1.heap.size, 2, none⟩ = some (.int .i64 a.lo) ∧ W.cell? ⟨w1.heap.size, 3, none⟩ = some (.int .i64 a.hi) ∧ W.cell? ⟨w1.heap.size, 4, none⟩ = some (.int .i64 nl) ∧ W.cell? ⟨w1.heap.size, 5, none⟩ = some (.int .i64 nr)) ∧ Only mb w W)) ⟨ht2.new (X := w1.heap.size) (by have := ht.tlt; omega) (by omega) (by repeat (with_reducible (first | refine Only.setIn ?_ _ | refine Only.alloc ?_ _ | exact Only.refl _ _))), ⟨by go_simp, by go_simp, by go_simp, by go_simp, by go_simp, by go_simp⟩, by repeat (with_reducible (first | refine Only.setCell ?_ (Or.inr (Nat.le_refl _)) _ | refine Only.setCell ?_ (Or.inr z1) _ | refine Only.setCell ?_ (Or.inr z2) _ | refine Only.alloc ?_ _ | refine Only.drew ?_ | refine Only.trans ?_ ho2 | refine Only.trans ?_ ho1 | exact Only.refl _ _))⟩ ?_
    rintro W ⟨hT, ⟨q0, q1, q2, q3, q4, q5⟩, hoW⟩
    have hM := hT.2
    have hmc : W.cell? ⟨tb, 0, none⟩ = some (.map (some mb)) := cell_at hT.1 rfl
    have hbig : (K2.length : Int) + 1 ≤ 9223372036854775807 := by omega
    have hlk : ∀ W' : World, W'.heap[mb]? = W.heap[mb]? → (Instr.lookup 51 (.map (some mb)) (.agg #[.int .i32 a.op, .string a.name, .int .i64 a.lo, .int .i64 a.hi, .int .i64 nl, .int .i64 nr]) true).run Tryz.prog W' = .ok (.tuple #[.int .i64 (numI K2 ⟨a.op, a.name, a.lo, a.hi, nl, nr⟩), .bool (numK K2 ⟨a.op, a.name, a.lo, a.hi, nl, nr⟩).isSome]) W' := fun W' h => (hM.heap h).look ⟨a.op, a.name, a.lo, a.hi, nl, nr⟩ hkk
    clear Hst HL HR hSr hl hr
    have hP := hPut.out
    unfold addK at hP
    unfold numI at hlk
    cases hn : numK K2 ⟨a.op, a.name, a.lo, a.hi, nl, nr⟩ with
    | some i =>
      rw [hn] at hP hlk
      have hi := numK_lt hn
      simp only [Option.isSome_some] at hP hlk
      have hlk1 := hlk W.drew rfl
      clear hlk
      subst hP
      go_wp2_with fail
      go_region
      go_wp2_with fail
      go_ret
      exact ⟨rfl, ⟨hT.1, hM.heap rfl⟩, hoW.drew⟩
    | none =>
      rw [hn] at hP hlk
      simp only [Option.isSome_none] at hP hlk
      have hlk1 := hlk W.drew rfl
      have hln := fun ty => MapAt.len (hM.heap (w' := W.drew) rfl) ty
      obtain ⟨W2, hst, hM2, ho2'⟩ := MapAt.store (hM.heap (w' := W.drew.drew) rfl) ⟨a.op, a.name, a.lo, a.hi, nl, nr⟩ hkk hn (by omega)
      have hst2 : (Instr.mapUpdate 51 (.map (some mb)) (.agg #[.int .i32 a.op, .string a.name, .int .i64 a.lo, .int .i64 a.hi, .int .i64 nl, .int .i64 nr]) (.int .i64 ((K2.length : Int) + 1))).run Tryz.prog W.drew.drew = .ok () W2 := hst
      have hT2 : W2.heap[tb]? = _ := ho2'.heap (show W.drew.drew.heap[tb]? = _ from hT.1) htm
      clear hlk hst
      subst hP
      go_wp2_with fail
      go_region
      go_wp2_with fail
      go_region
      go_wp2_with fail
      go_ret
      exact ⟨rfl, ⟨hT2, hM2⟩, hoW.drew.drew.trans ho2'⟩
  · refine tail_gen (F := (fun W => TabAt tb mb W K2 ∧ (W.cell? ⟨w.heap.size, 0, none⟩ = some (.int .i32 a.op) ∧ W.cell? ⟨w.heap.size, 1, none⟩ = some (.string a.name) ∧ W.cell? ⟨w.heap.size, 2, none⟩ = some (.int .i64 a.lo) ∧ W.cell? ⟨w.heap.size, 3, none⟩ = some (.int .i64 a.hi) ∧ W.cell? ⟨w.heap.size, 4, none⟩ = some (.int .i64 nl) ∧ W.cell? ⟨w.heap.size, 5, none⟩ = some (.int .i64 nr)) ∧ Only mb w W)) ⟨ht2.new (X := w.heap.size) (by have := ht.tlt; omega) (by omega) (by repeat (with_reducible (first | refine Only.setIn ?_ _ | refine Only.alloc ?_ _ | exact Only.refl _ _))), ⟨by go_simp, by go_simp, by go_simp, by go_simp, by go_simp, by go_simp⟩, by repeat (with_reducible (first | refine Only.setCell ?_ (Or.inr (Nat.le_refl _)) _ | refine Only.setCell ?_ (Or.inr z1) _ | refine Only.setCell ?_ (Or.inr z2) _ | refine Only.alloc ?_ _ | refine Only.drew ?_ | refine Only.trans ?_ ho2 | refine Only.trans ?_ ho1 | exact Only.refl _ _))⟩ ?_
    rintro W ⟨hT, ⟨q0, q1, q2, q3, q4, q5⟩, hoW⟩
    have hM := hT.2
    have hmc : W.cell? ⟨tb, 0, none⟩ = some (.map (some mb)) := cell_at hT.1 rfl
    have hbig : (K2.length : Int) + 1 ≤ 9223372036854775807 := by omega
    have hlk : ∀ W' : World, W'.heap[mb]? = W.heap[mb]? → (Instr.lookup 51 (.map (some mb)) (.agg #[.int .i32 a.op, .string a.name, .int .i64 a.lo, .int .i64 a.hi, .int .i64 nl, .int .i64 nr]) true).run Tryz.prog W' = .ok (.tuple #[.int .i64 (numI K2 ⟨a.op, a.name, a.lo, a.hi, nl, nr⟩), .bool (numK K2 ⟨a.op, a.name, a.lo, a.hi, nl, nr⟩).isSome]) W' := fun W' h => (hM.heap h).look ⟨a.op, a.name, a.lo, a.hi, nl, nr⟩ hkk
    clear Hst HL HR hSr hl hr
    have hP := hPut.out
    unfold addK at hP
    unfold numI at hlk
    cases hn : numK K2 ⟨a.op, a.name, a.lo, a.hi, nl, nr⟩ with
    | some i =>
      rw [hn] at hP hlk
      have hi := numK_lt hn
      simp only [Option.isSome_some] at hP hlk
      have hlk1 := hlk W.drew rfl
      clear hlk
      subst hP
      go_wp2_with fail
      go_region
      go_wp2_with fail
      go_ret
      exact ⟨rfl, ⟨hT.1, hM.heap rfl⟩, hoW.drew⟩
    | none =>
      rw [hn] at hP hlk
      simp only [Option.isSome_none] at hP hlk
      have hlk1 := hlk W.drew rfl
      have hln := fun ty => MapAt.len (hM.heap (w' := W.drew) rfl) ty
      obtain ⟨W2, hst, hM2, ho2'⟩ := MapAt.store (hM.heap (w' := W.drew.drew) rfl) ⟨a.op, a.name, a.lo, a.hi, nl, nr⟩ hkk hn (by omega)
      have hst2 : (Instr.mapUpdate 51 (.map (some mb)) (.agg #[.int .i32 a.op, .string a.name, .int .i64 a.lo, .int .i64 a.hi, .int .i64 nl, .int .i64 nr]) (.int .i64 ((K2.length : Int) + 1))).run Tryz.prog W.drew.drew = .ok () W2 := hst
      have hT2 : W2.heap[tb]? = _ := ho2'.heap (show W.drew.drew.heap[tb]? = _ from hT.1) htm
      clear hlk hst
      subst hP
      go_wp2_with fail
      go_region
      go_wp2_with fail
      go_region
      go_wp2_with fail
      go_ret
      exact ⟨rfl, ⟨hT2, hM2⟩, hoW.drew.drew.trans ho2'⟩

end Go.Proofs.YtiilkkahpbnogaaGreatDoor
