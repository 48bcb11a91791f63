
import Derived.Test.YtpbbmagjhkakgaaGreatDoorPureToPureScan
import Derived.Test.YtpbbmagjhkakgaaGreatDoorPureBackToPureTab
import Derived.Test.YtpbbmagjhkakgaaGreatDoorProg
import Derived.Maps.OwnSet
import Derived.DeepKeys4
import Derived.MapViews
namespace Go.Proofs.YtpbbmagjhkakgaaGreatDoor
open Go.RowKit Go.Deep Go.Maps
def keyVal (k : Key) : Value := .agg #[.int .i32 k.op, .string k.name, .int .i64 k.lo, .int .i64 k.hi, .int .i64 k.l, .int .i64 k.r]
structure Key.OK (k : Key) : Prop where
  op : (Lit.int .i32 k.op).wf = true
  name : k.name.size ≤ maxLen
  lo : (Lit.int .i64 k.lo).wf = true
  hi : (Lit.int .i64 k.hi).wf = true
  l : (Lit.int .i64 k.l).wf = true
  r : (Lit.int .i64 k.r).wf = true
theorem kType : Tryz.prog.keyType 226 = true := by kernel_rfl
theorem kFormed (k : Key) : (keyVal k).formed Tryz.prog 226 = true := by kernel_rfl
theorem kSize : Tryz.prog.types.size = 386 := by kernel_rfl
theorem kcNode : Tryz.prog.cellsOf 226 = 6 := by kernel_rfl
theorem kcOp : Tryz.prog.cellsOf 141 = 1 := by kernel_rfl
theorem kcStr : Tryz.prog.cellsOf 9 = 1 := by kernel_rfl
theorem kcWin : Tryz.prog.cellsOf 140 = 2 := by kernel_rfl
theorem kcInt : Tryz.prog.cellsOf 3 = 1 := by kernel_rfl
def klits (k : Key) : List Lit := [.int .i32 k.op, .string k.name.data.toList, .int .i64 k.lo, .int .i64 k.hi, .int .i64 k.l, .int .i64 k.r]
def klit (k : Key) : Lit := .string (keyBytes (klits k))
theorem lits_any (d : Nat) (k : Key) (h : k.OK) : Tryz.prog.keyLits (d + 1 + 1 + 1) 226 [.int .i32 k.op, .string k.name, .int .i64 k.lo, .int .i64 k.hi, .int .i64 k.l, .int .i64 k.r] = some (klits k) := by
  simp [Program.keyLits, Tryz.underlying226, Tryz.underlying141, Tryz.underlying9, Tryz.underlying140, Tryz.underlying3, kcNode, kcOp, kcStr, kcWin, kcInt, h.op, h.name, h.lo, h.hi, h.l, h.r, klits]
  rw [if_pos (by intro i hi; match i, hi with | 0, _ => simp | 1, _ => simp)]
  rfl
theorem key_lit (k : Key) (h : k.OK) : keyOf Tryz.prog 226 (keyVal k) = some (klit k) := by
  unfold keyOf
  rw [Tryz.underlying226]
  simp only [kType, kFormed, Bool.and_self, if_true]
  rw [kSize]
  exact congrArg (Option.map fun ls => Lit.string (keyBytes ls)) (lits_any 384 k h)
theorem laidOut : laidOutB Tryz.prog = true := by kernel_rfl
theorem law : Keyed Tryz.prog 226 := Keyed.of_law (deep_law_laid laidOut (m := 3) (by omega) (of_decide_eq_true (by kernel_rfl)) (by kernel_rfl) (by kernel_rfl))
theorem zeroInt (w : World) : (zeroValue 3).run Tryz.prog w = .ok (.int .i64 0) w := by kernel_rfl
theorem klit_inj {k q : Key} (hk : k.OK) (hq : q.OK) (h : klit k = klit q) : k = q := by
  have e := law.inj (key_lit k hk) (by rw [h]; exact key_lit q hq)
  cases k; cases q
  simp [keyVal] at e
  obtain ⟨h1, h2, h3, h4, h5, h6⟩ := e
  subst h1; subst h2; subst h3; subst h4; subst h5; subst h6
  rfl
def MapAt (mb : Nat) (w : World) (K : List Key) : Prop :=
  ∃ (n : Nat) (D : DataW Unit), w.ownsMap Tryz.prog 226 (plainElem Tryz.prog 3) mb n D ∧ n ≤ K.length ∧ Maps.size D = K.length ∧ (∀ k, k ∈ K → k.OK) ∧
    ∀ k : Key, k.OK → Maps.has D (klit k) = (numK K k).isSome ∧ D.atKey (klit k) (.lit (.int .i64 0)) = .lit (.int .i64 (numI K k))
theorem MapAt.lt {mb : Nat} {w : World} {K : List Key} (h : MapAt mb w K) : mb < w.heap.size := by obtain ⟨n, D, ho, _⟩ := h; exact ho.lt
theorem MapAt.made (w : World) : MapAt w.heap.size (w.alloc (.map #[] 0)) [] :=
  ⟨0, .map [], World.ownsMap_made w _ _ _, Nat.le_refl _, rfl, by simp, fun k _ => ⟨rfl, rfl⟩⟩
theorem MapAt.heap {mb : Nat} {w w' : World} {K : List Key} (h : MapAt mb w K) (hb : w'.heap[mb]? = w.heap[mb]?) : MapAt mb w' K := by
  obtain ⟨n, D, ⟨es, clock, h1, h2⟩, r⟩ := h
  exact ⟨n, D, ⟨es, clock, by rw [hb]; exact h1, h2⟩, r⟩
theorem MapAt.look {mb : Nat} {w : World} {K : List Key} (h : MapAt mb w K) (k : Key) (hk : k.OK) :
    (Instr.lookup 94 (.map (some mb)) (keyVal k) true).run Tryz.prog w = .ok (.tuple #[.int .i64 (numI K k), .bool (numK K k).isSome]) w := by
  obtain ⟨n, D, ho, hn, hs, hK, hall⟩ := h
  obtain ⟨h1, h2⟩ := hall k hk
  obtain ⟨v, ps, hrun, hv⟩ := ho.look_ok law Tryz.underlying94 (zeroInt w) (plainElem_int Tryz.underlying3 (by decide)) (key_lit k hk)
  obtain ⟨c, rfl, hc, _⟩ := plainElem_int_inv Tryz.underlying3 hv
  have hc1 : D.atKey (klit k) (.lit (.int .i64 0)) = .lit (.int .i64 c) := congrArg Prod.fst hc
  have hc2 : numI K k = c := by
    have h3 := h2.symm.trans hc1
    simp only [DataW.lit.injEq, Lit.int.injEq, true_and] at h3
    exact h3
  rw [h1] at hrun
  rw [hc2]
  exact hrun
theorem MapAt.store {mb : Nat} {w : World} {K : List Key} (h : MapAt mb w K) (k : Key) (hk : k.OK) (hnew : numK K k = none) (hlen : K.length ≤ 1000000000000000000) :
    ∃ w', (Instr.mapUpdate 94 (.map (some mb)) (keyVal k) (.int .i64 ((K.length : Int) + 1))).run Tryz.prog w = .ok () w' ∧ MapAt mb w' (K ++ [k]) ∧ Only mb w w' := by
  obtain ⟨n, D, ho, hn, hs, hK, hall⟩ := h
  have hwf : (Lit.int .i64 ((K.length : Int) + 1)).wf = true := WalkArith.wf_i64 (by omega)
  obtain ⟨w', hrun, ho', hg⟩ := ho.update law Tryz.underlying94 (by unfold maxLen; omega) (key_lit k hk) (plainElem_int Tryz.underlying3 hwf)
  have hD := (ho.tidy law).isMap
  refine ⟨w', hrun, ⟨n + 1, _, ho', by simp; omega, ?_, ?_, ?_⟩, ⟨hg.os, hg.tape, hg.output, hg.size, fun i hi hne => hg.block i hi (by simp; omega)⟩⟩
  · rw [size_put (ho.tidy law), (hall k hk).1, hnew, hs]; simp
  · intro q hq
    rcases List.mem_append.1 hq with hq | hq
    · exact hK q hq
    · simp at hq; subst hq; exact hk
  · intro q hq
    by_cases e : q = k
    · subst e
      refine ⟨?_, ?_⟩
      · rw [has_put_same hD (law.key (key_lit q hk)), numK_snoc_same K q hnew]; rfl
      · rw [atKey_put_same hD (law.key (key_lit q hk))]; unfold numI; rw [numK_snoc_same K q hnew]
    · have hne : klit q ≠ klit k := fun h => e (klit_inj hq hk h)
      refine ⟨?_, ?_⟩
      · rw [has_put_other hne, numK_snoc_other K k q e]; exact (hall q hq).1
      · rw [atKey_put_other hne]; unfold numI; rw [numK_snoc_other K k q e]; exact (hall q hq).2
end Go.Proofs.YtpbbmagjhkakgaaGreatDoor
