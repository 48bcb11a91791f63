/-
  What the statements' works does, beside goroutines that are only leaving: it answers true.
-/
/-
  The walk beside goroutines that are only leaving, an operation at a time, over a list of what is known of the temporaries.
-/
/-
  What Seen does, from its call to its return, beside goroutines that are only leaving: it answers true.
-/
import Derived.Test.YtpbbmagjhkakgaaGreatDoorSnSeen3ToSnOps
import Derived.Test.YtpbbmagjhkakgaaGreatDoorSnSeen0ToSnSeen2
import Derived.Test.YtpbbmagjhkakgaaGreatDoorLfPiecesToPureLoose
namespace Go.Proofs.YtpbbmagjhkakgaaGreatDoor.Ev
open Go.RowKit Go.Deep Go.Maps Go.Proofs.YtpbbmagjhkakgaaGreatDoor.Lf Go.Conc
theorem glob_spare {w w' : World} (hg : Glob w) (hs : SpareR (fun _ => False) w w') : Glob w' :=
  glob_tape (hg.below (⟨hs.os, rfl, hs.output, hs.size, fun k hk => hs.block k hk id⟩ : Below w.heap.size w (re w' w.tape w'.drawn))) w'.tape w'.drawn
theorem pick_H (c n : Int) (w : World) (hc : I64 c) (hn : 0 < n ∧ n ≤ 1000000) : HCalls Tryz.prog 19 #[.int .i64 c, .int .i64 n] w fun e w' => e = .returned (.int .i64 (pickZ c n)) ∧ SpareR (fun _ => False) w w' := by
  refine lift (fun e w' τ d x => ⟨x.1, x.2.tapeR τ d⟩) (fun w x => by cases x.1) fun τ d => (pick_any c n (re w τ d) hc hn).mono ?_
  rintro e w' ⟨rfl, rfl⟩
  exact ⟨rfl, (SpareR.refl _ w).tapeR τ d⟩
theorem digits_H (n : Nat) (w : World) (hn : n ≤ 1000000) : HCalls Tryz.prog 20 #[.int .i64 (n : Int)] w fun e w' => (∃ d, e = .returned (.string d) ∧ d.data.toList = Lib.decDigits n) ∧ SpareR (fun _ => False) w w' := by
  refine lift (fun e w' τ d x => ⟨x.1, x.2.tapeR τ d⟩) (fun w x => by obtain ⟨d, x, _⟩ := x.1; cases x) fun τ d => (digits_any n (re w τ d) hn).mono ?_
  rintro e w' ⟨hb, d', rfl, hd⟩
  refine ⟨⟨d', rfl, hd⟩, ?_⟩
  exact ⟨hb.os, hb.output, hb.size, fun x hx _ => hb.block x hx⟩
noncomputable def body17 : Code := Tryz.f17.body.getD .skip
noncomputable def rest17 : Code := match body17 with
  | .seq _ (.seq _ x) => x
  | _ => .skip
noncomputable def one17 : Code := match body17 with
  | .seq _ (.seq x _) => x
  | _ => .skip
noncomputable def zero17 : Code := match body17 with
  | .seq x _ => x
  | _ => .skip
def L17 : List (Int × Int) := [(0, 1), (0, 2), (0, 3)]
theorem ver17 : verS (atomT 97) L17 (min L17.length 25) = ⟨#[49, 48, 49]⟩ := by decide +kernel
theorem time17 : ∀ i, i < 25 → i < L17.length → timeZ L17 (i + 1) ≤ 5 + 1 := by
  intro i _ hi
  have : i = 0 ∨ i = 1 ∨ i = 2 := by have : L17.length = 3 := rfl; omega
  rcases this with rfl | rfl | rfl <;> decide +kernel
theorem i64_17 : ∀ p ∈ L17, I64 p.1 ∧ I64 p.2 := by
  intro p hp
  simp [L17] at hp
  rcases hp with rfl | rfl | rfl <;> exact ⟨⟨by decide, by decide⟩, by decide, by decide⟩
set_option maxRecDepth 100000 in
set_option maxHeartbeats 4000000 in
theorem works_H (w : World) (hg : Glob w) (hw7 : 14 ≤ w.heap.size) : HCalls Tryz.prog 17 #[] w (LawPost w) := by
  have hP := plain_prog
  have hi0 : ∀ it ∈ ([] : List Item), okItem it := by simp
  have hi1 : ∀ (c : Code), ∀ it ∈ [Item.code c], okItem it := fun c => okItems_cons trivial (by simp)
  have hb : Tryz.f17.body = some body17 := rfl
  have e0 : body17 = .seq zero17 (.seq one17 rest17) := rfl
  refine HCalls.of_lead Tryz.func17 hb fun cs hcs => ?_
  rw [e0]
  refine LeadsR.seq hP hi0 hcs ?_
  have ea : ({ tmps := #[] ++ Array.replicate (Tryz.f17.ntmps - (#[] : Array Value).size) undef, defers := [] } : Act) = ⟨#[undef, undef, undef, undef, undef, undef, undef, undef, undef, undef, undef, undef, undef, undef, undef, undef], []⟩ := rfl
  rw [ea]
  refine LeadsR.piece hP (fun a w' => a = ⟨#[.bool false, undef, undef, undef, undef, undef, undef, undef, undef, undef, undef, undef, undef, undef, undef, undef], []⟩ ∧ ∃ τ d, w' = re w τ d) (fun _ _ τ d x => ⟨x.1, by obtain ⟨τ', d', rfl⟩ := x.2; exact ⟨τ, d, rfl⟩⟩) (hi1 _) hcs (fun τ d => ?_) ?_
  · simp only [zero17, body17, Tryz.f17, Option.getD_some]
    go_wp2_with fail
    first | exact ⟨τ, d, rfl⟩ | exact ⟨rfl, τ, d, rfl⟩ | exact ⟨rfl, rfl, τ, d, rfl⟩
  rintro a w' ⟨rfl, τ0, d0, rfl⟩
  refine LeadsR.other ?_ τ0 d0
  refine LeadsR.seq hP hi0 hcs ?_
  simp only [one17, body17, Tryz.f17, Option.getD_some]
  refine LeadsR.region hP (hi1 _) hcs ?_
  simp only [List.size_toArray, List.length_cons, List.length_nil, Nat.reduceAdd, Nat.zero_add, List.range, List.range.loop]
  refine LeadsR.val hP (w' := w) (v := ?v0) rfl (by rfl) (fun τ d => run_eq_of ?r0) (hi1 _) hcs ?_
  case r0 => intro K hK; go_simp; exact hK
  try walk_nrm
  refine LeadsR.val hP (w' := w) (v := ?v1) rfl (by rfl) (fun τ d => run_eq_of ?r1) (hi1 _) hcs ?_
  case r1 => intro K hK; go_simp; exact hK
  try walk_nrm
  refine LeadsR.val hP (w' := w) (v := ?v2) rfl (by rfl) (fun τ d => run_eq_of ?r2) (hi1 _) hcs ?_
  case r2 => intro K hK; go_simp; exact hK
  try walk_nrm
  refine LeadsR.val hP (w' := w.alloc (.cells #[.int .i64 0, .int .i64 1, .int .i64 0, .int .i64 2, .int .i64 0, .int .i64 3] 45)) (v := .slice (some ⟨w.heap.size, 0, none⟩) 3 3) rfl (by rfl) (fun τ d => run_eq_of ?r3) (hi1 _) hcs ?_
  case r3 => intro K hK; go_simp; exact hK
  try walk_nrm
  generalize hW : w.alloc (.cells #[.int .i64 0, .int .i64 1, .int .i64 0, .int .i64 2, .int .i64 0, .int .i64 3] 45) = W
  have hs1 : SpareR (fun _ => False) w W := by rw [← hW]; exact SpareR.of_below ((Below.refl _ w).al _)
  have hsz : W.heap.size = w.heap.size + 1 := by rw [← hW]; simp
  have hC : ComesAt W (some ⟨w.heap.size, 0, none⟩) L17 := fun _ => ⟨w.heap.size, 0, rfl, by omega, fun j hj => by
    have : j = 0 ∨ j = 1 ∨ j = 2 := by have : L17.length = 3 := rfl; omega
    rw [← hW]
    rcases this with rfl | rfl | rfl <;> exact ⟨(World.cell?_alloc_at _ _ _ _ rfl).trans rfl, (World.cell?_alloc_at _ _ _ _ rfl).trans rfl⟩⟩
  have hwt := watched_ok ⟨#[97]⟩ (atomT 97) L17 5 (some ⟨w.heap.size, 0, none⟩) 3 W (glob_spare hg hs1) (by omega) (by decide) read_atom (by decide) (few_nodes (Nat.le_trans nodes_atom (by decide))) (Nat.le_trans nodes_atom (by decide)) (by decide) (by decide) i64_17 hC time17
  refine watch_tail (X := atomT 97) (L := L17) ⟨_, rfl, rfl, rfl, rfl⟩ ⟨_, rfl, rfl, rfl, rfl⟩ ⟨_, rfl, rfl, rfl, rfl⟩ ⟨_, rfl, rfl, rfl, rfl⟩ ⟨_, rfl, rfl, rfl, rfl⟩ ⟨_, rfl, rfl, rfl, rfl⟩ (by simp) (by decide) rfl rfl rfl (hi1 _) hcs hwt ?_
  intro A' w2 hz hd hA hB _ hs2
  rw [ver17] at hA
  have hz : A'.tmps.size = 16 := hz
  have hd : A'.defers = [] := hd
  refine LeadsR.last hP hcs Tryz.func17 LawPost.tapeR LawPost.out fun τ d => ?_
  have hfin : LawPost w (.returned (.bool true)) (re w2 τ d) := ⟨rfl, (hs1.trans hs2).tapeR τ d⟩
  have hfin : Hid _ := hfin
  obtain ⟨t, d⟩ := A'
  simp only at hz hd hA hB
  subst hd
  have e := arr_get t 16 hz
  have k1 : t.getD 1 undef = .string ⟨#[49, 48, 49]⟩ := by rw [Array.getD_eq_getD_getElem?, hA]; rfl
  have k2 : t.getD 2 undef = .bool true := by rw [Array.getD_eq_getD_getElem?, hB]; rfl
  simp only [List.range, List.range.loop, List.map_cons, List.map_nil, k1, k2] at e
  rw [e]
  clear e k1 k2 hA hB hz hs1 hs2 hC hwt hsz
  generalize hQ : bodyPost Tryz.prog Tryz.f17 (LawPost w) = Q
  simp only [rest17, body17, Tryz.f17, Option.getD_some]
  go_wp2_with fail
  rw [← hQ]
  go_ret
  exact ⟨rfl, hfin.out.2⟩
end Go.Proofs.YtpbbmagjhkakgaaGreatDoor.Ev

namespace Go.Proofs.YtpbbmagjhkakgaaGreatDoor.Ev
open Go.RowKit Go.Deep Go.Maps Go.Proofs.YtpbbmagjhkakgaaGreatDoor.Lf Go.Conc
def look : List (Nat × Value) → Nat → Option Value
  | [], _ => none
  | p :: l, j => if j = p.1 then some p.2 else look l j
structure Fx (N : Nat) (l : List (Nat × Value)) (A : Act) : Prop where
  size : A.tmps.size = N
  defers : A.defers = []
  get : ∀ j v, look l j = some v → A.tmps[j]? = some v
def evl (l : List (Nat × Value)) : Operand → Option Value
  | .tmp j => look l j
  | .const v => some v
  | _ => none
def evls (l : List (Nat × Value)) : List Operand → Option (List Value)
  | [] => some []
  | x :: xs => match evl l x, evls l xs with
    | some v, some vs => some (v :: vs)
    | _, _ => none
theorem Fx.put {N : Nat} {l : List (Nat × Value)} {A : Act} (h : Fx N l A) {d : Nat} (hd : d < N) (v : Value) : Fx N ((d, v) :: l) (A.put (some d) v) := by
  have p := put_facts A d v (by rw [h.size]; exact hd)
  refine ⟨p.1.trans h.size, p.2.1.trans h.defers, fun j u hj => ?_⟩
  unfold look at hj
  by_cases e : j = d
  · subst e
    rw [if_pos rfl] at hj
    cases hj
    exact p.2.2.1
  · rw [if_neg e] at hj
    rw [p.2.2.2 j e]
    exact h.get j u hj
theorem Fx.ev {N : Nat} {l : List (Nat × Value)} {A : Act} (h : Fx N l A) {x : Operand} {v : Value} (hx : evl l x = some v) : A.eval x = v := by
  cases x with
  | tmp j => exact eval_tmp (h.get j v hx)
  | const u => cases hx; rfl
  | global g => cases hx
  | func f => cases hx
theorem Fx.evs {N : Nat} {l : List (Nat × Value)} {A : Act} (h : Fx N l A) : ∀ {xs : List Operand} {vs : List Value}, evls l xs = some vs → xs.map A.eval = vs
  | [], _, e => by cases e; rfl
  | x :: xs, vs, e => by
    unfold evls at e
    cases hx : evl l x with
    | none => rw [hx] at e; cases e
    | some v =>
      rw [hx] at e
      cases hxs : evls l xs with
      | none => rw [hxs] at e; cases e
      | some us =>
        rw [hxs] at e
        cases e
        rw [List.map_cons, h.ev hx, h.evs hxs]
theorem look_mem {j : Nat} {v : Value} : ∀ {m : List (Nat × Value)}, look m j = some v → ∃ p ∈ m, p = (j, v)
  | [], h => by cases h
  | p :: m, h => by
    unfold look at h
    by_cases e : j = p.1
    · rw [if_pos e] at h
      cases h
      exact ⟨p, List.mem_cons_self .., by rw [e]⟩
    · rw [if_neg e] at h
      obtain ⟨q, h1, h2⟩ := look_mem h
      exact ⟨q, List.mem_cons_of_mem _ h1, h2⟩
theorem Fx.less {N : Nat} {l m : List (Nat × Value)} {A : Act} (h : Fx N l A) (hm : ∀ p ∈ m, look l p.1 = some p.2) : Fx N m A := by
  refine ⟨h.size, h.defers, fun j v hj => ?_⟩
  obtain ⟨p, h1, rfl⟩ := look_mem hj
  exact h.get j v (hm _ h1)
theorem Fx.adds {N : Nat} {l m : List (Nat × Value)} {A : Act} (h : Fx N l A) (hm : ∀ p ∈ m, A.tmps[p.1]? = some p.2) : Fx N m A :=
  ⟨h.size, h.defers, fun j v hj => by
    obtain ⟨p, h1, rfl⟩ := look_mem hj
    exact hm _ h1⟩
section
variable {K : Goroutine → World → Prop} {b : Frame} {k : List Item} {cs : List Frame} {A : Act} {w : World} {ops : Array Oper} {i d N : Nat} {rest : List Nat} {v : Value} {l : List (Nat × Value)}
theorem mvF {x : Operand} (h : IsOp ops i d (.move x)) (hA : Fx N l A) (hx : evl l x = some v) (hd : d < N) (hi : ∀ it ∈ k, okItem it) (hc : ∀ fr ∈ cs, okFrame fr)
    (hk : ∀ A', Fx N ((d, v) :: l) A' → LeadsR Tryz.prog K (G (b.at A' (.inRegion ops rest :: k)) cs) w) : LeadsR Tryz.prog K (G (b.at A (.inRegion ops (i :: rest) :: k)) cs) w :=
  LeadsR.mv plain_prog h (hA.ev hx) hi hc (hk _ (hA.put hd v))
theorem asgF {x : Operand} (h : IsOp ops i d (.assign x)) (hA : Fx N l A) (hx : evl l x = some v) (hd : d < N) (hi : ∀ it ∈ k, okItem it) (hc : ∀ fr ∈ cs, okFrame fr)
    (hk : ∀ A', Fx N ((d, v) :: l) A' → LeadsR Tryz.prog K (G (b.at A' (.inRegion ops rest :: k)) cs) w) : LeadsR Tryz.prog K (G (b.at A (.inRegion ops (i :: rest) :: k)) cs) w :=
  LeadsR.asg plain_prog h (hA.ev hx) hi hc (hk _ (hA.put hd v))
theorem catF {x y : Operand} {s t : ByteArray} (h : IsOp ops i d (.binOp .add 9 x y 9)) (hA : Fx N l A) (hx : evl l x = some (.string s)) (hy : evl l y = some (.string t)) (hs : s.size + t.size ≤ 100000) (hd : d < N) (hi : ∀ it ∈ k, okItem it) (hc : ∀ fr ∈ cs, okFrame fr)
    (hk : ∀ A', Fx N ((d, .string (s ++ t)) :: l) A' → LeadsR Tryz.prog K (G (b.at A' (.inRegion ops rest :: k)) cs) w) : LeadsR Tryz.prog K (G (b.at A (.inRegion ops (i :: rest) :: k)) cs) w :=
  LeadsR.cat h (hA.ev hx) (hA.ev hy) (by omega) hi hc (hk _ (hA.put hd _))
theorem addF {x y : Operand} {m n : Int} (h : IsOp ops i d (.binOp .add 3 x y 3)) (hA : Fx N l A) (hx : evl l x = some (.int .i64 m)) (hy : evl l y = some (.int .i64 n)) (hr : -9223372036854775808 ≤ m + n ∧ m + n ≤ 9223372036854775807) (hd : d < N) (hi : ∀ it ∈ k, okItem it) (hc : ∀ fr ∈ cs, okFrame fr)
    (hk : ∀ A', Fx N ((d, .int .i64 (m + n)) :: l) A' → LeadsR Tryz.prog K (G (b.at A' (.inRegion ops rest :: k)) cs) w) : LeadsR Tryz.prog K (G (b.at A (.inRegion ops (i :: rest) :: k)) cs) w :=
  LeadsR.addI h (hA.ev hx) (hA.ev hy) hr hi hc (hk _ (hA.put hd _))
theorem callFx {f : FuncId} {fn : Func} {args : Array Operand} {ats : Array TypeId} {vs : List Value} {R : Ending → World → Prop} (h : IsOp ops i d (.call { callee := .value (.func f), args, argTypes := ats }))
    (hf : Tryz.prog.funcs[f]? = some fn) (hname : (fn.name == "runtime.NumGoroutine") = false) (hb : fn.body.isNone = false) (hA : Fx N l A) (hargs : evls l args.toList = some vs) (hd : d < N) (hi : ∀ it ∈ k, okItem it) (hc : ∀ fr ∈ cs, okFrame fr) (hC : HCalls Tryz.prog f vs.toArray w R) (hR : ∀ e w', R e w' → ∃ v, e = .returned v)
    (hk : ∀ v w' A', R (.returned v) w' → Fx N ((d, v) :: l) A' → LeadsR Tryz.prog K (G (b.at A' (.inRegion ops rest :: k)) cs) w') : LeadsR Tryz.prog K (G (b.at A (.inRegion ops (i :: rest) :: k)) cs) w :=
  LeadsR.callF plain_prog h hf hname hb (by rw [← hA.evs hargs, ← Array.toList_map, Array.toArray_toList]) hi hc hC hR fun v w' hv => hk v w' _ hv (hA.put hd v)
theorem watchF {x y z : Operand} {text : ByteArray} {retain : Int} {eo : Option Addr} {L : List (Int × Int)} {cap : Nat} {X : BT Pay} {i0 i1 i2 i3 i4 i5 d0 d1 d2 d3 dA dB : Nat}
    (c0 : IsOp ops i0 d0 (.call { callee := .value (.func 21), args := #[x, y, z], argTypes := #[9, 3, 34] })) (c1 : IsOp ops i1 d1 (.move (.tmp d0))) (c2 : IsOp ops i2 d2 (.extract (.tmp d1) 0)) (c3 : IsOp ops i3 d3 (.extract (.tmp d1) 1)) (c4 : IsOp ops i4 dA (.assign (.tmp d2))) (c5 : IsOp ops i5 dB (.assign (.tmp d3)))
    (hz : d0 < N ∧ d1 < N ∧ d2 < N ∧ d3 < N ∧ dA < N ∧ dB < N) (hne : d1 ≠ d2 ∧ d2 ≠ d3 ∧ dA ≠ d3 ∧ dA ≠ dB) (hA : Fx N l A)
    (hx : evl l x = some (.string text)) (hy : evl l y = some (.int .i64 retain)) (hzz : evl l z = some (.slice eo L.length cap)) (hi : ∀ it ∈ k, okItem it) (hc : ∀ fr ∈ cs, okFrame fr)
    (hC : HCalls Tryz.prog 21 #[.string text, .int .i64 retain, .slice eo L.length cap] w (WatchedPost X L w)) (m : List (Nat × Value)) (hm : ∀ p ∈ m, look l p.1 = some p.2 ∧ p.1 ≠ d0 ∧ p.1 ≠ d1 ∧ p.1 ≠ d2 ∧ p.1 ≠ d3 ∧ p.1 ≠ dA ∧ p.1 ≠ dB)
    (hk : ∀ A' w', Fx N ((dB, .bool true) :: (dA, .string (verS X L (min L.length 25))) :: m) A' → SpareR (fun _ => False) w w' → LeadsR Tryz.prog K (G (b.at A' k) cs) w') :
    LeadsR Tryz.prog K (G (b.at A (.inRegion ops [i0, i1, i2, i3, i4, i5] :: k)) cs) w := by
  have hs := hA.size
  refine watch_tail c0 c1 c2 c3 c4 c5 (by omega) hne (hA.ev hx) (hA.ev hy) (hA.ev hzz) hi hc hC fun A' w' z d gA gB go hsp => hk A' w' ?_ hsp
  have hbase : Fx N m A' := by
    have h1 := hA.less (m := m) (fun p hp => (hm p hp).1)
    refine ⟨z.trans hs, d.trans hA.defers, fun j v hj => ?_⟩
    have hold := h1.get j v hj
    obtain ⟨p, hp, e⟩ := look_mem hj
    have hj1 : j = p.1 := by rw [e]
    subst hj1
    obtain ⟨_, q0, q1, q2, q3, qA, qB⟩ := hm p hp
    exact (go p.1 q0 q1 q2 q3 qA qB).trans hold
  refine ⟨hbase.size, hbase.defers, fun j v hj => ?_⟩
  unfold look at hj
  by_cases e : j = dB
  · subst e
    rw [if_pos rfl] at hj
    cases hj
    exact gB
  · rw [if_neg e] at hj
    unfold look at hj
    by_cases e2 : j = dA
    · subst e2
      rw [if_pos rfl] at hj
      cases hj
      exact gA
    · rw [if_neg e2] at hj
      exact hbase.get j v hj
end
end Go.Proofs.YtpbbmagjhkakgaaGreatDoor.Ev

namespace Go.Proofs.YtpbbmagjhkakgaaGreatDoor.Ev
open Go.RowKit Go.Deep Go.Maps Go.Proofs.YtpbbmagjhkakgaaGreatDoor.Lf Go.Conc
noncomputable def nthC : Code → Nat → Code
  | .seq x _, 0 => x
  | .seq _ y, n + 1 => nthC y n
  | c, _ => c
noncomputable def opsC : Code → Array Oper
  | .region _ o _ => o
  | _ => #[]
noncomputable def reg7 (k : Nat) : Code := nthC body7 k
noncomputable def ops7 (k : Nat) : Array Oper := opsC (reg7 k)
theorem io7_0_0 : IsOp (ops7 0) 0 6 (Op.assign (Operand.const (Value.bool false))) := ⟨_, rfl, rfl, rfl, rfl⟩
theorem rg7_0 : reg7 0 = .region 0 (ops7 0) false := rfl
theorem sz7_0 : (ops7 0).size = 1 := rfl
theorem io7_1_0 : IsOp (ops7 1) 0 28 (Op.call { callee := Callee.value (Operand.func 17), args := #[], argTypes := #[] }) := ⟨_, rfl, rfl, rfl, rfl⟩
theorem io7_1_1 : IsOp (ops7 1) 1 7 (Op.assign (Operand.tmp 28)) := ⟨_, rfl, rfl, rfl, rfl⟩
theorem rg7_1 : reg7 1 = .region 1 (ops7 1) false := rfl
theorem sz7_1 : (ops7 1).size = 2 := rfl
theorem io7_2_0 : IsOp (ops7 2) 0 29 (Op.move (Operand.tmp 1)) := ⟨_, rfl, rfl, rfl, rfl⟩
theorem io7_2_1 : IsOp (ops7 2) 1 30 (Op.call { callee := Callee.value (Operand.func 19), args := #[Operand.tmp 29, Operand.const (Value.int IntKind.i64 20)], argTypes := #[3, 3] }) := ⟨_, rfl, rfl, rfl, rfl⟩
theorem io7_2_2 : IsOp (ops7 2) 2 1 (Op.assign (Operand.tmp 30)) := ⟨_, rfl, rfl, rfl, rfl⟩
theorem rg7_2 : reg7 2 = .region 2 (ops7 2) false := rfl
theorem sz7_2 : (ops7 2).size = 3 := rfl
theorem io7_3_0 : IsOp (ops7 3) 0 31 (Op.move (Operand.tmp 1)) := ⟨_, rfl, rfl, rfl, rfl⟩
theorem io7_3_1 : IsOp (ops7 3) 1 32 (Op.move (Operand.tmp 2)) := ⟨_, rfl, rfl, rfl, rfl⟩
theorem io7_3_2 : IsOp (ops7 3) 2 33 (Op.call { callee := Callee.value (Operand.func 19), args := #[Operand.tmp 32, Operand.const (Value.int IntKind.i64 20)], argTypes := #[3, 3] }) := ⟨_, rfl, rfl, rfl, rfl⟩
theorem io7_3_3 : IsOp (ops7 3) 3 34 (Op.binOp BinOp.add 3 (Operand.tmp 31) (Operand.tmp 33) 3) := ⟨_, rfl, rfl, rfl, rfl⟩
theorem io7_3_4 : IsOp (ops7 3) 4 2 (Op.assign (Operand.tmp 34)) := ⟨_, rfl, rfl, rfl, rfl⟩
theorem rg7_3 : reg7 3 = .region 3 (ops7 3) false := rfl
theorem sz7_3 : (ops7 3).size = 5 := rfl
theorem io7_4_0 : IsOp (ops7 4) 0 35 (Op.move (Operand.tmp 1)) := ⟨_, rfl, rfl, rfl, rfl⟩
theorem io7_4_1 : IsOp (ops7 4) 1 36 (Op.call { callee := Callee.value (Operand.func 20), args := #[Operand.tmp 35], argTypes := #[3] }) := ⟨_, rfl, rfl, rfl, rfl⟩
theorem io7_4_2 : IsOp (ops7 4) 2 37 (Op.binOp BinOp.add 9 (Operand.const (Value.string { data := #[91] })) (Operand.tmp 36) 9) := ⟨_, rfl, rfl, rfl, rfl⟩
theorem io7_4_3 : IsOp (ops7 4) 3 38 (Op.binOp BinOp.add 9 (Operand.tmp 37) (Operand.const (Value.string { data := #[44] })) 9) := ⟨_, rfl, rfl, rfl, rfl⟩
theorem io7_4_4 : IsOp (ops7 4) 4 39 (Op.move (Operand.tmp 2)) := ⟨_, rfl, rfl, rfl, rfl⟩
theorem io7_4_5 : IsOp (ops7 4) 5 40 (Op.call { callee := Callee.value (Operand.func 20), args := #[Operand.tmp 39], argTypes := #[3] }) := ⟨_, rfl, rfl, rfl, rfl⟩
theorem io7_4_6 : IsOp (ops7 4) 6 41 (Op.binOp BinOp.add 9 (Operand.tmp 38) (Operand.tmp 40) 9) := ⟨_, rfl, rfl, rfl, rfl⟩
theorem io7_4_7 : IsOp (ops7 4) 7 42 (Op.binOp BinOp.add 9 (Operand.tmp 41) (Operand.const (Value.string { data := #[93] })) 9) := ⟨_, rfl, rfl, rfl, rfl⟩
theorem io7_4_8 : IsOp (ops7 4) 8 8 (Op.assign (Operand.tmp 42)) := ⟨_, rfl, rfl, rfl, rfl⟩
theorem rg7_4 : reg7 4 = .region 4 (ops7 4) false := rfl
theorem sz7_4 : (ops7 4).size = 9 := rfl
theorem io7_5_0 : IsOp (ops7 5) 0 44 (Op.move (Operand.tmp 8)) := ⟨_, rfl, rfl, rfl, rfl⟩
theorem io7_5_1 : IsOp (ops7 5) 1 45 (Op.binOp BinOp.add 9 (Operand.const (Value.string { data := #[79] })) (Operand.tmp 44) 9) := ⟨_, rfl, rfl, rfl, rfl⟩
theorem io7_5_2 : IsOp (ops7 5) 2 46 (Op.binOp BinOp.add 9 (Operand.tmp 45) (Operand.const (Value.string { data := #[97] })) 9) := ⟨_, rfl, rfl, rfl, rfl⟩
theorem io7_5_3 : IsOp (ops7 5) 3 47 (Op.move (Operand.tmp 0)) := ⟨_, rfl, rfl, rfl, rfl⟩
theorem io7_5_4 : IsOp (ops7 5) 4 48 (Op.call { callee := Callee.value (Operand.func 21), args := #[Operand.tmp 46, Operand.const (Value.int IntKind.i64 1000), Operand.tmp 47], argTypes := #[9, 3, 34] }) := ⟨_, rfl, rfl, rfl, rfl⟩
theorem io7_5_5 : IsOp (ops7 5) 5 43 (Op.move (Operand.tmp 48)) := ⟨_, rfl, rfl, rfl, rfl⟩
theorem io7_5_6 : IsOp (ops7 5) 6 49 (Op.extract (Operand.tmp 43) 0) := ⟨_, rfl, rfl, rfl, rfl⟩
theorem io7_5_7 : IsOp (ops7 5) 7 50 (Op.extract (Operand.tmp 43) 1) := ⟨_, rfl, rfl, rfl, rfl⟩
theorem io7_5_8 : IsOp (ops7 5) 8 9 (Op.assign (Operand.tmp 49)) := ⟨_, rfl, rfl, rfl, rfl⟩
theorem io7_5_9 : IsOp (ops7 5) 9 10 (Op.assign (Operand.tmp 50)) := ⟨_, rfl, rfl, rfl, rfl⟩
theorem rg7_5 : reg7 5 = .region 5 (ops7 5) false := rfl
theorem sz7_5 : (ops7 5).size = 10 := rfl
theorem io7_6_0 : IsOp (ops7 6) 0 52 (Op.move (Operand.tmp 8)) := ⟨_, rfl, rfl, rfl, rfl⟩
theorem io7_6_1 : IsOp (ops7 6) 1 53 (Op.binOp BinOp.add 9 (Operand.const (Value.string { data := #[72] })) (Operand.tmp 52) 9) := ⟨_, rfl, rfl, rfl, rfl⟩
theorem io7_6_2 : IsOp (ops7 6) 2 54 (Op.binOp BinOp.add 9 (Operand.tmp 53) (Operand.const (Value.string { data := #[97] })) 9) := ⟨_, rfl, rfl, rfl, rfl⟩
theorem io7_6_3 : IsOp (ops7 6) 3 55 (Op.move (Operand.tmp 0)) := ⟨_, rfl, rfl, rfl, rfl⟩
theorem io7_6_4 : IsOp (ops7 6) 4 56 (Op.call { callee := Callee.value (Operand.func 21), args := #[Operand.tmp 54, Operand.const (Value.int IntKind.i64 1000), Operand.tmp 55], argTypes := #[9, 3, 34] }) := ⟨_, rfl, rfl, rfl, rfl⟩
theorem io7_6_5 : IsOp (ops7 6) 5 51 (Op.move (Operand.tmp 56)) := ⟨_, rfl, rfl, rfl, rfl⟩
theorem io7_6_6 : IsOp (ops7 6) 6 57 (Op.extract (Operand.tmp 51) 0) := ⟨_, rfl, rfl, rfl, rfl⟩
theorem io7_6_7 : IsOp (ops7 6) 7 58 (Op.extract (Operand.tmp 51) 1) := ⟨_, rfl, rfl, rfl, rfl⟩
theorem io7_6_8 : IsOp (ops7 6) 8 11 (Op.assign (Operand.tmp 57)) := ⟨_, rfl, rfl, rfl, rfl⟩
theorem io7_6_9 : IsOp (ops7 6) 9 12 (Op.assign (Operand.tmp 58)) := ⟨_, rfl, rfl, rfl, rfl⟩
theorem rg7_6 : reg7 6 = .region 6 (ops7 6) false := rfl
theorem sz7_6 : (ops7 6).size = 10 := rfl
theorem io7_7_0 : IsOp (ops7 7) 0 60 (Op.move (Operand.tmp 8)) := ⟨_, rfl, rfl, rfl, rfl⟩
theorem io7_7_1 : IsOp (ops7 7) 1 61 (Op.binOp BinOp.add 9 (Operand.const (Value.string { data := #[89] })) (Operand.tmp 60) 9) := ⟨_, rfl, rfl, rfl, rfl⟩
theorem io7_7_2 : IsOp (ops7 7) 2 62 (Op.binOp BinOp.add 9 (Operand.tmp 61) (Operand.const (Value.string { data := #[97] })) 9) := ⟨_, rfl, rfl, rfl, rfl⟩
theorem io7_7_3 : IsOp (ops7 7) 3 63 (Op.move (Operand.tmp 0)) := ⟨_, rfl, rfl, rfl, rfl⟩
theorem io7_7_4 : IsOp (ops7 7) 4 64 (Op.call { callee := Callee.value (Operand.func 21), args := #[Operand.tmp 62, Operand.const (Value.int IntKind.i64 1000), Operand.tmp 63], argTypes := #[9, 3, 34] }) := ⟨_, rfl, rfl, rfl, rfl⟩
theorem io7_7_5 : IsOp (ops7 7) 5 59 (Op.move (Operand.tmp 64)) := ⟨_, rfl, rfl, rfl, rfl⟩
theorem io7_7_6 : IsOp (ops7 7) 6 65 (Op.extract (Operand.tmp 59) 0) := ⟨_, rfl, rfl, rfl, rfl⟩
theorem io7_7_7 : IsOp (ops7 7) 7 66 (Op.extract (Operand.tmp 59) 1) := ⟨_, rfl, rfl, rfl, rfl⟩
theorem io7_7_8 : IsOp (ops7 7) 8 13 (Op.assign (Operand.tmp 65)) := ⟨_, rfl, rfl, rfl, rfl⟩
theorem io7_7_9 : IsOp (ops7 7) 9 14 (Op.assign (Operand.tmp 66)) := ⟨_, rfl, rfl, rfl, rfl⟩
theorem rg7_7 : reg7 7 = .region 7 (ops7 7) false := rfl
theorem sz7_7 : (ops7 7).size = 10 := rfl
theorem io7_8_0 : IsOp (ops7 8) 0 68 (Op.move (Operand.tmp 8)) := ⟨_, rfl, rfl, rfl, rfl⟩
theorem io7_8_1 : IsOp (ops7 8) 1 69 (Op.binOp BinOp.add 9 (Operand.const (Value.string { data := #[40, 98, 32, 83] })) (Operand.tmp 68) 9) := ⟨_, rfl, rfl, rfl, rfl⟩
theorem io7_8_2 : IsOp (ops7 8) 2 70 (Op.binOp BinOp.add 9 (Operand.tmp 69) (Operand.const (Value.string { data := #[32, 97, 41] })) 9) := ⟨_, rfl, rfl, rfl, rfl⟩
theorem io7_8_3 : IsOp (ops7 8) 3 71 (Op.move (Operand.tmp 0)) := ⟨_, rfl, rfl, rfl, rfl⟩
theorem io7_8_4 : IsOp (ops7 8) 4 72 (Op.call { callee := Callee.value (Operand.func 21), args := #[Operand.tmp 70, Operand.const (Value.int IntKind.i64 1000), Operand.tmp 71], argTypes := #[9, 3, 34] }) := ⟨_, rfl, rfl, rfl, rfl⟩
theorem io7_8_5 : IsOp (ops7 8) 5 67 (Op.move (Operand.tmp 72)) := ⟨_, rfl, rfl, rfl, rfl⟩
theorem io7_8_6 : IsOp (ops7 8) 6 73 (Op.extract (Operand.tmp 67) 0) := ⟨_, rfl, rfl, rfl, rfl⟩
theorem io7_8_7 : IsOp (ops7 8) 7 74 (Op.extract (Operand.tmp 67) 1) := ⟨_, rfl, rfl, rfl, rfl⟩
theorem io7_8_8 : IsOp (ops7 8) 8 15 (Op.assign (Operand.tmp 73)) := ⟨_, rfl, rfl, rfl, rfl⟩
theorem io7_8_9 : IsOp (ops7 8) 9 16 (Op.assign (Operand.tmp 74)) := ⟨_, rfl, rfl, rfl, rfl⟩
theorem rg7_8 : reg7 8 = .region 8 (ops7 8) false := rfl
theorem sz7_8 : (ops7 8).size = 10 := rfl
theorem time_small (L : List (Int × Int)) : ∀ i, i < 25 → i < L.length → timeZ L (i + 1) ≤ 1000 + 1 := fun i h _ => by
  have := timeZ_range L (i + 1)
  omega
theorem reach_win {op a b : Int} (h : 0 ≤ b ∧ b ≤ 1000) : reachT (winT op a b) ≤ 1000 := by
  show b + max (0 + max 0 0) 0 ≤ 1000
  omega
theorem reach_since {a b : Int} (h : 0 ≤ b ∧ b ≤ 1000) : reachT (sinceT a b) ≤ 1000 := by
  show b + max (0 + max 0 0) (0 + max 0 0) ≤ 1000
  omega
set_option maxRecDepth 100000 in
set_option maxHeartbeats 16000000 in
theorem seen_H (L : List (Int × Int)) (eo : Option Addr) (cap : Nat) (a0 b0 : Int) (w : World) (hg : Glob w) (hw7 : 14 ≤ w.heap.size) (ha64 : I64 a0) (hb64 : I64 b0) (hLm : L.length ≤ 9223372036854775807) (hL : ∀ p ∈ L, I64 p.1 ∧ I64 p.2) (hC : ComesAt w eo L) :
    HCalls Tryz.prog 7 #[.slice eo L.length cap, .int .i64 a0, .int .i64 b0] w (LawPost w) := by
  have hP := plain_prog
  have hi0 : ∀ it ∈ ([] : List Item), okItem it := by simp
  have hi1 : ∀ (c : Code), ∀ it ∈ [Item.code c], okItem it := fun c => okItems_cons trivial (by simp)
  have hb : Tryz.f7.body = some body7 := rfl
  refine HCalls.of_lead Tryz.func7 hb fun cs hcs => ?_
  rw [Tryz.ntmps7]
  obtain ⟨A, eA⟩ : ∃ A : Act, A = { tmps := #[.slice eo L.length cap, .int .i64 a0, .int .i64 b0] ++ Array.replicate (276 - (#[.slice eo L.length cap, .int .i64 a0, .int .i64 b0] : Array Value).size) undef, defers := [] } := ⟨_, rfl⟩
  have hA : Fx 276 [(0, .slice eo L.length cap), (1, .int .i64 a0), (2, .int .i64 b0)] A := (Fx.mk (l := []) (by rw [eA]; simp) (by rw [eA]) (fun _ _ h => by cases h)).adds (by rw [eA]; simp)
  rw [← eA]
  clear eA
  have er : body7 = .seq (reg7 0) (.seq (reg7 1) (.seq (reg7 2) (.seq (reg7 3) (.seq (reg7 4) (.seq (reg7 5) (.seq (reg7 6) (.seq (reg7 7) (.seq (reg7 8) rest7)))))))) := rfl
  rw [er]
  have hS0 := SpareR.refl (fun _ => False) w
  refine LeadsR.seq hP hi0 hcs ?_
  rw [rg7_0]
  refine LeadsR.region hP (hi1 _) hcs ?_
  rw [sz7_0]
  simp only [List.range, List.range.loop]
  refine asgF io7_0_0 hA rfl (by decide) (hi1 _) hcs fun A hA => ?_
  refine LeadsR.nil hP (hi1 _) hcs ?_
  replace hA := hA.less (m := [(0, .slice eo L.length cap), (1, .int .i64 a0), (2, .int .i64 b0)]) (by simp only [List.forall_mem_cons, List.not_mem_nil, false_implies, implies_true, and_true]; exact ⟨rfl, rfl, rfl⟩)
  refine LeadsR.seq hP hi0 hcs ?_
  rw [rg7_1]
  refine LeadsR.region hP (hi1 _) hcs ?_
  rw [sz7_1]
  simp only [List.range, List.range.loop]
  refine callFx io7_1_0 Tryz.func17 (by decide) rfl hA rfl (by decide) (hi1 _) hcs (works_H w (glob_spare hg hS0) (Nat.le_trans hw7 hS0.size)) (fun e w' x => ⟨_, x.1⟩) ?_
  rintro v w1 A ⟨hv, ht1⟩ hA
  cases hv
  have hS1 := hS0.trans ht1
  refine asgF io7_1_1 hA rfl (by decide) (hi1 _) hcs fun A hA => ?_
  refine LeadsR.nil hP (hi1 _) hcs ?_
  replace hA := hA.less (m := [(0, .slice eo L.length cap), (1, .int .i64 a0), (2, .int .i64 b0), (7, .bool true)]) (by simp only [List.forall_mem_cons, List.not_mem_nil, false_implies, implies_true, and_true]; exact ⟨rfl, rfl, rfl, rfl⟩)
  refine LeadsR.seq hP hi0 hcs ?_
  rw [rg7_2]
  refine LeadsR.region hP (hi1 _) hcs ?_
  rw [sz7_2]
  simp only [List.range, List.range.loop]
  refine mvF io7_2_0 hA rfl (by decide) (hi1 _) hcs fun A hA => ?_
  refine callFx io7_2_1 Tryz.func19 (by decide) rfl hA rfl (by decide) (hi1 _) hcs (pick_H (a0) 20 w1 ha64 (by decide)) (fun e w' x => ⟨_, x.1⟩) ?_
  rintro v w2 A ⟨hv, ht2⟩ hA
  cases hv
  have hpr2 := pickZ_range a0 20 (by decide)
  have hS2 := hS1.trans ht2
  refine asgF io7_2_2 hA rfl (by decide) (hi1 _) hcs fun A hA => ?_
  refine LeadsR.nil hP (hi1 _) hcs ?_
  replace hA := hA.less (m := [(0, .slice eo L.length cap), (1, .int .i64 (pickZ a0 20)), (2, .int .i64 b0), (7, .bool true)]) (by simp only [List.forall_mem_cons, List.not_mem_nil, false_implies, implies_true, and_true]; exact ⟨rfl, rfl, rfl, rfl⟩)
  obtain ⟨a, hae⟩ : ∃ a : Nat, pickZ a0 20 = a := ⟨(pickZ a0 20).toNat, by omega⟩
  rw [hae] at hA hpr2
  refine LeadsR.seq hP hi0 hcs ?_
  rw [rg7_3]
  refine LeadsR.region hP (hi1 _) hcs ?_
  rw [sz7_3]
  simp only [List.range, List.range.loop]
  refine mvF io7_3_0 hA rfl (by decide) (hi1 _) hcs fun A hA => ?_
  refine mvF io7_3_1 hA rfl (by decide) (hi1 _) hcs fun A hA => ?_
  refine callFx io7_3_2 Tryz.func19 (by decide) rfl hA rfl (by decide) (hi1 _) hcs (pick_H (b0) 20 w2 hb64 (by decide)) (fun e w' x => ⟨_, x.1⟩) ?_
  rintro v w3 A ⟨hv, ht3⟩ hA
  cases hv
  have hpr3 := pickZ_range b0 20 (by decide)
  have hS3 := hS2.trans ht3
  refine addF io7_3_3 hA rfl rfl (by omega) (by decide) (hi1 _) hcs fun A hA => ?_
  refine asgF io7_3_4 hA rfl (by decide) (hi1 _) hcs fun A hA => ?_
  refine LeadsR.nil hP (hi1 _) hcs ?_
  replace hA := hA.less (m := [(0, .slice eo L.length cap), (1, .int .i64 (a : Int)), (2, .int .i64 ((a : Int) + (pickZ b0 20))), (7, .bool true)]) (by simp only [List.forall_mem_cons, List.not_mem_nil, false_implies, implies_true, and_true]; exact ⟨rfl, rfl, rfl, rfl⟩)
  obtain ⟨b, hbe⟩ : ∃ b : Nat, (a : Int) + pickZ b0 20 = b := ⟨((a : Int) + pickZ b0 20).toNat, by omega⟩
  have hbr : a ≤ b ∧ b ≤ 38 := by omega
  rw [hbe] at hA
  refine LeadsR.seq hP hi0 hcs ?_
  rw [rg7_4]
  refine LeadsR.region hP (hi1 _) hcs ?_
  rw [sz7_4]
  simp only [List.range, List.range.loop]
  refine mvF io7_4_0 hA rfl (by decide) (hi1 _) hcs fun A hA => ?_
  refine callFx io7_4_1 Tryz.func20 (by decide) rfl hA rfl (by decide) (hi1 _) hcs (digits_H a w3 (by omega)) (fun e w' x => by obtain ⟨⟨q, hq, _⟩, _⟩ := x; exact ⟨_, hq⟩) ?_
  rintro v w4 A ⟨⟨ta, hv, hta⟩, ht4⟩ hA
  cases hv
  have la : ta.size ≤ 2 := by have : ta.data.toList.length = ta.size := (by rw [Array.length_toList]; rfl); rw [← this, hta]; exact dec_len 1 a (by omega)
  have hS4 := hS3.trans ht4
  have q1 : ({ data := #[91] } : ByteArray).size ≤ 1 := by decide
  refine catF io7_4_2 hA rfl rfl (by omega) (by decide) (hi1 _) hcs fun A hA => ?_
  obtain ⟨c2, hc2⟩ : ∃ x : ByteArray, x = { data := #[91] } ++ ta := ⟨_, rfl⟩
  rw [← hc2] at hA
  have q2 : c2.size ≤ 3 := by rw [hc2, ByteArray.size_append]; omega
  have q3 : ({ data := #[44] } : ByteArray).size ≤ 1 := by decide
  refine catF io7_4_3 hA rfl rfl (by omega) (by decide) (hi1 _) hcs fun A hA => ?_
  obtain ⟨c4, hc4⟩ : ∃ x : ByteArray, x = c2 ++ { data := #[44] } := ⟨_, rfl⟩
  rw [← hc4] at hA
  have q4 : c4.size ≤ 4 := by rw [hc4, ByteArray.size_append]; omega
  refine mvF io7_4_4 hA rfl (by decide) (hi1 _) hcs fun A hA => ?_
  refine callFx io7_4_5 Tryz.func20 (by decide) rfl hA rfl (by decide) (hi1 _) hcs (digits_H b w4 (by omega)) (fun e w' x => by obtain ⟨⟨q, hq, _⟩, _⟩ := x; exact ⟨_, hq⟩) ?_
  rintro v w5 A ⟨⟨tb, hv, htb⟩, ht5⟩ hA
  cases hv
  have lb : tb.size ≤ 2 := by have : tb.data.toList.length = tb.size := (by rw [Array.length_toList]; rfl); rw [← this, htb]; exact dec_len 1 b (by omega)
  have hS5 := hS4.trans ht5
  refine catF io7_4_6 hA rfl rfl (by omega) (by decide) (hi1 _) hcs fun A hA => ?_
  obtain ⟨c5, hc5⟩ : ∃ x : ByteArray, x = c4 ++ tb := ⟨_, rfl⟩
  rw [← hc5] at hA
  have q5 : c5.size ≤ 6 := by rw [hc5, ByteArray.size_append]; omega
  have q6 : ({ data := #[93] } : ByteArray).size ≤ 1 := by decide
  refine catF io7_4_7 hA rfl rfl (by omega) (by decide) (hi1 _) hcs fun A hA => ?_
  obtain ⟨c7, hc7⟩ : ∃ x : ByteArray, x = c5 ++ { data := #[93] } := ⟨_, rfl⟩
  rw [← hc7] at hA
  have q7 : c7.size ≤ 7 := by rw [hc7, ByteArray.size_append]; omega
  refine asgF io7_4_8 hA rfl (by decide) (hi1 _) hcs fun A hA => ?_
  refine LeadsR.nil hP (hi1 _) hcs ?_
  have dw : c7.data.toList = winW a b := by rw [hc7, hc5, hc4, hc2]; simp only [ByteArray.data_append, Array.toList_append, hta, htb]; unfold winW; rw [itoa_eq _ (by omega), itoa_eq _ (by omega)]; simp
  replace hA := hA.less (m := [(0, .slice eo L.length cap), (1, .int .i64 (a : Int)), (2, .int .i64 (b : Int)), (7, .bool true), (8, .string c7)]) (by simp only [List.forall_mem_cons, List.not_mem_nil, false_implies, implies_true, and_true]; exact ⟨rfl, rfl, rfl, rfl, rfl⟩)
  refine LeadsR.seq hP hi0 hcs ?_
  rw [rg7_5]
  refine LeadsR.region hP (hi1 _) hcs ?_
  rw [sz7_5]
  simp only [List.range, List.range.loop]
  refine mvF io7_5_0 hA rfl (by decide) (hi1 _) hcs fun A hA => ?_
  have q8 : ({ data := #[79] } : ByteArray).size ≤ 1 := by decide
  refine catF io7_5_1 hA rfl rfl (by omega) (by decide) (hi1 _) hcs fun A hA => ?_
  obtain ⟨c9, hc9⟩ : ∃ x : ByteArray, x = { data := #[79] } ++ c7 := ⟨_, rfl⟩
  rw [← hc9] at hA
  have q9 : c9.size ≤ 8 := by rw [hc9, ByteArray.size_append]; omega
  have q10 : ({ data := #[97] } : ByteArray).size ≤ 1 := by decide
  refine catF io7_5_2 hA rfl rfl (by omega) (by decide) (hi1 _) hcs fun A hA => ?_
  obtain ⟨c11, hc11⟩ : ∃ x : ByteArray, x = c9 ++ { data := #[97] } := ⟨_, rfl⟩
  rw [← hc11] at hA
  have q11 : c11.size ≤ 9 := by rw [hc11, ByteArray.size_append]; omega
  refine mvF io7_5_3 hA rfl (by decide) (hi1 _) hcs fun A hA => ?_
  have dt5 : c11.data.toList = [79] ++ winW a b ++ [97] := by rw [hc11, hc9]; simp only [ByteArray.data_append, Array.toList_append, dw]
  refine watchF (X := winT 79 a b) (L := L) io7_5_4 io7_5_5 io7_5_6 io7_5_7 io7_5_8 io7_5_9 (by decide) (by decide) hA rfl rfl rfl (hi1 _) hcs (watched_ok c11 (winT 79 a b) L 1000 eo cap w5 (glob_spare hg hS5) (Nat.le_trans hw7 hS5.size) (Nat.le_trans (m := 1000) (by omega) (by decide)) (read_win (op := 79) (a := a) (b := b) (by omega) (by omega) (s := c11) (by rw [dt5]; unfold winW; simp)) (reach_win (by omega)) (few_nodes (Nat.le_trans (nodes_win 79 a b) (by decide))) (Nat.le_trans (nodes_win 79 a b) (by decide)) (by decide) hLm hL (hC.move hS5) (time_small L)) [(0, .slice eo L.length cap), (1, .int .i64 (a : Int)), (2, .int .i64 (b : Int)), (7, .bool true), (8, .string c7)] (by simp only [List.forall_mem_cons, List.not_mem_nil, false_implies, implies_true, and_true]; exact ⟨⟨rfl, by decide, by decide, by decide, by decide, by decide, by decide⟩, ⟨rfl, by decide, by decide, by decide, by decide, by decide, by decide⟩, ⟨rfl, by decide, by decide, by decide, by decide, by decide, by decide⟩, ⟨rfl, by decide, by decide, by decide, by decide, by decide, by decide⟩, ⟨rfl, by decide, by decide, by decide, by decide, by decide, by decide⟩⟩) fun A w6 hA ht6 => ?_
  have hS6 := hS5.trans ht6
  refine LeadsR.seq hP hi0 hcs ?_
  rw [rg7_6]
  refine LeadsR.region hP (hi1 _) hcs ?_
  rw [sz7_6]
  simp only [List.range, List.range.loop]
  refine mvF io7_6_0 hA rfl (by decide) (hi1 _) hcs fun A hA => ?_
  have q12 : ({ data := #[72] } : ByteArray).size ≤ 1 := by decide
  refine catF io7_6_1 hA rfl rfl (by omega) (by decide) (hi1 _) hcs fun A hA => ?_
  obtain ⟨c13, hc13⟩ : ∃ x : ByteArray, x = { data := #[72] } ++ c7 := ⟨_, rfl⟩
  rw [← hc13] at hA
  have q13 : c13.size ≤ 8 := by rw [hc13, ByteArray.size_append]; omega
  refine catF io7_6_2 hA rfl rfl (by omega) (by decide) (hi1 _) hcs fun A hA => ?_
  obtain ⟨c14, hc14⟩ : ∃ x : ByteArray, x = c13 ++ { data := #[97] } := ⟨_, rfl⟩
  rw [← hc14] at hA
  have q14 : c14.size ≤ 9 := by rw [hc14, ByteArray.size_append]; omega
  refine mvF io7_6_3 hA rfl (by decide) (hi1 _) hcs fun A hA => ?_
  have dt6 : c14.data.toList = [72] ++ winW a b ++ [97] := by rw [hc14, hc13]; simp only [ByteArray.data_append, Array.toList_append, dw]
  refine watchF (X := winT 72 a b) (L := L) io7_6_4 io7_6_5 io7_6_6 io7_6_7 io7_6_8 io7_6_9 (by decide) (by decide) hA rfl rfl rfl (hi1 _) hcs (watched_ok c14 (winT 72 a b) L 1000 eo cap w6 (glob_spare hg hS6) (Nat.le_trans hw7 hS6.size) (Nat.le_trans (m := 1000) (by omega) (by decide)) (read_win (op := 72) (a := a) (b := b) (by omega) (by omega) (s := c14) (by rw [dt6]; unfold winW; simp)) (reach_win (by omega)) (few_nodes (Nat.le_trans (nodes_win 72 a b) (by decide))) (Nat.le_trans (nodes_win 72 a b) (by decide)) (by decide) hLm hL (hC.move hS6) (time_small L)) [(0, .slice eo L.length cap), (1, .int .i64 (a : Int)), (2, .int .i64 (b : Int)), (7, .bool true), (8, .string c7), (9, .string (verS (winT 79 a b) L (min L.length 25))), (10, .bool true)] (by simp only [List.forall_mem_cons, List.not_mem_nil, false_implies, implies_true, and_true]; exact ⟨⟨rfl, by decide, by decide, by decide, by decide, by decide, by decide⟩, ⟨rfl, by decide, by decide, by decide, by decide, by decide, by decide⟩, ⟨rfl, by decide, by decide, by decide, by decide, by decide, by decide⟩, ⟨rfl, by decide, by decide, by decide, by decide, by decide, by decide⟩, ⟨rfl, by decide, by decide, by decide, by decide, by decide, by decide⟩, ⟨rfl, by decide, by decide, by decide, by decide, by decide, by decide⟩, ⟨rfl, by decide, by decide, by decide, by decide, by decide, by decide⟩⟩) fun A w7 hA ht7 => ?_
  have hS7 := hS6.trans ht7
  refine LeadsR.seq hP hi0 hcs ?_
  rw [rg7_7]
  refine LeadsR.region hP (hi1 _) hcs ?_
  rw [sz7_7]
  simp only [List.range, List.range.loop]
  refine mvF io7_7_0 hA rfl (by decide) (hi1 _) hcs fun A hA => ?_
  have q15 : ({ data := #[89] } : ByteArray).size ≤ 1 := by decide
  refine catF io7_7_1 hA rfl rfl (by omega) (by decide) (hi1 _) hcs fun A hA => ?_
  obtain ⟨c16, hc16⟩ : ∃ x : ByteArray, x = { data := #[89] } ++ c7 := ⟨_, rfl⟩
  rw [← hc16] at hA
  have q16 : c16.size ≤ 8 := by rw [hc16, ByteArray.size_append]; omega
  refine catF io7_7_2 hA rfl rfl (by omega) (by decide) (hi1 _) hcs fun A hA => ?_
  obtain ⟨c17, hc17⟩ : ∃ x : ByteArray, x = c16 ++ { data := #[97] } := ⟨_, rfl⟩
  rw [← hc17] at hA
  have q17 : c17.size ≤ 9 := by rw [hc17, ByteArray.size_append]; omega
  refine mvF io7_7_3 hA rfl (by decide) (hi1 _) hcs fun A hA => ?_
  have dt7 : c17.data.toList = [89] ++ winW a b ++ [97] := by rw [hc17, hc16]; simp only [ByteArray.data_append, Array.toList_append, dw]
  refine watchF (X := winT 89 a b) (L := L) io7_7_4 io7_7_5 io7_7_6 io7_7_7 io7_7_8 io7_7_9 (by decide) (by decide) hA rfl rfl rfl (hi1 _) hcs (watched_ok c17 (winT 89 a b) L 1000 eo cap w7 (glob_spare hg hS7) (Nat.le_trans hw7 hS7.size) (Nat.le_trans (m := 1000) (by omega) (by decide)) (read_win (op := 89) (a := a) (b := b) (by omega) (by omega) (s := c17) (by rw [dt7]; unfold winW; simp)) (reach_win (by omega)) (few_nodes (Nat.le_trans (nodes_win 89 a b) (by decide))) (Nat.le_trans (nodes_win 89 a b) (by decide)) (by decide) hLm hL (hC.move hS7) (time_small L)) [(0, .slice eo L.length cap), (1, .int .i64 (a : Int)), (2, .int .i64 (b : Int)), (7, .bool true), (8, .string c7), (9, .string (verS (winT 79 a b) L (min L.length 25))), (10, .bool true), (11, .string (verS (winT 72 a b) L (min L.length 25))), (12, .bool true)] (by simp only [List.forall_mem_cons, List.not_mem_nil, false_implies, implies_true, and_true]; exact ⟨⟨rfl, by decide, by decide, by decide, by decide, by decide, by decide⟩, ⟨rfl, by decide, by decide, by decide, by decide, by decide, by decide⟩, ⟨rfl, by decide, by decide, by decide, by decide, by decide, by decide⟩, ⟨rfl, by decide, by decide, by decide, by decide, by decide, by decide⟩, ⟨rfl, by decide, by decide, by decide, by decide, by decide, by decide⟩, ⟨rfl, by decide, by decide, by decide, by decide, by decide, by decide⟩, ⟨rfl, by decide, by decide, by decide, by decide, by decide, by decide⟩, ⟨rfl, by decide, by decide, by decide, by decide, by decide, by decide⟩, ⟨rfl, by decide, by decide, by decide, by decide, by decide, by decide⟩⟩) fun A w8 hA ht8 => ?_
  have hS8 := hS7.trans ht8
  refine LeadsR.seq hP hi0 hcs ?_
  rw [rg7_8]
  refine LeadsR.region hP (hi1 _) hcs ?_
  rw [sz7_8]
  simp only [List.range, List.range.loop]
  refine mvF io7_8_0 hA rfl (by decide) (hi1 _) hcs fun A hA => ?_
  have q18 : ({ data := #[40, 98, 32, 83] } : ByteArray).size ≤ 4 := by decide
  refine catF io7_8_1 hA rfl rfl (by omega) (by decide) (hi1 _) hcs fun A hA => ?_
  obtain ⟨c19, hc19⟩ : ∃ x : ByteArray, x = { data := #[40, 98, 32, 83] } ++ c7 := ⟨_, rfl⟩
  rw [← hc19] at hA
  have q19 : c19.size ≤ 11 := by rw [hc19, ByteArray.size_append]; omega
  have q20 : ({ data := #[32, 97, 41] } : ByteArray).size ≤ 3 := by decide
  refine catF io7_8_2 hA rfl rfl (by omega) (by decide) (hi1 _) hcs fun A hA => ?_
  obtain ⟨c21, hc21⟩ : ∃ x : ByteArray, x = c19 ++ { data := #[32, 97, 41] } := ⟨_, rfl⟩
  rw [← hc21] at hA
  have q21 : c21.size ≤ 14 := by rw [hc21, ByteArray.size_append]; omega
  refine mvF io7_8_3 hA rfl (by decide) (hi1 _) hcs fun A hA => ?_
  have dt8 : c21.data.toList = [40, 98, 32, 83] ++ winW a b ++ [32, 97, 41] := by rw [hc21, hc19]; simp only [ByteArray.data_append, Array.toList_append, dw]
  refine watchF (X := sinceT a b) (L := L) io7_8_4 io7_8_5 io7_8_6 io7_8_7 io7_8_8 io7_8_9 (by decide) (by decide) hA rfl rfl rfl (hi1 _) hcs (watched_ok c21 (sinceT a b) L 1000 eo cap w8 (glob_spare hg hS8) (Nat.le_trans hw7 hS8.size) (Nat.le_trans (m := 1000) (by omega) (by decide)) (read_since (a := a) (b := b) (by omega) (s := c21) (by rw [dt8]; unfold winW; simp)) (reach_since (by omega)) (few_nodes (Nat.le_trans (nodes_since a b) (by decide))) (Nat.le_trans (nodes_since a b) (by decide)) (by decide) hLm hL (hC.move hS8) (time_small L)) [(0, .slice eo L.length cap), (1, .int .i64 (a : Int)), (2, .int .i64 (b : Int)), (7, .bool true), (8, .string c7), (9, .string (verS (winT 79 a b) L (min L.length 25))), (10, .bool true), (11, .string (verS (winT 72 a b) L (min L.length 25))), (12, .bool true), (13, .string (verS (winT 89 a b) L (min L.length 25))), (14, .bool true)] (by simp only [List.forall_mem_cons, List.not_mem_nil, false_implies, implies_true, and_true]; exact ⟨⟨rfl, by decide, by decide, by decide, by decide, by decide, by decide⟩, ⟨rfl, by decide, by decide, by decide, by decide, by decide, by decide⟩, ⟨rfl, by decide, by decide, by decide, by decide, by decide, by decide⟩, ⟨rfl, by decide, by decide, by decide, by decide, by decide, by decide⟩, ⟨rfl, by decide, by decide, by decide, by decide, by decide, by decide⟩, ⟨rfl, by decide, by decide, by decide, by decide, by decide, by decide⟩, ⟨rfl, by decide, by decide, by decide, by decide, by decide, by decide⟩, ⟨rfl, by decide, by decide, by decide, by decide, by decide, by decide⟩, ⟨rfl, by decide, by decide, by decide, by decide, by decide, by decide⟩, ⟨rfl, by decide, by decide, by decide, by decide, by decide, by decide⟩, ⟨rfl, by decide, by decide, by decide, by decide, by decide, by decide⟩⟩) fun A w9 hA ht9 => ?_
  have hS9 := hS8.trans ht9
  exact rest7_lead L eo cap a b _ _ _ _ w A w9 hLm hL hC (by omega) ⟨rfl, rfl, rfl, rfl⟩ ⟨hA.defers, hA.size, hA.get 0 _ rfl, hA.get 1 _ rfl, hA.get 2 _ rfl, hA.get 7 _ rfl, hA.get 9 _ rfl, hA.get 10 _ rfl, hA.get 11 _ rfl, hA.get 12 _ rfl, hA.get 13 _ rfl, hA.get 14 _ rfl, hA.get 15 _ rfl, hA.get 16 _ rfl⟩ hS9 cs hcs
end Go.Proofs.YtpbbmagjhkakgaaGreatDoor.Ev
