/-
  The walk beside goroutines that are only leaving, an operation at a time, over what is known of the temporaries; a call of watched and what is done with its answers.
-/
/-
  The walk beside goroutines that are only leaving, an operation at a time, over a list of what is known of the temporaries.
-/
/-
  What the statements' sentence does, at every depth up to 3.
-/
import Derived.Test.YtpbbmagjhkakgaaGreatDoorSnSemToSnWatch
import Derived.Test.YtpbbmagjhkakgaaGreatDoorSmSentToRowRaw
namespace Go.Proofs.YtpbbmagjhkakgaaGreatDoor.Ev
open Go.RowKit Go.Deep Go.Maps Go.Proofs.YtpbbmagjhkakgaaGreatDoor.Lf Go.Conc
def IsOp (ops : Array Oper) (i d : Nat) (op : Op) : Prop := ∃ o, ops[i]? = some o ∧ o.dst = some d ∧ o.op = op ∧ o.guard = none
section
variable {P : Program} {K : Goroutine → World → Prop} {b : Frame} {k : List Item} {cs : List Frame} {A : Act} {w : World} {ops : Array Oper} {i d : Nat} {rest : List Nat} {v : Value}
theorem put_facts (A : Act) (d : Nat) (v : Value) (hd : d < A.tmps.size) : (A.put (some d) v).tmps.size = A.tmps.size ∧ (A.put (some d) v).defers = A.defers ∧ (A.put (some d) v).tmps[d]? = some v ∧ ∀ j, j ≠ d → (A.put (some d) v).tmps[j]? = A.tmps[j]? := by
  refine ⟨by simp [Act.put], rfl, by simp [Act.put, hd], fun j hj => ?_⟩
  simp only [Act.put, Array.getElem?_setIfInBounds]
  rw [if_neg (fun e => hj e.symm)]
theorem eval_tmp {j : Nat} (h : A.tmps[j]? = some v) : A.eval (.tmp j) = v := by
  show A.tmps.getD j undef = v
  rw [Array.getD_eq_getD_getElem?, h]
  rfl
theorem isOp_wanted {o : Oper} {y : Nat → Option Bool} (h : o.guard = none) : Region.wanted o y = true := by
  unfold Region.wanted
  rw [h]
theorem LeadsR.isVal (hP : Plain P) {op : Op} (h : IsOp ops i d op) (hr : ∀ o : Oper, o.op = op → ∀ w, (execOp A.eval o).run P w = .ok (.value v) w) (hi : ∀ it ∈ k, okItem it) (hc : ∀ fr ∈ cs, okFrame fr)
    (hk : LeadsR P K (G (b.at (A.put (some d) v) (.inRegion ops rest :: k)) cs) w) : LeadsR P K (G (b.at A (.inRegion ops (i :: rest) :: k)) cs) w := by
  obtain ⟨o, h1, h2, h3, h4⟩ := h
  refine LeadsR.val hP (w' := w) (v := v) h1 (isOp_wanted h4) (fun τ d => hr o h3 _) hi hc ?_
  rw [h2]
  exact hk
theorem LeadsR.mv (hP : Plain P) {x : Operand} (h : IsOp ops i d (.move x)) (hx : A.eval x = v) (hi : ∀ it ∈ k, okItem it) (hc : ∀ fr ∈ cs, okFrame fr)
    (hk : LeadsR P K (G (b.at (A.put (some d) v) (.inRegion ops rest :: k)) cs) w) : LeadsR P K (G (b.at A (.inRegion ops (i :: rest) :: k)) cs) w :=
  LeadsR.isVal hP h (fun o ho w => by unfold execOp; rw [ho, ← hx]; rfl) hi hc hk
theorem LeadsR.asg (hP : Plain P) {x : Operand} (h : IsOp ops i d (.assign x)) (hx : A.eval x = v) (hi : ∀ it ∈ k, okItem it) (hc : ∀ fr ∈ cs, okFrame fr)
    (hk : LeadsR P K (G (b.at (A.put (some d) v) (.inRegion ops rest :: k)) cs) w) : LeadsR P K (G (b.at A (.inRegion ops (i :: rest) :: k)) cs) w :=
  LeadsR.isVal hP h (fun o ho w => by unfold execOp; rw [ho, ← hx]; rfl) hi hc hk
theorem LeadsR.ext (hP : Plain P) {x : Operand} {n : Nat} {vs : Array Value} (h : IsOp ops i d (.extract x n)) (hx : A.eval x = .tuple vs) (hv : vs[n]? = some v) (hi : ∀ it ∈ k, okItem it) (hc : ∀ fr ∈ cs, okFrame fr)
    (hk : LeadsR P K (G (b.at (A.put (some d) v) (.inRegion ops rest :: k)) cs) w) : LeadsR P K (G (b.at A (.inRegion ops (i :: rest) :: k)) cs) w :=
  LeadsR.isVal hP h (fun o ho w => by unfold execOp; rw [ho]; simp [hx, Instr.extract, hv]) hi hc hk
theorem LeadsR.callF (hP : Plain P) {f : FuncId} {fn : Func} {args : Array Operand} {ats : Array TypeId} {vs : Array Value} {R : Ending → World → Prop} (h : IsOp ops i d (.call { callee := .value (.func f), args, argTypes := ats }))
    (hf : P.funcs[f]? = some fn) (hname : (fn.name == "runtime.NumGoroutine") = false) (hb : fn.body.isNone = false) (hargs : args.map A.eval = vs) (hi : ∀ it ∈ k, okItem it) (hc : ∀ fr ∈ cs, okFrame fr) (hC : HCalls P f vs w R) (hR : ∀ e w', R e w' → ∃ v, e = .returned v)
    (hk : ∀ v w', R (.returned v) w' → LeadsR P K (G (b.at (A.put (some d) v) (.inRegion ops rest :: k)) cs) w') : LeadsR P K (G (b.at A (.inRegion ops (i :: rest) :: k)) cs) w := by
  obtain ⟨o, h1, h2, h3, h4⟩ := h
  refine LeadsR.call hP h1 (isOp_wanted h4) (fun τ d => by rw [run_call_body h3 hf hname hb, hargs]) hi hc hC hR ?_
  rw [h2]
  exact hk
end
section
variable {K : Goroutine → World → Prop} {b : Frame} {k : List Item} {cs : List Frame} {A : Act} {w : World} {ops : Array Oper} {i d : Nat} {rest : List Nat} {v : Value}
theorem LeadsR.cat {x y : Operand} {s t : ByteArray} (h : IsOp ops i d (.binOp .add 9 x y 9)) (hx : A.eval x = .string s) (hy : A.eval y = .string t) (hs : ¬ 9223372036854775807 < s.size + t.size) (hi : ∀ it ∈ k, okItem it) (hc : ∀ fr ∈ cs, okFrame fr)
    (hk : LeadsR Tryz.prog K (G (b.at (A.put (some d) (.string (s ++ t))) (.inRegion ops rest :: k)) cs) w) : LeadsR Tryz.prog K (G (b.at A (.inRegion ops (i :: rest) :: k)) cs) w :=
  LeadsR.isVal plain_prog h (fun o ho w => by
    refine run_eq_of fun K hK => ?_
    unfold execOp
    rw [ho]
    simp only [hx, hy]
    go_simp
    exact hK) hi hc hk
theorem LeadsR.addI {x y : Operand} {m n : Int} (h : IsOp ops i d (.binOp .add 3 x y 3)) (hx : A.eval x = .int .i64 m) (hy : A.eval y = .int .i64 n) (hr : -9223372036854775808 ≤ m + n ∧ m + n ≤ 9223372036854775807) (hi : ∀ it ∈ k, okItem it) (hc : ∀ fr ∈ cs, okFrame fr)
    (hk : LeadsR Tryz.prog K (G (b.at (A.put (some d) (.int .i64 (m + n))) (.inRegion ops rest :: k)) cs) w) : LeadsR Tryz.prog K (G (b.at A (.inRegion ops (i :: rest) :: k)) cs) w :=
  LeadsR.isVal plain_prog h (fun o ho w => by
    refine run_eq_of fun K hK => ?_
    have hwr : IntKind.i64.wrap (m + n) = m + n := by rw [IntKind.wrap_i64]; omega
    unfold execOp
    rw [ho]
    simp only [hx, hy]
    go_simp
    first | exact hK | (rw [hwr]; exact hK)) hi hc hk
theorem watch_tail {x y z : Operand} {text : ByteArray} {retain : Int} {eo : Option Addr} {L : List (Int × Int)} {cap : Nat} {X : BT Pay} {i0 i1 i2 i3 i4 i5 d0 d1 d2 d3 dA dB : Nat}
    (c0 : IsOp ops i0 d0 (.call { callee := .value (.func 21), args := #[x, y, z], argTypes := #[9, 3, 34] })) (c1 : IsOp ops i1 d1 (.move (.tmp d0))) (c2 : IsOp ops i2 d2 (.extract (.tmp d1) 0)) (c3 : IsOp ops i3 d3 (.extract (.tmp d1) 1)) (c4 : IsOp ops i4 dA (.assign (.tmp d2))) (c5 : IsOp ops i5 dB (.assign (.tmp d3)))
    (hz : d0 < A.tmps.size ∧ d1 < A.tmps.size ∧ d2 < A.tmps.size ∧ d3 < A.tmps.size ∧ dA < A.tmps.size ∧ dB < A.tmps.size) (hne : d1 ≠ d2 ∧ d2 ≠ d3 ∧ dA ≠ d3 ∧ dA ≠ dB)
    (hx : A.eval x = .string text) (hy : A.eval y = .int .i64 retain) (hzz : A.eval z = .slice eo L.length cap) (hi : ∀ it ∈ k, okItem it) (hc : ∀ fr ∈ cs, okFrame fr)
    (hC : HCalls Tryz.prog 21 #[.string text, .int .i64 retain, .slice eo L.length cap] w (WatchedPost X L w))
    (hk : ∀ A' w', A'.tmps.size = A.tmps.size → A'.defers = A.defers → A'.tmps[dA]? = some (.string (verS X L (min L.length 25))) → A'.tmps[dB]? = some (.bool true) → (∀ j, j ≠ d0 → j ≠ d1 → j ≠ d2 → j ≠ d3 → j ≠ dA → j ≠ dB → A'.tmps[j]? = A.tmps[j]?) → SpareR (fun _ => False) w w' → LeadsR Tryz.prog K (G (b.at A' k) cs) w') :
    LeadsR Tryz.prog K (G (b.at A (.inRegion ops [i0, i1, i2, i3, i4, i5] :: k)) cs) w := by
  have hP := plain_prog
  obtain ⟨z0, z1, z2, z3, zA, zB⟩ := hz
  obtain ⟨n1, n2, n3, n4⟩ := hne
  refine LeadsR.callF hP c0 Tryz.func21 (by decide) rfl (by simp only [List.map_toArray, List.map_cons, List.map_nil, hx, hy, hzz]) hi hc hC (fun e w' x => ⟨_, x.1⟩) ?_
  rintro v w1 ⟨hv, hs⟩
  cases hv
  generalize verS X L (min L.length 25) = s at *
  have p0 := put_facts A d0 (.tuple #[.string s, .bool true]) z0
  generalize A.put (some d0) (.tuple #[.string s, .bool true]) = A0 at *
  refine LeadsR.mv hP c1 (eval_tmp p0.2.2.1) hi hc ?_
  have p1 := put_facts A0 d1 (.tuple #[.string s, .bool true]) (by omega)
  generalize A0.put (some d1) (.tuple #[.string s, .bool true]) = A1 at *
  refine LeadsR.ext hP c2 (eval_tmp p1.2.2.1) (v := .string s) rfl hi hc ?_
  have p2 := put_facts A1 d2 (.string s) (by omega)
  generalize A1.put (some d2) (.string s) = A2 at *
  refine LeadsR.ext hP c3 (eval_tmp ((p2.2.2.2 d1 n1).trans p1.2.2.1)) (v := .bool true) rfl hi hc ?_
  have p3 := put_facts A2 d3 (.bool true) (by omega)
  generalize A2.put (some d3) (.bool true) = A3 at *
  refine LeadsR.asg hP c4 (eval_tmp ((p3.2.2.2 d2 n2).trans p2.2.2.1)) hi hc ?_
  have p4 := put_facts A3 dA (.string s) (by omega)
  generalize A3.put (some dA) (.string s) = A4 at *
  refine LeadsR.asg hP c5 (eval_tmp ((p4.2.2.2 d3 (fun e => n3 e.symm)).trans p3.2.2.1)) hi hc ?_
  have p5 := put_facts A4 dB (.bool true) (by omega)
  generalize A4.put (some dB) (.bool true) = A5 at *
  refine LeadsR.nil hP hi hc (hk A5 w1 (by omega) (by rw [p5.2.1, p4.2.1, p3.2.1, p2.2.1, p1.2.1, p0.2.1]) ((p5.2.2.2 dA n4).trans p4.2.2.1) p5.2.2.1 ?_ hs)
  intro j j0 j1 j2 j3 jA jB
  rw [p5.2.2.2 j jB, p4.2.2.2 j jA, p3.2.2.2 j j3, p2.2.2.2 j j2, p1.2.2.2 j j1, p0.2.2.2 j j0]
end
end Go.Proofs.YtpbbmagjhkakgaaGreatDoor.Ev

namespace Go.Proofs.YtpbbmagjhkakgaaGreatDoor.Ev
open Go.RowKit Go.Deep Go.Maps Go.Proofs.YtpbbmagjhkakgaaGreatDoor.Lf Go.Conc
def look : List (Nat × Value) → Nat → Option Value
  | [], _ => none
  | p :: l, j => if j = p.1 then some p.2 else look l j
structure Fx (N : Nat) (l : List (Nat × Value)) (A : Act) : Prop where
  size : A.tmps.size = N
  defers : A.defers = []
  get : ∀ j v, look l j = some v → A.tmps[j]? = some v
def evl (l : List (Nat × Value)) : Operand → Option Value
  | .tmp j => look l j
  | .const v => some v
  | _ => none
def evls (l : List (Nat × Value)) : List Operand → Option (List Value)
  | [] => some []
  | x :: xs => match evl l x, evls l xs with
    | some v, some vs => some (v :: vs)
    | _, _ => none
theorem Fx.put {N : Nat} {l : List (Nat × Value)} {A : Act} (h : Fx N l A) {d : Nat} (hd : d < N) (v : Value) : Fx N ((d, v) :: l) (A.put (some d) v) := by
  have p := put_facts A d v (by rw [h.size]; exact hd)
  refine ⟨p.1.trans h.size, p.2.1.trans h.defers, fun j u hj => ?_⟩
  unfold look at hj
  by_cases e : j = d
  · subst e
    rw [if_pos rfl] at hj
    cases hj
    exact p.2.2.1
  · rw [if_neg e] at hj
    rw [p.2.2.2 j e]
    exact h.get j u hj
theorem Fx.ev {N : Nat} {l : List (Nat × Value)} {A : Act} (h : Fx N l A) {x : Operand} {v : Value} (hx : evl l x = some v) : A.eval x = v := by
  cases x with
  | tmp j => exact eval_tmp (h.get j v hx)
  | const u => cases hx; rfl
  | global g => cases hx
  | func f => cases hx
theorem Fx.evs {N : Nat} {l : List (Nat × Value)} {A : Act} (h : Fx N l A) : ∀ {xs : List Operand} {vs : List Value}, evls l xs = some vs → xs.map A.eval = vs
  | [], _, e => by cases e; rfl
  | x :: xs, vs, e => by
    unfold evls at e
    cases hx : evl l x with
    | none => rw [hx] at e; cases e
    | some v =>
      rw [hx] at e
      cases hxs : evls l xs with
      | none => rw [hxs] at e; cases e
      | some us =>
        rw [hxs] at e
        cases e
        rw [List.map_cons, h.ev hx, h.evs hxs]
theorem look_mem {j : Nat} {v : Value} : ∀ {m : List (Nat × Value)}, look m j = some v → ∃ p ∈ m, p = (j, v)
  | [], h => by cases h
  | p :: m, h => by
    unfold look at h
    by_cases e : j = p.1
    · rw [if_pos e] at h
      cases h
      exact ⟨p, List.mem_cons_self .., by rw [e]⟩
    · rw [if_neg e] at h
      obtain ⟨q, h1, h2⟩ := look_mem h
      exact ⟨q, List.mem_cons_of_mem _ h1, h2⟩
theorem Fx.less {N : Nat} {l m : List (Nat × Value)} {A : Act} (h : Fx N l A) (hm : ∀ p ∈ m, look l p.1 = some p.2) : Fx N m A := by
  refine ⟨h.size, h.defers, fun j v hj => ?_⟩
  obtain ⟨p, h1, rfl⟩ := look_mem hj
  exact h.get j v (hm _ h1)
theorem Fx.adds {N : Nat} {l m : List (Nat × Value)} {A : Act} (h : Fx N l A) (hm : ∀ p ∈ m, A.tmps[p.1]? = some p.2) : Fx N m A :=
  ⟨h.size, h.defers, fun j v hj => by
    obtain ⟨p, h1, rfl⟩ := look_mem hj
    exact hm _ h1⟩
section
variable {K : Goroutine → World → Prop} {b : Frame} {k : List Item} {cs : List Frame} {A : Act} {w : World} {ops : Array Oper} {i d N : Nat} {rest : List Nat} {v : Value} {l : List (Nat × Value)}
theorem mvF {x : Operand} (h : IsOp ops i d (.move x)) (hA : Fx N l A) (hx : evl l x = some v) (hd : d < N) (hi : ∀ it ∈ k, okItem it) (hc : ∀ fr ∈ cs, okFrame fr)
    (hk : ∀ A', Fx N ((d, v) :: l) A' → LeadsR Tryz.prog K (G (b.at A' (.inRegion ops rest :: k)) cs) w) : LeadsR Tryz.prog K (G (b.at A (.inRegion ops (i :: rest) :: k)) cs) w :=
  LeadsR.mv plain_prog h (hA.ev hx) hi hc (hk _ (hA.put hd v))
theorem asgF {x : Operand} (h : IsOp ops i d (.assign x)) (hA : Fx N l A) (hx : evl l x = some v) (hd : d < N) (hi : ∀ it ∈ k, okItem it) (hc : ∀ fr ∈ cs, okFrame fr)
    (hk : ∀ A', Fx N ((d, v) :: l) A' → LeadsR Tryz.prog K (G (b.at A' (.inRegion ops rest :: k)) cs) w) : LeadsR Tryz.prog K (G (b.at A (.inRegion ops (i :: rest) :: k)) cs) w :=
  LeadsR.asg plain_prog h (hA.ev hx) hi hc (hk _ (hA.put hd v))
theorem extF {x : Operand} {n : Nat} {vs : Array Value} (h : IsOp ops i d (.extract x n)) (hA : Fx N l A) (hx : evl l x = some (.tuple vs)) (hv : vs[n]? = some v) (hd : d < N) (hi : ∀ it ∈ k, okItem it) (hc : ∀ fr ∈ cs, okFrame fr)
    (hk : ∀ A', Fx N ((d, v) :: l) A' → LeadsR Tryz.prog K (G (b.at A' (.inRegion ops rest :: k)) cs) w) : LeadsR Tryz.prog K (G (b.at A (.inRegion ops (i :: rest) :: k)) cs) w :=
  LeadsR.ext plain_prog h (hA.ev hx) hv hi hc (hk _ (hA.put hd v))
theorem catF {x y : Operand} {s t : ByteArray} (h : IsOp ops i d (.binOp .add 9 x y 9)) (hA : Fx N l A) (hx : evl l x = some (.string s)) (hy : evl l y = some (.string t)) (hs : s.size + t.size ≤ 100000) (hd : d < N) (hi : ∀ it ∈ k, okItem it) (hc : ∀ fr ∈ cs, okFrame fr)
    (hk : ∀ A', Fx N ((d, .string (s ++ t)) :: l) A' → LeadsR Tryz.prog K (G (b.at A' (.inRegion ops rest :: k)) cs) w) : LeadsR Tryz.prog K (G (b.at A (.inRegion ops (i :: rest) :: k)) cs) w :=
  LeadsR.cat h (hA.ev hx) (hA.ev hy) (by omega) hi hc (hk _ (hA.put hd _))
theorem catN {x y : Operand} {s t : ByteArray} {n m : Nat} (h : IsOp ops i d (.binOp .add 9 x y 9)) (hA : Fx N l A) (hx : evl l x = some (.string s)) (hy : evl l y = some (.string t)) (hs : s.size ≤ n) (ht : t.size ≤ m) (hnm : n + m ≤ 100000) (hd : d < N) (hi : ∀ it ∈ k, okItem it) (hc : ∀ fr ∈ cs, okFrame fr)
    (hk : ∀ A' c, c = s ++ t → c.size ≤ n + m → Fx N ((d, .string c) :: l) A' → LeadsR Tryz.prog K (G (b.at A' (.inRegion ops rest :: k)) cs) w) : LeadsR Tryz.prog K (G (b.at A (.inRegion ops (i :: rest) :: k)) cs) w :=
  catF h hA hx hy (by omega) hd hi hc fun A' hA' => hk A' _ rfl (by rw [ByteArray.size_append]; omega) hA'
theorem addF {x y : Operand} {m n : Int} (h : IsOp ops i d (.binOp .add 3 x y 3)) (hA : Fx N l A) (hx : evl l x = some (.int .i64 m)) (hy : evl l y = some (.int .i64 n)) (hr : -9223372036854775808 ≤ m + n ∧ m + n ≤ 9223372036854775807) (hd : d < N) (hi : ∀ it ∈ k, okItem it) (hc : ∀ fr ∈ cs, okFrame fr)
    (hk : ∀ A', Fx N ((d, .int .i64 (m + n)) :: l) A' → LeadsR Tryz.prog K (G (b.at A' (.inRegion ops rest :: k)) cs) w) : LeadsR Tryz.prog K (G (b.at A (.inRegion ops (i :: rest) :: k)) cs) w :=
  LeadsR.addI h (hA.ev hx) (hA.ev hy) hr hi hc (hk _ (hA.put hd _))
theorem callFx {f : FuncId} {fn : Func} {args : Array Operand} {ats : Array TypeId} {vs : List Value} {R : Ending → World → Prop} (h : IsOp ops i d (.call { callee := .value (.func f), args, argTypes := ats }))
    (hf : Tryz.prog.funcs[f]? = some fn) (hname : (fn.name == "runtime.NumGoroutine") = false) (hb : fn.body.isNone = false) (hA : Fx N l A) (hargs : evls l args.toList = some vs) (hd : d < N) (hi : ∀ it ∈ k, okItem it) (hc : ∀ fr ∈ cs, okFrame fr) (hC : HCalls Tryz.prog f vs.toArray w R) (hR : ∀ e w', R e w' → ∃ v, e = .returned v)
    (hk : ∀ v w' A', R (.returned v) w' → Fx N ((d, v) :: l) A' → LeadsR Tryz.prog K (G (b.at A' (.inRegion ops rest :: k)) cs) w') : LeadsR Tryz.prog K (G (b.at A (.inRegion ops (i :: rest) :: k)) cs) w :=
  LeadsR.callF plain_prog h hf hname hb (by rw [← hA.evs hargs, ← Array.toList_map, Array.toArray_toList]) hi hc hC hR fun v w' hv => hk v w' _ hv (hA.put hd v)
theorem watchF {x y z : Operand} {text : ByteArray} {retain : Int} {eo : Option Addr} {L : List (Int × Int)} {cap : Nat} {X : BT Pay} {i0 i1 i2 i3 i4 i5 d0 d1 d2 d3 dA dB : Nat}
    (c0 : IsOp ops i0 d0 (.call { callee := .value (.func 21), args := #[x, y, z], argTypes := #[9, 3, 34] })) (c1 : IsOp ops i1 d1 (.move (.tmp d0))) (c2 : IsOp ops i2 d2 (.extract (.tmp d1) 0)) (c3 : IsOp ops i3 d3 (.extract (.tmp d1) 1)) (c4 : IsOp ops i4 dA (.assign (.tmp d2))) (c5 : IsOp ops i5 dB (.assign (.tmp d3)))
    (hz : d0 < N ∧ d1 < N ∧ d2 < N ∧ d3 < N ∧ dA < N ∧ dB < N) (hne : d1 ≠ d2 ∧ d2 ≠ d3 ∧ dA ≠ d3 ∧ dA ≠ dB) (hA : Fx N l A)
    (hx : evl l x = some (.string text)) (hy : evl l y = some (.int .i64 retain)) (hzz : evl l z = some (.slice eo L.length cap)) (hi : ∀ it ∈ k, okItem it) (hc : ∀ fr ∈ cs, okFrame fr)
    (hC : HCalls Tryz.prog 21 #[.string text, .int .i64 retain, .slice eo L.length cap] w (WatchedPost X L w)) (m : List (Nat × Value)) (hm : ∀ p ∈ m, look l p.1 = some p.2 ∧ p.1 ≠ d0 ∧ p.1 ≠ d1 ∧ p.1 ≠ d2 ∧ p.1 ≠ d3 ∧ p.1 ≠ dA ∧ p.1 ≠ dB)
    (hk : ∀ A' w', Fx N ((dB, .bool true) :: (dA, .string (verS X L (min L.length 25))) :: m) A' → SpareR (fun _ => False) w w' → LeadsR Tryz.prog K (G (b.at A' k) cs) w') :
    LeadsR Tryz.prog K (G (b.at A (.inRegion ops [i0, i1, i2, i3, i4, i5] :: k)) cs) w := by
  have hs := hA.size
  refine watch_tail c0 c1 c2 c3 c4 c5 (by omega) hne (hA.ev hx) (hA.ev hy) (hA.ev hzz) hi hc hC fun A' w' z d gA gB go hsp => hk A' w' ?_ hsp
  have hbase : Fx N m A' := by
    have h1 := hA.less (m := m) (fun p hp => (hm p hp).1)
    refine ⟨z.trans hs, d.trans hA.defers, fun j v hj => ?_⟩
    have hold := h1.get j v hj
    obtain ⟨p, hp, e⟩ := look_mem hj
    have hj1 : j = p.1 := by rw [e]
    subst hj1
    obtain ⟨_, q0, q1, q2, q3, qA, qB⟩ := hm p hp
    exact (go p.1 q0 q1 q2 q3 qA qB).trans hold
  refine ⟨hbase.size, hbase.defers, fun j v hj => ?_⟩
  unfold look at hj
  by_cases e : j = dB
  · subst e
    rw [if_pos rfl] at hj
    cases hj
    exact gB
  · rw [if_neg e] at hj
    unfold look at hj
    by_cases e2 : j = dA
    · subst e2
      rw [if_pos rfl] at hj
      cases hj
      exact gA
    · rw [if_neg e2] at hj
      exact hbase.get j v hj
end
end Go.Proofs.YtpbbmagjhkakgaaGreatDoor.Ev

namespace Go.Proofs.YtpbbmagjhkakgaaGreatDoor.Ev
open Go.RowKit Go.Deep
theorem dec_one (n : Nat) (h : n < 10) : (Lib.decDigits n).length ≤ 1 := dec_len 0 n (by omega)
theorem str_len {s : ByteArray} {l : List UInt8} (h : s.data.toList = l) : s.size = l.length := by
  rw [← h, Array.length_toList]
  rfl
set_option maxRecDepth 100000 in
set_option maxHeartbeats 32000000 in
theorem sent_step (R : List Int) (o : Option Addr) (cap d i : Nat) (w : World) (hlen : R.length ≤ 4611686018427387904) (hI : ∀ r ∈ R, I64 r) (hR : RawAt w o R) (hi : i + 4 * 2 ^ (d + 1) ≤ 9223372036854775000) (hd : d ≤ 2) (h2k : 2 ≤ pickZ (R.getD i 0) 12) (hil : i + 1 ≤ R.length)
    (ih : ∀ (i : Nat) (w : World), RawAt w o R → i + 4 * 2 ^ d ≤ 9223372036854775000 → Calls Tryz.prog 18 #[.slice o R.length cap, .int .i64 (i : Int), .int .i64 (d : Int)] w (SentPost R d i w)) :
    Calls Tryz.prog 18 #[.slice o R.length cap, .int .i64 (i : Int), .int .i64 ((d + 1 : Nat) : Int)] w (SentPost R (d + 1) i w) := by
  have hpw : 2 ^ (d + 1) = 2 * 2 ^ d := by rw [Nat.pow_succ]; omega
  have hp1 : 1 ≤ 2 ^ d := Nat.one_le_two_pow
  have hp8 : 2 ^ d ≤ 4 := Nat.pow_le_pow_right (n := 2) (by omega) hd
  have hn := number_any R o cap i w hR hlen (by omega)
  have hp := pick_any (R.getD i 0) 12 w (getD_I64 hI i) (by decide)
  have hkr := pickZ_range (R.getD i 0) 12 (by decide)
  obtain ⟨k, hk⟩ : ∃ k, pickZ (R.getD i 0) 12 = k := ⟨_, rfl⟩
  rw [hk] at hp hkr h2k
  obtain ⟨m1, b1, b2⟩ := sent_made R d (i + 1)
  have l1 := m1.len
  have ih1 := ih (i + 1) w hR (by omega)
  obtain ⟨n1, hn1⟩ : ∃ n, n = (sentF R d (i + 1)).next := ⟨_, rfl⟩
  rw [← hn1] at b1 b2
  have hN1 : ∀ w', Below w.heap.size w w' → Calls Tryz.prog 29 #[.slice o R.length cap, .int .i64 (n1 : Int)] w' fun e w2 => e = .returned (.int .i64 (R.getD n1 0)) ∧ w2 = w' := fun w' hb => number_any R o cap n1 w' (hR.below hb) hlen (by omega)
  have hN2 : ∀ w', Below w.heap.size w w' → Calls Tryz.prog 29 #[.slice o R.length cap, .int .i64 ((n1 : Int) + 1)] w' fun e w2 => e = .returned (.int .i64 (R.getD (n1 + 1) 0)) ∧ w2 = w' := fun w' hb => number_any R o cap (n1 + 1) w' (hR.below hb) hlen (by omega)
  have hP1 : ∀ w', Calls Tryz.prog 19 #[.int .i64 (R.getD n1 0), .int .i64 5] w' fun e w2 => e = .returned (.int .i64 (pickZ (R.getD n1 0) 5)) ∧ w2 = w' := fun w' => pick_any _ 5 w' (getD_I64 hI _) (by decide)
  have hP2 : ∀ w', Calls Tryz.prog 19 #[.int .i64 (R.getD (n1 + 1) 0), .int .i64 5] w' fun e w2 => e = .returned (.int .i64 (pickZ (R.getD (n1 + 1) 0) 5)) ∧ w2 = w' := fun w' => pick_any _ 5 w' (getD_I64 hI _) (by decide)
  obtain ⟨a, ha⟩ : ∃ a : Nat, pickZ (R.getD n1 0) 5 = a := ⟨(pickZ (R.getD n1 0) 5).toNat, by have := pickZ_range (R.getD n1 0) 5 (by decide); omega⟩
  obtain ⟨c, hc⟩ : ∃ c : Nat, pickZ (R.getD (n1 + 1) 0) 5 = c := ⟨(pickZ (R.getD (n1 + 1) 0) 5).toNat, by have := pickZ_range (R.getD (n1 + 1) 0) 5 (by decide); omega⟩
  have ha5 : a < 5 := by have := pickZ_range (R.getD n1 0) 5 (by decide); omega
  have hc5 : c < 5 := by have := pickZ_range (R.getD (n1 + 1) 0) 5 (by decide); omega
  have hD1 : ∀ w', Calls Tryz.prog 20 #[.int .i64 (a : Int)] w' fun e w2 => Below w'.heap.size w' w2 ∧ ∃ t, e = .returned (.string t) ∧ t.data.toList = Lib.decDigits a := fun w' => digits_any a w' (by omega)
  have hD2 : ∀ w', Calls Tryz.prog 20 #[.int .i64 ((a : Int) + (c : Int))] w' fun e w2 => Below w'.heap.size w' w2 ∧ ∃ t, e = .returned (.string t) ∧ t.data.toList = Lib.decDigits (a + c) := fun w' => digits_any (a + c) w' (by omega)
  have e1a : Lib.itoa (a : Int) = Lib.decDigits a := itoa_eq _ (by omega)
  have e1b : Lib.itoa ((a : Int) + (c : Int)) = Lib.decDigits (a + c) := itoa_eq _ (by omega)
  obtain ⟨m2, c1, c2⟩ := sent_made R d n1
  have l2 := m2.len
  obtain ⟨m3, g1, g2⟩ := sent_made R d (n1 + 2)
  have l3 := m3.len
  have hS2 : ∀ w', Below w.heap.size w w' → Calls Tryz.prog 18 #[.slice o R.length cap, .int .i64 (n1 : Int), .int .i64 (d : Int)] w' (SentPost R d n1 w') := fun w' hb => ih n1 w' (hR.below hb) (by omega)
  have hS3 : ∀ w', Below w.heap.size w w' → Calls Tryz.prog 18 #[.slice o R.length cap, .int .i64 ((n1 : Int) + 2), .int .i64 (d : Int)] w' (SentPost R d (n1 + 2) w') := fun w' hb => ih (n1 + 2) w' (hR.below hb) (by omega)
  have fNot : ∀ w' s, Below w.heap.size w w' → k < 4 → s.data.toList = notL (sentF R d (i + 1)).txt → SentPost R (d + 1) i w (.returned (.tuple #[.string s, .int .i64 (n1 : Int)])) w' := fun w' s hb h2 hs => SentPost.of (sentF_not hk ⟨h2k, hil⟩ h2) hs (by rw [hn1]) hb
  have fOp : ∀ w' s (cc : UInt8) (op : Int), Below w.heap.size w w' → ((k = 4 ∧ cc = 89 ∧ op = 89) ∨ ((k = 5 ∨ k = 6) ∧ cc = 79 ∧ op = 79) ∨ (k = 7 ∧ cc = 72 ∧ op = 72)) → s.data.toList = opL cc a ((a : Int) + c) (sentF R d (i + 1)).txt → SentPost R (d + 1) i w (.returned (.tuple #[.string s, .int .i64 ((n1 : Int) + 2)])) w' := fun w' s cc op hb h2 hs => SentPost.of (sentF_op hk ⟨h2k, hil⟩ h2) (by rw [← hn1, ha, hc]; exact hs) (by rw [← hn1]; simp) hb
  have fSince : ∀ w' s, Below w.heap.size w w' → 8 ≤ k ∧ k < 10 → s.data.toList = sinceL a ((a : Int) + c) (sentF R d (i + 1)).txt (sentF R d (n1 + 2)).txt → SentPost R (d + 1) i w (.returned (.tuple #[.string s, .int .i64 ((sentF R d (n1 + 2)).next : Int)])) w' := fun w' s hb h2 hs => SentPost.of (sentF_since hk ⟨h2k, hil⟩ h2) (by rw [← hn1, ha, hc]; exact hs) (by rw [← hn1]) hb
  have fTwo : ∀ w' s (cc : UInt8) (op : Int), Below w.heap.size w w' → ((k = 10 ∧ cc = 38 ∧ op = 8743) ∨ (k = 11 ∧ cc = 124 ∧ op = 8744)) → s.data.toList = twoL cc (sentF R d (i + 1)).txt (sentF R d n1).txt → SentPost R (d + 1) i w (.returned (.tuple #[.string s, .int .i64 ((sentF R d n1).next : Int)])) w' := fun w' s cc op hb h2 hs => SentPost.of (sentF_two hk ⟨h2k, hil⟩ h2) (by rw [← hn1]; exact hs) (by rw [← hn1]) hb
  have ih1' : Calls Tryz.prog 18 #[.slice o R.length cap, .int .i64 ((i : Int) + 1), .int .i64 (d : Int)] w fun e w' => (∃ s, e = .returned (.tuple #[.string s, .int .i64 (n1 : Int)]) ∧ s.data.toList = (sentF R d (i + 1)).txt) ∧ Below w.heap.size w w' := by
    rw [hn1]; exact ih1
  have hS2' : ∀ w', Below w.heap.size w w' → Calls Tryz.prog 18 #[.slice o R.length cap, .int .i64 (n1 : Int), .int .i64 (d : Int)] w' fun e w2 => (∃ s, e = .returned (.tuple #[.string s, .int .i64 ((sentF R d n1).next : Int)]) ∧ s.data.toList = (sentF R d n1).txt) ∧ Below w'.heap.size w' w2 := hS2
  have hS3' : ∀ w', Below w.heap.size w w' → Calls Tryz.prog 18 #[.slice o R.length cap, .int .i64 ((n1 : Int) + 2), .int .i64 (d : Int)] w' fun e w2 => (∃ s, e = .returned (.tuple #[.string s, .int .i64 ((sentF R d (n1 + 2)).next : Int)]) ∧ s.data.toList = (sentF R d (n1 + 2)).txt) ∧ Below w'.heap.size w' w2 := hS3
  rw [ha] at hP1
  rw [hc] at hP2
  replace fNot : Hid _ := fNot
  replace fOp : Hid _ := fOp
  replace fSince : Hid _ := fSince
  replace fTwo : Hid _ := fTwo
  replace hN1 : Hid _ := hN1
  replace hN2 : Hid _ := hN2
  replace hP1 : Hid _ := hP1
  replace hP2 : Hid _ := hP2
  replace hD1 : Hid _ := hD1
  replace hD2 : Hid _ := hD2
  replace hS2' : Hid _ := hS2'
  replace hS3' : Hid _ := hS3'
  replace e1a : Hid _ := e1a
  replace e1b : Hid _ := e1b
  clear ih ih1 hI hR hk ha hc hn1 m1 m2 m3 hS2 hS3 hpw
  generalize (sentF R d (n1 + 2)).txt = x3 at *
  generalize (sentF R d (n1 + 2)).next = y3 at *
  generalize (sentF R d n1).txt = x2 at *
  generalize (sentF R d n1).next = y2 at *
  generalize (sentF R d (i + 1)).txt = x1 at *
  generalize R.getD n1 0 = r1 at *
  generalize R.getD (n1 + 1) 0 = r2 at *
  generalize R.getD i 0 = r at *
  generalize hQ : SentPost R (d + 1) i w = Q at *
  clear hQ
  generalize R.length = n at *
  generalize 2 ^ d = pd at *
  have hx1 : decide ((d : Int) + 1 = 0) = false := by simp; omega
  have hx2 : decide (k < 2) = false := by simp; omega
  have hx3 : decide ((n : Int) < (i : Int) + 1) = false := by simp; omega
  go_enter Tryz.func18, Tryz.ntmps18
  go_wp2_with fail
  refine hn.mono ?_
  rintro e w1 ⟨rfl, hw1⟩
  have hw1 := hw1.symm
  subst hw1
  go_wp2_with fail
  refine hp.mono ?_
  rintro e w1 ⟨rfl, hw1⟩
  have hw1 := hw1.symm
  subst hw1
  go_wp2_with fail
  refine ih1'.mono ?_
  rintro e w1 ⟨⟨s1, rfl, hs1⟩, hb1⟩
  have z1 := str_len hs1
  go_wp2_with fail
  refine (hN1.out w1 hb1).mono ?_
  rintro e w2 ⟨rfl, hw2⟩
  have hw2 := hw2.symm
  subst hw2
  go_wp2_with fail
  refine (hP1.out w1).mono ?_
  rintro e w2 ⟨rfl, hw2⟩
  have hw2 := hw2.symm
  subst hw2
  go_wp2_with fail
  refine (hN2.out w1 hb1).mono ?_
  rintro e w2 ⟨rfl, hw2⟩
  have hw2 := hw2.symm
  subst hw2
  go_wp2_with fail
  refine (hP2.out w1).mono ?_
  rintro e w2 ⟨rfl, hw2⟩
  have hw2 := hw2.symm
  subst hw2
  go_wp2_with fail
  refine (hD1.out w1).mono ?_
  rintro e w2 ⟨hb2, ta, rfl, hta⟩
  have za := str_len hta
  have za1 := dec_one a (by omega)
  go_wp2_with fail
  refine (hD2.out w2).mono ?_
  rintro e w3 ⟨hb3, tb, rfl, htb⟩
  have zb := str_len htb
  have zb1 := dec_one (a + c) (by omega)
  have hb := (hb1.tr hb2).tr hb3
  have zz : ∀ x : UInt8, (⟨#[x]⟩ : ByteArray).size = 1 := fun _ => rfl
  have hk12 : k = 2 ∨ k = 3 ∨ k = 4 ∨ k = 5 ∨ k = 6 ∨ k = 7 ∨ k = 8 ∨ k = 9 ∨ k = 10 ∨ k = 11 := by omega
  clear hx1 hx2 hx3 hkr h2k hn hp
  rcases hk12 with rfl | rfl | rfl | rfl | rfl | rfl | rfl | rfl | rfl | rfl
  · go_wp2_with fail
    exact fNot.out w3 _ hb (by decide) (by simp only [ByteArray.data_append, Array.toList_append, hs1, notL])
  · go_wp2_with fail
    exact fNot.out w3 _ hb (by decide) (by simp only [ByteArray.data_append, Array.toList_append, hs1, notL])
  · go_wp2_with fail
    exact fOp.out w3 _ 89 89 hb (by simp) (by simp only [ByteArray.data_append, Array.toList_append, hs1, hta, htb, opL, winW, e1a.out, e1b.out]; simp)
  · go_wp2_with fail
    exact fOp.out w3 _ 79 79 hb (by simp) (by simp only [ByteArray.data_append, Array.toList_append, hs1, hta, htb, opL, winW, e1a.out, e1b.out]; simp)
  · go_wp2_with fail
    exact fOp.out w3 _ 79 79 hb (by simp) (by simp only [ByteArray.data_append, Array.toList_append, hs1, hta, htb, opL, winW, e1a.out, e1b.out]; simp)
  · go_wp2_with fail
    exact fOp.out w3 _ 72 72 hb (by simp) (by simp only [ByteArray.data_append, Array.toList_append, hs1, hta, htb, opL, winW, e1a.out, e1b.out]; simp)
  · go_wp2_with fail
    refine (hS3'.out w3 hb).mono ?_
    rintro e w4 ⟨⟨s2, rfl, hs2⟩, hb4⟩
    have z2 := str_len hs2
    go_wp2_with fail
    exact fSince.out w4 _ (hb.tr hb4) (by decide) (by simp only [ByteArray.data_append, Array.toList_append, hs1, hs2, hta, htb, sinceL, winW, e1a.out, e1b.out]; simp)
  · go_wp2_with fail
    refine (hS3'.out w3 hb).mono ?_
    rintro e w4 ⟨⟨s2, rfl, hs2⟩, hb4⟩
    have z2 := str_len hs2
    go_wp2_with fail
    exact fSince.out w4 _ (hb.tr hb4) (by decide) (by simp only [ByteArray.data_append, Array.toList_append, hs1, hs2, hta, htb, sinceL, winW, e1a.out, e1b.out]; simp)
  · go_wp2_with fail
    refine (hS2'.out w3 hb).mono ?_
    rintro e w4 ⟨⟨s2, rfl, hs2⟩, hb4⟩
    have z2 := str_len hs2
    go_wp2_with fail
    exact fTwo.out w4 _ 38 8743 (hb.tr hb4) (by simp) (by simp only [ByteArray.data_append, Array.toList_append, hs1, hs2, twoL]; simp)
  · go_wp2_with fail
    refine (hS2'.out w3 hb).mono ?_
    rintro e w4 ⟨⟨s2, rfl, hs2⟩, hb4⟩
    have z2 := str_len hs2
    go_wp2_with fail
    exact fTwo.out w4 _ 124 8744 (hb.tr hb4) (by simp) (by simp only [ByteArray.data_append, Array.toList_append, hs1, hs2, twoL]; simp)
theorem sent_any (R : List Int) (o : Option Addr) (cap : Nat) (hlen : R.length ≤ 4611686018427387904) (hI : ∀ r ∈ R, I64 r) : ∀ (d : Nat), d ≤ 3 → ∀ (i : Nat) (w : World), RawAt w o R → i + 4 * 2 ^ d ≤ 9223372036854775000 → Calls Tryz.prog 18 #[.slice o R.length cap, .int .i64 (i : Int), .int .i64 (d : Int)] w (SentPost R d i w)
  | 0, hd, i, w, hR, hi => sent_stop R o cap 0 i w hlen hI hR (by omega) hd (.inl rfl)
  | d + 1, hd, i, w, hR, hi => by
    by_cases h : pickZ (R.getD i 0) 12 < 2 ∨ R.length < i + 1
    · exact sent_stop R o cap (d + 1) i w hlen hI hR (by omega) hd (.inr h)
    · exact sent_step R o cap d i w hlen hI hR hi (by omega) (by omega) (by omega) fun i w hR hi => sent_any R o cap hlen hI d (by omega) i w hR hi
end Go.Proofs.YtpbbmagjhkakgaaGreatDoor.Ev
