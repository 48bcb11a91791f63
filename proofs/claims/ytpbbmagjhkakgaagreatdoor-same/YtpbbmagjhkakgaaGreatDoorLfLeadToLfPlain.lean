/-
  The walk beside goroutines that are only leaving, rule by rule, to whatever end: a piece of code, an operation of the lone machine's, the entry of a call; every order of a drawn region, counted out; for every program.
-/
/-
  The model's functions without a body that this program reaches are made as 'Fit' says.
-/
/-
  The program's functions without a body are plain.
-/
import Derived.Test.YtpbbmagjhkakgaaGreatDoorLfSendsToLfWalk
import Derived.Test.YtpbbmagjhkakgaaGreatDoorLfPhaseToLfFork
import Derived.Test.YtpbbmagjhkakgaaGreatDoorLfExecToLfLoc
import Derived.Test.YtpbbmagjhkakgaaGreatDoorProg
import Derived.KernelRfl
namespace Go.Proofs.YtpbbmagjhkakgaaGreatDoor.Lf
open Go Go.Conc
variable {P : Program} {K : Goroutine → World → Prop} {b : Frame} {k : List Item} {cs : List Frame} {a : Act} {w : World}
theorem LeadsR.seq (hP : Plain P) {x y : Code} (hi : ∀ it ∈ k, okItem it) (hc : ∀ fr ∈ cs, okFrame fr) (h : LeadsR P K (G (b.at a (.code x :: .code y :: k)) cs) w) : LeadsR P K (G (b.at a (.code (.seq x y) :: k)) cs) w :=
  LeadsR.move hP (fine_at hi hc) (fun _ => .one step_seq) fun _ => h
theorem LeadsR.code {c : Code} {Q : Exit → Act → World → Prop} (h : HWp P c Q a w) (hb : Behind Q k cs) (hk : ∀ e a' w' g, Q e a' w' → At b k cs g e a' → LeadsR P K g w') : LeadsR P K (G (b.at a (.code c :: k)) cs) w :=
  (h b k cs hb).trans fun g w' ⟨e, a', h1, h2⟩ => hk e a' w' g h1 h2
theorem LeadsR.piece (hP : Plain P) {c : Code} (J : Act → World → Prop) (hJ : ∀ a w τ d, J a w → J a (re w τ d)) (hi : ∀ it ∈ k, okItem it) (hc : ∀ fr ∈ cs, okFrame fr) (h : ∀ τ d, c.wp P (fun e a' w' => e = .normal ∧ J a' w') a (re w τ d)) (hk : ∀ a' w', J a' w' → LeadsR P K (G (b.at a' k) cs) w') : LeadsR P K (G (b.at a (.code c :: k)) cs) w :=
  LeadsR.code (Q := fun e a' w' => e = .normal ∧ J a' w') (HWp.of_wp hP (fun e a w τ d x => ⟨x.1, hJ _ _ _ _ x.2⟩) (fun a w x => by cases x.1) h) ⟨hi, hc, fun _ _ _ x => (by cases x.1), fun _ _ _ x => (by cases x.1)⟩
    fun e a' w' g x y => by
      obtain ⟨rfl, x⟩ := x
      obtain rfl : g = _ := y
      exact hk a' w' x
theorem LeadsR.val (hP : Plain P) {ops : Array Oper} {i : Nat} {rest : List Nat} {o : Oper} {v : Value} {w' : World} (ho : ops[i]? = some o) (hw : Region.wanted o (yielded ops a.tmps) = true)
    (hr : ∀ τ d, (execOp a.eval o).run P (re w τ d) = .ok (.value v) (re w' τ d)) (hi : ∀ it ∈ k, okItem it) (hc : ∀ fr ∈ cs, okFrame fr)
    (h : LeadsR P K (G (b.at (a.put o.dst v) (.inRegion ops rest :: k)) cs) w') : LeadsR P K (G (b.at a (.inRegion ops (i :: rest) :: k)) cs) w := by
  have hfin : (b.at a (.inRegion ops (i :: rest) :: k)).finish v = b.at (a.put o.dst v) (.inRegion ops rest :: k) := by rw [Frame.finish_at, ho]; rfl
  have h1 : LeadsR P (fun g x => g = G (b.at (a.put o.dst v) (.inRegion ops rest :: k)) cs ∧ ∃ τ d, x = re w' τ d) (G (b.at a (.inRegion ops (i :: rest) :: k)) cs) w := by
    refine .of_steps hP ?_ (fine_ops hi hc) fun τ d => ⟨_, re w' τ d, .one (step_lone_go (fr' := b.at (a.put o.dst v) (.inRegion ops rest :: k)) (cs' := cs) ?_), G_not_lost _ _, fun _ => ⟨rfl, τ, d, rfl⟩⟩
    · rintro g x τ d ⟨rfl, τ', d', rfl⟩
      exact ⟨rfl, τ, d, rfl⟩
    · rw [stepG_op ho hw, ← hfin]; simp [stepG.apply, hr, Frame.at]
  refine h1.trans ?_
  rintro g x ⟨rfl, τ, d, rfl⟩
  exact h.other τ d
theorem LeadsR.non (hP : Plain P) {ops : Array Oper} {i : Nat} {rest : List Nat} {o : Oper} {w' : World} (ho : ops[i]? = some o) (hw : Region.wanted o (yielded ops a.tmps) = true)
    (hr : ∀ τ d, (execOp a.eval o).run P (re w τ d) = .ok .skip (re w' τ d)) (hi : ∀ it ∈ k, okItem it) (hc : ∀ fr ∈ cs, okFrame fr)
    (h : LeadsR P K (G (b.at (a.put o.dst undef) (.inRegion ops rest :: k)) cs) w') : LeadsR P K (G (b.at a (.inRegion ops (i :: rest) :: k)) cs) w := by
  have hfin : (b.at a (.inRegion ops (i :: rest) :: k)).finish undef = b.at (a.put o.dst undef) (.inRegion ops rest :: k) := by rw [Frame.finish_at, ho]; rfl
  have h1 : LeadsR P (fun g x => g = G (b.at (a.put o.dst undef) (.inRegion ops rest :: k)) cs ∧ ∃ τ d, x = re w' τ d) (G (b.at a (.inRegion ops (i :: rest) :: k)) cs) w := by
    refine .of_steps hP ?_ (fine_ops hi hc) fun τ d => ⟨_, re w' τ d, .one (step_lone_go (fr' := b.at (a.put o.dst undef) (.inRegion ops rest :: k)) (cs' := cs) ?_), G_not_lost _ _, fun _ => ⟨rfl, τ, d, rfl⟩⟩
    · rintro g x τ d ⟨rfl, τ', d', rfl⟩
      exact ⟨rfl, τ, d, rfl⟩
    · rw [stepG_op ho hw, ← hfin]; simp [stepG.apply, hr, Frame.at]
  refine h1.trans ?_
  rintro g x ⟨rfl, τ, d, rfl⟩
  exact h.other τ d
theorem LeadsR.region (hP : Plain P) {id : Nat} {ops : Array Oper} (hi : ∀ it ∈ k, okItem it) (hc : ∀ fr ∈ cs, okFrame fr) (h : LeadsR P K (G (b.at a (.inRegion ops (List.range ops.size) :: k)) cs) w) : LeadsR P K (G (b.at a (.code (.region id ops false) :: k)) cs) w :=
  LeadsR.move hP (fine_at hi hc) (fun _ => .one step_region) fun _ => h
theorem LeadsR.nil (hP : Plain P) {ops : Array Oper} (hi : ∀ it ∈ k, okItem it) (hc : ∀ fr ∈ cs, okFrame fr) (h : LeadsR P K (G (b.at a k) cs) w) : LeadsR P K (G (b.at a (.inRegion ops [] :: k)) cs) w :=
  LeadsR.move hP (fine_ops hi hc) (fun _ => .one step_region_end) fun _ => h
theorem LeadsR.draw (hP : Plain P) {id : Nat} {ops : Array Oper} (hi : ∀ it ∈ k, okItem it) (hc : ∀ fr ∈ cs, okFrame fr) (h : ∀ t, LeadsR P K (G (b.at a (.inRegion ops (Region.schedule (P.follows .mixedOrders) ops t) :: k)) cs) w) : LeadsR P K (G (b.at a (.code (.region id ops true) :: k)) cs) w := by
  have h1 : LeadsR P (fun g w' => (∃ t, g = G (b.at a (.inRegion ops (Region.schedule (P.follows .mixedOrders) ops t) :: k)) cs) ∧ ∃ τ d, w' = re w τ d) (G (b.at a (.code (.region id ops true) :: k)) cs) w := by
    refine .of_steps hP ?_ (fine_at hi hc) fun τ d => ?_
    · rintro g w' τ d ⟨h1, τ', d', rfl⟩
      exact ⟨h1, τ, d, rfl⟩
    · exact ⟨_, re w τ (d + 1), .one step_region_draw, G_not_lost _ _, fun _ => ⟨⟨_, rfl⟩, τ, d + 1, rfl⟩⟩
  refine h1.trans ?_
  rintro g w' ⟨⟨t, rfl⟩, τ, d, rfl⟩
  exact (h t).other τ d
theorem LeadsR.enter (hP : Plain P) {ops : Array Oper} {i : Nat} {rest : List Nat} {o : Oper} {f : FuncId} {args : Array Value} (ho : ops[i]? = some o) (hw : Region.wanted o (yielded ops a.tmps) = true)
    (hr : ∀ τ d, (execOp a.eval o).run P (re w τ d) = .ok (.enter f args) (re w τ d)) (hi : ∀ it ∈ k, okItem it) (hc : ∀ fr ∈ cs, okFrame fr)
    (h : LeadsR P K (G (Frame.enter P f args .normal) (b.at a (.inRegion ops (i :: rest) :: k) :: cs)) w) : LeadsR P K (G (b.at a (.inRegion ops (i :: rest) :: k)) cs) w := by
  refine LeadsR.step hP (fine_ops hi hc) (fun τ d => .one (step_lone_go (fr' := Frame.enter P f args .normal) (cs' := b.at a (.inRegion ops (i :: rest) :: k) :: cs) ?_)) fun _ => h
  rw [stepG_op ho hw]; simp [stepG.apply, hr, Frame.at]
theorem LeadsR.call (hP : Plain P) {ops : Array Oper} {i : Nat} {rest : List Nat} {o : Oper} {f : FuncId} {args : Array Value} {R : Ending → World → Prop} (ho : ops[i]? = some o) (hw : Region.wanted o (yielded ops a.tmps) = true)
    (hr : ∀ τ d, (execOp a.eval o).run P (re w τ d) = .ok (.enter f args) (re w τ d)) (hi : ∀ it ∈ k, okItem it) (hc : ∀ fr ∈ cs, okFrame fr) (h : HCalls P f args w R) (hR : ∀ e w', R e w' → ∃ v, e = .returned v)
    (hk : ∀ v w', R (.returned v) w' → LeadsR P K (G (b.at (a.put o.dst v) (.inRegion ops rest :: k)) cs) w') : LeadsR P K (G (b.at a (.inRegion ops (i :: rest) :: k)) cs) w := by
  have hfin : ∀ v, (b.at a (.inRegion ops (i :: rest) :: k)).finish v = b.at (a.put o.dst v) (.inRegion ops rest :: k) := by
    intro v; rw [Frame.finish_at, ho]; rfl
  have hfr : okFrame (b.at a (.inRegion ops (i :: rest) :: k)) := okFrame_at (okItems_cons trivial hi)
  refine LeadsR.enter hP ho hw hr hi hc ((h _ (okFrames_cons hfr hc)).trans ?_)
  rintro g w' ⟨e, fr, rfl, h2, h3, _, h5⟩
  obtain ⟨v, rfl⟩ := hR e w' h3
  refine LeadsR.step hP (fine_G h2 (okFrames_cons hfr hc)) (fr' := b.at (a.put o.dst v) (.inRegion ops rest :: k)) (cs' := cs) (fun τ d => .one ?_) fun _ => hk v w' h3
  rw [← hfin]; exact step_leave_returned (leaving_re h5 τ d)
def allOrders (md : Region.Mode) (ops : Array Oper) : Nat → Array Bool → List (List Nat)
  | 0, _ => [[]]
  | fuel + 1, listed => if Region.ready md ops listed = [] then [[]] else (Region.ready md ops listed).flatMap fun i => (allOrders md ops fuel (listed.setIfInBounds i true)).map (i :: ·)
theorem linearise_go_acc (md : Region.Mode) (ops : Array Oper) : ∀ (fuel t : Nat) (listed : Array Bool) (acc : List Nat), Region.linearise.go md ops fuel t listed acc = acc.reverse ++ Region.linearise.go md ops fuel t listed []
  | 0, _, _, acc => by simp [Region.linearise.go]
  | fuel + 1, t, listed, acc => by
    simp only [Region.linearise.go]
    split
    · rename_i i hi
      rw [linearise_go_acc md ops fuel _ _ (i :: acc), linearise_go_acc md ops fuel _ _ [i]]
      simp
    · simp
theorem linearise_mem (md : Region.Mode) (ops : Array Oper) : ∀ (fuel t : Nat) (listed : Array Bool), Region.linearise.go md ops fuel t listed [] ∈ allOrders md ops fuel listed
  | 0, _, _ => by simp [Region.linearise.go, allOrders]
  | fuel + 1, t, listed => by
    have hgo : Region.linearise.go md ops (fuel + 1) t listed [] = (match (Region.ready md ops listed)[t % (Region.ready md ops listed).length]? with
      | some i => Region.linearise.go md ops fuel (t / (Region.ready md ops listed).length) (listed.setIfInBounds i true) [i]
      | none => [].reverse) := rfl
    rw [hgo]
    cases hi : (Region.ready md ops listed)[t % (Region.ready md ops listed).length]? with
    | none =>
      have hnil : Region.ready md ops listed = [] := by
        rcases Nat.eq_zero_or_pos (Region.ready md ops listed).length with h | h
        · exact List.length_eq_zero_iff.1 h
        · have := List.getElem?_eq_none_iff.1 hi
          have := Nat.mod_lt t h
          omega
      simp [allOrders, hnil]
    | some i =>
      have hm : i ∈ Region.ready md ops listed := List.mem_of_getElem? hi
      have hne : Region.ready md ops listed ≠ [] := fun h => by rw [h] at hm; cases hm
      simp only [allOrders, if_neg hne]
      rw [linearise_go_acc]
      refine List.mem_flatMap.2 ⟨i, hm, List.mem_map.2 ⟨_, linearise_mem md ops fuel (t / (Region.ready md ops listed).length) _, by simp⟩⟩
theorem schedule_mem (hm : P.follows .mixedOrders = true) (ops : Array Oper) (t : Nat) : Region.schedule (P.follows .mixedOrders) ops t ∈ allOrders .any ops ops.size (Array.replicate ops.size false) := by
  simp only [Region.schedule, hm, Bool.true_or, if_true]
  exact linearise_mem .any ops _ t _
theorem HCalls.of_lead {f : FuncId} {fn : Func} {c : Code} {args : Array Value} {R : Ending → World → Prop} (hf : P.funcs[f]? = some fn) (hb : fn.body = some c)
    (h : ∀ cs, (∀ fr ∈ cs, okFrame fr) → LeadsR P (fun g w' => ∃ e fr, g = G fr cs ∧ okFrame fr ∧ R e w' ∧ fr.fn = f ∧ fr.leaving P w' e) (G ((base f).at { tmps := args ++ Array.replicate (fn.ntmps - args.size) undef, defers := [] } [.code c]) cs) w) : HCalls P f args w R := by
  intro cs hcs
  rw [enter_at args hf hb]
  exact h cs hcs
theorem LeadsR.ret (hP : Plain P) {f : FuncId} {fn : Func} {R : Ending → World → Prop} {v : Value} (hi : ∀ it ∈ k, okItem it) (hc : ∀ fr ∈ cs, okFrame fr) (hf : P.funcs[f]? = some fn) (hd : a.defers = []) (hr : ∀ τ d, (results fn a.tmps).run P (re w τ d) = .ok v (re w τ d)) (hR : ∀ τ d, R (.returned v) (re w τ d)) :
    LeadsR P (fun g w' => ∃ e fr, g = G fr cs ∧ okFrame fr ∧ R e w' ∧ fr.fn = f ∧ fr.leaving P w' e) (G ((base f).at a (.code .ret :: k)) cs) w :=
  LeadsR.code (Q := fun e a' w' => e = .ret ∧ a' = a ∧ ∃ τ d, w' = re w τ d) (HWp.ret hP fun τ d => ⟨rfl, rfl, τ, d, rfl⟩) ⟨hi, hc, fun _ _ _ x => (by cases x.1), fun _ _ _ x => (by cases x.1)⟩ fun e a' w' g x y => by
    obtain ⟨rfl, rfl, τ, d, rfl⟩ := x
    obtain ⟨todo, h3, rfl⟩ := y
    exact .here fun τ' d' => ⟨.returned v, _, rfl, h3, hR τ' d', rfl, rfl, hd, rfl, fn, hf, hr τ' d'⟩
end Go.Proofs.YtpbbmagjhkakgaaGreatDoor.Lf

namespace Go.Proofs.YtpbbmagjhkakgaaGreatDoor.Lf
open Go Go.Extern
variable {P : Program}
theorem fit_Extern_Rtype_ofHandle (P : Program) (x0) : Fit P (fun _ => True) 0 (@Go.Extern.Rtype.ofHandle x0) := by
  unfold Go.Extern.Rtype.ofHandle
  repeat' (first | (with_reducible first | exact fit_pure P _ | apply fit_program | apply fit_typeInfo | apply fit_typeStr | apply fit_asString | apply fit_asAddr | apply fit_asInt | apply fit_asAgg | apply fit_load | apply fit_newVar | apply fit_elemOf | apply fit_cutType | apply fit_goPanic | apply fit_panicString | apply fit_loadVar | apply fit_storeVar | apply fit_stuck | apply fit_unsupported | apply fit_panics | apply fitB | apply fitM | apply fitIte) | (intro _) | split | (exact trivial) | (dsimp only))
theorem fit_Extern_ReflectliteValue_partsAny (P : Program) (x) : Fit P (fun _ => True) 0 (ReflectliteValue.partsAny x) := by
  cases x with
  | agg cs =>
    rcases cs with ⟨_ | ⟨a, _ | ⟨b, _ | ⟨c, _ | ⟨d, l⟩⟩⟩⟩⟩
    · exact fit_stuck P _
    · exact fit_stuck P _
    · exact fit_stuck P _
    · cases c with
      | int k n =>
        cases k with
        | u64 =>
          rcases n with (_ | n) | n
          · exact fit_pure P _
          · cases b with
            | pointer r =>
              cases r with
              | none => exact fit_stuck P _
              | some r => exact fitB (s := Rtype.ofHandle a) (fit_Extern_Rtype_ofHandle P _) fun _ => fit_pure P _
            | _ => exact fit_stuck P _
          · cases b with
            | pointer r =>
              cases r with
              | none => exact fit_stuck P _
              | some r => exact fitB (s := Rtype.ofHandle a) (fit_Extern_Rtype_ofHandle P _) fun _ => fit_pure P _
            | _ => exact fit_stuck P _
        | _ => cases b with
          | pointer r => cases r <;> exact fit_stuck P _
          | _ => exact fit_stuck P _
      | _ => cases b with
          | pointer r => cases r <;> exact fit_stuck P _
          | _ => exact fit_stuck P _
    · exact fit_stuck P _
  | _ => exact fit_stuck P _
theorem fit_Extern_ReflectliteValue_errorText (P : Program) (x) : Fit P (fun _ => True) 0 (ReflectliteValue.errorText x) := by
  rcases x with ⟨_ | ⟨a, _ | ⟨b, l⟩⟩⟩
  · exact fit_stuck P _
  · cases a with
    | pointer r =>
      cases r with
      | none => exact (fit_panics (.nilDeref) : Fit P (fun _ => True) 0 (runtimePanic .nilDeref : Sem Value))
      | some r => exact fitB (s := load r) (fit_load P _ _) fun _ => fitB (fit_asString P _) fun _ => fitB (fit_load P _ _) fun _ => fitB (fit_asInt P _) fun _ => fit_pure P _
    | _ => exact fit_stuck P _
  · exact fit_stuck P _
theorem fit_Extern_Rtype_under (P : Program) (x0) : Fit P (fun _ => True) 0 (@Go.Extern.Rtype.under x0) := by
  unfold Go.Extern.Rtype.under
  repeat' (first | (with_reducible first | exact fit_pure P _ | apply fit_program | apply fit_typeInfo | apply fit_typeStr | apply fit_asString | apply fit_asAddr | apply fit_asInt | apply fit_asAgg | apply fit_load | apply fit_newVar | apply fit_elemOf | apply fit_cutType | apply fit_goPanic | apply fit_panicString | apply fit_loadVar | apply fit_storeVar | apply fit_stuck | apply fit_unsupported | apply fit_panics | apply fitB | apply fitM | apply fitIte) | (intro _) | split | (exact trivial) | (dsimp only))
theorem fit_Extern_Rtype_elemq (P : Program) (x0) : Fit P (fun _ => True) 0 (@Go.Extern.Rtype.elem? x0) := by
  unfold Go.Extern.Rtype.elem?
  repeat' (first | (with_reducible first | exact fit_pure P _ | apply fit_Extern_Rtype_under | apply fit_program | apply fit_typeInfo | apply fit_typeStr | apply fit_asString | apply fit_asAddr | apply fit_asInt | apply fit_asAgg | apply fit_load | apply fit_newVar | apply fit_elemOf | apply fit_cutType | apply fit_goPanic | apply fit_panicString | apply fit_loadVar | apply fit_storeVar | apply fit_stuck | apply fit_unsupported | apply fit_panics | apply fitB | apply fitM | apply fitIte) | (intro _) | split | (exact trivial) | (dsimp only))
theorem fit_Extern_ReflectliteValue_valueError (P : Program) {x0} (x1) (x2) : Fit P (fun _ => True) 0 (@Go.Extern.ReflectliteValue.valueError x0 x1 x2) := by
  unfold Go.Extern.ReflectliteValue.valueError
  repeat' (first | (with_reducible first | exact fit_pure P _ | apply fit_program | apply fit_typeInfo | apply fit_typeStr | apply fit_asString | apply fit_asAddr | apply fit_asInt | apply fit_asAgg | apply fit_load | apply fit_newVar | apply fit_elemOf | apply fit_cutType | apply fit_goPanic | apply fit_panicString | apply fit_loadVar | apply fit_storeVar | apply fit_stuck | apply fit_unsupported | apply fit_panics | apply fitB | apply fitM | apply fitIte) | (intro _) | split | (exact trivial) | (dsimp only))
theorem fit_Extern_ReflectliteValue_isNil (P : Program) (x0) (x1) (x2) (x3) : Fit P (fun _ => True) 0 (@Go.Extern.ReflectliteValue.isNil x0 x1 x2 x3) := by
  unfold Go.Extern.ReflectliteValue.isNil
  repeat' (first | (with_reducible first | exact fit_pure P _ | apply fit_Extern_ReflectliteValue_valueError | apply fit_program | apply fit_typeInfo | apply fit_typeStr | apply fit_asString | apply fit_asAddr | apply fit_asInt | apply fit_asAgg | apply fit_load | apply fit_newVar | apply fit_elemOf | apply fit_cutType | apply fit_goPanic | apply fit_panicString | apply fit_loadVar | apply fit_storeVar | apply fit_stuck | apply fit_unsupported | apply fit_panics | apply fitB | apply fitM | apply fitIte) | (intro _) | split | (exact trivial) | (dsimp only))
theorem fit_Extern_Rtype_noPack (P : Program) (x0) (x1) : Fit P (fun _ => True) 0 (@Go.Extern.Rtype.noPack x0 x1) := by
  unfold Go.Extern.Rtype.noPack
  repeat' (first | (with_reducible first | exact fit_pure P _ | apply fit_program | apply fit_typeInfo | apply fit_typeStr | apply fit_asString | apply fit_asAddr | apply fit_asInt | apply fit_asAgg | apply fit_load | apply fit_newVar | apply fit_elemOf | apply fit_cutType | apply fit_goPanic | apply fit_panicString | apply fit_loadVar | apply fit_storeVar | apply fit_stuck | apply fit_unsupported | apply fit_panics | apply fitB | apply fitM | apply fitIte) | (intro _) | split | (exact trivial) | (dsimp only))
theorem fit_Extern_ReflectliteValue_parts (P : Program) (x0) : Fit P (fun _ => True) 0 (@Go.Extern.ReflectliteValue.parts x0) := by
  unfold Go.Extern.ReflectliteValue.parts
  repeat' (first | (with_reducible first | exact fit_pure P _ | apply fit_Extern_ReflectliteValue_partsAny | apply fit_Extern_Rtype_noPack | apply fit_program | apply fit_typeInfo | apply fit_typeStr | apply fit_asString | apply fit_asAddr | apply fit_asInt | apply fit_asAgg | apply fit_load | apply fit_newVar | apply fit_elemOf | apply fit_cutType | apply fit_goPanic | apply fit_panicString | apply fit_loadVar | apply fit_storeVar | apply fit_stuck | apply fit_unsupported | apply fit_panics | apply fitB | apply fitM | apply fitIte) | (intro _) | split | (exact trivial) | (dsimp only))
theorem fit_Extern_RuntimeError_described (P : Program) (x0) : Fit P (fun _ => True) 0 (@Go.Extern.RuntimeError.described x0) := by
  unfold Go.Extern.RuntimeError.described
  repeat' (first | (with_reducible first | exact fit_pure P _ | apply fit_program | apply fit_typeInfo | apply fit_typeStr | apply fit_asString | apply fit_asAddr | apply fit_asInt | apply fit_asAgg | apply fit_load | apply fit_newVar | apply fit_elemOf | apply fit_cutType | apply fit_goPanic | apply fit_panicString | apply fit_loadVar | apply fit_storeVar | apply fit_stuck | apply fit_unsupported | apply fit_panics | apply fitB | apply fitM | apply fitIte) | (intro _) | split | (exact trivial) | (dsimp only))
theorem fit_Extern_Rtype_handle (P : Program) (x0) : Fit P (fun _ => True) 0 (@Go.Extern.Rtype.handle x0) := by
  unfold Go.Extern.Rtype.handle
  repeat' (first | (with_reducible first | exact fit_pure P _ | apply fit_program | apply fit_typeInfo | apply fit_typeStr | apply fit_asString | apply fit_asAddr | apply fit_asInt | apply fit_asAgg | apply fit_load | apply fit_newVar | apply fit_elemOf | apply fit_cutType | apply fit_goPanic | apply fit_panicString | apply fit_loadVar | apply fit_storeVar | apply fit_stuck | apply fit_unsupported | apply fit_panics | apply fitB | apply fitM | apply fitIte) | (intro _) | split | (exact trivial) | (dsimp only))
theorem fit_Extern_Rtype_kind (P : Program) (x0) : Fit P (fun _ => True) 0 (@Go.Extern.Rtype.kind x0) := by
  unfold Go.Extern.Rtype.kind
  repeat' (first | (with_reducible first | exact fit_pure P _ | apply fit_Extern_Rtype_under | apply fit_program | apply fit_typeInfo | apply fit_typeStr | apply fit_asString | apply fit_asAddr | apply fit_asInt | apply fit_asAgg | apply fit_load | apply fit_newVar | apply fit_elemOf | apply fit_cutType | apply fit_goPanic | apply fit_panicString | apply fit_loadVar | apply fit_storeVar | apply fit_stuck | apply fit_unsupported | apply fit_panics | apply fitB | apply fitM | apply fitIte) | (intro _) | split | (exact trivial) | (dsimp only))
theorem fit_Extern_ReflectliteValue_mk (P : Program) (x0) (x1) (x2) : Fit P (fun _ => True) 0 (@Go.Extern.ReflectliteValue.mk x0 x1 x2) := by
  unfold Go.Extern.ReflectliteValue.mk
  repeat' (first | (with_reducible first | exact fit_pure P _ | apply fit_Extern_Rtype_handle | apply fit_Extern_Rtype_kind | apply fit_program | apply fit_typeInfo | apply fit_typeStr | apply fit_asString | apply fit_asAddr | apply fit_asInt | apply fit_asAgg | apply fit_load | apply fit_newVar | apply fit_elemOf | apply fit_cutType | apply fit_goPanic | apply fit_panicString | apply fit_loadVar | apply fit_storeVar | apply fit_stuck | apply fit_unsupported | apply fit_panics | apply fitB | apply fitM | apply fitIte) | (intro _) | split | (exact trivial) | (dsimp only))
theorem fit_Extern_ReflectliteType_ofRtype (P : Program) (x) : Fit P (fun _ => True) 0 (ReflectliteType.ofRtype x) := by
  cases x with
  | agg cs =>
    rcases cs with ⟨_ | ⟨a, _ | ⟨b, l⟩⟩⟩
    · exact fit_stuck P _
    · exact fitB (s := Rtype.ofHandle a) (fit_Extern_Rtype_ofHandle P _) fun t => fitB (fit_Extern_Rtype_noPack P _ _) fun _ => fit_pure P _
    · exact fit_stuck P _
  | _ => exact fit_stuck P _
theorem fit_Extern_ReflectliteType_method (P : Program) (f : TypeId → Sem Value) (hf : ∀ t, Fit P (fun _ => True) 0 (f t)) (x) : Fit P (fun _ => True) 0 (ReflectliteType.method f x) := by
  rcases x with ⟨_ | ⟨a, _ | ⟨b, l⟩⟩⟩
  · exact fit_stuck P _
  · exact fitB (s := ReflectliteType.ofRtype a) (fit_Extern_ReflectliteType_ofRtype P a) fun t => hf t
  · exact fit_stuck P _
theorem fit_Extern_RuntimeError_text (P : Program) (x0) : Fit P (fun _ => True) 0 (@Go.Extern.RuntimeError.text x0) := by
  unfold Go.Extern.RuntimeError.text
  repeat' (first | (with_reducible first | exact fit_pure P _ | apply fit_program | apply fit_typeInfo | apply fit_typeStr | apply fit_asString | apply fit_asAddr | apply fit_asInt | apply fit_asAgg | apply fit_load | apply fit_newVar | apply fit_elemOf | apply fit_cutType | apply fit_goPanic | apply fit_panicString | apply fit_loadVar | apply fit_storeVar | apply fit_stuck | apply fit_unsupported | apply fit_panics | apply fitB | apply fitM | apply fitIte) | (intro _) | split | (exact trivial) | (dsimp only))
theorem fit_Extern_ReflectliteType_pkgPath (P : Program) (x0) : Fit P (fun _ => True) 0 (@Go.Extern.ReflectliteType.pkgPath x0) := by
  unfold Go.Extern.ReflectliteType.pkgPath
  repeat' (first | (with_reducible first | exact fit_pure P _ | apply fit_program | apply fit_typeInfo | apply fit_typeStr | apply fit_asString | apply fit_asAddr | apply fit_asInt | apply fit_asAgg | apply fit_load | apply fit_newVar | apply fit_elemOf | apply fit_cutType | apply fit_goPanic | apply fit_panicString | apply fit_loadVar | apply fit_storeVar | apply fit_stuck | apply fit_unsupported | apply fit_panics | apply fitB | apply fitM | apply fitIte) | (intro _) | split | (exact trivial) | (dsimp only))
theorem fit_Extern_Rtype_noPackMethods (P : Program) (x0) (x1) : Fit P (fun _ => True) 0 (@Go.Extern.Rtype.noPackMethods x0 x1) := by
  unfold Go.Extern.Rtype.noPackMethods
  repeat' (first | (with_reducible first | exact fit_pure P _ | apply fit_program | apply fit_typeInfo | apply fit_typeStr | apply fit_asString | apply fit_asAddr | apply fit_asInt | apply fit_asAgg | apply fit_load | apply fit_newVar | apply fit_elemOf | apply fit_cutType | apply fit_goPanic | apply fit_panicString | apply fit_loadVar | apply fit_storeVar | apply fit_stuck | apply fit_unsupported | apply fit_panics | apply fitB | apply fitM | apply fitIte) | (intro _) | split | (exact trivial) | (dsimp only))
theorem fit_Extern_Rtype_implements (P : Program) (x0) (x1) : Fit P (fun _ => True) 0 (@Go.Extern.Rtype.implements x0 x1) := by
  unfold Go.Extern.Rtype.implements
  repeat' (first | (with_reducible first | exact fit_pure P _ | apply fit_Extern_Rtype_noPackMethods | apply fit_Extern_Rtype_under | apply fit_program | apply fit_typeInfo | apply fit_typeStr | apply fit_asString | apply fit_asAddr | apply fit_asInt | apply fit_asAgg | apply fit_load | apply fit_newVar | apply fit_elemOf | apply fit_cutType | apply fit_goPanic | apply fit_panicString | apply fit_loadVar | apply fit_storeVar | apply fit_stuck | apply fit_unsupported | apply fit_panics | apply fitB | apply fitM | apply fitIte) | (intro _) | split | (exact trivial) | (dsimp only))
theorem fit_Extern_ReflectliteType_implements_ (P : Program) (x0) (x1) : Fit P (fun _ => True) 0 (@Go.Extern.ReflectliteType.implements_ x0 x1) := by
  unfold Go.Extern.ReflectliteType.implements_
  repeat' (first | (with_reducible first | exact fit_pure P _ | apply fit_Extern_Rtype_kind | apply fit_Extern_Rtype_noPackMethods | apply fit_Extern_Rtype_noPack | apply fit_Extern_Rtype_implements | apply fit_program | apply fit_typeInfo | apply fit_typeStr | apply fit_asString | apply fit_asAddr | apply fit_asInt | apply fit_asAgg | apply fit_load | apply fit_newVar | apply fit_elemOf | apply fit_cutType | apply fit_goPanic | apply fit_panicString | apply fit_loadVar | apply fit_storeVar | apply fit_stuck | apply fit_unsupported | apply fit_panics | apply fitB | apply fitM | apply fitIte) | (intro _) | split | (exact trivial) | (dsimp only))
theorem fit_Extern_RuntimeError_boundsError (P : Program) (x) : Fit P (fun _ => True) 0 (RuntimeError.boundsError x) := by
  rcases x with ⟨_ | ⟨a, _ | ⟨b, l⟩⟩⟩
  · exact fit_stuck P _
  · cases a with
    | agg cs =>
      rcases cs with ⟨_ | ⟨a, _ | ⟨b, _ | ⟨c, _ | ⟨d, _ | ⟨e, l⟩⟩⟩⟩⟩⟩
      · exact fit_stuck P _
      · exact fit_stuck P _
      · exact fit_stuck P _
      · exact fit_stuck P _
      · cases a with
        | int k x =>
          cases b with
          | int k y =>
            cases c with
            | bool s =>
              cases d with
              | int k z =>
                have key : ∀ (o : Option String) (g : String → String), Fit P (fun _ => True) 0 (match o with | some fmt => RuntimeError.text (g fmt) | none => stuck "boundsError: no such code" : Sem Value) := by
                  intro o g
                  cases o with
                  | none => exact fit_stuck P _
                  | some f => exact fit_pure P _
                exact key ((if s && x < 0 then RuntimeError.boundsNegErrorFmts else RuntimeError.boundsErrorFmts)[z.toNat]?) (fun fmt => "runtime error: " ++ (fmt.replace "%x" (toString (if s then x else IntKind.u64.wrap x))).replace "%y" (toString y))
              | _ => exact fit_stuck P _
            | _ => exact fit_stuck P _
          | _ => exact fit_stuck P _
        | _ => exact fit_stuck P _
      · exact fit_stuck P _
    | _ => exact fit_stuck P _
  · exact fit_stuck P _
theorem fit_Extern_Rtype_hasName (P : Program) (x0) : Fit P (fun _ => True) 0 (@Go.Extern.Rtype.hasName x0) := by
  unfold Go.Extern.Rtype.hasName
  repeat' (first | (with_reducible first | exact fit_pure P _ | apply fit_program | apply fit_typeInfo | apply fit_typeStr | apply fit_asString | apply fit_asAddr | apply fit_asInt | apply fit_asAgg | apply fit_load | apply fit_newVar | apply fit_elemOf | apply fit_cutType | apply fit_goPanic | apply fit_panicString | apply fit_loadVar | apply fit_storeVar | apply fit_stuck | apply fit_unsupported | apply fit_panics | apply fitB | apply fitM | apply fitIte) | (intro _) | split | (exact trivial) | (dsimp only))
theorem fit_Extern_Rtype_directlyAssignable (P : Program) (x0) (x1) : Fit P (fun _ => True) 0 (@Go.Extern.Rtype.directlyAssignable x0 x1) := by
  unfold Go.Extern.Rtype.directlyAssignable
  repeat' (first | (with_reducible first | exact fit_pure P _ | apply fit_Extern_Rtype_hasName | apply fit_Extern_Rtype_under | apply fit_program | apply fit_typeInfo | apply fit_typeStr | apply fit_asString | apply fit_asAddr | apply fit_asInt | apply fit_asAgg | apply fit_load | apply fit_newVar | apply fit_elemOf | apply fit_cutType | apply fit_goPanic | apply fit_panicString | apply fit_loadVar | apply fit_storeVar | apply fit_stuck | apply fit_unsupported | apply fit_panics | apply fitB | apply fitM | apply fitIte) | (intro _) | split | (exact trivial) | (dsimp only))
theorem fit_Extern_Rtype_noPackNamed (P : Program) (x0) (x1) : Fit P (fun _ => True) 0 (@Go.Extern.Rtype.noPackNamed x0 x1) := by
  unfold Go.Extern.Rtype.noPackNamed
  repeat' (first | (with_reducible first | exact fit_pure P _ | apply fit_program | apply fit_typeInfo | apply fit_typeStr | apply fit_asString | apply fit_asAddr | apply fit_asInt | apply fit_asAgg | apply fit_load | apply fit_newVar | apply fit_elemOf | apply fit_cutType | apply fit_goPanic | apply fit_panicString | apply fit_loadVar | apply fit_storeVar | apply fit_stuck | apply fit_unsupported | apply fit_panics | apply fitB | apply fitM | apply fitIte) | (intro _) | split | (exact trivial) | (dsimp only))
theorem fit_Extern_Rtype_spelt (P : Program) (x0) : Fit P (fun _ => True) 0 (@Go.Extern.Rtype.spelt x0) := by
  unfold Go.Extern.Rtype.spelt
  repeat' (first | (with_reducible first | exact fit_pure P _ | apply fit_Extern_Rtype_noPackNamed | apply fit_program | apply fit_typeInfo | apply fit_typeStr | apply fit_asString | apply fit_asAddr | apply fit_asInt | apply fit_asAgg | apply fit_load | apply fit_newVar | apply fit_elemOf | apply fit_cutType | apply fit_goPanic | apply fit_panicString | apply fit_loadVar | apply fit_storeVar | apply fit_stuck | apply fit_unsupported | apply fit_panics | apply fitB | apply fitM | apply fitIte) | (intro _) | split | (exact trivial) | (dsimp only))
theorem fit_Extern_ReflectliteValue_set (P : Program) (x) : Fit P (fun _ => True) 0 (ReflectliteValue.set x) := by
  rcases x with ⟨_ | ⟨a, _ | ⟨b, _ | ⟨c, l⟩⟩⟩⟩
  · exact fit_stuck P _
  · exact fit_stuck P _
  · refine fitB (s := ReflectliteValue.parts a) (fit_Extern_ReflectliteValue_parts P a) fun o => ?_
    repeat' (first | (with_reducible first | exact fit_pure P _ | apply fit_Extern_ReflectliteValue_parts | apply fit_Extern_Rtype_directlyAssignable | apply fit_Extern_Rtype_implements | apply fit_Extern_Rtype_kind | apply fit_Extern_Rtype_spelt | apply fit_loadVar | apply fit_storeVar | apply fit_unsupported | apply fit_panicString | apply fitB | apply fitIte) | (intro _) | split | (dsimp only))
  · exact fit_stuck P _
theorem fit_Extern_ReflectliteType_abiMethod (P : Program) (f : TypeId → Sem Value) (hf : ∀ t, Fit P (fun _ => True) 0 (f t)) (x) : Fit P (fun _ => True) 0 (ReflectliteType.abiMethod f x) := by
  rcases x with ⟨_ | ⟨a, _ | ⟨b, l⟩⟩⟩
  · exact fit_stuck P _
  · exact fitB (s := Rtype.ofHandle a) (fit_Extern_Rtype_ofHandle P _) fun t => fitB (fit_Extern_Rtype_noPack P _ _) fun _ => hf t
  · exact fit_stuck P _
theorem fit_Extern_RuntimeError_unhashableTypeError (P : Program) (x) : Fit P (fun _ => True) 0 (RuntimeError.unhashableTypeError x) := by
  rcases x with ⟨_ | ⟨a, _ | ⟨b, l⟩⟩⟩
  · exact fit_stuck P _
  · cases a with
    | agg cs =>
      rcases cs with ⟨_ | ⟨a, _ | ⟨b, l⟩⟩⟩
      · exact fit_stuck P _
      · refine fitB (s := RuntimeError.described a) (fit_Extern_RuntimeError_described P a) fun o => ?_
        cases o with
        | none => exact (fit_panics (.nilDeref) : Fit P (fun _ => True) 0 (runtimePanic .nilDeref : Sem Value))
        | some t => exact fit_pure P _
      · exact fit_stuck P _
    | _ => exact fit_stuck P _
  · exact fit_stuck P _
theorem fit_Extern_ReflectliteType_toType (P : Program) (x0) : Fit P (fun _ => True) 0 (@Go.Extern.ReflectliteType.toType x0) := by
  unfold Go.Extern.ReflectliteType.toType
  repeat' (first | (with_reducible first | exact fit_pure P _ | apply fit_Extern_Rtype_handle | apply fit_program | apply fit_typeInfo | apply fit_typeStr | apply fit_asString | apply fit_asAddr | apply fit_asInt | apply fit_asAgg | apply fit_load | apply fit_newVar | apply fit_elemOf | apply fit_cutType | apply fit_goPanic | apply fit_panicString | apply fit_loadVar | apply fit_storeVar | apply fit_stuck | apply fit_unsupported | apply fit_panics | apply fitB | apply fitM | apply fitIte) | (intro _) | split | (exact trivial) | (dsimp only))
theorem fit_Extern_ReflectliteType_typeOf (P : Program) (x) : Fit P (fun _ => True) 0 (ReflectliteType.typeOf x) := by
  rcases x with ⟨_ | ⟨a, _ | ⟨b, l⟩⟩⟩
  · exact fit_stuck P _
  · cases a with
    | nilIface => exact fit_pure P _
    | iface t v => exact (fit_Extern_ReflectliteType_toType P t : Fit P (fun _ => True) 0 (ReflectliteType.toType t))
    | _ => exact fit_stuck P _
  · exact fit_stuck P _
theorem fit_Extern_ReflectliteValue_unpack (P : Program) (x0) : Fit P (fun _ => True) 0 (@Go.Extern.ReflectliteValue.unpack x0) := by
  unfold Go.Extern.ReflectliteValue.unpack
  repeat' (first | (with_reducible first | exact fit_pure P _ | apply fit_Extern_ReflectliteValue_mk | apply fit_program | apply fit_typeInfo | apply fit_typeStr | apply fit_asString | apply fit_asAddr | apply fit_asInt | apply fit_asAgg | apply fit_load | apply fit_newVar | apply fit_elemOf | apply fit_cutType | apply fit_goPanic | apply fit_panicString | apply fit_loadVar | apply fit_storeVar | apply fit_stuck | apply fit_unsupported | apply fit_panics | apply fitB | apply fitM | apply fitIte) | (intro _) | split | (exact trivial) | (dsimp only))
theorem fit_Bytes_loadBytes (P : Program) (a n out) : Fit P (fun _ => True) 0 (Bytes.loadBytes a n out) := by
  induction n generalizing a out with
  | zero => exact fit_pure P _
  | succ n ih =>
    unfold Bytes.loadBytes
    repeat' (first | (with_reducible first | exact fit_pure P _ | apply ih | apply fit_stuck | apply fit_unsupported | apply fit_load | apply fitB | apply fitIte) | (intro _) | split | (dsimp only))
theorem fit_bytesOf (P : Program) (v) : Fit P (fun _ => True) 0 (Bytes.bytesOf v) := by
  unfold Bytes.bytesOf
  repeat' (first | (with_reducible first | exact fit_pure P _ | apply fit_stuck | apply fit_unsupported | apply fit_loadCells | apply fit_Bytes_loadBytes | apply fit_asInt | apply fAi | apply fAm | apply fitB | apply fitIte) | (intro _) | split | (dsimp only))
theorem fit_Extern_BytealgCompare_compare (P : Program) (x) : Fit P (fun _ => True) 0 (BytealgCompare.compare x) := by
  rcases x with ⟨_ | ⟨a, _ | ⟨b, _ | ⟨c, l⟩⟩⟩⟩
  · exact fit_stuck P _
  · exact fit_stuck P _
  · exact fitB (s := Bytes.bytesOf a) (fit_bytesOf P a) fun _ => fitB (fit_bytesOf P b) fun _ => fit_pure P _
  · exact fit_stuck P _
theorem fit_Extern_AbiNoEscape_same (P : Program) (x) : Fit P (fun _ => True) 0 (AbiNoEscape.same x) := by
  rcases x with ⟨_ | ⟨a, _ | ⟨b, l⟩⟩⟩
  · exact fit_stuck P _
  · exact fit_pure P _
  · exact fit_stuck P _
theorem fit_Extern_ReflectliteValue_elem (P : Program) (x0) (x1) (x2) (x3) : Fit P (fun _ => True) 0 (@Go.Extern.ReflectliteValue.elem x0 x1 x2 x3) := by
  unfold Go.Extern.ReflectliteValue.elem
  repeat' (first | (with_reducible first | exact fit_pure P _ | apply fit_Extern_Rtype_elemq | apply fit_Extern_ReflectliteValue_unpack | apply fit_Extern_ReflectliteValue_mk | apply fit_Extern_ReflectliteValue_valueError | apply fit_program | apply fit_typeInfo | apply fit_typeStr | apply fit_asString | apply fit_asAddr | apply fit_asInt | apply fit_asAgg | apply fit_load | apply fit_newVar | apply fit_elemOf | apply fit_cutType | apply fit_goPanic | apply fit_panicString | apply fit_loadVar | apply fit_storeVar | apply fit_stuck | apply fit_unsupported | apply fit_panics | apply fitB | apply fitM | apply fitIte) | (intro _) | split | (exact trivial) | (dsimp only))
theorem fit_Extern_RuntimeError_pkgpathOf (P : Program) (x0) : Fit P (fun _ => True) 0 (@Go.Extern.RuntimeError.pkgpathOf x0) := by
  unfold Go.Extern.RuntimeError.pkgpathOf
  repeat' (first | (with_reducible first | exact fit_pure P _ | apply fit_program | apply fit_typeInfo | apply fit_typeStr | apply fit_asString | apply fit_asAddr | apply fit_asInt | apply fit_asAgg | apply fit_load | apply fit_newVar | apply fit_elemOf | apply fit_cutType | apply fit_goPanic | apply fit_panicString | apply fit_loadVar | apply fit_storeVar | apply fit_stuck | apply fit_unsupported | apply fit_panics | apply fitB | apply fitM | apply fitIte) | (intro _) | split | (exact trivial) | (dsimp only))
theorem fit_Extern_RuntimeError_typeAssertionError (P : Program) (x0) : Fit P (fun _ => True) 0 (@Go.Extern.RuntimeError.typeAssertionError x0) := by
  unfold Go.Extern.RuntimeError.typeAssertionError
  repeat' (first | (with_reducible first | exact fit_pure P _ | apply fit_Extern_RuntimeError_described | apply fit_Extern_RuntimeError_text | apply fit_Extern_RuntimeError_pkgpathOf | apply fit_program | apply fit_typeInfo | apply fit_typeStr | apply fit_asString | apply fit_asAddr | apply fit_asInt | apply fit_asAgg | apply fit_load | apply fit_newVar | apply fit_elemOf | apply fit_cutType | apply fit_goPanic | apply fit_panicString | apply fit_loadVar | apply fit_storeVar | apply fit_stuck | apply fit_unsupported | apply fit_panics | apply fitB | apply fitM | apply fitIte) | (intro _) | split | (exact trivial) | (dsimp only))
theorem fit_Extern_ReflectliteType_relation (P : Program) (s : String) (f : TypeId → TypeId → Sem Bool) (hf : ∀ t u, Fit P (fun _ => True) 0 (f t u)) (x) : Fit P (fun _ => True) 0 (ReflectliteType.relation s f x) := by
  rcases x with ⟨_ | ⟨a, _ | ⟨b, _ | ⟨c, l⟩⟩⟩⟩
  · exact fit_stuck P _
  · exact fit_stuck P _
  · cases b with
    | nilIface => exact (fit_panicString P ("reflect: nil type passed to Type." ++ s) : Fit P (fun _ => True) 0 (panicString ("reflect: nil type passed to Type." ++ s) : Sem Value))
    | iface t u => exact fitB (s := ReflectliteType.ofRtype u) (fit_Extern_ReflectliteType_ofRtype P u) fun _ => fitB (fit_Extern_ReflectliteType_ofRtype P a) fun _ => fitB (hf _ _) fun _ => fit_pure P _
    | _ => exact fit_stuck P _
  · exact fit_stuck P _
theorem fit_Extern_ReflectliteValue_methodAny (P : Program) (z : Sem Value) (f) (hz : Fit P (fun _ => True) 0 z) (hf : ∀ a b c d, Fit P (fun _ => True) 0 (f a b c d)) (x) : Fit P (fun _ => True) 0 (ReflectliteValue.methodAny z f x) := by
  rcases x with ⟨_ | ⟨a, _ | ⟨b, l⟩⟩⟩
  · exact fit_stuck P _
  · refine fitB (s := ReflectliteValue.partsAny a) (fit_Extern_ReflectliteValue_partsAny P a) fun o => ?_
    cases o with
    | none => exact hz
    | some y => exact hf _ _ _ _
  · exact fit_stuck P _
theorem fit_Extern_ReflectliteType_name (P : Program) (x0) : Fit P (fun _ => True) 0 (@Go.Extern.ReflectliteType.name x0) := by
  unfold Go.Extern.ReflectliteType.name
  repeat' (first | (with_reducible first | exact fit_pure P _ | apply fit_Extern_Rtype_hasName | apply fit_Extern_Rtype_spelt | apply fit_program | apply fit_typeInfo | apply fit_typeStr | apply fit_asString | apply fit_asAddr | apply fit_asInt | apply fit_asAgg | apply fit_load | apply fit_newVar | apply fit_elemOf | apply fit_cutType | apply fit_goPanic | apply fit_panicString | apply fit_loadVar | apply fit_storeVar | apply fit_stuck | apply fit_unsupported | apply fit_panics | apply fitB | apply fitM | apply fitIte) | (intro _) | split | (exact trivial) | (dsimp only))
theorem fit_Extern_ReflectliteType_assignableTo (P : Program) (x0) (x1) : Fit P (fun _ => True) 0 (@Go.Extern.ReflectliteType.assignableTo x0 x1) := by
  unfold Go.Extern.ReflectliteType.assignableTo
  repeat' (first | (with_reducible first | exact fit_pure P _ | apply fit_Extern_Rtype_directlyAssignable | apply fit_Extern_Rtype_implements | apply fit_Extern_Rtype_noPackMethods | apply fit_program | apply fit_typeInfo | apply fit_typeStr | apply fit_asString | apply fit_asAddr | apply fit_asInt | apply fit_asAgg | apply fit_load | apply fit_newVar | apply fit_elemOf | apply fit_cutType | apply fit_goPanic | apply fit_panicString | apply fit_loadVar | apply fit_storeVar | apply fit_stuck | apply fit_unsupported | apply fit_panics | apply fitB | apply fitM | apply fitIte) | (intro _) | split | (exact trivial) | (dsimp only))
theorem fit_Extern_ReflectliteValue_method (P : Program) (z : Sem Value) (f) (hz : Fit P (fun _ => True) 0 z) (hf : ∀ a b c d, Fit P (fun _ => True) 0 (f a b c d)) (x) : Fit P (fun _ => True) 0 (ReflectliteValue.method z f x) := by
  rcases x with ⟨_ | ⟨a, _ | ⟨b, l⟩⟩⟩
  · exact fit_stuck P _
  · refine fitB (s := ReflectliteValue.parts a) (fit_Extern_ReflectliteValue_parts P a) fun o => ?_
    cases o with
    | none => exact hz
    | some y => exact hf _ _ _ _
  · exact fit_stuck P _
theorem fit_Extern_ReflectliteType_elem (P : Program) (x0) : Fit P (fun _ => True) 0 (@Go.Extern.ReflectliteType.elem x0) := by
  unfold Go.Extern.ReflectliteType.elem
  repeat' (first | (with_reducible first | exact fit_pure P _ | apply fit_Extern_Rtype_elemq | apply fit_Extern_ReflectliteType_toType | apply fit_Extern_Rtype_spelt | apply fit_program | apply fit_typeInfo | apply fit_typeStr | apply fit_asString | apply fit_asAddr | apply fit_asInt | apply fit_asAgg | apply fit_load | apply fit_newVar | apply fit_elemOf | apply fit_cutType | apply fit_goPanic | apply fit_panicString | apply fit_loadVar | apply fit_storeVar | apply fit_stuck | apply fit_unsupported | apply fit_panics | apply fitB | apply fitM | apply fitIte) | (intro _) | split | (exact trivial) | (dsimp only))
theorem fit_Extern_Rtype_noPackHeld (P : Program) (x0) (x1) : Fit P (fun _ => True) 0 (@Go.Extern.Rtype.noPackHeld x0 x1) := by
  unfold Go.Extern.Rtype.noPackHeld
  repeat' (first | (with_reducible first | exact fit_pure P _ | apply fit_program | apply fit_typeInfo | apply fit_typeStr | apply fit_asString | apply fit_asAddr | apply fit_asInt | apply fit_asAgg | apply fit_load | apply fit_newVar | apply fit_elemOf | apply fit_cutType | apply fit_goPanic | apply fit_panicString | apply fit_loadVar | apply fit_storeVar | apply fit_stuck | apply fit_unsupported | apply fit_panics | apply fitB | apply fitM | apply fitIte) | (intro _) | split | (exact trivial) | (dsimp only))
theorem fit_rtypeRows (P : Program) : ∀ x ∈ ReflectliteType.rows, ∀ args, Fit P (fun _ => True) 0 (x.2 args) := by
  intro x hx args
  simp only [ReflectliteType.rows, List.mem_cons, List.not_mem_nil, or_false] at hx
  rcases hx with rfl | rfl | rfl | rfl | rfl | rfl | rfl | rfl | rfl | rfl | rfl | rfl
  · exact fit_Extern_ReflectliteType_typeOf P _
  · exact fit_Extern_ReflectliteType_method P _ (fit_Extern_ReflectliteType_elem P) _
  · exact fit_Extern_ReflectliteType_method P _ (fun t => fitB (fit_Extern_Rtype_noPackHeld P _ _) fun _ => fitB (fit_typeInfo P _) fun _ => fit_pure P _) _
  · exact fit_Extern_ReflectliteType_method P _ (fun t => fitB (fit_Extern_Rtype_noPackNamed P _ _) fun _ => fitB (fit_Extern_Rtype_spelt P _) fun _ => fit_pure P _) _
  · exact fit_Extern_ReflectliteType_method P _ (fun t => fitB (fit_Extern_Rtype_noPackNamed P _ _) fun _ => fit_Extern_ReflectliteType_name P _) _
  · exact fit_Extern_ReflectliteType_method P _ (fun t => fitB (fit_Extern_Rtype_noPackNamed P _ _) fun _ => fit_Extern_ReflectliteType_pkgPath P _) _
  · exact fit_Extern_ReflectliteType_relation P _ _ (fit_Extern_ReflectliteType_implements_ P) _
  · exact fit_Extern_ReflectliteType_relation P _ _ (fit_Extern_ReflectliteType_assignableTo P) _
  · exact fit_Extern_ReflectliteType_method P _ (fit_Extern_Rtype_handle P) _
  · exact fit_Extern_ReflectliteType_abiMethod P _ (fun t => fitB (fit_Extern_Rtype_kind P _) fun _ => fit_pure P _) _
  · exact fit_Extern_ReflectliteType_abiMethod P _ (fun t => fitB (fit_Extern_Rtype_noPackHeld P _ _) fun _ => fitB (fit_typeInfo P _) fun _ => fit_pure P _) _
  · exact fitB (fit_asInt P _) fun _ => fit_pure P _
theorem fit_errorRows (P : Program) : ∀ x ∈ RuntimeError.rows, ∀ args, Fit P (fun _ => True) 0 (x.2 args) := by
  intro x hx args
  simp only [RuntimeError.rows, List.mem_cons, List.not_mem_nil, or_false] at hx
  rcases hx with rfl | rfl | rfl | rfl | rfl | rfl | rfl | rfl | rfl | rfl | rfl | rfl | rfl | rfl | rfl
  · exact fitB (fit_asString P _) fun _ => fit_pure P _
  · exact fitB (fit_asString P _) fun _ => fit_pure P _
  · exact fitB (fit_asAgg P _) fun _ => fitB (fit_asString P _) fun _ => fit_pure P _
  · exact fitB (fit_asAgg P _) fun _ => fitB (fit_asInt P _) fun _ => fit_pure P _
  · exact fit_Extern_RuntimeError_boundsError P _
  · exact fit_Extern_RuntimeError_typeAssertionError P _
  · exact fit_pure P _
  · exact fit_Extern_RuntimeError_unhashableTypeError P _
  all_goals exact fit_pure P _
theorem fit_valueError {α : Type} {L : α → Prop} (s : String) (k : Nat) : Fit P L 0 (ReflectliteValue.valueError s k : Sem α) := by
  unfold ReflectliteValue.valueError
  exact fitB (fit_cutType P _) fun _ => fitB (fit_elemOf P _) fun _ => fitB (fit_newVar P _ _) fun _ => fit_goPanic P _
theorem fit_ReflectliteValue_len (P : Program) (a b c d) : Fit P (fun _ => True) 0 (ReflectliteValue.len a b c d) := by
  unfold ReflectliteValue.len
  repeat' (first | (with_reducible first | exact fit_pure P _ | apply fit_valueError | apply fit_Extern_Rtype_under | apply fit_loadVar | apply fit_Builtin_len_ | apply fitB | apply fitIte) | (intro _) | split | (dsimp only))
theorem fit_valueRows (P : Program) : ∀ x ∈ ReflectliteValue.rows, ∀ args, Fit P (fun _ => True) 0 (x.2 args) := by
  intro x hx args
  simp only [ReflectliteValue.rows, List.mem_cons, List.not_mem_nil, or_false] at hx
  rcases hx with rfl | rfl | rfl | rfl | rfl | rfl | rfl | rfl | rfl | rfl
  · exact fit_Extern_ReflectliteValue_unpack P _
  · exact fit_Extern_ReflectliteValue_methodAny P _ _ (fit_pure P _) (fun _ _ _ _ => fit_pure P _) _
  · exact fit_Extern_ReflectliteValue_method P _ _ (fit_pure P _) (fun _ _ _ _ => fit_pure P _) _
  · exact fit_Extern_ReflectliteValue_methodAny P _ _ (fit_valueError _ _) (fun _ _ _ _ => fit_Extern_ReflectliteType_toType P _) _
  · exact fit_Extern_ReflectliteValue_methodAny P _ _ (fit_pure P _) (fun _ _ _ _ => fit_pure P _) _
  · exact fit_Extern_ReflectliteValue_method P _ _ (fit_valueError _ _) (fit_Extern_ReflectliteValue_isNil P) _
  · exact fit_Extern_ReflectliteValue_method P _ _ (fit_valueError _ _) (fit_ReflectliteValue_len P) _
  · exact fit_Extern_ReflectliteValue_method P _ _ (fit_valueError _ _) (fit_Extern_ReflectliteValue_elem P) _
  · exact fit_Extern_ReflectliteValue_set P _
  · exact fit_Extern_ReflectliteValue_errorText P _
theorem fit_overlaps (P : Program) (x0 x1 x) : Fit P (fun _ => True) 0 (SlicesOverlaps.overlaps x0 x1 x) := by
  rcases x with ⟨_ | ⟨u, _ | ⟨v, _ | ⟨c, l⟩⟩⟩⟩
  · exact fit_stuck P _
  · exact fit_stuck P _
  · cases u with
    | slice a la ca =>
      cases v with
      | slice b lb cb =>
        have m4 : ∀ (h1 : Option Addr → Nat → Nat → Option Addr → Nat → Nat → Sem Value) (h2 : Array Value → Sem Value), SlicesOverlaps.overlaps.match_4 (fun _ => Sem Value) ⟨[Value.slice a la ca, Value.slice b lb cb]⟩ h1 h2 = h1 a la ca b lb cb := fun _ _ => rfl
        unfold SlicesOverlaps.overlaps
        rw [m4]
        repeat' (first | (with_reducible first | exact fit_pure P _ | apply fit_stuck | apply fit_unsupported | apply fit_underlying | apply fit_sizeOf | apply fit_frozen | apply fit_noView | apply fit_mayBeOne | apply fit_choose | apply fitB | apply fitIte) | (intro _) | split | (dsimp only))
      | _ => exact fit_stuck P _
    | _ => exact fit_stuck P _
  · exact fit_stuck P _
end Go.Proofs.YtpbbmagjhkakgaaGreatDoor.Lf

namespace Go.Proofs.YtpbbmagjhkakgaaGreatDoor.Lf
open Go Go.Conc Go.Extern
theorem find_of {fn : Func} {e : Array Value → Sem Value} (h1 : allGenericRows.lookup fn.name = none) (h2 : allTypedRows.lookup fn.name = none) (h3 : allRows.lookup fn.name = some e) : Extern.find fn = some e := by
  unfold Extern.find
  simp only [h1, h2, h3]
  rfl
def plainNames : List String := ["internal/reflectlite.TypeOf", "(internal/reflectlite.rtype).Elem", "(internal/reflectlite.rtype).Comparable", "(internal/reflectlite.rtype).String", "(internal/reflectlite.rtype).Name", "(internal/reflectlite.rtype).PkgPath", "(internal/reflectlite.rtype).Implements", "(internal/reflectlite.rtype).AssignableTo", "(internal/reflectlite.rtype).common", "(*internal/abi.Type).Kind", "(*internal/abi.Type).Size", "(internal/abi.Kind).String", "internal/reflectlite.ValueOf", "(internal/reflectlite.Value).Kind", "(internal/reflectlite.Value).Type", "(internal/reflectlite.Value).IsNil", "(internal/reflectlite.Value).Elem", "(internal/reflectlite.Value).Set", "(*internal/reflectlite.ValueError).Error", "(runtime.errorString).Error", "(runtime.plainError).Error", "(runtime.errorAddressString).Error", "(runtime.boundsError).Error", "(*runtime.TypeAssertionError).Error", "(*runtime.PanicNilError).Error", "(internal/runtime/maps.unhashableTypeError).Error", "(runtime.errorString).RuntimeError", "(runtime.plainError).RuntimeError", "(runtime.errorAddressString).RuntimeError", "(runtime.boundsError).RuntimeError", "(*runtime.TypeAssertionError).RuntimeError", "(*runtime.PanicNilError).RuntimeError", "(internal/runtime/maps.unhashableTypeError).RuntimeError", "internal/abi.NoEscape", "internal/bytealg.abigen_runtime_cmpstring"]
def plainFunc (fn : Func) : Bool := fn.name != "runtime.NumGoroutine" && (fn.body.isSome || ((Extern.findNext fn).isNone && (plainNames.contains fn.name || (fn.name == "slices.overlaps[vigil/watch.policy]" && fn.origin == "slices.overlaps") || (Extern.find fn).isNone)))
theorem find_origin {fn : Func} {t : Array TypeId → Array TypeId → Array Value → Sem Value} (h1 : allGenericRows.lookup fn.name = none) (h2 : allTypedRows.lookup fn.name = none) (h3 : allRows.lookup fn.name = none)
    (h4 : allGenericRows.lookup fn.origin = none) (h5 : allTypedRows.lookup fn.origin = some t) : Extern.find fn = some (t fn.params fn.resultTypes) := by
  unfold Extern.find
  simp only [h1, h2, h3, h4, h5]
  rfl
theorem plain_all : Tryz.prog.funcs.all plainFunc = true := by kernel_rfl
theorem plain_rows : ∀ n ∈ plainNames, ∃ e, allGenericRows.lookup n = none ∧ allTypedRows.lookup n = none ∧ allRows.lookup n = some e ∧ ∀ args, Fit Tryz.prog (fun _ => True) 0 (e args) := by
  intro n hn
  simp only [plainNames, List.mem_cons, List.not_mem_nil, or_false] at hn
  rcases hn with rfl | rfl | rfl | rfl | rfl | rfl | rfl | rfl | rfl | rfl | rfl | rfl | rfl | rfl | rfl | rfl | rfl | rfl | rfl | rfl | rfl | rfl | rfl | rfl | rfl | rfl | rfl | rfl | rfl | rfl | rfl | rfl | rfl | rfl | rfl
  · exact ⟨(ReflectliteType.rows.getD 0 default).2, by kernel_rfl, by kernel_rfl, by kernel_rfl, fit_rtypeRows _ _ (List.getElem_mem (show 0 < ReflectliteType.rows.length by decide))⟩
  · exact ⟨(ReflectliteType.rows.getD 1 default).2, by kernel_rfl, by kernel_rfl, by kernel_rfl, fit_rtypeRows _ _ (List.getElem_mem (show 1 < ReflectliteType.rows.length by decide))⟩
  · exact ⟨(ReflectliteType.rows.getD 2 default).2, by kernel_rfl, by kernel_rfl, by kernel_rfl, fit_rtypeRows _ _ (List.getElem_mem (show 2 < ReflectliteType.rows.length by decide))⟩
  · exact ⟨(ReflectliteType.rows.getD 3 default).2, by kernel_rfl, by kernel_rfl, by kernel_rfl, fit_rtypeRows _ _ (List.getElem_mem (show 3 < ReflectliteType.rows.length by decide))⟩
  · exact ⟨(ReflectliteType.rows.getD 4 default).2, by kernel_rfl, by kernel_rfl, by kernel_rfl, fit_rtypeRows _ _ (List.getElem_mem (show 4 < ReflectliteType.rows.length by decide))⟩
  · exact ⟨(ReflectliteType.rows.getD 5 default).2, by kernel_rfl, by kernel_rfl, by kernel_rfl, fit_rtypeRows _ _ (List.getElem_mem (show 5 < ReflectliteType.rows.length by decide))⟩
  · exact ⟨(ReflectliteType.rows.getD 6 default).2, by kernel_rfl, by kernel_rfl, by kernel_rfl, fit_rtypeRows _ _ (List.getElem_mem (show 6 < ReflectliteType.rows.length by decide))⟩
  · exact ⟨(ReflectliteType.rows.getD 7 default).2, by kernel_rfl, by kernel_rfl, by kernel_rfl, fit_rtypeRows _ _ (List.getElem_mem (show 7 < ReflectliteType.rows.length by decide))⟩
  · exact ⟨(ReflectliteType.rows.getD 8 default).2, by kernel_rfl, by kernel_rfl, by kernel_rfl, fit_rtypeRows _ _ (List.getElem_mem (show 8 < ReflectliteType.rows.length by decide))⟩
  · exact ⟨(ReflectliteType.rows.getD 9 default).2, by kernel_rfl, by kernel_rfl, by kernel_rfl, fit_rtypeRows _ _ (List.getElem_mem (show 9 < ReflectliteType.rows.length by decide))⟩
  · exact ⟨(ReflectliteType.rows.getD 10 default).2, by kernel_rfl, by kernel_rfl, by kernel_rfl, fit_rtypeRows _ _ (List.getElem_mem (show 10 < ReflectliteType.rows.length by decide))⟩
  · exact ⟨(ReflectliteType.rows.getD 11 default).2, by kernel_rfl, by kernel_rfl, by kernel_rfl, fit_rtypeRows _ _ (List.getElem_mem (show 11 < ReflectliteType.rows.length by decide))⟩
  · exact ⟨(ReflectliteValue.rows.getD 0 default).2, by kernel_rfl, by kernel_rfl, by kernel_rfl, fit_valueRows _ _ (List.getElem_mem (show 0 < ReflectliteValue.rows.length by decide))⟩
  · exact ⟨(ReflectliteValue.rows.getD 2 default).2, by kernel_rfl, by kernel_rfl, by kernel_rfl, fit_valueRows _ _ (List.getElem_mem (show 2 < ReflectliteValue.rows.length by decide))⟩
  · exact ⟨(ReflectliteValue.rows.getD 3 default).2, by kernel_rfl, by kernel_rfl, by kernel_rfl, fit_valueRows _ _ (List.getElem_mem (show 3 < ReflectliteValue.rows.length by decide))⟩
  · exact ⟨(ReflectliteValue.rows.getD 5 default).2, by kernel_rfl, by kernel_rfl, by kernel_rfl, fit_valueRows _ _ (List.getElem_mem (show 5 < ReflectliteValue.rows.length by decide))⟩
  · exact ⟨(ReflectliteValue.rows.getD 7 default).2, by kernel_rfl, by kernel_rfl, by kernel_rfl, fit_valueRows _ _ (List.getElem_mem (show 7 < ReflectliteValue.rows.length by decide))⟩
  · exact ⟨(ReflectliteValue.rows.getD 8 default).2, by kernel_rfl, by kernel_rfl, by kernel_rfl, fit_valueRows _ _ (List.getElem_mem (show 8 < ReflectliteValue.rows.length by decide))⟩
  · exact ⟨(ReflectliteValue.rows.getD 9 default).2, by kernel_rfl, by kernel_rfl, by kernel_rfl, fit_valueRows _ _ (List.getElem_mem (show 9 < ReflectliteValue.rows.length by decide))⟩
  · exact ⟨(RuntimeError.rows.getD 0 default).2, by kernel_rfl, by kernel_rfl, by kernel_rfl, fit_errorRows _ _ (List.getElem_mem (show 0 < RuntimeError.rows.length by decide))⟩
  · exact ⟨(RuntimeError.rows.getD 1 default).2, by kernel_rfl, by kernel_rfl, by kernel_rfl, fit_errorRows _ _ (List.getElem_mem (show 1 < RuntimeError.rows.length by decide))⟩
  · exact ⟨(RuntimeError.rows.getD 2 default).2, by kernel_rfl, by kernel_rfl, by kernel_rfl, fit_errorRows _ _ (List.getElem_mem (show 2 < RuntimeError.rows.length by decide))⟩
  · exact ⟨(RuntimeError.rows.getD 4 default).2, by kernel_rfl, by kernel_rfl, by kernel_rfl, fit_errorRows _ _ (List.getElem_mem (show 4 < RuntimeError.rows.length by decide))⟩
  · exact ⟨(RuntimeError.rows.getD 5 default).2, by kernel_rfl, by kernel_rfl, by kernel_rfl, fit_errorRows _ _ (List.getElem_mem (show 5 < RuntimeError.rows.length by decide))⟩
  · exact ⟨(RuntimeError.rows.getD 6 default).2, by kernel_rfl, by kernel_rfl, by kernel_rfl, fit_errorRows _ _ (List.getElem_mem (show 6 < RuntimeError.rows.length by decide))⟩
  · exact ⟨(RuntimeError.rows.getD 7 default).2, by kernel_rfl, by kernel_rfl, by kernel_rfl, fit_errorRows _ _ (List.getElem_mem (show 7 < RuntimeError.rows.length by decide))⟩
  · exact ⟨(RuntimeError.rows.getD 8 default).2, by kernel_rfl, by kernel_rfl, by kernel_rfl, fit_errorRows _ _ (List.getElem_mem (show 8 < RuntimeError.rows.length by decide))⟩
  · exact ⟨(RuntimeError.rows.getD 9 default).2, by kernel_rfl, by kernel_rfl, by kernel_rfl, fit_errorRows _ _ (List.getElem_mem (show 9 < RuntimeError.rows.length by decide))⟩
  · exact ⟨(RuntimeError.rows.getD 10 default).2, by kernel_rfl, by kernel_rfl, by kernel_rfl, fit_errorRows _ _ (List.getElem_mem (show 10 < RuntimeError.rows.length by decide))⟩
  · exact ⟨(RuntimeError.rows.getD 11 default).2, by kernel_rfl, by kernel_rfl, by kernel_rfl, fit_errorRows _ _ (List.getElem_mem (show 11 < RuntimeError.rows.length by decide))⟩
  · exact ⟨(RuntimeError.rows.getD 12 default).2, by kernel_rfl, by kernel_rfl, by kernel_rfl, fit_errorRows _ _ (List.getElem_mem (show 12 < RuntimeError.rows.length by decide))⟩
  · exact ⟨(RuntimeError.rows.getD 13 default).2, by kernel_rfl, by kernel_rfl, by kernel_rfl, fit_errorRows _ _ (List.getElem_mem (show 13 < RuntimeError.rows.length by decide))⟩
  · exact ⟨(RuntimeError.rows.getD 14 default).2, by kernel_rfl, by kernel_rfl, by kernel_rfl, fit_errorRows _ _ (List.getElem_mem (show 14 < RuntimeError.rows.length by decide))⟩
  · exact ⟨AbiNoEscape.same, by kernel_rfl, by kernel_rfl, by kernel_rfl, fit_Extern_AbiNoEscape_same _⟩
  · exact ⟨BytealgCompare.compare, by kernel_rfl, by kernel_rfl, by kernel_rfl, fit_Extern_BytealgCompare_compare _⟩
theorem plain_prog : Plain Tryz.prog := by
  intro f fn hf
  have hm : fn ∈ Tryz.prog.funcs := Array.mem_of_getElem? hf
  have h := Array.all_eq_true_iff_forall_mem.1 plain_all fn hm
  simp only [plainFunc, Bool.and_eq_true, bne_iff_ne, ne_eq, Bool.or_eq_true, Option.isNone_iff_eq_none] at h
  refine ⟨h.1, fun hb => ?_⟩
  rcases h.2 with h2 | ⟨h2, h3⟩
  · cases hx : fn.body with
    | none => rw [hx] at h2; cases h2
    | some c => rw [hx] at hb; cases hb
  · refine ⟨h2, fun e he => ?_⟩
    rcases h3 with (h3 | ⟨h3, h4⟩) | h3
    · obtain ⟨e', a, b, c, d⟩ := plain_rows fn.name (by simpa using h3)
      rw [find_of a b c] at he
      cases he
      exact d
    · have h3' : fn.name = "slices.overlaps[vigil/watch.policy]" := by simpa using h3
      have h4' : fn.origin = "slices.overlaps" := by simpa using h4
      rw [find_origin (t := SlicesOverlaps.overlaps) (by rw [h3']; kernel_rfl) (by rw [h3']; kernel_rfl) (by rw [h3']; kernel_rfl) (by rw [h4']; kernel_rfl) (by rw [h4']; kernel_rfl)] at he
      cases he
      exact fit_overlaps _ _ _
    · rw [h3] at he; cases he
end Go.Proofs.YtpbbmagjhkakgaaGreatDoor.Lf
