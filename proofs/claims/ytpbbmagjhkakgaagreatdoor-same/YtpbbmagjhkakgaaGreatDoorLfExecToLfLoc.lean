/-
  The same of a whole operation, of a call and of the built-in functions, for every program whose functions without a body are plain ('Plain').
-/
/-
  What the trace hears behind one operation: as much as before it; what an operation may come to; no condition but those that stand in each theorem.
-/
/-
  The goroutine's own step, part by part: it looks at as much of the tape as it takes ('Local'); the frames' make ('okG').
-/
import Derived.Test.YtpbbmagjhkakgaaGreatDoorLfJoinToLfFits
import Derived.Conc.Beside
namespace Go.Proofs.YtpbbmagjhkakgaaGreatDoor.Lf
open Go
def okNext : Next → Prop
  | .value _ | .skip | .enter .. | .round .. | .defer _ | .recover | .spawn _ | .comm .. | .coroswitch .. => True
  | .row r _ => r = "runtime.print$piece"
  | _ => False
def Plain (P : Program) : Prop := ∀ (f : FuncId) (fn : Func), P.funcs[f]? = some fn → fn.name ≠ "runtime.NumGoroutine" ∧ (fn.body.isNone = true → Extern.findNext fn = none ∧ ∀ e, Extern.find fn = some e → ∀ args, Fit P (fun _ => True) 0 (e args))
variable {P : Program}
theorem fit_val {s : Sem Value} (h : Fit P (fun _ => True) 0 s) : Fit P okNext 0 (do pure (.value (← s)) : Sem Next) := fitB h fun _ => ⟨rfl, trivial⟩
theorem fit_unit {s : Sem Unit} (h : Fit P (fun _ => True) 0 s) : Fit P okNext 0 (do s; pure .skip : Sem Next) := fitB h fun _ => ⟨rfl, trivial⟩
theorem fit_ok {n : Next} (h : okNext n) : Fit P okNext 0 (pure n : Sem Next) := ⟨rfl, h⟩
theorem fit_held (d : Nat) {β : Type} {M : β → Prop} {f : Bool → Sem β} (hf : ∀ b, Fit P M d (f b)) : Fit P M d (Extern.PrintPieces.held >>= f) := by
  unfold Extern.PrintPieces.held
  intro v
  show Fit P M d (Sem.bind _ f)
  cases v <;> first | exact hf _ | exact .inr rfl
theorem fit_writeFd (n b) : Fit P (fun _ => True) 0 (writeFd n b) := by
  unfold writeFd
  refine ⟨⟨_, rfl, rfl⟩, fun r => ?_⟩
  cases r <;> first | exact .inl rfl | exact ⟨rfl, trivial⟩
theorem fit_piece (x y args) : Fit P okNext 0 (Extern.PrintPieces.piece x y args) := by
  unfold Extern.PrintPieces.piece
  split
  · rename_i first _
    split
    · rename_i p _
      extract_lets last j1 j2 j3 j4 j5
      have h1 : Fit P okNext 0 (j1 ()) := ⟨rfl, trivial⟩
      have h2 : Fit P okNext 0 (j2 ()) := by
        refine fitB (fit_writeFd _ _) fun _ => fitIte ⟨rfl, rfl⟩ (fitIte ?_ h1)
        exact h1
      have h3 : Fit P okNext 1 (j3 ()) := h2
      have h4 : Fit P okNext 1 (j4 ()) := by
        show Fit P okNext 1 (if (!last) = true then _ else _)
        split
        · exact h3
        · exact h3
      have h5 : Fit P okNext 0 (j5 ()) := by
        show Fit P okNext 0 (if first = true then _ else _)
        split
        · show Fit P okNext 1 (Extern.PrintPieces.held >>= _)
          refine fit_held 1 fun b => ?_
          split
          · exact .inr rfl
          · exact h4
        · exact h2
      exact fitIte (.inl rfl) h5
    · exact fit_stuck P _
  · exact fit_stuck P _
theorem fLi' {α β : Type} {l : List α} : ∀ {f : (a : α) → a ∈ l → β → Sem (ForInStep β)} (_ : ∀ a h b, Fit P (fun _ => True) 0 (f a h b)) (b : β), Fit P (fun _ => True) 0 (forIn' l b f) := by
  induction l with
  | nil => intro f _ b; rw [List.forIn'_nil]; exact fit_pure P _
  | cons a l ih => intro f hf b; rw [List.forIn'_cons]; refine fitB (hf _ _ _) fun r => ?_; split <;> first | exact fit_pure P _ | exact ih (fun _ _ _ => hf _ _ _) _
theorem fRi' {β : Type} {l : Std.Legacy.Range} {f : (a : Nat) → a ∈ l → β → Sem (ForInStep β)} (hf : ∀ a h b, Fit P (fun _ => True) 0 (f a h b)) (_l : Std.Legacy.Range) (b : β) : Fit P (fun _ => True) 0 (forIn' l b f) := by
  rw [Std.Legacy.Range.forIn'_eq_forIn'_range']; exact fLi' (fun _ _ _ => hf _ _ _) _
theorem fit_printOne (t v) : Fit P (fun _ => True) 0 (Builtin.printOne t v) := by
  unfold Builtin.printOne
  refine fitB (fit_typeInfo P _) fun i => ?_
  extract_lets j
  have hj : Fit P (fun _ => True) 0 (j ()) := by
    simp -zeta only [j]
    cases v with
    | pointer r => cases r <;> first | exact fit_pure P _ | exact fit_unsupported P _
    | map r => cases r <;> first | exact fit_pure P _ | exact fit_unsupported P _
    | chan r => cases r <;> first | exact fit_pure P _ | exact fit_unsupported P _
    | slice r _ _ => cases r <;> first | exact fit_pure P _ | exact fit_unsupported P _
    | _ => first | exact fit_pure P _ | exact fit_unsupported P _ | exact fit_stuck P _
  split
  · exact fitIte (fitB (fit_unsupported P _) fun _ => hj) hj
  · exact hj
theorem fit_pieces (a b c d) : Fit P (fun _ => True) 0 (Builtin.pieces a b c d) := by
  unfold Builtin.pieces
  refine fitB (fRi' (fun i _ b => ?_) [0:0] _) fun out => ?_
  · extract_lets out' cst j
    have hj : ∀ o o', Fit P (fun _ => True) 0 (j o o') := by
      intro o o'
      simp -zeta only [j]
      split
      · refine fitB (fit_printOne _ _) fun l => fitB (fAi (fun _ _ => fit_pure P _) _ _) fun _ => fit_pure P _
      · exact fit_stuck P _
    exact fitIte (hj () _) (hj () _)
  · exact fitIte (fit_pure P _) (fit_pure P _)
theorem fit_printMarked (a b c d) : Fit P okNext 0 (Builtin.printMarked a b c d) := by
  unfold Builtin.printMarked
  refine fitB (fit_pieces _ _ _ _) fun ps => ?_
  exact fitIte ⟨rfl, trivial⟩ (fit_piece _ _ _)
theorem fit_builtin (a b c d e) : Fit P okNext 0 (builtin a b c d e) := by
  unfold builtin
  cases a
  all_goals first
    | exact fit_val (fit_Builtin_append_ P _ _ _) | exact fit_val (fit_Builtin_cap_ P _ _ _) | exact fit_val (fit_Builtin_clear_ P _ _ _) | exact fit_val (fit_Builtin_close_ P _ _ _)
    | exact fit_val (fit_Builtin_complex_ P _ _ _) | exact fit_val (fit_Builtin_copy_ P _ _ _) | exact fit_val (fit_Builtin_delete_ P _ _ _) | exact fit_val (fit_Builtin_imag_ P _ _ _)
    | exact fit_val (fit_Builtin_len_ P _ _ _) | exact fit_val (fit_Builtin_max_ P _ _ _) | exact fit_val (fit_Builtin_min_ P _ _ _) | exact fit_val (fit_Instr_panic P _)
    | exact fit_printMarked _ _ _ _ | exact fit_val (fit_Builtin_real_ P _ _ _) | exact fit_ok (n := .recover) trivial | exact fit_stuck P _ | exact fit_val (fit_Builtin_unsafeAdd_ P _ _ _)
    | exact fit_val (fit_Builtin_unsafeSlice_ P _ _ _) | exact fit_val (fit_Builtin_unsafeSliceData_ P _ _ _) | exact fit_val (fit_Builtin_unsafeString_ P _ _ _) | exact fit_val (fit_Builtin_unsafeStringData_ P _ _ _)
    | exact fitB (fit_typeInfo P _) fun _ => ⟨rfl, trivial⟩ | exact fit_unsupported P _
theorem fit_panics {α : Type} {L : α → Prop} (e : RuntimeError) : Fit P L 0 (runtimePanic e : Sem α) := by
  unfold runtimePanic
  repeat' (first | (with_reducible exact fit_goPanic P _) | (with_reducible exact fit_stuck P _) | (with_reducible exact fit_unsupported P _) | (with_reducible exact fit_pure P _) | (with_reducible apply fit_program) | (with_reducible apply fit_newVar) | (with_reducible apply fit_typeStr) | (with_reducible apply fit_elemOf) | (with_reducible apply fit_typeInfo) | (with_reducible apply fitB) | (intro _) | split | (dsimp only))
theorem fit_callFunc (hP : Plain P) (f args) : Fit P okNext 0 (callFunc f args) := by
  unfold callFunc
  show Fit P okNext 0 (match P.funcs[f]? with | none => _ | some fn => _)
  cases hf : P.funcs[f]? with
  | none => exact fit_stuck P _
  | some fn =>
    obtain ⟨hn, hb⟩ := hP f fn hf
    have hn' : (fn.name == "runtime.NumGoroutine") = false := by simpa using hn
    simp only [hn', Bool.false_eq_true, if_false]
    by_cases hbody : fn.body.isNone = true
    · obtain ⟨h1, h2⟩ := hb hbody
      simp only [hbody, if_true, h1]
      refine fitB (fit_marked P (by simp) (by simp)) fun _ => ?_
      cases he : Extern.find fn with
      | some e => exact fit_val (h2 e he args)
      | none => exact fitIte ⟨rfl, trivial⟩ (fit_unsupported P _)
    · simp only [hbody, if_false, Bool.false_eq_true]
      exact ⟨rfl, trivial⟩
theorem fit_callMethod (hP : Plain P) (a b c) : Fit P okNext 0 (callMethod a b c) := by
  unfold callMethod
  split
  · exact fitB (fit_program P) fun _ => fitB (fit_method P _ _ _ _) fun _ => fit_callFunc hP _ _
  · exact fit_panics _
  · exact fit_stuck P _
theorem fit_yield (a b) : Fit P okNext 0 (Instr.yield a b) := by
  unfold Instr.yield
  refine fitB (fit_Instr_getLoop P _) fun r => ?_
  extract_lets j
  exact fitIte (fitB (fit_stuck P _) fun _ => ⟨rfl, trivial⟩) ⟨rfl, trivial⟩
theorem fit_invoke (hP : Plain P) (t args) : Fit P okNext 0 (invoke t args) := by
  unfold invoke
  split
  · exact fit_panics _
  · exact fit_builtin _ _ _ _ _
  · exact fit_callFunc hP _ _
  · split
    · exact fit_callMethod hP _ _ _
    · exact fit_stuck P _
  · split
    · refine fitB (fit_underlying P _) fun _ => ?_
      extract_lets j
      exact fit_callMethod hP _ _ _
    · exact fit_stuck P _
  · split
    · exact fitB (fit_receiverVia P _ _ _ _) fun _ => fit_callFunc hP _ _
    · exact fit_stuck P _
  · exact fit_yield _ _
  · exact fit_stuck P _
  · exact ⟨rfl, trivial⟩
theorem fit_execOp (hP : Plain P) (ρ o) : Fit P okNext 0 (execOp ρ o) := by
  unfold execOp
  extract_lets v u
  have hv : ∀ s, Fit P (fun _ => True) 0 s → Fit P okNext 0 (v s) := fun s h => fit_val h
  have hu : ∀ s, Fit P (fun _ => True) 0 s → Fit P okNext 0 (u s) := fun s h => fit_unit h
  clear_value v u
  split
  all_goals first
    | exact ⟨rfl, trivial⟩
    | exact hv _ (fit_Instr_alloc P _ _ _)
    | exact hv _ (fit_Instr_box P _ _)
    | exact hv _ (fit_Instr_build P _ _)
    | exact hv _ (fit_Instr_buildSlice P _ _ _)
    | exact hv _ (fit_Instr_loadAt P _ _)
    | exact hu _ (fit_Instr_storeAt P _ _ _)
    | exact hu _ (fit_Instr_ready P _)
    | exact hv _ (fit_Instr_waits P _)
    | exact hv _ (fit_Op_unary P _ _)
    | exact hv _ (fit_convert P _ _ _)
    | exact hv _ (fit_Instr_arrayAt P _ _)
    | exact hv _ (fit_Instr_makeInterface P _ _)
    | exact hv _ (fit_Instr_makeFunc P _ _ _)
    | exact hv _ (fit_Instr_makeMap P _ _)
    | exact hv _ (fit_Instr_makeChan P _ _)
    | exact hv _ (fit_Instr_makeSlice P _ _ _)
    | exact hv _ (fit_Instr_sliceAt P _ _ _ _ _)
    | exact hv _ (fit_Instr_fieldAt P _ _ _)
    | exact hv _ (fit_Instr_field P _ _ _)
    | exact hv _ (fit_Instr_indexAt P _ _ _)
    | exact hv _ (fit_Instr_index P _ _ _)
    | exact hv _ (fit_Instr_lookup P _ _ _ _)
    | exact hu _ (fit_Instr_mapUpdate P _ _ _ _)
    | exact hv _ (fit_Instr_mapEntry P _ _ _)
    | exact hu _ (fit_Instr_entryStore P _ _ _ _)
    | exact hv _ (fit_Instr_range P _ _)
    | exact hv _ (fit_Instr_next P _ _ _)
    | exact hv _ (fit_Instr_entry P _)
    | exact hv _ (fit_Instr_typeAssert P _ _ _ _)
    | exact hv _ (fit_Instr_extract P _ _)
    | exact hv _ (fit_Instr_panic P _)
    | exact hv _ (fitB (fit_eqGuard P _ _ _ _ _ _) fun _ => fit_binOp P _ _ _ _)
    | exact fitB (fit_asBool P _) fun _ => ⟨rfl, trivial⟩
    | exact fitB (fit_resolve P _ _ _) fun _ => fit_invoke hP _ _
    | exact fitB (fit_resolve P _ _ _) fun _ => ⟨rfl, trivial⟩
    | skip
  · split
    · exact fit_panics _
    · exact fit_panics _
    · exact fit_panics _
    · split
      · exact fit_panics _
      · refine fitB (fit_program P) fun _ => fitB (fit_nilAhead P _ _ _ _) fun _ => ?_
        exact fitIte (fitB (fit_unsupported P _) fun _ => ⟨rfl, trivial⟩) ⟨rfl, trivial⟩
      · exact ⟨rfl, trivial⟩
    · exact ⟨rfl, trivial⟩
  · refine fitB (fit_underlying P _) fun _ => ?_
    split
    · exact fitB (fit_zeroValue P _) fun _ => ⟨rfl, trivial⟩
    · exact fit_stuck P _
  · refine fitB (fAm (fun _ => fitB (fit_zeroValue P _) fun _ => fit_pure P _) _) fun _ => ⟨rfl, trivial⟩
end Go.Proofs.YtpbbmagjhkakgaaGreatDoor.Lf

namespace Go.Proofs.YtpbbmagjhkakgaaGreatDoor.Lf
open Go Go.Conc
variable {P : Program}
def hearStep (d : Nat) (e : Event) : Nat := match e.loc with | .mark .disable => d + 1 | .mark .enable => d - 1 | _ => d
theorem deafBehind_foldl (d : Nat) (es : Array Event) : deafBehind d es = es.foldl hearStep d := rfl
theorem deafBehind_push (d : Nat) (es : Array Event) (e : Event) : deafBehind d (es.push e) = hearStep (deafBehind d es) e := by
  rw [deafBehind_foldl, deafBehind_foldl, Array.foldl_push]
theorem deafBehind_app (d : Nat) (es es' : Array Event) : deafBehind d (es ++ es') = deafBehind (deafBehind d es) es' := by
  simp only [deafBehind_foldl, Array.foldl_append]
theorem deafBehind_cells (d : Nat) (l : List Addr) (wr at_ : Bool) : deafBehind d (l.toArray.map fun a => (⟨.cell a, wr, at_⟩ : Event)) = d := by
  rw [deafBehind_foldl]
  induction l generalizing d with
  | nil => simp
  | cons a l ih => have := ih d; simp at this ⊢; exact this
def resGo {α : Type} : Result α → Bool
  | .ok _ _ => true
  | .halt (.panic _) _ | .halt .goexit _ => true
  | _ => false
theorem resOn_of_go {α : Type} {r : Result α} (h : resGo r = true) : resOn r = true := by
  cases r with
  | ok a w => rfl
  | halt x w => cases x <;> first | rfl | (simp [resGo] at h)
theorem noCell_not (w : World) (a : Addr) (s : String) (w' : World) {α : Type} : resGo (.halt (w.noCell a s) w' : Result α) = false := by
  unfold World.noCell
  split <;> rfl
theorem farLoad_not {p : Program} {w : World} {a : Addr} {b : Bool} {h : Halt} (hx : w.farLoad p a b = .error h) (w' : World) {α : Type} : resGo (.halt h w' : Result α) = false := by
  unfold World.farLoad at hx
  split at hx
  · split at hx
    · cases hx
    · cases hx; rfl
  · cases hx; exact noCell_not _ _ _ _
theorem farStore_not {p : Program} {w : World} {a : Addr} {v : Value} {b : Bool} {h : Halt} (hx : w.farStore p a v b = .error h) (w' : World) {α : Type} : resGo (.halt h w' : Result α) = false := by
  unfold World.farStore at hx
  split at hx
  · split at hx
    · cases hx
    · cases hx; rfl
  · cases hx; exact noCell_not _ _ _ _
theorem runT_even {α : Type} {L : α → Prop} (s : Sem α) : ∀ (n : Nat) (w : World) (es : Array Event) (b : Nat), Fit P L n s → resGo (s.runT P w es).1 = true → deafBehind b es = n → deafBehind b (s.runT P w es).2 = 0 := by
  induction s with
  | pure a => exact fun n w es b hf _ he => he.trans hf.1
  | load m a k ih =>
    intro n w es b hf ho he
    simp only [Sem.runT] at ho ⊢
    cases hw : w.cell? a with
    | some v => simp only [hw] at ho ⊢; exact ih v n w _ b (hf v) ho (by rw [deafBehind_push, he]; rfl)
    | none =>
      simp only [hw] at ho ⊢
      cases hx : w.farLoad P a (m == .atomic) with
      | ok x => obtain ⟨v, t⟩ := x; simp only [hx] at ho ⊢; exact ih v n w _ b (hf v) ho (by rw [deafBehind_app, he, deafBehind_cells])
      | error e => simp only [hx] at ho; rw [farLoad_not hx] at ho; cases ho
  | store m a v k ih =>
    intro n w es b hf ho he
    cases v with
    | agg x => cases ho
    | tuple x => cases ho
    | _ =>
      simp only [Sem.runT] at ho ⊢
      cases hw : w.cell? a with
      | some u =>
        simp only [hw] at ho ⊢
        split at ho
        · cases ho
        · rename_i hz1
          simp only [hz1, if_false, Bool.false_eq_true]
          exact ih n _ _ b hf ho (by rw [deafBehind_push, he]; rfl)
      | none =>
        simp only [hw] at ho ⊢
        cases hx : w.farStore P a _ (m == Mode.atomic) with
        | ok x => obtain ⟨w', t⟩ := x; simp only [hx] at ho ⊢; exact ih n w' _ b hf ho (by rw [deafBehind_app, he, deafBehind_cells])
        | error e => simp only [hx] at ho; rw [farStore_not hx] at ho; cases ho
  | new o k ih => exact fun n w es b hf ho he => ih w.heap.size n _ es b (hf _) ho he
  | shape r k ih => exact fun n w es b hf ho he => ih (w.shape? r) n w es b (hf _) ho he
  | freeze a c k ih => exact fun n w es b hf ho he => ih n _ es b hf ho he
  | frozen a k ih => exact fun n w es b hf ho he => ih (w.frozen? a) n w es b (hf _) ho he
  | getObj r k ih =>
    intro n w es b hf ho he
    simp only [Sem.runT] at ho ⊢
    cases hw : w.heap[r]? with
    | none => simp only [hw] at ho; cases ho
    | some o =>
      cases o with
      | cells c t z => simp only [hw] at ho; cases ho
      | _ => simp only [hw] at ho ⊢; exact ih _ n w _ b (hf _) ho (by rw [deafBehind_push, he]; rfl)
  | setObj r o k ih =>
    intro n w es b hf ho he
    simp only [Sem.runT] at ho ⊢
    cases hw : w.heap[r]? with
    | none => simp only [hw] at ho; cases ho
    | some x =>
      cases x with
      | cells c t z => simp only [hw] at ho; cases ho
      | _ => simp only [hw] at ho ⊢; exact ih n _ _ b hf ho (by rw [deafBehind_push, he]; rfl)
  | choose q k ih =>
    intro n w es b hf ho he
    simp only [Sem.runT] at ho ⊢
    by_cases hq : q.forced = true
    · simp only [hq, if_true] at ho ⊢; exact ih 0 n w es b (hf _) ho he
    · simp only [hq, if_false, Bool.false_eq_true] at ho ⊢; exact ih _ n _ es b (hf _) ho he
  | sys c k ih => exact fun n w es b hf ho he => ih _ n _ _ b (hf.2 _) ho (by rw [deafBehind_push, he]; rfl)
  | program k ih => exact fun n w es b hf ho he => ih P n w es b hf ho he
  | mark m k ih =>
    intro n w es b hf ho he
    refine ih _ w _ b hf ho ?_
    rw [deafBehind_push, he]
    cases m <;> rfl
  | halt h =>
    intro n w es b hf ho he
    rcases hf with hf | hf
    · exact he.trans hf
    · simp only [Sem.runT] at ho; cases h <;> first | (simp [resGo] at ho; done) | (simp [Ends] at hf; done)
theorem runT_leaf {α : Type} {L : α → Prop} (s : Sem α) : ∀ (n : Nat) (w : World) (es : Array Event) {a : α} {w' : World}, Fit P L n s → (s.runT P w es).1 = .ok a w' → L a := by
  induction s with
  | pure a => intro n w es b w' hf h; simp only [Sem.runT, Result.ok.injEq] at h; exact h.1 ▸ hf.2
  | load m a k ih =>
    intro n w es b w' hf h
    simp only [Sem.runT] at h
    split at h
    · exact ih _ n _ _ (hf _) h
    · split at h
      · exact ih _ n _ _ (hf _) h
      · cases h
  | store m a v k ih =>
    intro n w es b w' hf h
    cases v with
    | agg x => cases h
    | tuple x => cases h
    | _ =>
      simp only [Sem.runT] at h
      split at h
      · split at h
        · cases h
        · exact ih n _ _ hf h
      · split at h
        · exact ih n _ _ hf h
        · cases h
  | new o k ih => intro n w es b w' hf h; exact ih _ n _ _ (hf _) h
  | shape r k ih => intro n w es b w' hf h; exact ih _ n _ _ (hf _) h
  | freeze a c k ih => intro n w es b w' hf h; exact ih n _ _ hf h
  | frozen a k ih => intro n w es b w' hf h; exact ih _ n _ _ (hf _) h
  | getObj r k ih =>
    intro n w es b w' hf h
    simp only [Sem.runT] at h
    split at h
    · cases h
    · exact ih _ n _ _ (hf _) h
    · cases h
  | setObj r o k ih =>
    intro n w es b w' hf h
    simp only [Sem.runT] at h
    split at h
    · cases h
    · exact ih n _ _ hf h
    · cases h
  | choose q k ih =>
    intro n w es b w' hf h
    simp only [Sem.runT] at h
    split at h
    · exact ih _ n _ _ (hf _) h
    · exact ih _ n _ _ (hf _) h
  | sys c k ih => intro n w es b w' hf h; exact ih _ n _ _ (hf.2 _) h
  | program k ih => intro n w es b w' hf h; exact ih _ n _ _ hf h
  | mark m k ih => intro n w es b w' hf h; exact ih _ _ _ hf h
  | halt x => intro n w es b w' hf h; cases h
def Synced (es : Array Event) : Prop := ∀ e ∈ es, (e.loc = .mark .disable ∨ e.loc = .mark .enable) → e.sync = true
theorem Synced.push {es : Array Event} {e : Event} (h : Synced es) (he : (e.loc = .mark .disable ∨ e.loc = .mark .enable) → e.sync = true) : Synced (es.push e) := by
  intro x hx
  rcases Array.mem_push.1 hx with hx | rfl
  · exact h x hx
  · exact he
theorem Synced.cells {es : Array Event} (h : Synced es) (l : List Addr) (wr at_ : Bool) : Synced (es ++ l.toArray.map fun a => (⟨.cell a, wr, at_⟩ : Event)) := by
  intro x hx
  rcases Array.mem_append.1 hx with hx | hx
  · exact h x hx
  · obtain ⟨a, _, rfl⟩ := Array.mem_map.1 hx
    simp
theorem runT_synced {α : Type} (s : Sem α) : ∀ (w : World) (es : Array Event), Synced es → Synced (s.runT P w es).2 := by
  induction s with
  | pure a => exact fun w es h => h
  | load m a k ih =>
    intro w es h
    simp only [Sem.runT]
    split
    · exact ih _ _ _ (h.push (by simp))
    · split
      · exact ih _ _ _ (h.cells _ _ _)
      · exact h
  | store m a v k ih =>
    intro w es h
    cases v with
    | agg x => exact h
    | tuple x => exact h
    | _ =>
      simp only [Sem.runT]
      split
      · split
        · exact h
        · exact ih _ _ (h.push (by simp))
      · split
        · exact ih _ _ (h.cells _ _ _)
        · exact h
  | new o k ih => exact fun w es h => ih _ _ _ h
  | shape r k ih => exact fun w es h => ih _ _ _ h
  | freeze a c k ih => exact fun w es h => ih _ _ h
  | frozen a k ih => exact fun w es h => ih _ _ _ h
  | getObj r k ih =>
    intro w es h
    simp only [Sem.runT]
    split
    · exact h
    · exact ih _ _ _ (h.push (by simp))
    · exact h
  | setObj r o k ih =>
    intro w es h
    simp only [Sem.runT]
    split
    · exact h
    · exact ih _ _ (h.push (by simp))
    · exact h
  | choose q k ih =>
    intro w es h
    simp only [Sem.runT]
    split <;> exact ih _ _ _ h
  | sys c k ih => exact fun w es h => ih _ _ _ (h.push (by simp))
  | program k ih => exact fun w es h => ih _ _ _ h
  | mark m k ih => exact fun w es h => ih _ _ (h.push (by simp))
  | halt x => exact fun w es h => h
theorem seen_even (fn : FuncId) {es : Array Event} (h : Synced es) (b : Nat) : deafBehind b (seen P fn es) = deafBehind b es := by
  unfold seen
  obtain ⟨l⟩ := es
  have key : ∀ (l : List Event) (q : Bool) (kept : Array Event), (∀ e ∈ l, (e.loc = .mark .disable ∨ e.loc = .mark .enable) → e.sync = true) →
      deafBehind b (l.foldl (fun (x : Bool × Array Event) e => match x with | (q, kept) => match e.loc with | .mark (.extern f) => ((P.funcs[f]?).any (·.norace), kept) | _ => (q, if q && !e.sync then kept else kept.push e)) (q, kept)).2 = l.foldl hearStep (deafBehind b kept) := by
    intro l
    induction l with
    | nil => intro q kept _; rfl
    | cons e l ih =>
      intro q kept hs
      simp only [List.foldl_cons]
      have hs' := fun x hx => hs x (List.mem_cons_of_mem _ hx)
      have he := hs e (by simp)
      split
      · rename_i f hf
        rw [ih _ _ hs']
        congr 1
        simp [hearStep, hf]
      · rename_i hne
        rw [ih _ _ hs']
        congr 1
        split
        · rename_i hq
          have hsy : e.sync = false := by simp at hq; exact hq.2
          unfold hearStep
          split
          · rename_i hm; rw [he (.inl hm)] at hsy; cases hsy
          · rename_i hm; rw [he (.inr hm)] at hsy; cases hsy
          · rfl
        · rw [deafBehind_push]
  have := key l ((P.funcs[fn]?).any (·.norace)) #[] (fun e he => h e (by simpa using he))
  simp only [List.foldl_toArray] at this ⊢
  refine this.trans ?_
  rw [deafBehind_foldl, deafBehind_foldl]
  simp
end Go.Proofs.YtpbbmagjhkakgaaGreatDoor.Lf

namespace Go.Proofs.YtpbbmagjhkakgaaGreatDoor.Lf
open Go Go.Conc
variable {P : Program}
def okItem : Item → Prop
  | .extern row _ => row = "runtime.print$piece"
  | .call .. => False
  | _ => True
def okFrame (fr : Frame) : Prop := ∀ it ∈ fr.todo, okItem it
def lowest (g : Goroutine) : Frame := g.callers.getLast?.getD g.frame
structure okG (g : Goroutine) : Prop where
  frame : okFrame g.frame
  callers : ∀ fr ∈ g.callers, okFrame fr
  dying : ∀ d, g.dying = some d → d.calling = true → (lowest g).kind = .report
def Local (dying : Bool) (F : World → GStep) (w : World) : Prop :=
  match F w with
  | .go g w' es => okG g ∧ (dying = true → g.dying ≠ none) ∧ (∀ t, g.status ≠ .sleeping t) ∧ g.status ≠ .parked ∧
      (g.dying = none → g.status = .running → g.offers = none ∧ deafBehind 0 es = 0 ∧ ∃ m, w' = re w' w.tape (w.drawn + m) ∧ ∀ τ d, Alike w m τ d → F (re w τ d) = .go g (re w' τ (d + m)) es)
  | .comm g cs b sh w' es => okG g ∧ g.status = .running ∧ (dying = true → g.dying ≠ none) ∧
      (g.dying = none → g.offers = none ∧ deafBehind 0 es = 0 ∧ ∃ m, w' = re w' w.tape (w.drawn + m) ∧ ∀ τ d, Alike w m τ d → F (re w τ d) = .comm g cs b sh (re w' τ (d + m)) es)
  | .coroswitch g c x w' es => okG g ∧ g.status = .running ∧ (dying = true → g.dying ≠ none) ∧
      (g.dying = none → g.offers = none ∧ deafBehind 0 es = 0 ∧ ∃ m, w' = re w' w.tape (w.drawn + m) ∧ ∀ τ d, Alike w m τ d → F (re w τ d) = .coroswitch g c x (re w' τ (d + m)) es)
  | .spawn .. => True
  | .ended .. => True
  | _ => False
theorem okFrame_finish {fr : Frame} (h : okFrame fr) (v : Value) : okFrame (fr.finish v) := by
  unfold Frame.finish
  split
  all_goals rename_i heq
  all_goals intro it hit
  · simp only [List.mem_cons] at hit
    rcases hit with rfl | hit
    · exact trivial
    · exact h it (by rw [heq]; exact List.mem_cons_of_mem _ hit)
  · simp only [List.mem_cons] at hit
    rcases hit with rfl | hit
    · exact trivial
    · exact h it (by rw [heq]; exact List.mem_cons_of_mem _ hit)
  · exact h it (by rw [heq]; exact List.mem_cons_of_mem _ hit)
  · exact (h (.call _ _ _ _) (by rw [heq]; exact List.mem_cons_self) : False).elim
  · exact h it (by rw [heq]; exact List.mem_cons_of_mem _ hit)
  · exact h it hit
theorem okFrame_of_sub {fr : Frame} (h : okFrame fr) {fr' : Frame} (hs : ∀ it ∈ fr'.todo, it ∈ fr.todo ∨ okItem it) : okFrame fr' := fun it hit => (hs it hit).elim (h it) id
theorem okFrame_enter (f : FuncId) (args : Array Value) (k : CallKind) : okFrame (Frame.enter P f args k) := by
  intro it hit
  simp only [Frame.enter, List.mem_singleton] at hit
  subst hit; exact trivial
theorem okFrame_round (l : Nat) (f : FuncId) (t : Array Value) (a b : Code) (k : CallKind) : okFrame (Frame.round l f t a b k) := by
  intro it hit
  simp only [Frame.round, List.mem_cons, List.not_mem_nil, or_false] at hit
  rcases hit with rfl | rfl | rfl <;> exact trivial
theorem okFrame_row (args : Array Value) (k : CallKind) : okFrame (Frame.ofRow P "runtime.print$piece" args k) := by
  intro it hit
  simp only [Frame.ofRow, List.mem_singleton] at hit
  subst hit; rfl
theorem okFrame_mode {fr : Frame} (h : okFrame fr) {fr' : Frame} (ht : fr'.todo = fr.todo) : okFrame fr' := by unfold okFrame; rw [ht]; exact h
theorem okFrame_raise {fr : Frame} (h : okFrame fr) (vs : List PanicEntry) : okFrame (fr.raise vs) := by unfold Frame.raise; split <;> exact okFrame_mode h rfl
theorem finish_kind (fr : Frame) (v : Value) : (fr.finish v).kind = fr.kind := by unfold Frame.finish; split <;> rfl
theorem raise_kind (fr : Frame) (v : List PanicEntry) : (fr.raise v).kind = fr.kind := by unfold Frame.raise; split <;> rfl
theorem okG.top {g : Goroutine} (h : okG g) {fr : Frame} (hf : okFrame fr) (hk : fr.kind = g.frame.kind) (st : GoStatus) (off : Option (Array CommCase × CommShape)) : okG { frame := fr, callers := g.callers, status := st, dying := g.dying, offers := off } := by
  refine ⟨hf, h.callers, fun d hd hc => ?_⟩
  have := h.dying d hd hc
  unfold lowest at this ⊢
  cases hl : g.callers.getLast? with
  | none => rw [hl] at this; simp only [Option.getD_none] at this ⊢; rw [hk]; exact this
  | some x => rw [hl] at this; simp only [Option.getD_some] at this ⊢; exact this
theorem okG.push {g : Goroutine} (h : okG g) {fr fr' : Frame} (hf : okFrame fr) (hf' : okFrame fr') (hk : fr'.kind = g.frame.kind) (st : GoStatus) : okG { frame := fr, callers := fr' :: g.callers, status := st, dying := g.dying } := by
  refine ⟨hf, fun x hx => ?_, fun d hd hc => ?_⟩
  · rcases List.mem_cons.1 hx with rfl | hx
    · exact hf'
    · exact h.callers x hx
  · have := h.dying d hd hc
    unfold lowest at this ⊢
    cases hl : g.callers.getLast? with
    | none =>
      have hn : g.callers = [] := by simpa using hl
      rw [hl] at this
      simp only [hn, List.getLast?_singleton, Option.getD_some, Option.getD_none] at this ⊢
      rw [hk]; exact this
    | some x =>
      rw [hl] at this
      have e : (fr' :: g.callers).getLast? = some x := by
        rw [List.getLast?_cons]; simp [hl]
      simp only [e, Option.getD_some]
      exact this
theorem okG.pop {g : Goroutine} (h : okG g) {c : Frame} {rest : List Frame} (hc : g.callers = c :: rest) {fr : Frame} (hf : okFrame fr) (hk : fr.kind = c.kind) (st : GoStatus) : okG { frame := fr, callers := rest, status := st, dying := g.dying } := by
  refine ⟨hf, fun x hx => h.callers x (by rw [hc]; exact List.mem_cons_of_mem _ hx), fun d hd hca => ?_⟩
  have := h.dying d hd hca
  unfold lowest at this ⊢
  rw [hc, List.getLast?_cons] at this
  cases hl : rest.getLast? with
  | none => simp only [hl, Option.getD_none, Option.getD_some] at this ⊢; rw [hk]; exact this
  | some x => simp only [hl, Option.getD_some] at this ⊢; exact this
theorem okG.dead {g : Goroutine} {d : Dying} (hd : g.dying = some d) (hc : d.calling = false) (hf : okFrame g.frame) (hcs : ∀ fr ∈ g.callers, okFrame fr) : okG g :=
  ⟨hf, hcs, fun e he hce => by rw [hd] at he; cases he; rw [hc] at hce; cases hce⟩
def Made (dying : Bool) {α : Type} (r : Result α) (K : Result α → GStep) (x : GStep) : Prop := match x with
      | .go g w' es => es = #[] ∧ okG g ∧ (dying = true → g.dying ≠ none) ∧ (∀ t, g.status ≠ .sleeping t) ∧ g.status ≠ .parked ∧
          (g.dying = none → g.status = .running → g.offers = none ∧ resGo r = true ∧ ∀ τ d, K (reR τ d r) = .go g (re w' τ d) #[])
      | .comm g cs b sh w' es => es = #[] ∧ okG g ∧ g.status = .running ∧ (dying = true → g.dying ≠ none) ∧
          (g.dying = none → g.offers = none ∧ resGo r = true ∧ ∀ τ d, K (reR τ d r) = .comm g cs b sh (re w' τ d) #[])
      | .coroswitch g c x w' es => es = #[] ∧ okG g ∧ g.status = .running ∧ (dying = true → g.dying ≠ none) ∧
          (g.dying = none → g.offers = none ∧ resGo r = true ∧ ∀ τ d, K (reR τ d r) = .coroswitch g c x (re w' τ d) #[])
      | .spawn .. => True
      | .ended .. => True
      | _ => False
theorem local_shift {dying : Bool} {F E : World → GStep} {w w' : World} {m : Nat} (h0 : F w = E w') (h1 : w' = re w' w.tape (w.drawn + m)) (h2 : ∀ τ d, Alike w m τ d → F (re w τ d) = E (re w' τ (d + m))) (h : Local dying E w') : Local dying F w := by
  have e1 : w'.tape = w.tape := by rw [h1]; rfl
  have e2 : w'.drawn = w.drawn + m := by rw [h1]; rfl
  have key : ∀ m' w'' (X : World → GStep), (w'' = re w'' w'.tape (w'.drawn + m') ∧ ∀ τ d, Alike w' m' τ d → E (re w' τ d) = X (re w'' τ (d + m'))) →
      ∃ n, w'' = re w'' w.tape (w.drawn + n) ∧ ∀ τ d, Alike w n τ d → F (re w τ d) = X (re w'' τ (d + n)) := by
    rintro m' w'' X ⟨a, b⟩
    refine ⟨m + m', by rw [e1, e2] at a; rw [← Nat.add_assoc]; exact a, fun τ d ha => ?_⟩
    rw [h2 τ d fun j hj => ha j (by omega), ← Nat.add_assoc]
    refine b τ (d + m) fun j hj => ?_
    rw [e1, e2]; have := ha (m + j) (by omega); rw [← Nat.add_assoc] at this; rw [this, ← Nat.add_assoc]
  unfold Local at h ⊢
  rw [h0]
  generalize E w' = x at h ⊢
  cases x with
  | go g w'' es =>
    obtain ⟨a1, a2, a3, a4, a5⟩ := h
    exact ⟨a1, a2, a3, a4, fun x y => let ⟨b1, b2, m', b3, b4⟩ := a5 x y; ⟨b1, b2, key m' w'' (fun v => .go g v es) ⟨b3, b4⟩⟩⟩
  | comm g cs b sh w'' es =>
    obtain ⟨a1, a0, a2, a5⟩ := h
    exact ⟨a1, a0, a2, fun x => let ⟨b1, b2, m', b3, b4⟩ := a5 x; ⟨b1, b2, key m' w'' (fun v => .comm g cs b sh v es) ⟨b3, b4⟩⟩⟩
  | coroswitch g c y w'' es =>
    obtain ⟨a1, a0, a2, a5⟩ := h
    exact ⟨a1, a0, a2, fun x => let ⟨b1, b2, m', b3, b4⟩ := a5 x; ⟨b1, b2, key m' w'' (fun v => .coroswitch g c y v es) ⟨b3, b4⟩⟩⟩
  | spawn => exact trivial
  | ended => exact trivial
  | _ => exact h.elim
theorem local_run {α : Type} {L : α → Prop} {s : Sem α} (hs : Fit P L 0 s) (dying : Bool) (fn : FuncId) (K : Result α → GStep) (w : World) {F : World → GStep}
    (hF : ∀ w, ∃ es, F w = GStep.after es (K (s.runT P w #[]).1) ∧ (resGo (s.runT P w #[]).1 = true → es = seen P fn (s.runT P w #[]).2 ∨ es = #[]) ∧
      ∀ w', (s.runT P w' #[]).2 = (s.runT P w #[]).2 → resGo (s.runT P w #[]).1 = true → resGo (s.runT P w' #[]).1 = true → F w' = GStep.after es (K (s.runT P w' #[]).1))
    (hK : Made dying (s.runT P w #[]).1 K (K (s.runT P w #[]).1)) :
    Local dying F w := by
  unfold Local
  obtain ⟨ev, hF1, hF2, hF3⟩ := hF w
  have h0 := hK
  clear hK
  unfold Made at h0
  have hev : resGo (s.runT P w #[]).1 = true → deafBehind 0 ev = 0 := fun h => by
    rcases hF2 h with rfl | rfl
    · rw [seen_even fn (runT_synced s w #[] (fun e he => by simp at he))]
      exact runT_even s 0 w #[] 0 hs h rfl
    · rfl
  have hal := fun h => runT_alike P s 0 w #[] hs (resOn_of_go h)
  rw [hF1]
  clear hF1 hF2
  generalize hx : s.runT P w #[] = x at h0 hev hal hF3 ⊢
  obtain ⟨r, es⟩ := x
  simp only at h0 hev hal hF3 ⊢
  have hgo : ∀ τ d, resGo (reR τ d r) = resGo r := fun τ d => by cases r with | ok a w => rfl | halt x w => cases x <;> rfl
  generalize hk : K r = k at h0 ⊢
  cases k with
  | go g w' es' =>
    obtain ⟨rfl, h1, h2, h3, h4, h5⟩ := h0
    refine ⟨h1, h2, h3, h4, fun hd hr => ?_⟩
    obtain ⟨h6, h7, h9⟩ := h5 hd hr
    obtain ⟨m, e1, e2⟩ := hal h7
    refine ⟨h6, by simpa [GStep.after] using hev h7, m, ?_, fun τ d ha => ?_⟩
    · have := h9 w.tape (w.drawn + m)
      rw [← e1, hk] at this
      simp only [GStep.go.injEq, true_and, and_true] at this
      exact this
    · have hw := e2 τ d ha
      rw [hF3 (re w τ d) (by rw [hw]) h7 (by rw [hw]; simp only [hgo]; exact h7), hw]
      simp only [h9, GStep.after]
  | comm g cs b sh w' es' =>
    obtain ⟨rfl, h1, h00, h2, h5⟩ := h0
    refine ⟨h1, h00, h2, fun hd => ?_⟩
    obtain ⟨h6, h7, h9⟩ := h5 hd
    obtain ⟨m, e1, e2⟩ := hal h7
    refine ⟨h6, by simpa [GStep.after] using hev h7, m, ?_, fun τ d ha => ?_⟩
    · have := h9 w.tape (w.drawn + m)
      rw [← e1, hk] at this
      simp only [GStep.comm.injEq, true_and, and_true] at this
      exact this
    · have hw := e2 τ d ha
      rw [hF3 (re w τ d) (by rw [hw]) h7 (by rw [hw]; simp only [hgo]; exact h7), hw]
      simp only [h9, GStep.after]
  | coroswitch g c y w' es' =>
    obtain ⟨rfl, h1, h00, h2, h5⟩ := h0
    refine ⟨h1, h00, h2, fun hd => ?_⟩
    obtain ⟨h6, h7, h9⟩ := h5 hd
    obtain ⟨m, e1, e2⟩ := hal h7
    refine ⟨h6, by simpa [GStep.after] using hev h7, m, ?_, fun τ d ha => ?_⟩
    · have := h9 w.tape (w.drawn + m)
      rw [← e1, hk] at this
      simp only [GStep.coroswitch.injEq, true_and, and_true] at this
      exact this
    · have hw := e2 τ d ha
      rw [hF3 (re w τ d) (by rw [hw]) h7 (by rw [hw]; simp only [hgo]; exact h7), hw]
      simp only [h9, GStep.after]
  | spawn => exact trivial
  | ended => exact trivial
  | _ => exact h0.elim
def made (P : Program) (fr : Frame) (callers : List Frame) (dying : Option Dying) : Result Next → GStep
  | .ok a w => stepG.apply P false fr callers dying (.pure a) w
  | .halt h w => stepG.apply P false fr callers dying (.halt h) w
end Go.Proofs.YtpbbmagjhkakgaaGreatDoor.Lf
