import Derived.Test.YtpbbmagjhkakgaaGreatDoorLfFits
namespace Go.Proofs.YtpbbmagjhkakgaaGreatDoor.Lf
open Go
def cX:Next->Prop
 | .value _ | .skip | .enter .. | .round .. | .defer _ | .recover | .spawn _ | .comm .. | .coroswitch ..=>True
 | .row r _=>r = "runtime.print$piece"
 | _=>False
def Plain (P:Program):Prop:=∀ (f:FuncId) (fn:Func),P.funcs[f]? = some fn->fn.name≠ "runtime.NumGoroutine"/\(fn.body.isNone=true->Extern.findNext fn=none/\∀ e,Extern.find fn=some e->∀ args,Fit P (fun _=>True) 0 (e args))
variable {P : Program}
theorem dF {s:Sem Value} (h:Fit P (fun _=>True) 0 s):Fit P cX 0 (do pure (.value (<- s)):Sem Next):=aQ h fun _=>⟨rfl,trivial⟩
theorem fit_unit {s:Sem Unit} (h:Fit P (fun _=>True) 0 s):Fit P cX 0 (do s;pure .skip:Sem Next):=aQ h fun _=>⟨rfl,trivial⟩
theorem fit_ok {n:Next} (h:cX n):Fit P cX 0 (pure n:Sem Next):=⟨rfl,h⟩
theorem fit_held (d:Nat) {β:Type} {M:β->Prop} {f:Bool->Sem β} (hf:∀ b,Fit P M d (f b)):Fit P M d (Extern.PrintPieces.held >>= f):=by
 unfold Extern.PrintPieces.held
 intro v
 show Fit P M d (Sem.bind _ f)
 cases v<;>first | exact hf _ | exact .inr rfl
theorem fit_writeFd (n b):Fit P (fun _=>True) 0 (writeFd n b):=by
 unfold writeFd
 refine ⟨⟨_,rfl,rfl⟩,fun r=>?_⟩
 cases r<;>first | exact .inl rfl | exact ⟨rfl,trivial⟩
theorem fit_piece (x y args):Fit P cX 0 (Extern.PrintPieces.piece x y args):=by
 unfold Extern.PrintPieces.piece
 split
 ·rename_i first _
  split
  ·rename_i p _
   extract_lets last j1 j2 j3 j4 j5
   have h1:Fit P cX 0 (j1 ()):=⟨rfl,trivial⟩
   have h2:Fit P cX 0 (j2 ()):=by
    refine aQ (fit_writeFd _ _) fun _=>ck ⟨rfl,rfl⟩ (ck ?_ h1)
    exact h1
   have h3:Fit P cX 1 (j3 ()):=h2
   have h4:Fit P cX 1 (j4 ()):=by
    show Fit P cX 1 (if (!last)=true then _ else _)
    split
    ·exact h3
    ·exact h3
   have h5:Fit P cX 0 (j5 ()):=by
    show Fit P cX 0 (if first=true then _ else _)
    split
    ·show Fit P cX 1 (Extern.PrintPieces.held >>= _)
     refine fit_held 1 fun b=>?_
     split
     ·exact .inr rfl
     ·exact h4
    ·exact h2
   exact ck (.inl rfl) h5
  ·exact ag P _
 ·exact ag P _
theorem fLi' {α β:Type} {l:List α}:∀ {f:(a:α)->a∈l->β->Sem (ForInStep β)} (_:∀ a h b,Fit P (fun _=>True) 0 (f a h b)) (b:β),Fit P (fun _=>True) 0 (forIn' l b f):=by
 induction l with
 | nil=>intro f _ b;rw [List.forIn'_nil];exact aq P _
 | cons a l ih=>intro f hf b;rw [List.forIn'_cons];refine aQ (hf _ _ _) fun r=>?_;split<;>first | exact aq P _ | exact ih (fun _ _ _=>hf _ _ _) _
theorem fRi' {β:Type} {l:Std.Legacy.Range} {f:(a:Nat)->a∈l->β->Sem (ForInStep β)} (hf:∀ a h b,Fit P (fun _=>True) 0 (f a h b)) (_l:Std.Legacy.Range) (b:β):Fit P (fun _=>True) 0 (forIn' l b f):=by
 rw [Std.Legacy.Range.forIn'_eq_forIn'_range'];exact fLi' (fun _ _ _=>hf _ _ _) _
theorem fit_printOne (t v):Fit P (fun _=>True) 0 (Builtin.printOne t v):=by
 unfold Builtin.printOne
 refine aQ (bg P _) fun i=>?_
 extract_lets j
 have hj:Fit P (fun _=>True) 0 (j ()):=by
  simp -zeta only [j]
  cases v with
  | pointer r=>cases r<;>first | exact aq P _ | exact aF P _
  | map r=>cases r<;>first | exact aq P _ | exact aF P _
  | chan r=>cases r<;>first | exact aq P _ | exact aF P _
  | slice r _ _=>cases r<;>first | exact aq P _ | exact aF P _
  | _=>first | exact aq P _ | exact aF P _ | exact ag P _
 split
 ·exact ck (aQ (aF P _) fun _=>hj) hj
 ·exact hj
theorem fit_pieces (a b c d):Fit P (fun _=>True) 0 (Builtin.pieces a b c d):=by
 unfold Builtin.pieces
 refine aQ (fRi' (fun i _ b=>?_) [0:0] _) fun out=>?_
 ·extract_lets out' cst j
  have hj:∀ o o',Fit P (fun _=>True) 0 (j o o'):=by
   intro o o'
   simp -zeta only [j]
   split
   ·refine aQ (fit_printOne _ _) fun l=>aQ (fAi (fun _ _=>aq P _) _ _) fun _=>aq P _
   ·exact ag P _
  exact ck (hj () _) (hj () _)
 ·exact ck (aq P _) (aq P _)
theorem fit_printMarked (a b c d):Fit P cX 0 (Builtin.printMarked a b c d):=by
 unfold Builtin.printMarked
 refine aQ (fit_pieces _ _ _ _) fun ps=>?_
 exact ck ⟨rfl,trivial⟩ (fit_piece _ _ _)
theorem fit_builtin (a b c d e):Fit P cX 0 (builtin a b c d e):=by
 unfold builtin
 cases a
 all_goals first
  | exact dF (sD P _ _ _) | exact dF (fit_Builtin_cap_ P _ _ _) | exact dF (tF P _ _ _) | exact dF (tG P _ _ _)
  | exact dF (qZ P _ _ _) | exact dF (uE P _ _ _) | exact dF (sF P _ _ _) | exact dF (uF P _ _ _)
  | exact dF (oz P _ _ _) | exact dF (fit_Builtin_max_ P _ _ _) | exact dF (fit_Builtin_min_ P _ _ _) | exact dF (qi P _)
  | exact fit_printMarked _ _ _ _ | exact dF (uG P _ _ _) | exact fit_ok (n:=.recover) trivial | exact ag P _ | exact dF (fL P _ _ _)
  | exact dF (nV P _ _ _) | exact dF (kD P _ _ _) | exact dF (m_ P _ _ _) | exact dF (km P _ _ _)
  | exact aQ (bg P _) fun _=>⟨rfl,trivial⟩ | exact aF P _
theorem fQ {α:Type} {L:α->Prop} (e:RuntimeError):Fit P L 0 (runtimePanic e:Sem α):=by
 unfold runtimePanic
 repeat' (first | (with_reducible exact iG P _) | (with_reducible exact ag P _) | (with_reducible exact aF P _) | (with_reducible exact aq P _) | (with_reducible apply bI) | (with_reducible apply iu) | (with_reducible apply gD) | (with_reducible apply fO) | (with_reducible apply bg) | (with_reducible apply aQ) | (intro _) | split | (dsimp only))
theorem pN (hP:Plain P) (f args):Fit P cX 0 (callFunc f args):=by
 unfold callFunc
 show Fit P cX 0 (match P.funcs[f]? with | none=>_ | some fn=>_)
 cases hf:P.funcs[f]? with
 | none=>exact ag P _
 | some fn =>
  obtain ⟨hn,hb⟩:=hP f fn hf
  have hn':(fn.name== "runtime.NumGoroutine")=false:=by simpa using hn
  simp only [hn',Bool.false_eq_true,if_false]
  by_cases hbody:fn.body.isNone=true
  ·obtain ⟨h1,h2⟩:=hb hbody
   simp only [hbody,if_true,h1]
   refine aQ (iq P (by simp) (by simp)) fun _=>?_
   cases he:Extern.find fn with
   | some e=>exact dF (h2 e he args)
   | none=>exact ck ⟨rfl,trivial⟩ (aF P _)
  ·simp only [hbody,if_false,Bool.false_eq_true]
   exact ⟨rfl,trivial⟩
theorem rq (hP:Plain P) (a b c):Fit P cX 0 (callMethod a b c):=by
 unfold callMethod
 split
 ·exact aQ (bI P) fun _=>aQ (fit_method P _ _ _ _) fun _=>pN hP _ _
 ·exact fQ _
 ·exact ag P _
theorem fit_yield (a b):Fit P cX 0 (Instr.yield a b):=by
 unfold Instr.yield
 refine aQ (dE P _) fun r=>?_
 extract_lets j
 exact ck (aQ (ag P _) fun _=>⟨rfl,trivial⟩) ⟨rfl,trivial⟩
theorem pQ (hP:Plain P) (t args):Fit P cX 0 (invoke t args):=by
 unfold invoke
 split
 ·exact fQ _
 ·exact fit_builtin _ _ _ _ _
 ·exact pN hP _ _
 ·split
  ·exact rq hP _ _ _
  ·exact ag P _
 ·split
  ·refine aQ (bd P _) fun _=>?_
   extract_lets j
   exact rq hP _ _ _
  ·exact ag P _
 ·split
  ·exact aQ (fit_receiverVia P _ _ _ _) fun _=>pN hP _ _
  ·exact ag P _
 ·exact fit_yield _ _
 ·exact ag P _
 ·exact ⟨rfl,trivial⟩
theorem fit_execOp (hP:Plain P) (ρ o):Fit P cX 0 (execOp ρ o):=by
 unfold execOp
 extract_lets v u
 have hv:∀ s,Fit P (fun _=>True) 0 s->Fit P cX 0 (v s):=fun s h=>dF h
 have hu:∀ s,Fit P (fun _=>True) 0 s->Fit P cX 0 (u s):=fun s h=>fit_unit h
 clear_value v u
 split
 all_goals first
  | exact ⟨rfl,trivial⟩
  | exact hv _ (fit_Instr_alloc P _ _ _)
  | exact hv _ (fit_Instr_box P _ _)
  | exact hv _ (fit_Instr_build P _ _)
  | exact hv _ (rf P _ _ _)
  | exact hv _ (fit_Instr_loadAt P _ _)
  | exact hu _ (uP P _ _ _)
  | exact hu _ (fit_Instr_ready P _)
  | exact hv _ (fit_Instr_waits P _)
  | exact hv _ (fit_Op_unary P _ _)
  | exact hv _ (fit_convert P _ _ _)
  | exact hv _ (uI P _ _)
  | exact hv _ (oA P _ _)
  | exact hv _ (tJ P _ _ _)
  | exact hv _ (uN P _ _)
  | exact hv _ (tI P _ _)
  | exact hv _ (sK P _ _ _)
  | exact hv _ (uO P _ _ _ _ _)
  | exact hv _ (uL P _ _ _)
  | exact hv _ (fit_Instr_field P _ _ _)
  | exact hv _ (uM P _ _ _)
  | exact hv _ (fit_Instr_index P _ _ _)
  | exact hv _ (fit_Instr_lookup P _ _ _ _)
  | exact hu _ (sL P _ _ _ _)
  | exact hv _ (tK P _ _ _)
  | exact hu _ (rh P _ _ _ _)
  | exact hv _ (fit_Instr_range P _ _)
  | exact hv _ (fit_Instr_next P _ _ _)
  | exact hv _ (fit_Instr_entry P _)
  | exact hv _ (rk P _ _ _ _)
  | exact hv _ (uK P _ _)
  | exact hv _ (qi P _)
  | exact hv _ (aQ (fit_eqGuard P _ _ _ _ _ _) fun _=>fit_binOp P _ _ _ _)
  | exact aQ (pL P _) fun _=>⟨rfl,trivial⟩
  | exact aQ (nF P _ _ _) fun _=>pQ hP _ _
  | exact aQ (nF P _ _ _) fun _=>⟨rfl,trivial⟩
  | skip
 ·split
  ·exact fQ _
  ·exact fQ _
  ·exact fQ _
  ·split
   ·exact fQ _
   ·refine aQ (bI P) fun _=>aQ (fit_nilAhead P _ _ _ _) fun _=>?_
    exact ck (aQ (aF P _) fun _=>⟨rfl,trivial⟩) ⟨rfl,trivial⟩
   ·exact ⟨rfl,trivial⟩
  ·exact ⟨rfl,trivial⟩
 ·refine aQ (bd P _) fun _=>?_
  split
  ·exact aQ (cd P _) fun _=>⟨rfl,trivial⟩
  ·exact ag P _
 ·refine aQ (fAm (fun _=>aQ (cd P _) fun _=>aq P _) _) fun _=>⟨rfl,trivial⟩
end Go.Proofs.YtpbbmagjhkakgaaGreatDoor.Lf
