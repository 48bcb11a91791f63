import Derived.Test.YtpbbmagjhkakgaaGreatDoorEvTake2ToLfTape
import GoSem.Dispatch
import Derived.Laws.Sem
import Derived.Conc.Beside
namespace Go.Proofs.YtpbbmagjhkakgaaGreatDoor
namespace Lf
open Go
variable (P : Program)
abbrev FT {α:Type} (s:Sem α):Prop:=Fit P (fun _=>True) 0 s
theorem aq {α:Type} (a:α):FT P (pure a:Sem α):=⟨rfl,trivial⟩
theorem aQ {P:Program} {α β:Type} {M:β->Prop} {s:Sem α} {f:α->Sem β} (hs:Fit P (fun _=>True) 0 s) (hf:∀ a,Fit P M 0 (f a)):Fit P M 0 (s >>= f):=fit_bind (fun a _=>hf a) hs
theorem fitM {P:Program} {α β:Type} {s:Sem α} {f:α->β} (hs:Fit P (fun _=>True) 0 s):FT P (f <$> s):=fit_bind (L:=fun _=>True) (f:=fun a=>pure (f a)) (fun _ _=>aq P _) hs
theorem mH (a m):FT P (load a m):=fun _=>⟨rfl,trivial⟩
theorem fit_store (a v m):FT P (store a v m):=⟨rfl,trivial⟩
theorem fP (o):FT P (newObj o):=fun _=>⟨rfl,trivial⟩
theorem fo (o):FT P (shape o):=fun _=>⟨rfl,trivial⟩
theorem pO (a n):FT P (freeze a n):=⟨rfl,trivial⟩
theorem pP (a):FT P (frozen a):=fun _=>⟨rfl,trivial⟩
theorem dJ (r):FT P (getObj r):=fun _=>⟨rfl,trivial⟩
theorem fS (r o):FT P (setObj r o):=⟨rfl,trivial⟩
theorem bD (q):FT P (choose q):=fun _=>⟨rfl,trivial⟩
theorem bI:Fit P (fun _=>True) 0 program:=⟨rfl,trivial⟩
theorem ag {α:Type} {L:α->Prop} (s:String):Fit P L 0 (stuck s:Sem α):=.inl rfl
theorem aF {α:Type} {L:α->Prop} (s):Fit P L 0 (unsupported s:Sem α):=.inl rfl
theorem iG {α:Type} {L:α->Prop} (s):Fit P L 0 (goPanic s:Sem α):=.inl rfl
theorem fit_throw {α:Type} {L:α->Prop} (s):Fit P L 0 (throw s:Sem α):=.inl rfl
theorem fit_askRoom (n):FT P (askRoom n):=by unfold askRoom;split<;>exact ⟨rfl,trivial⟩
theorem fLi {P:Program} {α β:Type} {f:α->β->Sem (ForInStep β)} (hf:∀ a b,Fit P (fun _=>True) 0 (f a b)) (l:List α):∀ b,Fit P (fun _=>True) 0 (forIn l b f):=by
 induction l with
 | nil=>intro b;rw [List.forIn_nil];exact aq P _
 | cons a l ih=>intro b;rw [List.forIn_cons];refine aQ (hf _ _) fun r=>?_;split<;>first | exact aq P _ | exact ih _
theorem fAi {P:Program} {α β:Type} {f:α->β->Sem (ForInStep β)} (hf:∀ a b,Fit P (fun _=>True) 0 (f a b)) (l:Array α) (b:β):FT P (forIn l b f):=by
 rw [<- Array.forIn_toList];exact fLi hf _ _
theorem fRi {P:Program} {β:Type} {f:Nat->β->Sem (ForInStep β)} (hf:∀ a b,Fit P (fun _=>True) 0 (f a b)) (l:Std.Legacy.Range) (b:β):FT P (forIn l b f):=by
 rw [Std.Legacy.Range.forIn_eq_forIn_range'];exact fLi hf _ _
theorem fFo {P:Program} {α β:Type} {f:β->α->Sem β} (hf:∀ a b,Fit P (fun _=>True) 0 (f a b)) (l:List α):∀ b,Fit P (fun _=>True) 0 (List.foldlM f b l):=by
 induction l with
 | nil=>intro b;exact aq P _
 | cons a l ih=>intro b;rw [List.foldlM_cons];exact aQ (hf _ _) fun r=>ih _
theorem fLm {P:Program} {α β:Type} {f:α->Sem β} (hf:∀ a,Fit P (fun _=>True) 0 (f a)) (l:List α):FT P (List.mapM f l):=by
 rw [List.mapM_eq_reverse_foldlM_cons];exact fitM (fFo (fun _ a=>fitM (hf a)) _ _)
theorem fAm {P:Program} {α β:Type} {f:α->Sem β} (hf:∀ a,Fit P (fun _=>True) 0 (f a)) (l:Array α):FT P (Array.mapM f l):=by
 rw [Array.mapM_eq_mapM_toList];exact fitM (fLm hf _)
theorem ck {P:Program} {α:Type} {L:α->Prop} {c:Prop} [Decidable c] {x y:Sem α} (hx:Fit P L 0 x) (hy:Fit P L 0 y):Fit P L 0 (if c then x else y):=by split<;>assumption
theorem iq {m:Mark} (h:m≠.disable) (h':m≠.enable):FT P (mark m):=by
 unfold mark Fit
 cases m<;>first | exact absurd rfl h | exact absurd rfl h' | exact ⟨rfl,trivial⟩
theorem zA0 {T :Prop}  (h:T:=by (try dsimp only);repeat' (first | (with_reducible first | exact aq _ _ | apply ag | apply aF | apply bI | apply fo | apply dJ | apply bD | apply aQ) | intro _ | split | dsimp only | trivial)):T:=h
theorem zA1 {T A:Prop} (p:A) (h:A->T:=by intro p;(try dsimp only);repeat' (first | (with_reducible first | exact aq _ _ | apply p | apply ag | apply aF | apply bI | apply fo | apply dJ | apply bD | apply aQ) | intro _ | split | dsimp only | trivial)):T:=h p
theorem zA3 {T A B C:Prop} (p:A) (q:B) (r:C) (h:A->B->C->T:=by intro p q r;(try dsimp only);repeat' (first | (with_reducible first | exact aq _ _ | apply p | apply q | apply r | apply ag | apply aF | apply bI | apply fo | apply dJ | apply bD | apply aQ) | intro _ | split | dsimp only | trivial)):T:=h p q r
theorem zA4 {T A B C D:Prop} (p:A) (q:B) (r:C) (s:D) (h:A->B->C->D->T:=by intro p q r s;(try dsimp only);repeat' (first | (with_reducible first | exact aq _ _ | apply p | apply q | apply r | apply s | apply ag | apply aF | apply bI | apply fo | apply dJ | apply bD | apply aQ) | intro _ | split | dsimp only | trivial)):T:=h p q r s
theorem pL (x0):FT P (@Go.asBool x0):=by
 unfold Go.asBool
 exact zA0
theorem bd (x0):FT P (@Go.underlying x0):=by
 unfold Go.underlying
 exact zA0
theorem fit_isAgg (x0):FT P (@Go.isAgg x0):=by
 unfold Go.isAgg
 exact zA1 (@bd P)
theorem bg (x0):FT P (@Go.typeInfo x0):=by
 unfold Go.typeInfo
 exact zA0
theorem dK (x0):FT P (@Go.sizeOf x0):=by
 unfold Go.sizeOf
 exact zA1 (@bg P)
theorem uS (x0 x1 x2 x3):FT P (loadCellsFrom x0 x1 x2 x3):=by
 induction x2 generalizing x1 x3 with
 | zero=>exact aq P _
 | succ n ih=>unfold loadCellsFrom;exact aQ (mH P _ _) fun _=>ih _ _
theorem j_ (x0 x1):FT P (@Go.loadCells x0 x1):=by
 unfold Go.loadCells
 exact zA1 (@uS P)
theorem fF (x0 x1):FT P (@Go.loadVar x0 x1):=by
 unfold Go.loadVar
 exact zA4 (@fit_isAgg P) (@dK P) (@j_ P) (@mH P)
theorem gY (x0 x1):FT P (@Go.Place.get x0 x1):=by
 unfold Go.Place.get
 exact zA1 (@fF P)
theorem uU (x0):FT P (@Go.numberAt x0):=by
 unfold Go.numberAt
 exact zA0
theorem gM (x0):FT P (@Go.behindNumber x0):=by
 unfold Go.behindNumber
 exact zA1 (@uU P)
theorem mK (x0):FT P (@Go.viewAt x0):=by
 unfold Go.viewAt
 exact zA0
theorem tO (x0):FT P (@Go.noView x0):=by
 unfold Go.noView
 exact zA1 (@mK P)
theorem mF (x0):FT P (@Go.byteOf x0):=by
 unfold Go.byteOf
 exact zA1 (@tO P)
theorem fit_stringish (x0):FT P (@Go.stringish x0):=by
 unfold Go.stringish
 exact zA1 (@pP P)
theorem uT (x0 x1):FT P (@Go.mayBeOne x0 x1):=by
 unfold Go.mayBeOne
 exact zA1 (@fit_stringish P)
theorem pR (x0 x1):FT P (@Go.sameAddr x0 x1):=by
 unfold Go.sameAddr
 exact zA3 (@pP P) (@tO P) (@uT P)
theorem qm (x0 x1):FT P (@Go.samePointer x0 x1):=by
 unfold Go.samePointer
 exact zA1 (@pR P)
theorem gD (x0):FT P (@Go.typeStr x0):=by
 unfold Go.typeStr
 exact zA1 (@bg P)
theorem fO (x0):FT P (@Go.elemOf x0):=by
 unfold Go.elemOf
 exact zA1 (@bd P)
theorem gC (x0 x1):FT P (@Go.newRow x0 x1):=by
 unfold Go.newRow
 exact zA1 (@fP P)
theorem iu (x0 x1):FT P (@Go.newVar x0 x1):=by
 unfold Go.newVar
 exact zA1 (@gC P)
theorem a8 {x0} (x1):FT P (@Go.runtimePanic x0 x1):=by
 unfold Go.runtimePanic
 exact zA3 (@iG P) (@fO P) (@iu P)
theorem nQ {T :Prop}  (h:T:=by (try dsimp only);repeat' (first | (with_reducible first | exact aq _ _ | apply ag | apply aF | apply bI | apply fo | apply dJ | apply bD | apply aQ | apply bd | apply bg | apply dK | apply a8 | apply fS | apply fP) | intro _ | split | dsimp only | trivial)):T:=h
theorem mh {T A:Prop} (p:A) (h:A->T:=by intro p;(try dsimp only);repeat' (first | (with_reducible first | exact aq _ _ | apply p | apply ag | apply aF | apply bI | apply fo | apply dJ | apply bD | apply aQ | apply bd | apply bg | apply dK | apply a8 | apply fS | apply fP) | intro _ | split | dsimp only | trivial)):T:=h p
theorem uo {T A B:Prop} (p:A) (q:B) (h:A->B->T:=by intro p q;(try dsimp only);repeat' (first | (with_reducible first | exact aq _ _ | apply p | apply q | apply ag | apply aF | apply bI | apply fo | apply dJ | apply bD | apply aQ | apply bd | apply bg | apply dK | apply a8 | apply fS | apply fP) | intro _ | split | dsimp only | trivial)):T:=h p q
theorem zB3 {T A B C:Prop} (p:A) (q:B) (r:C) (h:A->B->C->T:=by intro p q r;(try dsimp only);repeat' (first | (with_reducible first | exact aq _ _ | apply p | apply q | apply r | apply ag | apply aF | apply bI | apply fo | apply dJ | apply bD | apply aQ | apply bd | apply bg | apply dK | apply a8 | apply fS | apply fP) | intro _ | split | dsimp only | trivial)):T:=h p q r
theorem zB4 {T A B C D:Prop} (p:A) (q:B) (r:C) (s:D) (h:A->B->C->D->T:=by intro p q r s;(try dsimp only);repeat' (first | (with_reducible first | exact aq _ _ | apply p | apply q | apply r | apply s | apply ag | apply aF | apply bI | apply fo | apply dJ | apply bD | apply aQ | apply bd | apply bg | apply dK | apply a8 | apply fS | apply fP) | intro _ | split | dsimp only | trivial)):T:=h p q r s
theorem zB5 {T A B C D E:Prop} (p:A) (q:B) (r:C) (s:D) (t:E) (h:A->B->C->D->E->T:=by intro p q r s t;(try dsimp only);repeat' (first | (with_reducible first | exact aq _ _ | apply p | apply q | apply r | apply s | apply t | apply ag | apply aF | apply bI | apply fo | apply dJ | apply bD | apply aQ | apply bd | apply bg | apply dK | apply a8 | apply fS | apply fP) | intro _ | split | dsimp only | trivial)):T:=h p q r s t
theorem zB6 {T A B C D E F:Prop} (p:A) (q:B) (r:C) (s:D) (t:E) (u:F) (h:A->B->C->D->E->F->T:=by intro p q r s t u;(try dsimp only);repeat' (first | (with_reducible first | exact aq _ _ | apply p | apply q | apply r | apply s | apply t | apply u | apply ag | apply aF | apply bI | apply fo | apply dJ | apply bD | apply aQ | apply bd | apply bg | apply dK | apply a8 | apply fS | apply fP) | intro _ | split | dsimp only | trivial)):T:=h p q r s t u
theorem fW (x0 x1 x2):FT P (@Go.part x0 x1 x2):=by
 unfold Go.part
 exact mh (@fit_isAgg P)
theorem fit_Op_equalIn (x0 x1 x2 x3):FT P (@Go.Op.equalIn x0 x1 x2 x3):=by
 induction x0 generalizing x1 x2 x3 with
 | zero =>
  unfold Go.Op.equalIn
  exact zB6 (@gM P) (@mF P) (@pR P) (@qm P) (@gD P) (@fW P)
 | succ n ih =>
  unfold Go.Op.equalIn
  try dsimp only
  repeat' (first | (with_reducible first | exact aq P _ | apply ih | apply aF | apply bd | apply ag | apply gM | apply bI | apply mF | apply bg | apply dK | apply pR | apply bD | apply qm | apply gD | apply a8 | apply fW | apply aQ | apply fAi | apply fRi) | (intro _) | split)
theorem uQ (x0 x1 x2):FT P (@Go.Op.equal x0 x1 x2):=by
 unfold Go.Op.equal
 exact mh (@fit_Op_equalIn P)
theorem ri (x0 x1 x2 x3):FT P (Instr.findAsking x0 x1 x2 x3):=by
 induction x2 generalizing x3 with
 | nil=>exact aq P _
 | cons e es ih=>unfold Instr.findAsking;refine aQ (uQ P _ _ _) fun _=>?_;split<;>first | exact ih _ | exact aq P _
theorem gb (x0 x1 x2):FT P (@Go.Instr.findKey x0 x1 x2):=by
 unfold Go.Instr.findKey
 exact mh (@ri P)
theorem fK (x0 x1 x2):FT P (@Go.Builtin.firstCells x0 x1 x2):=by
 unfold Go.Builtin.firstCells
 exact mh (@j_ P)
theorem cd (x0):FT P (@Go.zeroValue x0):=by
 unfold Go.zeroValue
 exact nQ
theorem jg (x0 x1 x2):FT P (storeCells x0 x1 x2):=by
 induction x1 generalizing x2 with
 | nil=>exact aq P _
 | cons e es ih=>unfold storeCells;exact aQ (fit_store P _ _ _) fun _=>ih _
theorem pS (x0 x1 x2):FT P (@Go.storeVar x0 x1 x2):=by
 unfold Go.storeVar
 exact mh (@jg P)
theorem fit_Instr_alloc (x0 x1 x2):FT P (@Go.Instr.alloc x0 x1 x2):=by
 unfold Go.Instr.alloc
 exact zB3 (@cd P) (@pS P) (@iu P)
theorem pC (x0 x1):FT P (@Go.Builtin.holdsCells x0 x1):=by
 unfold Go.Builtin.holdsCells
 exact nQ
theorem q8 (x0 x1 x2 x3 x4):FT P (@Go.Builtin.mayShare x0 x1 x2 x3 x4):=by
 unfold Go.Builtin.mayShare
 exact uo (@pC P) (@pP P)
theorem nD (x0):FT P (@Go.asIntOf x0):=by
 unfold Go.asIntOf
 exact nQ
theorem fj (x0):FT P (@Go.asInt x0):=by
 unfold Go.asInt
 exact mh (@nD P)
theorem nA (x0):FT P (@Go.Builtin.lenOf x0):=by
 unfold Go.Builtin.lenOf
 exact nQ
theorem sD (x0 x1 x2):FT P (Builtin.append_ x0 x1 x2):=by
 unfold Builtin.append_
 split
 ·refine aQ (bd P _) fun t=>?_
  split
  ·split
   ·refine aQ (dK P _) fun size=>?_
    extract_lets j0 j1
    have h0:∀ u,Fit P (fun _=>True) 0 (j0 u):=fun u=>aF P _
    have h1:∀ zeros,Fit P (fun _=>True) 0 (j1 zeros):=by
     intro zeros
     simp -zeta only [j1]
     extract_lets j2
     have h2:∀ n,Fit P (fun _=>True) 0 (j2 n):=by
      intro n
      simp -zeta only [j2]
      extract_lets app need j3 j4 j5
      have ha:Fit P (fun _=>True) 0 app :=
       ck (fK P _ _ _) (ck (aq P _) (aQ (cd P _) fun _=>aq P _))
      have h4:∀ u,Fit P (fun _=>True) 0 (j4 u):=by
       intro u
       refine aQ (bD P _) fun _=>aQ (bg P _) fun _=>aQ (fit_askRoom P _) fun _=>aQ (fK P _ _ _) fun _=>aQ ha fun _=>aQ (cd P _) fun _=>?_
       exact aQ (gC P _ _) fun _=>aq P _
      have h5:∀ u,Fit P (fun _=>True) 0 (j5 u):=by
       intro u
       refine aQ (bg P _) fun info=>?_
       refine ck (aQ (ck (a8 P _) (aQ (q8 P _ _ _ _ _) fun _=>?_)) fun _=>h4 ()) (h4 ())
       exact ck (aQ (iq P (by simp) (by simp)) fun _=>h0 ()) (h0 ())
      refine ck ?_ ?_
      ·refine aQ ha fun new=>?_
       split
       ·exact aQ (jg P _ _ _) fun _=>aq P _
       ·exact aq P _
      ·refine aQ (bg P _) fun info=>?_
       exact ck (aQ (a8 P _) fun _=>h5 ()) (h5 ())
     refine ck ?_ (aQ (nA P _) fun _=>h2 _)
     refine aQ (fj P _) fun l=>?_
     extract_lets l' j4 j3
     have h4:∀ u,Fit P (fun _=>True) 0 (j4 u):=fun u=>aQ (aq P _) fun _=>h2 _
     have h3:∀ u,Fit P (fun _=>True) 0 (j3 u):=by
      intro u
      refine aQ (bg P _) fun info=>?_
      exact ck (aQ (bD P _) fun _=>aQ (a8 P _) fun _=>h4 ()) (h4 ())
     exact ck (aQ (a8 P _) fun _=>h3 ()) (h3 ())
    split
    ·exact aQ (bd P _) fun _=>aQ (aq P _) fun _=>h1 _
    ·exact aQ (aq P _) fun _=>h1 _
   ·exact ag P _
  ·exact ag P _
 ·exact ag P _
theorem fit_Builtin_cap_ (x0 x1 x2):FT P (@Go.Builtin.cap_ x0 x1 x2):=by
 unfold Go.Builtin.cap_
 exact nQ
theorem tF (x0 x1 x2):FT P (@Go.Builtin.clear_ x0 x1 x2):=by
 unfold Go.Builtin.clear_
 exact uo (@cd P) (@jg P)
theorem tG (x0 x1 x2):FT P (Builtin.close_ x0 x1 x2):=by
 rcases x2 with ⟨_ | ⟨a,_ | ⟨b,l⟩⟩⟩
 ·exact ag P _
 ·cases a with
  | chan r =>
   cases r with
   | none=>exact (a8 P (.plain "close of nil channel"):Fit P (fun _=>True) 0 (runtimePanic (.plain "close of nil channel"):Sem Value))
   | some r =>
    refine aQ (s:=getObj r) (dJ P r) fun o=>?_
    cases o with
    | chan a b c d e f =>
     cases c with
     | true=>exact aQ (a8 P _) fun _=>aQ (fS P _ _) fun _=>aq P _
     | false=>exact aQ (fS P _ _) fun _=>aq P _
    | _=>exact ag P _
  | _=>exact ag P _
 ·exact ag P _
theorem qZ (x0 x1 x2):FT P (Builtin.complex_ x0 x1 x2):=by
 rcases x2 with ⟨_ | ⟨a,_ | ⟨b,_ | ⟨c,l⟩⟩⟩⟩
 ·exact ag P _
 ·exact ag P _
 ·cases a with
  | float k re =>
   cases b with
   | float k' im =>
    by_cases h:k=k'
    ·have e:Builtin.complex_ x0 x1 ⟨[.float k re,.float k' im]⟩=pure (.complex k re im):=(if_pos h:(if k=k' then pure (.complex k re im) else stuck "complex: parts of different kinds":Sem Value)=_)
     rw [e];exact aq P _
    ·have e:Builtin.complex_ x0 x1 ⟨[.float k re,.float k' im]⟩=stuck "complex: parts of different kinds":=(if_neg h:(if k=k' then pure (.complex k re im) else stuck "complex: parts of different kinds":Sem Value)=_)
     rw [e];exact ag P _
   | _=>exact ag P _
  | _=>exact ag P _
 ·exact ag P _
theorem uE (x0 x1 x2):FT P (@Go.Builtin.copy_ x0 x1 x2):=by
 unfold Go.Builtin.copy_
 exact zB3 (@nA P) (@fK P) (@jg P)
theorem fN (x0 x1 x2 x3):FT P (@Go.Instr.checkKey x0 x1 x2 x3):=by
 induction x1 generalizing x0 x2 x3 with
 | zero =>
  unfold Go.Instr.checkKey
  exact uo (@gD P) (@fW P)
 | succ n ih =>
  unfold Go.Instr.checkKey
  exact zB5 ih (@gD P) (@fW P) (@fAi P) (@fRi P)
theorem sF (x0 x1 x2):FT P (@Go.Builtin.delete_ x0 x1 x2):=by
 unfold Go.Builtin.delete_
 exact uo (@fN P) (@gb P)
theorem uF (x0 x1 x2):FT P (@Go.Builtin.imag_ x0 x1 x2):=by
 unfold Go.Builtin.imag_
 rcases x2 with ⟨_ | ⟨a,_ | ⟨b,_ | ⟨c,_ | ⟨d,l⟩⟩⟩⟩⟩
 all_goals (try cases a)
 all_goals (try cases b)
 all_goals (try cases c)
 all_goals first | exact ag P _ | exact aq P _ | skip
 all_goals
  repeat' (first | (with_reducible first | exact aq P _ | apply ag) | (intro _) | split | (exact ag P _) | (exact aq P _) | (dsimp only) | (apply aQ))
theorem oz (x0 x1 x2):FT P (@Go.Builtin.len_ x0 x1 x2):=by
 unfold Go.Builtin.len_
 exact nQ
theorem kG (x0 x1 x2):FT P (@Go.Op.stringOp x0 x1 x2):=by
 unfold Go.Op.stringOp
 exact nQ
theorem fit_Builtin_max2 (x0 x1):FT P (@Go.Builtin.max2 x0 x1):=by
 unfold Go.Builtin.max2
 exact uo (@kG P) (@pL P)
theorem fit_Builtin_max_ (x0 x1 x2):FT P (@Go.Builtin.max_ x0 x1 x2):=by
 unfold Go.Builtin.max_
 try dsimp only
 repeat' (first | (with_reducible first | exact aq P _ | apply ag | apply fit_Builtin_max2 | apply fFo) | intro _ | split | trivial | dsimp only | (with_reducible first | exact iq P (by simp) (by simp)))
theorem fit_Builtin_min2 (x0 x1):FT P (@Go.Builtin.min2 x0 x1):=by
 unfold Go.Builtin.min2
 exact uo (@kG P) (@pL P)
theorem fit_Builtin_min_ (x0 x1 x2):FT P (@Go.Builtin.min_ x0 x1 x2):=by
 unfold Go.Builtin.min_
 try dsimp only
 repeat' (first | (with_reducible first | exact aq P _ | apply ag | apply fit_Builtin_min2 | apply fFo) | intro _ | split | trivial | dsimp only | (with_reducible first | exact iq P (by simp) (by simp)))
theorem tL:Fit P (fun _=>True) 0 Instr.panicnil:=by
 unfold Instr.panicnil
 refine ⟨⟨_,rfl,rfl⟩,fun r=>?_⟩
 show Fit P _ 0 (Sem.bind (.pure r) _)
 simp only [Sem.bind]
 split
 ·exact aQ (bI P) fun _=>aq P _
 ·exact ag P _
theorem qi (x0):FT P (@Go.Instr.panic x0):=by
 unfold Go.Instr.panic
 exact uo (@iG P) (@tL P)
theorem uG (x0 x1 x2):FT P (@Go.Builtin.real_ x0 x1 x2):=by
 unfold Go.Builtin.real_
 rcases x2 with ⟨_ | ⟨a,_ | ⟨b,_ | ⟨c,_ | ⟨d,l⟩⟩⟩⟩⟩
 all_goals (try cases a)
 all_goals (try cases b)
 all_goals (try cases c)
 all_goals first | exact ag P _ | exact aq P _ | skip
 all_goals
  repeat' (first | (with_reducible first | exact aq P _ | apply ag) | (intro _) | split | (exact ag P _) | (exact aq P _) | (dsimp only) | (apply aQ))
theorem fL (x0 x1 x2):FT P (Builtin.unsafeAdd_ x0 x1 x2):=by
 rcases x2 with ⟨_ | ⟨a,_ | ⟨b,_ | ⟨c,l⟩⟩⟩⟩
 ·exact ag P _
 ·exact ag P _
 ·cases a with
  | pointer r =>
   refine aQ (s:=asInt b) (fj P b) fun n=>?_
   exact mh (@mK P)
  | _=>exact ag P _
 ·exact ag P _
theorem kI (x0 x1 x2):FT P (@Go.variablesAt x0 x1 x2):=by
 unfold Go.variablesAt
 exact nQ
theorem nV (x0 x1 x2):FT P (Builtin.unsafeSlice_ x0 x1 x2):=by
 rcases x2 with ⟨_ | ⟨a,_ | ⟨b,_ | ⟨c,l⟩⟩⟩⟩
 ·exact ag P _
 ·exact ag P _
 ·cases a with
  | pointer r =>
   refine aQ (s:=asInt b) (fj P b) fun n=>?_
   repeat' (first | (with_reducible first | exact aq P _ | apply ag | apply aF | apply a8 | apply fP | apply fO | apply bg | apply dK | apply kI | apply mK | apply bI | apply aQ) | intro _ | split | dsimp only)
  | _=>exact ag P _
 ·exact ag P _
theorem kD (x0 x1 x2):FT P (Builtin.unsafeSliceData_ x0 x1 x2):=by
 rcases x2 with ⟨_ | ⟨a,_ | ⟨b,l⟩⟩⟩
 ·exact ag P _
 ·cases a with
  | slice r n c =>
   cases r with
   | none=>exact aq P _
   | some r =>
    by_cases hc:c≠0
    ·refine cast ?_ (aq P (Value.pointer (some r)))
     exact congrArg (Fit P (fun _=>True) 0) (if_pos hc).symm
    ·refine cast (congrArg (Fit P (fun _=>True) 0) (if_neg hc).symm) ?_
     exact uo (@fO P) (@mK P)
  | _=>exact ag P _
 ·exact ag P _
theorem fit_loadBytes (x0 x1 x2):FT P (loadBytes x0 x1 x2):=by
 induction x2 generalizing x0 x1 with
 | zero=>exact aq P _
 | succ n ih=>unfold loadBytes;refine aQ (mH P _ _) fun _=>?_;split<;>first | exact ih _ _ | exact ag P _
theorem m_ (x0 x1 x2):FT P (Builtin.unsafeString_ x0 x1 x2):=by
 rcases x2 with ⟨_ | ⟨a,_ | ⟨b,_ | ⟨c,l⟩⟩⟩⟩
 ·exact ag P _
 ·exact ag P _
 ·cases a with
  | pointer r =>
   refine aQ (s:=asInt b) (fj P b) fun n=>?_
   exact zB4 (@fit_loadBytes P) (@fO P) (@pO P) (@kI P)
  | _=>exact ag P _
 ·exact ag P _
theorem gg (x0):FT P (@Go.markStringish x0):=by
 unfold Go.markStringish
 exact mh (@pO P)
theorem km (x0 x1 x2):FT P (Builtin.unsafeStringData_ x0 x1 x2):=by
 rcases x2 with ⟨_ | ⟨a,_ | ⟨b,l⟩⟩⟩
 ·exact ag P _
 ·cases a with
  | string s =>
   by_cases hc:s.size=0
   ·refine cast (congrArg (Fit P (fun _=>True) 0) (if_pos hc).symm) ?_
    exact zB4 (@gC P) (@gg P) (@fO P) (@pO P)
   ·refine cast (congrArg (Fit P (fun _=>True) 0) (if_neg hc).symm) ?_
    exact zB4 (@gC P) (@gg P) (@fO P) (@pO P)
  | _=>exact ag P _
 ·exact ag P _
theorem jS (x0):FT P (@Go.asAddr x0):=by
 unfold Go.asAddr
 exact nQ
theorem fit_partAt (x0 x1 x2):FT P (@Go.partAt x0 x1 x2):=by
 unfold Go.partAt
 exact mh (@mF P)
theorem mG (x0 x1):FT P (@Go.fieldPlace x0 x1):=by
 unfold Go.fieldPlace
 exact mh (@fit_partAt P)
theorem tN (x0 x1 x2):FT P (@Go.follow x0 x1 x2):=by
 induction x0 generalizing x1 x2 with
 | nil =>
  unfold Go.follow
  exact zB4 (@gY P) (@jS P) (@mG P) (@fW P)
 | cons e es ih =>
  unfold Go.follow
  exact zB5 ih (@gY P) (@jS P) (@mG P) (@fW P)
theorem mD (x0 x1 x2):FT P (Builtin.ssaWrapNilChk_ x0 x1 x2):=by
 rcases x2 with ⟨_ | ⟨a,_ | ⟨b,_ | ⟨c,_ | ⟨d,l⟩⟩⟩⟩⟩
 ·exact ag P _
 ·exact ag P _
 ·exact ag P _
 ·cases b with
  | string s =>
   cases c with
   | string m =>
    cases a with
    | pointer r =>
     cases r with
     | some r=>exact aq P _
     | none =>
      refine aQ (s:=choose (.extern "ssa:wrapnilchk.dereferenced" 2)) (bD P _) fun n=>?_
      exact nQ
    | _=>exact ag P _
   | _=>exact ag P _
  | _=>exact ag P _
 ·exact ag P _
theorem mJ (x0 x1 x2 x3):FT P (@Go.receiverAt x0 x1 x2 x3):=by
 unfold Go.receiverAt
 exact zB4 (@gY P) (@jS P) (@fF P) (@mD P)
theorem fit_method (x0 x1 x2 x3):FT P (@Go.method x0 x1 x2 x3):=by
 induction x0 generalizing x1 x2 x3 with
 | zero =>
  unfold Go.method
  exact zB3 (@tN P) (@gY P) (@mJ P)
 | succ n ih =>
  unfold Go.method
  exact zB4 ih (@tN P) (@gY P) (@mJ P)
theorem fit_receiverVia (x0 x1 x2 x3):FT P (@Go.receiverVia x0 x1 x2 x3):=by
 unfold Go.receiverVia
 exact uo (@tN P) (@mJ P)
theorem dE (x0):FT P (@Go.Instr.getLoop x0):=by
 unfold Go.Instr.getLoop
 exact nQ
theorem je (x0 x1):FT P (@Go.Instr.keyThatStays x0 x1):=by
 unfold Go.Instr.keyThatStays
 exact nQ
theorem nC (x0 x1 x2 x3):FT P (@Go.Op.floatArith x0 x1 x2 x3):=by
 unfold Go.Op.floatArith
 exact nQ
theorem dt (x0 x1 x2 x3):FT P (@Go.Op.Complex.arith x0 x1 x2 x3):=by
 unfold Go.Op.Complex.arith
 exact mh (@nC P)
theorem ig (x0 x1):FT P (@Go.Op.Complex.add x0 x1):=by
 unfold Go.Op.Complex.add
 exact mh (@dt P)
theorem fit_Instr_box (x0 x1):FT P (@Go.Instr.box x0 x1):=by
 unfold Go.Instr.box
 exact mh (@iu P)
theorem fit_Instr_entry (x0):FT P (@Go.Instr.entry x0):=by
 unfold Go.Instr.entry
 exact nQ
theorem fit_asAgg (x0):FT P (@Go.asAgg x0):=by
 unfold Go.asAgg
 exact nQ
theorem fit_Instr_field (x0 x1 x2):FT P (@Go.Instr.field x0 x1 x2):=by
 unfold Go.Instr.field
 exact uo (@fit_asAgg P) (@fW P)
theorem qj (x0 x1 x2 x3):FT P (@Go.Op.floatCmp x0 x1 x2 x3):=by
 unfold Go.Op.floatCmp
 exact nQ
theorem hU {x0} (x1):FT P (@Go.panicString x0 x1):=by
 unfold Go.panicString
 exact mh (@iG P)
theorem fit_Conv_seenAt (x0):FT P (@Go.Conv.seenAt x0):=by
 unfold Go.Conv.seenAt
 exact mh (@mK P)
theorem fit_cellsIn (x0):FT P (@Go.cellsIn x0):=by
 unfold Go.cellsIn
 exact nQ
theorem uR (x0 x1):FT P (@Go.asNumber x0 x1):=by
 unfold Go.asNumber
 exact nQ
theorem pH (x0 x1 x2):FT P (@Go.Conv.unsafePointer x0 x1 x2):=by
 unfold Go.Conv.unsafePointer
 exact zB4 (@fit_Conv_seenAt P) (@fit_cellsIn P) (@kI P) (@uR P)
theorem ij (x0 x1):FT P (@Go.Op.Complex.mul x0 x1):=by
 unfold Go.Op.Complex.mul
 exact mh (@dt P)
theorem ik (x0 x1):FT P (@Go.Op.Complex.sub x0 x1):=by
 unfold Go.Op.Complex.sub
 exact mh (@dt P)
theorem nW (x0 x1 x2 x3 x4):FT P (@Go.Op.Complex.corrected x0 x1 x2 x3 x4):=by
 unfold Go.Op.Complex.corrected
 exact zB3 (@ij P) (@ig P) (@ik P)
theorem uI (x0 x1):FT P (@Go.Instr.arrayAt x0 x1):=by
 unfold Go.Instr.arrayAt
 exact nQ
theorem q_ (x0 x1):FT P (@Go.Deferred.ofValue x0 x1):=by
 unfold Go.Deferred.ofValue
 exact nQ
theorem nF (x0 x1 x2):FT P (@Go.resolve x0 x1 x2):=by
 unfold Go.resolve
 exact mh (@q_ P)
theorem rf (x0 x1 x2):FT P (@Go.Instr.buildSlice x0 x1 x2):=by
 unfold Go.Instr.buildSlice
 exact uo (@gC P) (@cd P)
theorem sL (x0 x1 x2 x3):FT P (@Go.Instr.mapUpdate x0 x1 x2 x3):=by
 unfold Go.Instr.mapUpdate
 exact zB3 (@fN P) (@gb P) (@je P)
theorem kH {x0} (x1 x2 x3 x4):FT P (@Go.boundsPanic x0 x1 x2 x3 x4):=by
 unfold Go.boundsPanic
 exact mh (@fitM P)
theorem fit_Instr_index (x0 x1 x2):FT P (@Go.Instr.index x0 x1 x2):=by
 unfold Go.Instr.index
 exact zB3 (@nD P) (@fW P) (@kH P)
theorem sH (x0 x1 x2):FT P (@Go.Conv.floatToInt x0 x1 x2):=by
 unfold Go.Conv.floatToInt
 exact nQ
theorem pE (x0):FT P (@Go.Conv.runesToString x0):=by
 unfold Go.Conv.runesToString
 try dsimp only
 repeat' (first | (with_reducible first | exact aq P _ | apply j_ | apply ag | apply aQ | apply fAi) | intro _ | split | trivial | dsimp only | (with_reducible first | exact iq P (by simp) (by simp)))
theorem rj (x0 x1 x2):FT P (@Go.Instr.sliceBound x0 x1 x2):=by
 unfold Go.Instr.sliceBound
 exact uo (@nD P) (@kH P)
theorem pJ (x0):FT P (@Go.Instr.takeDeferred x0):=by
 unfold Go.Instr.takeDeferred
 exact nQ
theorem fit_Op_addrMod (x0 x1 x2):FT P (@Go.Op.addrMod x0 x1 x2):=by
 unfold Go.Op.addrMod
 exact mh (@mF P)
theorem fit_movedNumber (x0 x1 x2):FT P (@Go.movedNumber x0 x1 x2):=by
 unfold Go.movedNumber
 exact zB3 (@gM P) (@fL P) (@uR P)
theorem qk (x0 x1 x2 x3):FT P (@Go.Op.intArith x0 x1 x2 x3):=by
 unfold Go.Op.intArith
 exact nQ
theorem rp (x0 x1 x2 x3):FT P (@Go.Op.intBits x0 x1 x2 x3):=by
 unfold Go.Op.intBits
 exact nQ
theorem fit_Op_unary (x0 x1):FT P (@Go.Op.unary x0 x1):=by
 unfold Go.Op.unary
 exact uo (@qk P) (@rp P)
theorem sK (x0 x1 x2):FT P (@Go.Instr.makeSlice x0 x1 x2):=by
 unfold Go.Instr.makeSlice
 exact zB4 (@fj P) (@fit_askRoom P) (@gC P) (@cd P)
theorem tI (x0 x1):FT P (@Go.Instr.makeChan x0 x1):=by
 unfold Go.Instr.makeChan
 exact mh (@fj P)
theorem ru (x0):FT P (@Go.cutType x0):=by
 unfold Go.cutType
 exact nQ
theorem tM (x0 x1):FT P (@Go.Op.Complex.quo x0 x1):=by
 unfold Go.Op.Complex.quo
 exact mh (@dt P)
theorem uH (x0 x1):FT P (@Go.Conv.intToInt x0 x1):=by
 unfold Go.Conv.intToInt
 try dsimp only
 repeat' (first | (with_reducible exact aq P _)  | (with_reducible first | apply aQ | apply fitM) | intro _ | split | dsimp only)
theorem fit_Op_shift (x0 x1 x2 x3 x4):FT P (@Go.Op.shift x0 x1 x2 x3 x4):=by
 unfold Go.Op.shift
 exact nQ
theorem fit_Op_intDiv (x0 x1 x2 x3):FT P (@Go.Op.intDiv x0 x1 x2 x3):=by
 unfold Go.Op.intDiv
 exact nQ
theorem fit_Op_intCmp (x0 x1 x2):FT P (@Go.Op.intCmp x0 x1 x2):=by
 unfold Go.Op.intCmp
 exact nQ
theorem fZ (x0 x1 x2):FT P (@Go.Conv.floatToFloat x0 x1 x2):=by
 unfold Go.Conv.floatToFloat
 exact nQ
theorem sM (x0 x1 x2):FT P (@Go.Op.Complex.conv x0 x1 x2):=by
 unfold Go.Op.Complex.conv
 exact mh (@fZ P)
theorem pK (x0 x1 x2 x3):FT P (@Go.Op.Complex.product x0 x1 x2 x3):=by
 unfold Go.Op.Complex.product
 exact zB3 (@ij P) (@ik P) (@ig P)
theorem mE (x0 x1 x2 x3):FT P (@Go.Op.Complex.cmp x0 x1 x2 x3):=by
 unfold Go.Op.Complex.cmp
 exact uo (@qj P) (@pL P)
theorem oB (x0 x1 x2 x3):FT P (@Go.Op.Complex.quotient x0 x1 x2 x3):=by
 unfold Go.Op.Complex.quotient
 exact zB6 (@mE P) (@ij P) (@nW P) (@tM P) (@ig P) (@ik P)
theorem fit_Op_complexOp (x0 x1 x2 x3 x4 x5):FT P (@Go.Op.complexOp x0 x1 x2 x3 x4 x5):=by
 unfold Go.Op.complexOp
 exact zB5 (@dt P) (@sM P) (@pK P) (@oB P) (@mE P)
theorem fit_movedPointer (x0 x1 x2):FT P (@Go.movedPointer x0 x1 x2):=by
 unfold Go.movedPointer
 exact uo (@fL P) (@uU P)
theorem oC (x0 x1):FT P (@Go.Op.twoPlaces x0 x1):=by
 unfold Go.Op.twoPlaces
 exact mh (@mF P)
theorem fit_Op_addrSub (x0 x1 x2):FT P (@Go.Op.addrSub x0 x1 x2):=by
 unfold Go.Op.addrSub
 exact mh (@oC P)
theorem fit_Op_addrCmp (x0 x1 x2):FT P (@Go.Op.addrCmp x0 x1 x2):=by
 unfold Go.Op.addrCmp
 exact mh (@oC P)
theorem fit_binOp (x0 x1 x2 x3):FT P (@Go.binOp x0 x1 x2 x3):=by
 unfold Go.binOp
 try dsimp only
 repeat' (first | (with_reducible first | exact aq P _ | apply fit_Op_shift | apply ag | apply qk | apply fit_Op_intDiv | apply rp | apply fit_Op_intCmp | apply nC | apply qj | apply fit_Op_complexOp | apply kG | apply uQ | apply bd | apply fit_movedPointer | apply fit_movedNumber | apply gM | apply fit_Op_addrSub | apply fit_Op_addrCmp | apply fit_Op_addrMod | apply aF | apply aQ) | intro _ | split | dsimp only)
theorem sI (x0 x1):FT P (@Go.Conv.intToFloat x0 x1):=by
 unfold Go.Conv.intToFloat
 try dsimp only
 repeat' (first | (with_reducible exact aq P _)  | (with_reducible first | apply aQ | apply fitM) | intro _ | split | dsimp only)
theorem na (x0 x1 x2 x3):FT P (@Go.Conv.complexToComplex x0 x1 x2 x3):=by
 unfold Go.Conv.complexToComplex
 exact mh (@fZ P)
theorem q9 (x0):FT P (@Go.Conv.intToString x0):=by
 unfold Go.Conv.intToString
 try dsimp only
 repeat' (first | (with_reducible exact aq P _)  | (with_reducible first | apply aQ | apply fitM) | intro _ | split | dsimp only)
theorem pF (x0 x1):FT P (@Go.Conv.stringToBytes x0 x1):=by
 unfold Go.Conv.stringToBytes
 exact uo (@gC P) (@gg P)
theorem pG (x0 x1):FT P (@Go.Conv.stringToRunes x0 x1):=by
 unfold Go.Conv.stringToRunes
 exact mh (@gC P)
theorem pD (x0):FT P (@Go.Conv.bytesToString x0):=by
 unfold Go.Conv.bytesToString
 try dsimp only
 repeat' (first | (with_reducible first | exact aq P _ | apply j_ | apply ag | apply aQ | apply fAi) | intro _ | split | trivial | dsimp only | (with_reducible first | exact iq P (by simp) (by simp)))
theorem fit_convert (x0 x1 x2):FT P (@Go.convert x0 x1 x2):=by
 unfold Go.convert
 try dsimp only
 repeat' (first | (with_reducible first | exact aq P _ | apply bd | apply uH | apply sI | apply sH | apply fZ | apply na | apply q9 | apply pF | apply pG | apply ag | apply gg | apply aF | apply pD | apply pE | apply pH | apply aQ) | intro _ | split | dsimp only)
theorem uK (x0 x1):FT P (@Go.Instr.extract x0 x1):=by
 unfold Go.Instr.extract
 exact nQ
theorem fit_Instr_next (x0 x1 x2):FT P (@Go.Instr.next x0 x1 x2):=by
 unfold Go.Instr.next
 exact nQ
theorem eu (x0):FT P (@Go.Instr.sureAddr x0):=by
 unfold Go.Instr.sureAddr
 exact nQ
theorem pI (x0 x1):FT P (@Go.Instr.deferInRound x0 x1):=by
 unfold Go.Instr.deferInRound
 exact uo (@dE P) (@fit_throw P)
theorem ql (x0 x1 x2):FT P (@Go.followBlind x0 x1 x2):=by
 induction x0 generalizing x1 x2 with
 | nil =>
  unfold Go.followBlind
  exact mh (@fW P)
 | cons e es ih =>
  unfold Go.followBlind
  exact uo ih (@fW P)
theorem fit_nilAhead (x0 x1 x2 x3):FT P (@Go.nilAhead x0 x1 x2 x3):=by
 induction x0 generalizing x1 x2 x3 with
 | zero =>
  unfold Go.nilAhead
  exact mh (@ql P)
 | succ n ih =>
  unfold Go.nilAhead
  exact uo ih (@ql P)
theorem fit_Op_eqGuardIn (x0 x1 x2 x3):FT P (@Go.Op.eqGuardIn x0 x1 x2 x3):=by
 induction x0 generalizing x1 x2 x3 with
 | zero =>
  unfold Go.Op.eqGuardIn
  exact mh (@fW P)
 | succ n ih =>
  unfold Go.Op.eqGuardIn
  exact zB4 ih (@fW P) (@fAi P) (@fRi P)
theorem fit_Instr_ready (x0):FT P (@Go.Instr.ready x0):=by
 unfold Go.Instr.ready
 exact nQ
theorem rk (x0 x1 x2 x3):FT P (@Go.Instr.typeAssert x0 x1 x2 x3):=by
 unfold Go.Instr.typeAssert
 exact mh (@cd P)
theorem jC (x0 x1 x2 x3 x4 x5):FT P (@Go.Instr.sliceBounds x0 x1 x2 x3 x4 x5):=by
 unfold Go.Instr.sliceBounds
 exact mh (@rj P)
theorem fit_Instr_loadAt (x0 x1):FT P (@Go.Instr.loadAt x0 x1):=by
 unfold Go.Instr.loadAt
 exact uo (@eu P) (@fF P)
theorem uN (x0 x1):FT P (@Go.Instr.makeMap x0 x1):=by
 unfold Go.Instr.makeMap
 exact mh (@fj P)
theorem tJ (x0 x1 x2):FT P (@Go.Instr.makeFunc x0 x1 x2):=by
 unfold Go.Instr.makeFunc
 try dsimp only
 repeat' (first | (with_reducible exact aq P _)  | (with_reducible first | apply aQ | apply fitM) | intro _ | split | dsimp only)
theorem fit_Instr_build (x0 x1):FT P (@Go.Instr.build x0 x1):=by
 unfold Go.Instr.build
 try dsimp only
 repeat' (first | (with_reducible first | exact aq P _ | apply cd | apply bd | apply dK | apply ag | apply aQ | apply fAm) | intro _ | split | trivial | dsimp only | (with_reducible first | exact iq P (by simp) (by simp)))
theorem uM (x0 x1 x2):FT P (@Go.Instr.indexAt x0 x1 x2):=by
 unfold Go.Instr.indexAt
 exact zB3 (@nD P) (@kH P) (@eu P)
theorem uJ (x0):FT P (@Go.Instr.endLoop x0):=by
 unfold Go.Instr.endLoop
 exact mh (@dE P)
theorem uL (x0 x1 x2):FT P (@Go.Instr.fieldAt x0 x1 x2):=by
 unfold Go.Instr.fieldAt
 exact uo (@eu P) (@mG P)
theorem fit_Instr_waits (x0):FT P (@Go.Instr.waits x0):=by
 unfold Go.Instr.waits
 exact nQ
theorem uP (x0 x1 x2):FT P (@Go.Instr.storeAt x0 x1 x2):=by
 unfold Go.Instr.storeAt
 exact uo (@eu P) (@pS P)
theorem fit_eqGuard (x0 x1 x2 x3 x4 x5):FT P (@Go.eqGuard x0 x1 x2 x3 x4 x5):=by
 unfold Go.eqGuard
 exact mh (@fit_Op_eqGuardIn P)
theorem oA (x0 x1):FT P (@Go.Instr.makeInterface x0 x1):=by
 unfold Go.Instr.makeInterface
 exact nQ
theorem fit_Instr_slice (x0 x1 x2 x3 x4):FT P (@Go.Instr.slice x0 x1 x2 x3 x4):=by
 unfold Go.Instr.slice
 exact uo (@jC P) (@jS P)
theorem uO (x0 x1 x2 x3 x4):FT P (@Go.Instr.sliceAt x0 x1 x2 x3 x4):=by
 unfold Go.Instr.sliceAt
 exact zB3 (@eu P) (@jC P) (@fit_Instr_slice P)
theorem fit_Instr_lookup (x0 x1 x2 x3):FT P (@Go.Instr.lookup x0 x1 x2 x3):=by
 unfold Go.Instr.lookup
 exact zB3 (@fN P) (@gb P) (@cd P)
theorem tK (x0 x1 x2):FT P (@Go.Instr.mapEntry x0 x1 x2):=by
 unfold Go.Instr.mapEntry
 exact zB4 (@fN P) (@gb P) (@je P) (@cd P)
theorem rh (x0 x1 x2 x3):FT P (@Go.Instr.entryStore x0 x1 x2 x3):=by
 unfold Go.Instr.entryStore
 exact mh (@fj P)
theorem fit_Instr_range (x0 x1):FT P (@Go.Instr.range x0 x1):=by
 unfold Go.Instr.range
 exact nQ
theorem sJ (x0 x1 x2 x3 x4 x5):FT P (@Go.Instr.enterLoop x0 x1 x2 x3 x4 x5):=by
 unfold Go.Instr.enterLoop
 exact mh (@dE P)
theorem ra (x0):FT P (@Go.Instr.beginRound x0):=by
 unfold Go.Instr.beginRound
 exact mh (@dE P)
theorem tH (x0 x1):FT P (@Go.Instr.endRound x0 x1):=by
 unfold Go.Instr.endRound
 exact mh (@dE P)
theorem jf (x0):FT P (@Go.asString x0):=by
 unfold Go.asString
 exact nQ
end Lf
namespace Lf
open Go
def cX:Next->Prop
 | .value _ | .skip | .enter .. | .round .. | .defer _ | .recover | .spawn _ | .comm .. | .coroswitch ..=>True
 | .row r _=>r = "runtime.print$piece"
 | _=>False
def Plain (P:Program):Prop:=∀ (f:FuncId) (fn:Func),P.funcs[f]? = some fn->fn.name≠ "runtime.NumGoroutine"/\(fn.body.isNone=true->Extern.findNext fn=none/\∀ e,Extern.find fn=some e->∀ args,Fit P (fun _=>True) 0 (e args))
variable {P : Program}
theorem dF {s:Sem Value} (h:Fit P (fun _=>True) 0 s):Fit P cX 0 (do pure (.value (<- s)):Sem Next):=aQ h fun _=>⟨rfl,trivial⟩
theorem fit_unit {s:Sem Unit} (h:Fit P (fun _=>True) 0 s):Fit P cX 0 (do s;pure .skip:Sem Next):=aQ h fun _=>⟨rfl,trivial⟩
theorem fit_ok {n:Next} (h:cX n):Fit P cX 0 (pure n:Sem Next):=⟨rfl,h⟩
theorem fit_held (d:Nat) {β:Type} {M:β->Prop} {f:Bool->Sem β} (hf:∀ b,Fit P M d (f b)):Fit P M d (Extern.PrintPieces.held >>= f):=by
 unfold Extern.PrintPieces.held
 intro v
 show Fit P M d (Sem.bind _ f)
 cases v<;>first | exact hf _ | exact .inr rfl
theorem fit_writeFd (n b):Fit P (fun _=>True) 0 (writeFd n b):=by
 unfold writeFd
 refine ⟨⟨_,rfl,rfl⟩,fun r=>?_⟩
 cases r<;>first | exact .inl rfl | exact ⟨rfl,trivial⟩
theorem fit_piece (x y args):Fit P cX 0 (Extern.PrintPieces.piece x y args):=by
 unfold Extern.PrintPieces.piece
 split
 ·rename_i first _
  split
  ·rename_i p _
   extract_lets last j1 j2 j3 j4 j5
   have h1:Fit P cX 0 (j1 ()):=⟨rfl,trivial⟩
   have h2:Fit P cX 0 (j2 ()):=by
    refine aQ (fit_writeFd _ _) fun _=>ck ⟨rfl,rfl⟩ (ck ?_ h1)
    exact h1
   have h3:Fit P cX 1 (j3 ()):=h2
   have h4:Fit P cX 1 (j4 ()):=by
    show Fit P cX 1 (if (!last)=true then _ else _)
    split
    ·exact h3
    ·exact h3
   have h5:Fit P cX 0 (j5 ()):=by
    show Fit P cX 0 (if first=true then _ else _)
    split
    ·show Fit P cX 1 (Extern.PrintPieces.held >>= _)
     refine fit_held 1 fun b=>?_
     split
     ·exact .inr rfl
     ·exact h4
    ·exact h2
   exact ck (.inl rfl) h5
  ·exact ag P _
 ·exact ag P _
theorem fLi' {α β:Type} {l:List α}:∀ {f:(a:α)->a∈l->β->Sem (ForInStep β)} (_:∀ a h b,Fit P (fun _=>True) 0 (f a h b)) (b:β),Fit P (fun _=>True) 0 (forIn' l b f):=by
 induction l with
 | nil=>intro f _ b;rw [List.forIn'_nil];exact aq P _
 | cons a l ih=>intro f hf b;rw [List.forIn'_cons];refine aQ (hf _ _ _) fun r=>?_;split<;>first | exact aq P _ | exact ih (fun _ _ _=>hf _ _ _) _
theorem fRi' {β:Type} {l:Std.Legacy.Range} {f:(a:Nat)->a∈l->β->Sem (ForInStep β)} (hf:∀ a h b,Fit P (fun _=>True) 0 (f a h b)) (_l:Std.Legacy.Range) (b:β):Fit P (fun _=>True) 0 (forIn' l b f):=by
 rw [Std.Legacy.Range.forIn'_eq_forIn'_range'];exact fLi' (fun _ _ _=>hf _ _ _) _
theorem fit_printOne (t v):Fit P (fun _=>True) 0 (Builtin.printOne t v):=by
 unfold Builtin.printOne
 refine aQ (bg P _) fun i=>?_
 extract_lets j
 have hj:Fit P (fun _=>True) 0 (j ()):=by
  simp -zeta only [j]
  cases v with
  | pointer r=>cases r<;>first | exact aq P _ | exact aF P _
  | map r=>cases r<;>first | exact aq P _ | exact aF P _
  | chan r=>cases r<;>first | exact aq P _ | exact aF P _
  | slice r _ _=>cases r<;>first | exact aq P _ | exact aF P _
  | _=>first | exact aq P _ | exact aF P _ | exact ag P _
 split
 ·exact ck (aQ (aF P _) fun _=>hj) hj
 ·exact hj
theorem fit_pieces (a b c d):Fit P (fun _=>True) 0 (Builtin.pieces a b c d):=by
 unfold Builtin.pieces
 refine aQ (fRi' (fun i _ b=>?_) [0:0] _) fun out=>?_
 ·extract_lets out' cst j
  have hj:∀ o o',Fit P (fun _=>True) 0 (j o o'):=by
   intro o o'
   simp -zeta only [j]
   split
   ·refine aQ (fit_printOne _ _) fun l=>aQ (fAi (fun _ _=>aq P _) _ _) fun _=>aq P _
   ·exact ag P _
  exact ck (hj () _) (hj () _)
 ·exact ck (aq P _) (aq P _)
theorem fit_printMarked (a b c d):Fit P cX 0 (Builtin.printMarked a b c d):=by
 unfold Builtin.printMarked
 refine aQ (fit_pieces _ _ _ _) fun ps=>?_
 exact ck ⟨rfl,trivial⟩ (fit_piece _ _ _)
theorem fit_builtin (a b c d e):Fit P cX 0 (builtin a b c d e):=by
 unfold builtin
 cases a
 all_goals first
  | exact dF (sD P _ _ _) | exact dF (fit_Builtin_cap_ P _ _ _) | exact dF (tF P _ _ _) | exact dF (tG P _ _ _)
  | exact dF (qZ P _ _ _) | exact dF (uE P _ _ _) | exact dF (sF P _ _ _) | exact dF (uF P _ _ _)
  | exact dF (oz P _ _ _) | exact dF (fit_Builtin_max_ P _ _ _) | exact dF (fit_Builtin_min_ P _ _ _) | exact dF (qi P _)
  | exact fit_printMarked _ _ _ _ | exact dF (uG P _ _ _) | exact fit_ok (n:=.recover) trivial | exact ag P _ | exact dF (fL P _ _ _)
  | exact dF (nV P _ _ _) | exact dF (kD P _ _ _) | exact dF (m_ P _ _ _) | exact dF (km P _ _ _)
  | exact aQ (bg P _) fun _=>⟨rfl,trivial⟩ | exact aF P _
theorem fQ {α:Type} {L:α->Prop} (e:RuntimeError):Fit P L 0 (runtimePanic e:Sem α):=by
 unfold runtimePanic
 repeat' (first | (with_reducible exact iG P _) | (with_reducible exact ag P _) | (with_reducible exact aF P _) | (with_reducible exact aq P _) | (with_reducible apply bI) | (with_reducible apply iu) | (with_reducible apply gD) | (with_reducible apply fO) | (with_reducible apply bg) | (with_reducible apply aQ) | (intro _) | split | (dsimp only))
theorem pN (hP:Plain P) (f args):Fit P cX 0 (callFunc f args):=by
 unfold callFunc
 show Fit P cX 0 (match P.funcs[f]? with | none=>_ | some fn=>_)
 cases hf:P.funcs[f]? with
 | none=>exact ag P _
 | some fn =>
  obtain ⟨hn,hb⟩:=hP f fn hf
  have hn':(fn.name== "runtime.NumGoroutine")=false:=by simpa using hn
  simp only [hn',Bool.false_eq_true,if_false]
  by_cases hbody:fn.body.isNone=true
  ·obtain ⟨h1,h2⟩:=hb hbody
   simp only [hbody,if_true,h1]
   refine aQ (iq P (by simp) (by simp)) fun _=>?_
   cases he:Extern.find fn with
   | some e=>exact dF (h2 e he args)
   | none=>exact ck ⟨rfl,trivial⟩ (aF P _)
  ·simp only [hbody,if_false,Bool.false_eq_true]
   exact ⟨rfl,trivial⟩
theorem rq (hP:Plain P) (a b c):Fit P cX 0 (callMethod a b c):=by
 unfold callMethod
 split
 ·exact aQ (bI P) fun _=>aQ (fit_method P _ _ _ _) fun _=>pN hP _ _
 ·exact fQ _
 ·exact ag P _
theorem fit_yield (a b):Fit P cX 0 (Instr.yield a b):=by
 unfold Instr.yield
 refine aQ (dE P _) fun r=>?_
 extract_lets j
 exact ck (aQ (ag P _) fun _=>⟨rfl,trivial⟩) ⟨rfl,trivial⟩
theorem pQ (hP:Plain P) (t args):Fit P cX 0 (invoke t args):=by
 unfold invoke
 split
 ·exact fQ _
 ·exact fit_builtin _ _ _ _ _
 ·exact pN hP _ _
 ·split
  ·exact rq hP _ _ _
  ·exact ag P _
 ·split
  ·refine aQ (bd P _) fun _=>?_
   extract_lets j
   exact rq hP _ _ _
  ·exact ag P _
 ·split
  ·exact aQ (fit_receiverVia P _ _ _ _) fun _=>pN hP _ _
  ·exact ag P _
 ·exact fit_yield _ _
 ·exact ag P _
 ·exact ⟨rfl,trivial⟩
theorem fit_execOp (hP:Plain P) (ρ o):Fit P cX 0 (execOp ρ o):=by
 unfold execOp
 extract_lets v u
 have hv:∀ s,Fit P (fun _=>True) 0 s->Fit P cX 0 (v s):=fun s h=>dF h
 have hu:∀ s,Fit P (fun _=>True) 0 s->Fit P cX 0 (u s):=fun s h=>fit_unit h
 clear_value v u
 split
 all_goals first
  | exact ⟨rfl,trivial⟩
  | exact hv _ (fit_Instr_alloc P _ _ _)
  | exact hv _ (fit_Instr_box P _ _)
  | exact hv _ (fit_Instr_build P _ _)
  | exact hv _ (rf P _ _ _)
  | exact hv _ (fit_Instr_loadAt P _ _)
  | exact hu _ (uP P _ _ _)
  | exact hu _ (fit_Instr_ready P _)
  | exact hv _ (fit_Instr_waits P _)
  | exact hv _ (fit_Op_unary P _ _)
  | exact hv _ (fit_convert P _ _ _)
  | exact hv _ (uI P _ _)
  | exact hv _ (oA P _ _)
  | exact hv _ (tJ P _ _ _)
  | exact hv _ (uN P _ _)
  | exact hv _ (tI P _ _)
  | exact hv _ (sK P _ _ _)
  | exact hv _ (uO P _ _ _ _ _)
  | exact hv _ (uL P _ _ _)
  | exact hv _ (fit_Instr_field P _ _ _)
  | exact hv _ (uM P _ _ _)
  | exact hv _ (fit_Instr_index P _ _ _)
  | exact hv _ (fit_Instr_lookup P _ _ _ _)
  | exact hu _ (sL P _ _ _ _)
  | exact hv _ (tK P _ _ _)
  | exact hu _ (rh P _ _ _ _)
  | exact hv _ (fit_Instr_range P _ _)
  | exact hv _ (fit_Instr_next P _ _ _)
  | exact hv _ (fit_Instr_entry P _)
  | exact hv _ (rk P _ _ _ _)
  | exact hv _ (uK P _ _)
  | exact hv _ (qi P _)
  | exact hv _ (aQ (fit_eqGuard P _ _ _ _ _ _) fun _=>fit_binOp P _ _ _ _)
  | exact aQ (pL P _) fun _=>⟨rfl,trivial⟩
  | exact aQ (nF P _ _ _) fun _=>pQ hP _ _
  | exact aQ (nF P _ _ _) fun _=>⟨rfl,trivial⟩
  | skip
 ·split
  ·exact fQ _
  ·exact fQ _
  ·exact fQ _
  ·split
   ·exact fQ _
   ·refine aQ (bI P) fun _=>aQ (fit_nilAhead P _ _ _ _) fun _=>?_
    exact ck (aQ (aF P _) fun _=>⟨rfl,trivial⟩) ⟨rfl,trivial⟩
   ·exact ⟨rfl,trivial⟩
  ·exact ⟨rfl,trivial⟩
 ·refine aQ (bd P _) fun _=>?_
  split
  ·exact aQ (cd P _) fun _=>⟨rfl,trivial⟩
  ·exact ag P _
 ·refine aQ (fAm (fun _=>aQ (cd P _) fun _=>aq P _) _) fun _=>⟨rfl,trivial⟩
end Lf
namespace Lf
open Go Go.Conc
variable {P : Program}
def rz (d:Nat) (e:Event):Nat:=match e.loc with | .mark .disable=>d+1 | .mark .enable=>d-1 | _=>d
theorem d_ (d:Nat) (es:Array Event):deafBehind d es=es.foldl rz d:=rfl
theorem dI (d:Nat) (es:Array Event) (e:Event):deafBehind d (es.push e)=rz (deafBehind d es) e:=by
 rw [d_,d_,Array.foldl_push]
theorem my (d:Nat) (es es':Array Event):deafBehind d (es++es')=deafBehind (deafBehind d es) es':=by
 simp only [d_,Array.foldl_append]
theorem ou (d:Nat) (l:List Addr) (wr at_:Bool):deafBehind d (l.toArray.map fun a=>(⟨.cell a,wr,at_⟩:Event))=d:=by
 rw [d_]
 induction l generalizing d with
 | nil=>simp
 | cons a l ih=>have:=ih d;simp at this ⊢;exact this
def fG {α:Type}:Result α->Bool
 | .ok _ _=>true
 | .halt (.panic _) _ | .halt .goexit _=>true
 | _=>false
theorem resOn_of_go {α:Type} {r:Result α} (h:fG r=true):resOn r=true:=by
 cases r with
 | ok a w=>rfl
 | halt x w=>cases x<;>first | rfl | (simp [fG] at h)
theorem noCell_not (w:World) (a:Addr) (s:String) (w':World) {α:Type}:fG (.halt (w.noCell a s) w':Result α)=false:=by
 unfold World.noCell
 split<;>rfl
theorem farLoad_not {p:Program} {w:World} {a:Addr} {b:Bool} {h:Halt} (hx:w.farLoad p a b=.error h) (w':World) {α:Type}:fG (.halt h w':Result α)=false:=by
 unfold World.farLoad at hx
 split at hx
 ·split at hx
  ·cases hx
  ·cases hx;rfl
 ·cases hx;exact noCell_not _ _ _ _
theorem farStore_not {p:Program} {w:World} {a:Addr} {v:Value} {b:Bool} {h:Halt} (hx:w.farStore p a v b=.error h) (w':World) {α:Type}:fG (.halt h w':Result α)=false:=by
 unfold World.farStore at hx
 split at hx
 ·split at hx
  ·cases hx
  ·cases hx;rfl
 ·cases hx;exact noCell_not _ _ _ _
theorem runT_even {α:Type} {L:α->Prop} (s:Sem α):∀ (n:Nat) (w:World) (es:Array Event) (b:Nat),Fit P L n s->fG (s.runT P w es).1=true->deafBehind b es=n->deafBehind b (s.runT P w es).2=0:=by
 induction s with
 | pure a=>exact fun n w es b hf _ he=>he.trans hf.1
 | load m a k ih =>
  intro n w es b hf ho he
  simp only [Sem.runT] at ho ⊢
  cases hw:w.cell? a with
  | some v=>simp only [hw] at ho ⊢;exact ih v n w _ b (hf v) ho (by rw [dI,he];rfl)
  | none =>
   simp only [hw] at ho ⊢
   cases hx:w.farLoad P a (m==.atomic) with
   | ok x=>obtain ⟨v,t⟩:=x;simp only [hx] at ho ⊢;exact ih v n w _ b (hf v) ho (by rw [my,he,ou])
   | error e=>simp only [hx] at ho;rw [farLoad_not hx] at ho;cases ho
 | store m a v k ih =>
  intro n w es b hf ho he
  cases v with
  | agg x=>cases ho
  | tuple x=>cases ho
  | _ =>
   simp only [Sem.runT] at ho ⊢
   cases hw:w.cell? a with
   | some u =>
    simp only [hw] at ho ⊢
    split at ho
    ·cases ho
    ·rename_i iU
     simp only [iU,if_false,Bool.false_eq_true]
     exact ih n _ _ b hf ho (by rw [dI,he];rfl)
   | none =>
    simp only [hw] at ho ⊢
    cases hx:w.farStore P a _ (m==Mode.atomic) with
    | ok x=>obtain ⟨w',t⟩:=x;simp only [hx] at ho ⊢;exact ih n w' _ b hf ho (by rw [my,he,ou])
    | error e=>simp only [hx] at ho;rw [farStore_not hx] at ho;cases ho
 | new o k ih=>exact fun n w es b hf ho he=>ih w.heap.size n _ es b (hf _) ho he
 | shape r k ih=>exact fun n w es b hf ho he=>ih (w.shape? r) n w es b (hf _) ho he
 | freeze a c k ih=>exact fun n w es b hf ho he=>ih n _ es b hf ho he
 | frozen a k ih=>exact fun n w es b hf ho he=>ih (w.frozen? a) n w es b (hf _) ho he
 | getObj r k ih =>
  intro n w es b hf ho he
  simp only [Sem.runT] at ho ⊢
  cases hw:w.heap[r]? with
  | none=>simp only [hw] at ho;cases ho
  | some o =>
   cases o with
   | cells c t z=>simp only [hw] at ho;cases ho
   | _=>simp only [hw] at ho ⊢;exact ih _ n w _ b (hf _) ho (by rw [dI,he];rfl)
 | setObj r o k ih =>
  intro n w es b hf ho he
  simp only [Sem.runT] at ho ⊢
  cases hw:w.heap[r]? with
  | none=>simp only [hw] at ho;cases ho
  | some x =>
   cases x with
   | cells c t z=>simp only [hw] at ho;cases ho
   | _=>simp only [hw] at ho ⊢;exact ih n _ _ b hf ho (by rw [dI,he];rfl)
 | choose q k ih =>
  intro n w es b hf ho he
  simp only [Sem.runT] at ho ⊢
  by_cases hq:q.forced=true
  ·simp only [hq,if_true] at ho ⊢;exact ih 0 n w es b (hf _) ho he
  ·simp only [hq,if_false,Bool.false_eq_true] at ho ⊢;exact ih _ n _ es b (hf _) ho he
 | sys c k ih=>exact fun n w es b hf ho he=>ih _ n _ _ b (hf.2 _) ho (by rw [dI,he];rfl)
 | program k ih=>exact fun n w es b hf ho he=>ih P n w es b hf ho he
 | mark m k ih =>
  intro n w es b hf ho he
  refine ih _ w _ b hf ho ?_
  rw [dI,he]
  cases m<;>rfl
 | halt h =>
  intro n w es b hf ho he
  rcases hf with hf | hf
  ·exact he.trans hf
  ·simp only [Sem.runT] at ho;cases h<;>first | (simp [fG] at ho;done) | (simp [Ends] at hf;done)
theorem runT_leaf {α:Type} {L:α->Prop} (s:Sem α):∀ (n:Nat) (w:World) (es:Array Event) {a:α} {w':World},Fit P L n s->(s.runT P w es).1=.ok a w'->L a:=by
 induction s with
 | pure a=>intro n w es b w' hf h;simp only [Sem.runT,Result.ok.injEq] at h;exact h.1▸hf.2
 | load m a k ih =>
  intro n w es b w' hf h
  simp only [Sem.runT] at h
  split at h
  ·exact ih _ n _ _ (hf _) h
  ·split at h
   ·exact ih _ n _ _ (hf _) h
   ·cases h
 | store m a v k ih =>
  intro n w es b w' hf h
  cases v with
  | agg x=>cases h
  | tuple x=>cases h
  | _ =>
   simp only [Sem.runT] at h
   split at h
   ·split at h
    ·cases h
    ·exact ih n _ _ hf h
   ·split at h
    ·exact ih n _ _ hf h
    ·cases h
 | new o k ih=>intro n w es b w' hf h;exact ih _ n _ _ (hf _) h
 | shape r k ih=>intro n w es b w' hf h;exact ih _ n _ _ (hf _) h
 | freeze a c k ih=>intro n w es b w' hf h;exact ih n _ _ hf h
 | frozen a k ih=>intro n w es b w' hf h;exact ih _ n _ _ (hf _) h
 | getObj r k ih =>
  intro n w es b w' hf h
  simp only [Sem.runT] at h
  split at h
  ·cases h
  ·exact ih _ n _ _ (hf _) h
  ·cases h
 | setObj r o k ih =>
  intro n w es b w' hf h
  simp only [Sem.runT] at h
  split at h
  ·cases h
  ·exact ih n _ _ hf h
  ·cases h
 | choose q k ih =>
  intro n w es b w' hf h
  simp only [Sem.runT] at h
  split at h
  ·exact ih _ n _ _ (hf _) h
  ·exact ih _ n _ _ (hf _) h
 | sys c k ih=>intro n w es b w' hf h;exact ih _ n _ _ (hf.2 _) h
 | program k ih=>intro n w es b w' hf h;exact ih _ n _ _ hf h
 | mark m k ih=>intro n w es b w' hf h;exact ih _ _ _ hf h
 | halt x=>intro n w es b w' hf h;cases h
def pq (es:Array Event):Prop:=∀ e∈es,(e.loc=.mark .disable\/e.loc=.mark .enable)->e.sync=true
theorem pq.push {es:Array Event} {e:Event} (h:pq es) (he:(e.loc=.mark .disable\/e.loc=.mark .enable)->e.sync=true):pq (es.push e):=by
 intro x hx
 rcases Array.mem_push.1 hx with hx | rfl
 ·exact h x hx
 ·exact he
theorem pq.cells {es:Array Event} (h:pq es) (l:List Addr) (wr at_:Bool):pq (es++l.toArray.map fun a=>(⟨.cell a,wr,at_⟩:Event)):=by
 intro x hx
 rcases Array.mem_append.1 hx with hx | hx
 ·exact h x hx
 ·obtain ⟨a,_,rfl⟩:=Array.mem_map.1 hx
  simp
theorem runT_synced {α:Type} (s:Sem α):∀ (w:World) (es:Array Event),pq es->pq (s.runT P w es).2:=by
 induction s with
 | pure a=>exact fun w es h=>h
 | load m a k ih =>
  intro w es h
  simp only [Sem.runT]
  split
  ·exact ih _ _ _ (h.push (by simp))
  ·split
   ·exact ih _ _ _ (h.cells _ _ _)
   ·exact h
 | store m a v k ih =>
  intro w es h
  cases v with
  | agg x=>exact h
  | tuple x=>exact h
  | _ =>
   simp only [Sem.runT]
   split
   ·split
    ·exact h
    ·exact ih _ _ (h.push (by simp))
   ·split
    ·exact ih _ _ (h.cells _ _ _)
    ·exact h
 | new o k ih=>exact fun w es h=>ih _ _ _ h
 | shape r k ih=>exact fun w es h=>ih _ _ _ h
 | freeze a c k ih=>exact fun w es h=>ih _ _ h
 | frozen a k ih=>exact fun w es h=>ih _ _ _ h
 | getObj r k ih =>
  intro w es h
  simp only [Sem.runT]
  split
  ·exact h
  ·exact ih _ _ _ (h.push (by simp))
  ·exact h
 | setObj r o k ih =>
  intro w es h
  simp only [Sem.runT]
  split
  ·exact h
  ·exact ih _ _ (h.push (by simp))
  ·exact h
 | choose q k ih =>
  intro w es h
  simp only [Sem.runT]
  split<;>exact ih _ _ _ h
 | sys c k ih=>exact fun w es h=>ih _ _ _ (h.push (by simp))
 | program k ih=>exact fun w es h=>ih _ _ _ h
 | mark m k ih=>exact fun w es h=>ih _ _ (h.push (by simp))
 | halt x=>exact fun w es h=>h
theorem seen_even (fn:FuncId) {es:Array Event} (h:pq es) (b:Nat):deafBehind b (seen P fn es)=deafBehind b es:=by
 unfold seen
 obtain ⟨l⟩:=es
 have key:∀ (l:List Event) (q:Bool) (kept:Array Event),(∀ e∈l,(e.loc=.mark .disable\/e.loc=.mark .enable)->e.sync=true)->
   deafBehind b (l.foldl (fun (x:Bool×Array Event) e=>match x with | (q,kept)=>match e.loc with | .mark (.extern f)=>((P.funcs[f]?).any (·.norace),kept) | _=>(q,if q&&!e.sync then kept else kept.push e)) (q,kept)).2=l.foldl rz (deafBehind b kept):=by
  intro l
  induction l with
  | nil=>intro q kept _;rfl
  | cons e l ih =>
   intro q kept hs
   simp only [List.foldl_cons]
   have qp:=fun x hx=>hs x (List.mem_cons_of_mem _ hx)
   have he:=hs e (by simp)
   split
   ·rename_i f hf
    rw [ih _ _ qp]
    congr 1
    simp [rz,hf]
   ·rename_i hne
    rw [ih _ _ qp]
    congr 1
    split
    ·rename_i hq
     have hsy:e.sync=false:=by simp at hq;exact hq.2
     unfold rz
     split
     ·rename_i hm;rw [he (.inl hm)] at hsy;cases hsy
     ·rename_i hm;rw [he (.inr hm)] at hsy;cases hsy
     ·rfl
    ·rw [dI]
 have:=key l ((P.funcs[fn]?).any (·.norace)) #[] (fun e he=>h e (by simpa using he))
 simp only [List.foldl_toArray] at this ⊢
 refine this.trans ?_
 rw [d_,d_]
 simp
end Lf
namespace Lf
open Go Go.Conc
variable {P : Program}
def aR:Item->Prop
 | .extern row _=>row = "runtime.print$piece"
 | .call ..=>False
 | _=>True
def aA (fr:Frame):Prop:=∀ it∈fr.todo,aR it
def lowest (g:Goroutine):Frame:=g.callers.getLast?.getD g.frame
structure kW (g:Goroutine):Prop where
 frame:aA g.frame
 callers:∀ fr∈g.callers,aA fr
 dying:∀ d,g.dying=some d->d.calling=true->(lowest g).kind=.report
def Local (dying:Bool) (F:World->GStep) (w:World):Prop :=
 match F w with
 | .go g w' es=>kW g/\(dying=true->g.dying≠none)/\(∀ t,g.status≠.sleeping t)/\g.status≠.parked/\
   (g.dying=none->g.status=.running->g.offers=none/\deafBehind 0 es=0/\∃ m,w'=re w' w.tape (w.drawn+m)/\∀ τ d,Alike w m τ d->F (re w τ d)=.go g (re w' τ (d+m)) es)
 | .comm g cs b sh w' es=>kW g/\g.status=.running/\(dying=true->g.dying≠none)/\
   (g.dying=none->g.offers=none/\deafBehind 0 es=0/\∃ m,w'=re w' w.tape (w.drawn+m)/\∀ τ d,Alike w m τ d->F (re w τ d)=.comm g cs b sh (re w' τ (d+m)) es)
 | .coroswitch g c x w' es=>kW g/\g.status=.running/\(dying=true->g.dying≠none)/\
   (g.dying=none->g.offers=none/\deafBehind 0 es=0/\∃ m,w'=re w' w.tape (w.drawn+m)/\∀ τ d,Alike w m τ d->F (re w τ d)=.coroswitch g c x (re w' τ (d+m)) es)
 | .spawn ..=>True
 | .ended ..=>True
 | _=>False
theorem cO {fr:Frame} (h:aA fr) (v:Value):aA (fr.finish v):=by
 unfold Frame.finish
 split
 all_goals rename_i heq
 all_goals intro it hit
 ·simp only [List.mem_cons] at hit
  rcases hit with rfl | hit
  ·exact trivial
  ·exact h it (by rw [heq];exact List.mem_cons_of_mem _ hit)
 ·simp only [List.mem_cons] at hit
  rcases hit with rfl | hit
  ·exact trivial
  ·exact h it (by rw [heq];exact List.mem_cons_of_mem _ hit)
 ·exact h it (by rw [heq];exact List.mem_cons_of_mem _ hit)
 ·exact (h (.call _ _ _ _) (by rw [heq];exact List.mem_cons_self):False).elim
 ·exact h it (by rw [heq];exact List.mem_cons_of_mem _ hit)
 ·exact h it hit
theorem jk {fr:Frame} (h:aA fr) {fr':Frame} (hs:∀ it∈fr'.todo,it∈fr.todo\/aR it):aA fr':=fun it hit=>(hs it hit).elim (h it) id
theorem eV (f:FuncId) (args:Array Value) (k:CallKind):aA (Frame.enter P f args k):=by
 intro it hit
 simp only [Frame.enter,List.mem_singleton] at hit
 subst hit;exact trivial
theorem td (l:Nat) (f:FuncId) (t:Array Value) (a b:Code) (k:CallKind):aA (Frame.round l f t a b k):=by
 intro it hit
 simp only [Frame.round,List.mem_cons,List.not_mem_nil,or_false] at hit
 rcases hit with rfl | rfl | rfl<;>exact trivial
theorem okFrame_row (args:Array Value) (k:CallKind):aA (Frame.ofRow P "runtime.print$piece" args k):=by
 intro it hit
 simp only [Frame.ofRow,List.mem_singleton] at hit
 subst hit;rfl
theorem dU {fr:Frame} (h:aA fr) {fr':Frame} (ht:fr'.todo=fr.todo):aA fr':=by unfold aA;rw [ht];exact h
theorem eW {fr:Frame} (h:aA fr) (vs:List PanicEntry):aA (fr.raise vs):=by unfold Frame.raise;split<;>exact dU h rfl
theorem eO (fr:Frame) (v:Value):(fr.finish v).kind=fr.kind:=by unfold Frame.finish;split<;>rfl
theorem iB (fr:Frame) (v:List PanicEntry):(fr.raise v).kind=fr.kind:=by unfold Frame.raise;split<;>rfl
theorem kW.top {g:Goroutine} (h:kW g) {fr:Frame} (hf:aA fr) (hk:fr.kind=g.frame.kind) (st:GoStatus) (off:Option (Array CommCase×CommShape)):kW { frame:=fr,callers:=g.callers,status:=st,dying:=g.dying,offers:=off }:=by
 refine ⟨hf,h.callers,fun d hd hc=>?_⟩
 have:=h.dying d hd hc
 unfold lowest at this ⊢
 cases hl:g.callers.getLast? with
 | none=>rw [hl] at this;simp only [Option.getD_none] at this ⊢;rw [hk];exact this
 | some x=>rw [hl] at this;simp only [Option.getD_some] at this ⊢;exact this
theorem kW.push {g:Goroutine} (h:kW g) {fr fr':Frame} (hf:aA fr) (hf':aA fr') (hk:fr'.kind=g.frame.kind) (st:GoStatus):kW { frame:=fr,callers:=fr'::g.callers,status:=st,dying:=g.dying }:=by
 refine ⟨hf,fun x hx=>?_,fun d hd hc=>?_⟩
 ·rcases List.mem_cons.1 hx with rfl | hx
  ·exact hf'
  ·exact h.callers x hx
 ·have:=h.dying d hd hc
  unfold lowest at this ⊢
  cases hl:g.callers.getLast? with
  | none =>
   have hn:g.callers=[]:=by simpa using hl
   rw [hl] at this
   simp only [hn,List.getLast?_singleton,Option.getD_some,Option.getD_none] at this ⊢
   rw [hk];exact this
  | some x =>
   rw [hl] at this
   have e:(fr'::g.callers).getLast? = some x:=by
    rw [List.getLast?_cons];simp [hl]
   simp only [e,Option.getD_some]
   exact this
theorem kW.pop {g:Goroutine} (h:kW g) {c:Frame} {rest:List Frame} (hc:g.callers=c::rest) {fr:Frame} (hf:aA fr) (hk:fr.kind=c.kind) (st:GoStatus):kW { frame:=fr,callers:=rest,status:=st,dying:=g.dying }:=by
 refine ⟨hf,fun x hx=>h.callers x (by rw [hc];exact List.mem_cons_of_mem _ hx),fun d hd hca=>?_⟩
 have:=h.dying d hd hca
 unfold lowest at this ⊢
 rw [hc,List.getLast?_cons] at this
 cases hl:rest.getLast? with
 | none=>simp only [hl,Option.getD_none,Option.getD_some] at this ⊢;rw [hk];exact this
 | some x=>simp only [hl,Option.getD_some] at this ⊢;exact this
theorem kW.dead {g:Goroutine} {d:Dying} (hd:g.dying=some d) (hc:d.calling=false) (hf:aA g.frame) (bn:∀ fr∈g.callers,aA fr):kW g :=
 ⟨hf,bn,fun e he hce=>by rw [hd] at he;cases he;rw [hc] at hce;cases hce⟩
def Made (dying:Bool) {α:Type} (r:Result α) (K:Result α->GStep) (x:GStep):Prop:=match x with
   | .go g w' es=>es=#[]/\kW g/\(dying=true->g.dying≠none)/\(∀ t,g.status≠.sleeping t)/\g.status≠.parked/\
     (g.dying=none->g.status=.running->g.offers=none/\fG r=true/\∀ τ d,K (reR τ d r)=.go g (re w' τ d) #[])
   | .comm g cs b sh w' es=>es=#[]/\kW g/\g.status=.running/\(dying=true->g.dying≠none)/\
     (g.dying=none->g.offers=none/\fG r=true/\∀ τ d,K (reR τ d r)=.comm g cs b sh (re w' τ d) #[])
   | .coroswitch g c x w' es=>es=#[]/\kW g/\g.status=.running/\(dying=true->g.dying≠none)/\
     (g.dying=none->g.offers=none/\fG r=true/\∀ τ d,K (reR τ d r)=.coroswitch g c x (re w' τ d) #[])
   | .spawn ..=>True
   | .ended ..=>True
   | _=>False
theorem nI {dying:Bool} {F E:World->GStep} {w w':World} {m:Nat} (h0:F w=E w') (h1:w'=re w' w.tape (w.drawn+m)) (h2:∀ τ d,Alike w m τ d->F (re w τ d)=E (re w' τ (d+m))) (h:Local dying E w'):Local dying F w:=by
 have e1:w'.tape=w.tape:=by rw [h1];rfl
 have e2:w'.drawn=w.drawn+m:=by rw [h1];rfl
 have key:∀ m' w'' (X:World->GStep),(w''=re w'' w'.tape (w'.drawn+m')/\∀ τ d,Alike w' m' τ d->E (re w' τ d)=X (re w'' τ (d+m')))->
   ∃ n,w''=re w'' w.tape (w.drawn+n)/\∀ τ d,Alike w n τ d->F (re w τ d)=X (re w'' τ (d+n)):=by
  rintro m' w'' X ⟨a,b⟩
  refine ⟨m+m',by rw [e1,e2] at a;rw [<- Nat.add_assoc];exact a,fun τ d ha=>?_⟩
  rw [h2 τ d fun j hj=>ha j (by omega),<- Nat.add_assoc]
  refine b τ (d+m) fun j hj=>?_
  rw [e1,e2];have:=ha (m+j) (by omega);rw [<- Nat.add_assoc] at this;rw [this,<- Nat.add_assoc]
 unfold Local at h ⊢
 rw [h0]
 generalize E w'=x at h ⊢
 cases x with
 | go g w'' es =>
  obtain ⟨a1,a2,a3,a4,a5⟩:=h
  exact ⟨a1,a2,a3,a4,fun x y=>let ⟨b1,b2,m',b3,b4⟩:=a5 x y;⟨b1,b2,key m' w'' (fun v=>.go g v es) ⟨b3,b4⟩⟩⟩
 | comm g cs b sh w'' es =>
  obtain ⟨a1,a0,a2,a5⟩:=h
  exact ⟨a1,a0,a2,fun x=>let ⟨b1,b2,m',b3,b4⟩:=a5 x;⟨b1,b2,key m' w'' (fun v=>.comm g cs b sh v es) ⟨b3,b4⟩⟩⟩
 | coroswitch g c y w'' es =>
  obtain ⟨a1,a0,a2,a5⟩:=h
  exact ⟨a1,a0,a2,fun x=>let ⟨b1,b2,m',b3,b4⟩:=a5 x;⟨b1,b2,key m' w'' (fun v=>.coroswitch g c y v es) ⟨b3,b4⟩⟩⟩
 | spawn=>exact trivial
 | ended=>exact trivial
 | _=>exact h.elim
theorem oQ {α:Type} {L:α->Prop} {s:Sem α} (hs:Fit P L 0 s) (dying:Bool) (fn:FuncId) (K:Result α->GStep) (w:World) {F:World->GStep}
  (hF:∀ w,∃ es,F w=GStep.after es (K (s.runT P w #[]).1)/\(fG (s.runT P w #[]).1=true->es=seen P fn (s.runT P w #[]).2\/es=#[])/\
   ∀ w',(s.runT P w' #[]).2=(s.runT P w #[]).2->fG (s.runT P w #[]).1=true->fG (s.runT P w' #[]).1=true->F w'=GStep.after es (K (s.runT P w' #[]).1))
  (hK:Made dying (s.runT P w #[]).1 K (K (s.runT P w #[]).1)) :
  Local dying F w:=by
 unfold Local
 obtain ⟨ev,hF1,hF2,hF3⟩:=hF w
 have h0:=hK
 clear hK
 unfold Made at h0
 have js:fG (s.runT P w #[]).1=true->deafBehind 0 ev=0:=fun h=>by
  rcases hF2 h with rfl | rfl
  ·rw [seen_even fn (runT_synced s w #[] (fun e he=>by simp at he))]
   exact runT_even s 0 w #[] 0 hs h rfl
  ·rfl
 have hal:=fun h=>mV P s 0 w #[] hs (resOn_of_go h)
 rw [hF1]
 clear hF1 hF2
 generalize hx:s.runT P w #[]=x at h0 js hal hF3 ⊢
 obtain ⟨r,es⟩:=x
 simp only at h0 js hal hF3 ⊢
 have hgo:∀ τ d,fG (reR τ d r)=fG r:=fun τ d=>by cases r with | ok a w=>rfl | halt x w=>cases x<;>rfl
 generalize hk:K r=k at h0 ⊢
 cases k with
 | go g w' es' =>
  obtain ⟨rfl,h1,h2,h3,h4,h5⟩:=h0
  refine ⟨h1,h2,h3,h4,fun hd hr=>?_⟩
  obtain ⟨h6,h7,h9⟩:=h5 hd hr
  obtain ⟨m,e1,e2⟩:=hal h7
  refine ⟨h6,by simpa [GStep.after] using js h7,m,?_,fun τ d ha=>?_⟩
  ·have:=h9 w.tape (w.drawn+m)
   rw [<- e1,hk] at this
   simp only [GStep.go.injEq,true_and,and_true] at this
   exact this
  ·have hw:=e2 τ d ha
   rw [hF3 (re w τ d) (by rw [hw]) h7 (by rw [hw];simp only [hgo];exact h7),hw]
   simp only [h9,GStep.after]
 | comm g cs b sh w' es' =>
  obtain ⟨rfl,h1,h00,h2,h5⟩:=h0
  refine ⟨h1,h00,h2,fun hd=>?_⟩
  obtain ⟨h6,h7,h9⟩:=h5 hd
  obtain ⟨m,e1,e2⟩:=hal h7
  refine ⟨h6,by simpa [GStep.after] using js h7,m,?_,fun τ d ha=>?_⟩
  ·have:=h9 w.tape (w.drawn+m)
   rw [<- e1,hk] at this
   simp only [GStep.comm.injEq,true_and,and_true] at this
   exact this
  ·have hw:=e2 τ d ha
   rw [hF3 (re w τ d) (by rw [hw]) h7 (by rw [hw];simp only [hgo];exact h7),hw]
   simp only [h9,GStep.after]
 | coroswitch g c y w' es' =>
  obtain ⟨rfl,h1,h00,h2,h5⟩:=h0
  refine ⟨h1,h00,h2,fun hd=>?_⟩
  obtain ⟨h6,h7,h9⟩:=h5 hd
  obtain ⟨m,e1,e2⟩:=hal h7
  refine ⟨h6,by simpa [GStep.after] using js h7,m,?_,fun τ d ha=>?_⟩
  ·have:=h9 w.tape (w.drawn+m)
   rw [<- e1,hk] at this
   simp only [GStep.coroswitch.injEq,true_and,and_true] at this
   exact this
  ·have hw:=e2 τ d ha
   rw [hF3 (re w τ d) (by rw [hw]) h7 (by rw [hw];simp only [hgo];exact h7),hw]
   simp only [h9,GStep.after]
 | spawn=>exact trivial
 | ended=>exact trivial
 | _=>exact h0.elim
def made (P:Program) (fr:Frame) (callers:List Frame) (dying:Option Dying):Result Next->GStep
 | .ok a w=>stepG.apply P false fr callers dying (.pure a) w
 | .halt h w=>stepG.apply P false fr callers dying (.halt h) w
end Lf
namespace Lf
open Go Go.Conc
variable {P : Program}
theorem bA (fn:FuncId):seen P fn #[]=#[]:=by simp [seen]
theorem aZ (x:GStep):GStep.after #[] x=x:=by cases x<;>simp [GStep.after]
theorem qL (fr:Frame) (callers:List Frame) (dying:Option Dying) (s:Sem Next) (w:World) {r:Result Next} {es:Array Event} (h:s.runT P w #[]=(r,es)) (hr:fG r=true) :
  stepG.apply P true fr callers dying s w=GStep.after (seen P fr.fn (if fr.kind==.early then #[] else es)) (made P fr callers dying r):=by
 cases r with
 | ok a w' =>
  simp only [made]
  unfold stepG.apply
  simp only [h,if_true,Bool.false_eq_true,if_false,Sem.run,ite_self,bA,aZ]
 | halt x w' =>
  cases x<;>first | (simp [fG] at hr;done) | skip
  all_goals
   simp only [made]
   unfold stepG.apply
   simp only [h,if_true,Bool.false_eq_true,if_false,Sem.run,ite_self,bA,aZ]
theorem apply_made2 (fr:Frame) (callers:List Frame) (dying:Option Dying) (s:Sem Next) (w:World) {r:Result Next} {es:Array Event} (h:s.runT P w #[]=(r,es)) :
  ∃ es',stepG.apply P true fr callers dying s w=GStep.after es' (made P fr callers dying r):=by
 cases r with
 | ok a w'=>exact ⟨_,qL fr callers dying s w h rfl⟩
 | halt x w' =>
  cases x with
  | unsupported u =>
   cases u<;>first
    | (refine ⟨seen P fr.fn (if fr.kind==.early then #[] else es),?_⟩;simp only [made];unfold stepG.apply;simp only [h,if_true,Bool.false_eq_true,if_false,Sem.run,ite_self,bA,aZ];done)
    | (refine ⟨#[],?_⟩;simp only [made];unfold stepG.apply;simp only [h,if_true,Bool.false_eq_true,if_false,Sem.run,ite_self,bA,aZ];done)
  | _=>first
    | (refine ⟨seen P fr.fn (if fr.kind==.early then #[] else es),?_⟩;simp only [made];unfold stepG.apply;simp only [h,if_true,Bool.false_eq_true,if_false,Sem.run,ite_self,bA,aZ];done)
    | (refine ⟨#[],?_⟩;simp only [made];unfold stepG.apply;simp only [h,if_true,Bool.false_eq_true,if_false,Sem.run,ite_self,bA,aZ];done)
theorem apply_made (fr:Frame) (callers:List Frame) (dying:Option Dying) (s:Sem Next) (w:World) :
  ∃ es,stepG.apply P true fr callers dying s w=GStep.after es (made P fr callers dying (s.runT P w #[]).1)/\(fG (s.runT P w #[]).1=true->es=seen P fr.fn (s.runT P w #[]).2\/es=#[])/\
   ∀ w',(s.runT P w' #[]).2=(s.runT P w #[]).2->fG (s.runT P w #[]).1=true->fG (s.runT P w' #[]).1=true->stepG.apply P true fr callers dying s w'=GStep.after es (made P fr callers dying (s.runT P w' #[]).1):=by
 by_cases hr:fG (s.runT P w #[]).1=true
 ·refine ⟨_,qL fr callers dying s w rfl hr,fun _=>?_,fun w' h1 _ h3=>?_⟩
  ·by_cases hk:(fr.kind==.early)=true
   ·exact .inr (by simp only [hk,if_true,bA])
   ·exact .inl (by simp only [hk,if_false,Bool.false_eq_true])
  ·rw [<- h1];exact qL fr callers dying s w' rfl h3
 ·obtain ⟨es',h⟩:=apply_made2 fr callers dying s w (r:=(s.runT P w #[]).1) (es:=(s.runT P w #[]).2) rfl
  exact ⟨es',h,fun h=>absurd h hr,fun _ _ h=>absurd h hr⟩
theorem kW.here {fr:Frame} {callers:List Frame} {st:GoStatus} {dying:Option Dying} {off:Option (Array CommCase×CommShape)} (h:kW ⟨fr,callers,st,dying,off⟩) {fr':Frame} (hf:aA fr') (hk:fr'.kind=fr.kind) (st':GoStatus):kW { frame:=fr',callers:=callers,status:=st',dying:=dying } :=
 h.top hf hk st' none
theorem dieOf_ok {fr:Frame} (hf:aA fr) (l:List ByteArray) (m:String) (b:Bool) (w:World) (dying:Bool) {α:Type} {r:Result α} (K:Result α->GStep):Made dying r K (dieOf fr l m b w):=by
 unfold dieOf Made
 exact ⟨rfl,kW.dead rfl rfl hf (fun _ h=>by cases h),(fun _ h=>by cases h),(by simp),(by simp),(fun h=>by cases h)⟩
theorem qY {fr:Frame} (hf:aA fr) (m:String) (w:World) (dying:Bool) {α:Type} {r:Result α} (K:Result α->GStep):Made dying r K (endThrow fr m w):=dieOf_ok hf _ _ _ _ _ _
theorem endFatal_ok {fr:Frame} (hf:aA fr) (callers:List Frame) (dy:Option Dying) (m:String) (w:World) (dying:Bool) {α:Type} {r:Result α} (K:Result α->GStep):Made dying r K (endFatal P fr callers dy m w):=by
 unfold endFatal
 simp only
 split
 ·exact dieOf_ok hf _ _ _ _ _ _
 ·exact trivial
 ·exact trivial
def k_ (cs cs':List Frame):Prop:=cs'.map (fun f=>(f.todo,f.kind))=cs.map (fun f=>(f.todo,f.kind))
theorem jq:∀ {callers:List Frame} {fr:Frame} {v:Value} {cs:List Frame},tryRecover fr callers=some (v,cs)->k_ callers cs:=by
 intro callers
 induction callers with
 | nil=>intro fr v cs h;unfold tryRecover at h;split at h<;>simp_all
 | cons c rest ih =>
  intro fr v cs h
  unfold tryRecover at h
  split at h
  ·rename_i heq
   cases heq
   split at h
   ·cases h;simp [k_]
   ·cases h
  ·rename_i heq
   cases heq
   obtain ⟨⟨v',rest'⟩,h1,h2⟩:=Option.map_eq_some_iff.1 h
   cases h2
   have:=ih h1
   simp only [k_,List.map_cons] at this ⊢
   rw [this]
  ·cases h
theorem ub:∀ {callers:List Frame} {l:Nat} {v:Value} {cs:List Frame},tryRecoverLoop l callers=some (v,cs)->k_ callers cs:=by
 intro callers
 induction callers with
 | nil=>intro l v cs h;simp [tryRecoverLoop] at h
 | cons c rest ih =>
  intro l v cs h
  unfold tryRecoverLoop at h
  obtain ⟨⟨v',rest'⟩,h1,h2⟩:=Option.map_eq_some_iff.1 h
  cases h2
  have:k_ rest rest':=by
   split at h1
   ·exact ih h1
   ·split at h1
    ·exact jq h1
    ·exact ih h1
   ·exact ih h1
  simp only [k_,List.map_cons] at this ⊢
  rw [this]
theorem kW.sim {g:Goroutine} (h:kW g) {cs:List Frame} (hs:k_ g.callers cs):kW { g with callers:=cs }:=by
 refine ⟨h.frame,fun fr hfr=>?_,fun d hd hc=>?_⟩
 ·have:(fr.todo,fr.kind)∈g.callers.map (fun f=>(f.todo,f.kind)):=by rw [<- hs];exact List.mem_map.2 ⟨fr,hfr,rfl⟩
  obtain ⟨f,hf,e⟩:=List.mem_map.1 this
  exact dU (h.callers f hf) (by simp only [Prod.mk.injEq] at e;exact e.1.symm)
 ·have h0:=h.dying d hd hc
  have e:(cs.map (fun f=>(f.todo,f.kind))).getLast? = (g.callers.map (fun f=>(f.todo,f.kind))).getLast?:=by rw [hs]
  rw [List.getLast?_map,List.getLast?_map] at e
  unfold lowest at h0 ⊢
  simp only
  cases h1:g.callers.getLast? with
  | none=>rw [h1] at e h0;cases h2:cs.getLast? with
   | none=>exact h0
   | some x=>rw [h2] at e;cases e
  | some y=>rw [h1] at e h0;cases h2:cs.getLast? with
   | none=>rw [h2] at e;cases e
   | some x=>rw [h2] at e;simp only [Option.map_some,Option.some.injEq,Prod.mk.injEq] at e;simp only [Option.getD_some] at h0 ⊢;rw [e.2];exact h0
theorem made_ok {fr:Frame} {callers:List Frame} {dying:Option Dying} (hg:kW ⟨fr,callers,.running,dying,none⟩) (r:Result Next) (hL:∀ a w',r=.ok a w'->cX a)
  (hio:∀ g w',r≠.halt (.unsupported (.initOrder g)) w'):Made dying.isSome r (made P fr callers dying) (made P fr callers dying r):=by
 have n7:∀ g:Goroutine,g.dying=dying->(dying.isSome=true->g.dying≠none):=fun g h h'=>by rw [h];intro h0;rw [h0] at h';cases h'
 cases r with
 | ok n w' =>
  have hn:=hL n w' rfl
  cases n with
  | value v =>
   have e:∀ w,made P fr callers dying (.ok (.value v) w)=.go { frame:=fr.finish v,callers,status:=.running,dying } w:=fun w=>by
    simp only [made,stepG.apply,Bool.false_eq_true,if_false,Sem.run,ite_self,bA,aZ]
   rw [e]
   exact ⟨rfl,hg.here (cO hg.frame v) (eO _ _) _,n7 _ rfl,by simp,by simp,fun _ _=>⟨rfl,rfl,fun _ _=>e _⟩⟩
  | skip =>
   have e:∀ w,made P fr callers dying (.ok .skip w)=.go { frame:=fr.finish undef,callers,status:=.running,dying } w:=fun w=>by
    simp only [made,stepG.apply,Bool.false_eq_true,if_false,Sem.run,ite_self,bA,aZ]
   rw [e]
   exact ⟨rfl,hg.here (cO hg.frame _) (eO _ _) _,n7 _ rfl,by simp,by simp,fun _ _=>⟨rfl,rfl,fun _ _=>e _⟩⟩
  | enter f args =>
   have e:∃ k,∀ w,made P fr callers dying (.ok (.enter f args) w)=.go { frame:=Frame.enter P f args k,callers:=fr::callers,status:=.running,dying } w:=⟨_,fun w=>by
    simp only [made,stepG.apply,Bool.false_eq_true,if_false,Sem.run,ite_self,bA,aZ]
    rfl⟩
   obtain ⟨k,e⟩:=e
   rw [e]
   exact ⟨rfl,hg.push (eV _ _ _) hg.frame rfl _,n7 _ rfl,by simp,by simp,fun _ _=>⟨rfl,rfl,fun _ _=>e _⟩⟩
  | round l f t a b =>
   have e:∀ w,made P fr callers dying (.ok (.round l f t a b) w)=.go { frame:=Frame.round l f t a b .normal,callers:=fr::callers,status:=.running,dying } w:=fun w=>by
    simp only [made,stepG.apply,Bool.false_eq_true,if_false,Sem.run,ite_self,bA,aZ]
   rw [e]
   exact ⟨rfl,hg.push (td _ _ _ _ _ _) hg.frame rfl _,n7 _ rfl,by simp,by simp,fun _ _=>⟨rfl,rfl,fun _ _=>e _⟩⟩
  | defer d =>
   have e:∀ w,made P fr callers dying (.ok (.defer d) w)=.go { frame:=({ fr with defers:=d::fr.defers }:Frame).finish undef,callers,status:=.running,dying } w:=fun w=>by
    simp only [made,stepG.apply,Bool.false_eq_true,if_false,Sem.run,ite_self,bA,aZ]
   rw [e]
   exact ⟨rfl,hg.here (fr':=({ fr with defers:=d::fr.defers }:Frame).finish undef) (cO (fr:={ fr with defers:=d::fr.defers }) (dU (fr:=fr) hg.frame rfl) _) (by rw [eO]) _,n7 _ rfl,by simp,by simp,fun _ _=>⟨rfl,rfl,fun _ _=>e _⟩⟩
  | spawn d =>
   have e:(∃ m,made P fr callers dying (.ok (.spawn d) w')=endThrow fr m w')\/∃ g c,made P fr callers dying (.ok (.spawn d) w')=.spawn g c w':=by
    simp only [made,stepG.apply,Bool.false_eq_true,if_false,Sem.run,ite_self,bA,aZ]
    repeat' split
    all_goals first | exact .inl ⟨_,rfl⟩ | exact .inr ⟨_,_,rfl⟩
   rcases e with ⟨m,e⟩ | ⟨g,c,e⟩
   ·rw [e];exact qY hg.frame m w' _ _
   ·rw [e];exact trivial
  | comm cs b sh =>
   have e:∀ w,made P fr callers dying (.ok (.comm cs b sh) w)=.comm { frame:=fr,callers,status:=.running,dying } cs b sh w:=fun w=>by
    simp only [made,stepG.apply,Bool.false_eq_true,if_false,Sem.run,ite_self,bA,aZ]
   rw [e]
   exact ⟨rfl,hg,rfl,n7 _ rfl,fun _=>⟨rfl,rfl,fun _ _=>e _⟩⟩
  | coroswitch c x =>
   have e:∀ w,made P fr callers dying (.ok (.coroswitch c x) w)=.coroswitch { frame:=fr,callers,status:=.running,dying } c x w:=fun w=>by
    simp only [made,stepG.apply,Bool.false_eq_true,if_false,Sem.run,ite_self,bA,aZ]
   rw [e]
   exact ⟨rfl,hg,rfl,n7 _ rfl,fun _=>⟨rfl,rfl,fun _ _=>e _⟩⟩
  | row row args =>
   obtain rfl:row = "runtime.print$piece":=hn
   by_cases hex:∃ ro ar k,fr.todo=.extern ro ar::k
   ·obtain ⟨ro,ar,k,ht⟩:=hex
    have e:∀ w,made P fr callers dying (.ok (.row "runtime.print$piece" args) w)=.go { frame:={ fr with todo:=.extern "runtime.print$piece" args::k },callers,status:=.running,dying } w:=fun w=>by
     simp only [made,stepG.apply,Bool.false_eq_true,if_false,Sem.run,ite_self,bA,aZ,ht]
    rw [e]
    refine ⟨rfl,hg.here (fr':={ fr with todo:=.extern "runtime.print$piece" args::k }) (fun it hit=>?_) rfl _,n7 _ rfl,by simp,by simp,fun _ _=>⟨rfl,rfl,fun _ _=>e _⟩⟩
    rcases List.mem_cons.1 hit with rfl | hit
    ·rfl
    ·exact hg.frame it (by show it∈fr.todo;rw [ht];exact List.mem_cons_of_mem _ hit)
   ·have e:∃ k,∀ w,made P fr callers dying (.ok (.row "runtime.print$piece" args) w)=.go { frame:=Frame.ofRow P "runtime.print$piece" args k,callers:=fr::callers,status:=.running,dying } w:=by
     refine ⟨.normal,fun w=>?_⟩
     cases htd:fr.todo with
     | nil=>simp only [made,stepG.apply,Bool.false_eq_true,if_false,Sem.run,ite_self,bA,aZ,htd]
     | cons it k =>
      cases it with
      | extern ro ar=>exact (hex ⟨_,_,_,htd⟩).elim
      | call a b c d=>exact (hg.frame (.call a b c d) (by show _∈fr.todo;rw [htd];exact List.mem_cons_self):False).elim
      | _=>simp only [made,stepG.apply,Bool.false_eq_true,if_false,Sem.run,ite_self,bA,aZ,htd]
    obtain ⟨k,e⟩:=e
    rw [e]
    exact ⟨rfl,hg.push (okFrame_row _ _) hg.frame rfl _,n7 _ rfl,by simp,by simp,fun _ _=>⟨rfl,rfl,fun _ _=>e _⟩⟩
  | recover =>
   have e:(∃ v cs,k_ callers cs/\∀ w,made P fr callers dying (.ok .recover w)=.go { frame:=fr.finish v,callers:=cs,status:=.running,dying } w):=by
    simp only [made,stepG.apply,Bool.false_eq_true,if_false,Sem.run,ite_self,bA,aZ]
    split
    ·rename_i v cs h
     refine ⟨v,cs,?_,fun _=>rfl⟩
     split at h
     ·split at h
      ·exact jq h
      ·exact ub h
     ·exact jq h
    ·exact ⟨_,callers,rfl,fun _=>rfl⟩
   obtain ⟨v,cs,hs,e⟩:=e
   rw [e]
   exact ⟨rfl,(hg.here (cO hg.frame v) (eO _ _) .running).sim hs,n7 _ rfl,by simp,by simp,fun _ _=>⟨rfl,rfl,fun _ _=>e _⟩⟩
  | _=>exact hn.elim
 | halt x w' =>
  cases x with
  | panic v =>
   have e:∀ w,made P fr callers dying (.halt (.panic v) w)=.go { frame:=fr.raise [{ v,recovered:=false }],callers,status:=.running,dying } w:=fun w=>by
    simp only [made,stepG.apply,Bool.false_eq_true,if_false,Sem.run,ite_self,bA,aZ]
   rw [e]
   exact ⟨rfl,hg.here (eW hg.frame _) (iB _ _) _,n7 _ rfl,by simp,by simp,fun _ _=>⟨rfl,rfl,fun _ _=>e _⟩⟩
  | goexit =>
   have e:∀ w,made P fr callers dying (.halt .goexit w)=.go { frame:=fr.raise [goexitEntry],callers,status:=.running,dying } w:=fun w=>by
    simp only [made,stepG.apply,Bool.false_eq_true,if_false,Sem.run,ite_self,bA,aZ]
   rw [e]
   exact ⟨rfl,hg.here (eW hg.frame _) (iB _ _) _,n7 _ rfl,by simp,by simp,fun _ _=>⟨rfl,rfl,fun _ _=>e _⟩⟩
  | blocked =>
   have e:made P fr callers dying (.halt .blocked w')=.go { frame:=fr,callers,status:=.blocked,dying } w':=by
    simp only [made,stepG.apply,Bool.false_eq_true,if_false,Sem.run,ite_self,bA,aZ]
   rw [e]
   exact ⟨rfl,hg.here hg.frame rfl _,n7 _ rfl,by simp,by simp,fun _ h=>by cases h⟩
  | waiting =>
   have e:made P fr callers dying (.halt .waiting w')=.go { frame:=fr,callers,status:=.waiting,dying } w':=by
    simp only [made,stepG.apply,Bool.false_eq_true,if_false,Sem.run,ite_self,bA,aZ]
   rw [e]
   exact ⟨rfl,hg.here hg.frame rfl _,n7 _ rfl,by simp,by simp,fun _ h=>by cases h⟩
  | fatal m =>
   have e:made P fr callers dying (.halt (.fatal m) w')=endFatal P fr callers dying m w':=by
    simp only [made,stepG.apply,Bool.false_eq_true,if_false,Sem.run,ite_self,bA,aZ]
   rw [e];exact endFatal_ok hg.frame callers dying m w' _ _
  | throw m =>
   have e:made P fr callers dying (.halt (.throw m) w')=endThrow fr m w':=by
    simp only [made,stepG.apply,Bool.false_eq_true,if_false,Sem.run,ite_self,bA,aZ]
   rw [e];exact qY hg.frame m w' _ _
  | unsupported u =>
   cases u with
   | initOrder g=>exact absurd rfl (hio g w')
   | _ =>
    simp only [made,stepG.apply,Bool.false_eq_true,if_false,Sem.run,ite_self,bA,aZ]
    exact trivial
  | _ =>
   simp only [made,stepG.apply,Bool.false_eq_true,if_false,Sem.run,ite_self,bA,aZ]
   exact trivial
theorem kW.pushes {fr:Frame} {callers:List Frame} {dying:Option Dying} (h:kW ⟨fr,callers,.running,dying,none⟩) {f:Frame} (hf:aA f) {l:List Frame} (hl:∀ x∈l,aA x):kW { frame:=f,callers:=l++fr::callers,status:=.running,dying:=dying }:=by
 refine ⟨hf,fun x hx=>?_,fun d hd hc=>?_⟩
 ·rcases List.mem_append.1 hx with hx | hx
  ·exact hl x hx
  ·rcases List.mem_cons.1 hx with rfl | hx
   ·exact h.frame
   ·exact h.callers x hx
 ·have:=h.dying d hd hc
  unfold lowest at this ⊢
  simp only [List.getLast?_append,List.getLast?_cons] at this ⊢
  cases hl:callers.getLast?<;>simp [hl] at this ⊢<;>exact this
theorem brought_re (w:World) (τ:Tape) (d n:Nat):∀ l s,P.brought (re w τ d) n l s=P.brought w n l s:=by
 induction n with
 | zero=>intro l s;unfold Program.brought;cases l<;>rfl
 | succ n ih =>
  intro l s
  cases l with
  | nil=>rfl
  | cons f l =>
   unfold Program.brought
   simp only [ih]
   rfl
theorem found_re (w:World) (τ:Tape) (d n:Nat):∀ f,P.found (re w τ d) n f=P.found w n f:=by
 induction n with
 | zero=>intro f;rfl
 | succ n ih =>
  intro f
  unfold Program.found
  simp only [ih]
  rfl
theorem local_early {fr:Frame} {callers:List Frame} {dying:Option Dying} (hg:kW ⟨fr,callers,.running,dying,none⟩) (g:Nat) (w:World):Local dying.isSome (fun w=>early P fr callers dying g w) w:=by
 have n7:∀ g:Goroutine,g.dying=dying->(dying.isSome=true->g.dying≠none):=fun g h h'=>by rw [h];intro h0;rw [h0] at h';cases h'
 have hh:∀ w τ d,(re w τ d).heap=w.heap:=fun _ _ _=>rfl
 have hbr:∀ w τ d n l s,P.brought (re w τ d) n l s=P.brought w n l s:=fun w τ d n l s=>brought_re w τ d n l s
 have hfo:∀ w τ d n f,P.found (re w τ d) n f=P.found w n f:=fun w τ d n f=>found_re w τ d n f
 have now:∀ {F:World->GStep} (x:Goroutine) (f:Array Obj->Array Obj) (w:World),kW x->x.dying=dying->x.status=.running->x.offers=none->(∀ τ d,F (re w τ d)=.go x (re { w with heap:=f w.heap } τ d))->Local dying.isSome F w:=by
  intro F x f w hx hd df ho hF
  have h0:=hF w.tape w.drawn
  rw [re_self] at h0
  unfold Local
  rw [h0]
  exact ⟨hx,n7 _ hd,by rw [df];simp,by rw [df];simp,fun _ _=>⟨ho,rfl,0,rfl,fun τ d _=>hF τ d⟩⟩
 have stop:∀ {F:World->GStep} (w:World) {o w' es},F w=.ended o w' es->Local dying.isSome F w:=by
  intro F w o w' es h;unfold Local;rw [h];trivial
 have notYet:∀ {F:World->GStep} (w:World),(∀ τ d,F (re w τ d)=match w.heap[g]? with | some (.pending c elem)=>.go { frame:=fr,callers,status:=.running,dying } (re { w with heap:=w.heap.setIfInBounds g (.cells c elem) } τ d) | _=>.ended (.stuck "early: the variable does not wait" (fr.pos P)) (re w τ d))->Local dying.isSome F w:=by
  intro F w hF
  cases hw:w.heap[g]? with
  | none=>exact stop w (by have:=hF w.tape w.drawn;rw [hw] at this;exact this)
  | some o =>
   cases o with
   | pending c elem=>exact now _ (fun h=>h.setIfInBounds g (.cells c elem)) w (hg.here hg.frame rfl _) rfl rfl rfl (fun τ d=>by rw [hF,hw])
   | _=>exact stop w (by have:=hF w.tape w.drawn;rw [hw] at this;exact this)
 have hsh:∀ w τ d (o:Option Nat),o.bind (re w τ d).shape? = o.bind w.shape?:=fun _ _ _ _=>rfl
 by_cases h1:P.follows .staticDataAhead=true
 ·cases h2:P.stepOf g with
  | none=>exact stop (o:=.unsupported (.initOrder g) (fr.pos P)) (w':=w) (es:=#[]) w (by simp [early,h1,h2])
  | some f =>
   have there:∀ {F:World->GStep} (w:World),(∀ τ d,F (re w τ d)=.go { frame:=Frame.enter P f #[] .early,callers:=(if (P.code? f).any P.plainData then (P.brought w (2*P.funcs.size+1) [f] []).drop 1 else []).map (Frame.enter P · #[] .early)++fr::callers,status:=.running,dying } (re w τ d))->Local dying.isSome F w:=by
    intro F w hF
    refine now _ (fun h=>h) w (hg.pushes (eV _ _ _) fun x hx=>?_) rfl rfl rfl hF
    obtain ⟨y,_,rfl⟩:=List.mem_map.1 hx
    exact eV _ _ _
   by_cases h3:(P.code? f).any P.atRunTime=true
   ·exact notYet w (fun τ d=>by simp only [early,h1,h2,h3,hh,Bool.not_true,Bool.false_eq_true,if_false,if_true];rfl)
   by_cases h4:(((P.code? f).bind fun c=>(readies c).getLast?).bind w.shape?).isSome=true
   ·exact notYet w (fun τ d=>by simp only [early,h1,h2,h3,h4,hh,hsh,Bool.not_true,Bool.false_eq_true,if_false,if_true];rfl)
   cases h5:P.found w P.funcs.size f with
   | unknown=>exact stop (o:=.unsupported (.initOrder g) (fr.pos P)) (w':=w) (es:=#[]) w (by simp only [early,h1,h2,h3,h4,h5,Bool.not_true,Bool.false_eq_true,if_false])
   | notYet =>
    cases h6:(fr.kind==.early) with
    | true=>exact stop (o:=.unsupported (.initOrder g) (fr.pos P)) (w':=w) (es:=#[]) w (by simp only [early,h1,h2,h3,h4,h5,h6,Bool.not_true,Bool.false_eq_true,if_false])
    | false=>exact notYet w (fun τ d=>by simp only [early,h1,h2,h3,h4,h5,h6,hh,hsh,hfo,Bool.not_true,Bool.false_eq_true,if_false];rfl)
   | either =>
    cases h6:(fr.kind==.early) with
    | true=>exact there w (fun τ d=>by simp only [early,h1,h2,h3,h4,h5,h6,hh,hsh,hfo,hbr,Bool.not_true,Bool.false_eq_true,if_false])
    | false =>
     by_cases h7:(P.code? f).any P.plainData=true
     ·exact there w (fun τ d=>by simp only [early,h1,h2,h3,h4,h5,h6,h7,hh,hsh,hfo,hbr,Bool.not_true,Bool.false_eq_true,if_false,if_true])
     by_cases h8:(P.code? f).any P.bareCopy=true
     ·have hch:∀ w,(choose (.early g)).run P w=.ok ((Question.early g).cut (w.tape w.drawn (.early g))) { w with drawn:=w.drawn+1 }:=fun w=>by simp [choose,Sem.run,Question.forced]
      have al:∀ τ d,Alike w 1 τ d->τ d=w.tape w.drawn:=fun τ d h=>by have:=h 0 (by omega);simpa using this
      cases hn:(Question.early g).cut (w.tape w.drawn (.early g)) with
      | zero =>
       refine nI (E:=fun v=>match v.heap[g]? with | some (.pending c elem)=>.go { frame:=fr,callers,status:=.running,dying } { v with heap:=v.heap.setIfInBounds g (.cells c elem) } | _=>.ended (.stuck "early: the variable does not wait" (fr.pos P)) v) (w':={ w with drawn:=w.drawn+1 }) (m:=1) ?_ rfl (fun τ d ha=>?_) (notYet _ (fun τ d=>?_))
       ·simp only [early,h1,h2,h3,h4,h5,h6,h7,h8,hch,hn,Bool.not_true,Bool.false_eq_true,if_false]
        rfl
       ·have e:(Question.early g).cut ((re w τ d).tape (re w τ d).drawn (.early g))=0:=by show (Question.early g).cut (τ d (.early g))=0;rw [al τ d ha];exact hn
        simp only [early,h1,h2,h3,h4,h5,h6,h7,h8,hh,hsh,hfo,hch,e,Bool.not_true,Bool.false_eq_true,if_false]
        rfl
       ·rfl
      | succ k =>
       refine nI (E:=fun v=>.go { frame:=Frame.enter P f #[] .early,callers:=(if (P.code? f).any P.plainData then (P.brought w (2*P.funcs.size+1) [f] []).drop 1 else []).map (Frame.enter P · #[] .early)++fr::callers,status:=.running,dying } v) (w':={ w with drawn:=w.drawn+1 }) (m:=1) ?_ rfl (fun τ d ha=>?_) (there _ (fun τ d=>?_))
       ·simp only [early,h1,h2,h3,h4,h5,h6,h7,h8,hch,hn,Bool.not_true,Bool.false_eq_true,if_false]
       ·have e:(Question.early g).cut ((re w τ d).tape (re w τ d).drawn (.early g))=k+1:=by show (Question.early g).cut (τ d (.early g))=k+1;rw [al τ d ha];exact hn
        simp only [early,h1,h2,h3,h4,h5,h6,h7,h8,hh,hsh,hfo,hch,e,Bool.not_true,Bool.false_eq_true,if_false]
        rfl
       ·simp only [h7,Bool.false_eq_true,if_false]
     ·exact notYet w (fun τ d=>by simp only [early,h1,h2,h3,h4,h5,h6,h7,h8,hh,hsh,hfo,Bool.not_true,Bool.not_false,Bool.false_eq_true,if_false,if_true];rfl)
 ·exact notYet w (fun τ d=>by simp only [early,h1,hh,Bool.not_false,if_true];rfl)
theorem nH {fr:Frame} {callers:List Frame} {dying:Option Dying} (hg:kW ⟨fr,callers,.running,dying,none⟩) {s:Sem Next} (hs:Fit P cX 0 s) (w:World):Local dying.isSome (fun w=>stepG.apply P true fr callers dying s w) w:=by
 by_cases hio:∃ g w',(s.runT P w #[]).1=.halt (.unsupported (.initOrder g)) w'
 ·obtain ⟨g,w',hr⟩:=hio
  obtain ⟨m,e1,e2⟩:=mV P s 0 w #[] hs (by rw [hr];rfl)
  have ea:∀ w w' es,s.runT P w #[]=(.halt (.unsupported (.initOrder g)) w',es)->stepG.apply P true fr callers dying s w=early P fr callers dying g w':=by
   intro w w' es h
   unfold stepG.apply
   simp only [h,if_true,ite_self,bA,aZ]
  refine nI (E:=fun w=>early P fr callers dying g w) (w':=w') (m:=m) (ea w w' _ (Prod.ext hr rfl)) ?_ (fun τ d ha=>?_) (local_early hg g w')
  ·rw [hr] at e1;simp only [reR,Result.halt.injEq,true_and] at e1;exact e1
  ·have:=e2 τ d ha
   rw [hr] at this
   exact ea _ _ _ this
 ·exact oQ hs _ fr.fn (made P fr callers dying) w (fun w=>apply_made fr callers dying s w) (made_ok hg _ (fun a w' h=>runT_leaf s 0 w #[] hs h) (fun g w' h=>hio ⟨g,w',h⟩))
end Lf
end Go.Proofs.YtpbbmagjhkakgaaGreatDoor
