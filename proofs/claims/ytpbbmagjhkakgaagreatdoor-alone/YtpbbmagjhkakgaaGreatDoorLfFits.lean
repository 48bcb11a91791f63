
import Derived.Test.YtpbbmagjhkakgaaGreatDoorPureToLfTape
import GoSem.Dispatch
import Derived.Laws.Sem
namespace Go.Proofs.YtpbbmagjhkakgaaGreatDoor.Lf
open Go
variable (P : Program)
abbrev FT {α:Type} (s:Sem α):Prop:=Fit P (fun _=>True) 0 s
theorem aq {α:Type} (a:α):FT P (pure a:Sem α):=⟨rfl,trivial⟩
theorem aQ {P:Program} {α β:Type} {M:β->Prop} {s:Sem α} {f:α->Sem β} (hs:Fit P (fun _=>True) 0 s) (hf:∀ a,Fit P M 0 (f a)):Fit P M 0 (s >>= f):=fit_bind (fun a _=>hf a) hs
theorem fitM {P:Program} {α β:Type} {s:Sem α} {f:α->β} (hs:Fit P (fun _=>True) 0 s):FT P (f <$> s):=fit_bind (L:=fun _=>True) (f:=fun a=>pure (f a)) (fun _ _=>aq P _) hs
theorem mH (a m):FT P (load a m):=fun _=>⟨rfl,trivial⟩
theorem fit_store (a v m):FT P (store a v m):=⟨rfl,trivial⟩
theorem fP (o):FT P (newObj o):=fun _=>⟨rfl,trivial⟩
theorem fo (o):FT P (shape o):=fun _=>⟨rfl,trivial⟩
theorem pO (a n):FT P (freeze a n):=⟨rfl,trivial⟩
theorem pP (a):FT P (frozen a):=fun _=>⟨rfl,trivial⟩
theorem dJ (r):FT P (getObj r):=fun _=>⟨rfl,trivial⟩
theorem fS (r o):FT P (setObj r o):=⟨rfl,trivial⟩
theorem bD (q):FT P (choose q):=fun _=>⟨rfl,trivial⟩
theorem bI:Fit P (fun _=>True) 0 program:=⟨rfl,trivial⟩
theorem ag {α:Type} {L:α->Prop} (s:String):Fit P L 0 (stuck s:Sem α):=.inl rfl
theorem aF {α:Type} {L:α->Prop} (s):Fit P L 0 (unsupported s:Sem α):=.inl rfl
theorem iG {α:Type} {L:α->Prop} (s):Fit P L 0 (goPanic s:Sem α):=.inl rfl
theorem fit_throw {α:Type} {L:α->Prop} (s):Fit P L 0 (throw s:Sem α):=.inl rfl
theorem fit_askRoom (n):FT P (askRoom n):=by unfold askRoom;split<;>exact ⟨rfl,trivial⟩
theorem fLi {P:Program} {α β:Type} {f:α->β->Sem (ForInStep β)} (hf:∀ a b,Fit P (fun _=>True) 0 (f a b)) (l:List α):∀ b,Fit P (fun _=>True) 0 (forIn l b f):=by
 induction l with
 | nil=>intro b;rw [List.forIn_nil];exact aq P _
 | cons a l ih=>intro b;rw [List.forIn_cons];refine aQ (hf _ _) fun r=>?_;split<;>first | exact aq P _ | exact ih _
theorem fAi {P:Program} {α β:Type} {f:α->β->Sem (ForInStep β)} (hf:∀ a b,Fit P (fun _=>True) 0 (f a b)) (l:Array α) (b:β):FT P (forIn l b f):=by
 rw [<- Array.forIn_toList];exact fLi hf _ _
theorem fRi {P:Program} {β:Type} {f:Nat->β->Sem (ForInStep β)} (hf:∀ a b,Fit P (fun _=>True) 0 (f a b)) (l:Std.Legacy.Range) (b:β):FT P (forIn l b f):=by
 rw [Std.Legacy.Range.forIn_eq_forIn_range'];exact fLi hf _ _
theorem fFo {P:Program} {α β:Type} {f:β->α->Sem β} (hf:∀ a b,Fit P (fun _=>True) 0 (f a b)) (l:List α):∀ b,Fit P (fun _=>True) 0 (List.foldlM f b l):=by
 induction l with
 | nil=>intro b;exact aq P _
 | cons a l ih=>intro b;rw [List.foldlM_cons];exact aQ (hf _ _) fun r=>ih _
theorem fLm {P:Program} {α β:Type} {f:α->Sem β} (hf:∀ a,Fit P (fun _=>True) 0 (f a)) (l:List α):FT P (List.mapM f l):=by
 rw [List.mapM_eq_reverse_foldlM_cons];exact fitM (fFo (fun _ a=>fitM (hf a)) _ _)
theorem fAm {P:Program} {α β:Type} {f:α->Sem β} (hf:∀ a,Fit P (fun _=>True) 0 (f a)) (l:Array α):FT P (Array.mapM f l):=by
 rw [Array.mapM_eq_mapM_toList];exact fitM (fLm hf _)
theorem ck {P:Program} {α:Type} {L:α->Prop} {c:Prop} [Decidable c] {x y:Sem α} (hx:Fit P L 0 x) (hy:Fit P L 0 y):Fit P L 0 (if c then x else y):=by split<;>assumption
theorem iq {m:Mark} (h:m≠.disable) (h':m≠.enable):FT P (mark m):=by
 unfold mark Fit
 cases m<;>first | exact absurd rfl h | exact absurd rfl h' | exact ⟨rfl,trivial⟩
theorem zA0 {T :Prop}  (h:T:=by (try dsimp only);repeat' (first | (with_reducible first | exact aq _ _ | apply ag | apply aF | apply bI | apply fo | apply dJ | apply bD | apply aQ) | intro _ | split | dsimp only | trivial)):T:=h
theorem zA1 {T A:Prop} (p:A) (h:A->T:=by intro p;(try dsimp only);repeat' (first | (with_reducible first | exact aq _ _ | apply p | apply ag | apply aF | apply bI | apply fo | apply dJ | apply bD | apply aQ) | intro _ | split | dsimp only | trivial)):T:=h p
theorem zA3 {T A B C:Prop} (p:A) (q:B) (r:C) (h:A->B->C->T:=by intro p q r;(try dsimp only);repeat' (first | (with_reducible first | exact aq _ _ | apply p | apply q | apply r | apply ag | apply aF | apply bI | apply fo | apply dJ | apply bD | apply aQ) | intro _ | split | dsimp only | trivial)):T:=h p q r
theorem zA4 {T A B C D:Prop} (p:A) (q:B) (r:C) (s:D) (h:A->B->C->D->T:=by intro p q r s;(try dsimp only);repeat' (first | (with_reducible first | exact aq _ _ | apply p | apply q | apply r | apply s | apply ag | apply aF | apply bI | apply fo | apply dJ | apply bD | apply aQ) | intro _ | split | dsimp only | trivial)):T:=h p q r s
theorem pL (x0):FT P (@Go.asBool x0):=by
 unfold Go.asBool
 exact zA0
theorem bd (x0):FT P (@Go.underlying x0):=by
 unfold Go.underlying
 exact zA0
theorem fit_isAgg (x0):FT P (@Go.isAgg x0):=by
 unfold Go.isAgg
 exact zA1 (@bd P)
theorem bg (x0):FT P (@Go.typeInfo x0):=by
 unfold Go.typeInfo
 exact zA0
theorem dK (x0):FT P (@Go.sizeOf x0):=by
 unfold Go.sizeOf
 exact zA1 (@bg P)
theorem uS (x0 x1 x2 x3):FT P (loadCellsFrom x0 x1 x2 x3):=by
 induction x2 generalizing x1 x3 with
 | zero=>exact aq P _
 | succ n ih=>unfold loadCellsFrom;exact aQ (mH P _ _) fun _=>ih _ _
theorem j_ (x0 x1):FT P (@Go.loadCells x0 x1):=by
 unfold Go.loadCells
 exact zA1 (@uS P)
theorem fF (x0 x1):FT P (@Go.loadVar x0 x1):=by
 unfold Go.loadVar
 exact zA4 (@fit_isAgg P) (@dK P) (@j_ P) (@mH P)
theorem gY (x0 x1):FT P (@Go.Place.get x0 x1):=by
 unfold Go.Place.get
 exact zA1 (@fF P)
theorem uU (x0):FT P (@Go.numberAt x0):=by
 unfold Go.numberAt
 exact zA0
theorem gM (x0):FT P (@Go.behindNumber x0):=by
 unfold Go.behindNumber
 exact zA1 (@uU P)
theorem mK (x0):FT P (@Go.viewAt x0):=by
 unfold Go.viewAt
 exact zA0
theorem tO (x0):FT P (@Go.noView x0):=by
 unfold Go.noView
 exact zA1 (@mK P)
theorem mF (x0):FT P (@Go.byteOf x0):=by
 unfold Go.byteOf
 exact zA1 (@tO P)
theorem fit_stringish (x0):FT P (@Go.stringish x0):=by
 unfold Go.stringish
 exact zA1 (@pP P)
theorem uT (x0 x1):FT P (@Go.mayBeOne x0 x1):=by
 unfold Go.mayBeOne
 exact zA1 (@fit_stringish P)
theorem pR (x0 x1):FT P (@Go.sameAddr x0 x1):=by
 unfold Go.sameAddr
 exact zA3 (@pP P) (@tO P) (@uT P)
theorem qm (x0 x1):FT P (@Go.samePointer x0 x1):=by
 unfold Go.samePointer
 exact zA1 (@pR P)
theorem gD (x0):FT P (@Go.typeStr x0):=by
 unfold Go.typeStr
 exact zA1 (@bg P)
theorem fO (x0):FT P (@Go.elemOf x0):=by
 unfold Go.elemOf
 exact zA1 (@bd P)
theorem gC (x0 x1):FT P (@Go.newRow x0 x1):=by
 unfold Go.newRow
 exact zA1 (@fP P)
theorem iu (x0 x1):FT P (@Go.newVar x0 x1):=by
 unfold Go.newVar
 exact zA1 (@gC P)
theorem a8 {x0} (x1):FT P (@Go.runtimePanic x0 x1):=by
 unfold Go.runtimePanic
 exact zA3 (@iG P) (@fO P) (@iu P)
theorem nQ {T :Prop}  (h:T:=by (try dsimp only);repeat' (first | (with_reducible first | exact aq _ _ | apply ag | apply aF | apply bI | apply fo | apply dJ | apply bD | apply aQ | apply bd | apply bg | apply dK | apply a8 | apply fS | apply fP) | intro _ | split | dsimp only | trivial)):T:=h
theorem mh {T A:Prop} (p:A) (h:A->T:=by intro p;(try dsimp only);repeat' (first | (with_reducible first | exact aq _ _ | apply p | apply ag | apply aF | apply bI | apply fo | apply dJ | apply bD | apply aQ | apply bd | apply bg | apply dK | apply a8 | apply fS | apply fP) | intro _ | split | dsimp only | trivial)):T:=h p
theorem uo {T A B:Prop} (p:A) (q:B) (h:A->B->T:=by intro p q;(try dsimp only);repeat' (first | (with_reducible first | exact aq _ _ | apply p | apply q | apply ag | apply aF | apply bI | apply fo | apply dJ | apply bD | apply aQ | apply bd | apply bg | apply dK | apply a8 | apply fS | apply fP) | intro _ | split | dsimp only | trivial)):T:=h p q
theorem zB3 {T A B C:Prop} (p:A) (q:B) (r:C) (h:A->B->C->T:=by intro p q r;(try dsimp only);repeat' (first | (with_reducible first | exact aq _ _ | apply p | apply q | apply r | apply ag | apply aF | apply bI | apply fo | apply dJ | apply bD | apply aQ | apply bd | apply bg | apply dK | apply a8 | apply fS | apply fP) | intro _ | split | dsimp only | trivial)):T:=h p q r
theorem zB4 {T A B C D:Prop} (p:A) (q:B) (r:C) (s:D) (h:A->B->C->D->T:=by intro p q r s;(try dsimp only);repeat' (first | (with_reducible first | exact aq _ _ | apply p | apply q | apply r | apply s | apply ag | apply aF | apply bI | apply fo | apply dJ | apply bD | apply aQ | apply bd | apply bg | apply dK | apply a8 | apply fS | apply fP) | intro _ | split | dsimp only | trivial)):T:=h p q r s
theorem zB5 {T A B C D E:Prop} (p:A) (q:B) (r:C) (s:D) (t:E) (h:A->B->C->D->E->T:=by intro p q r s t;(try dsimp only);repeat' (first | (with_reducible first | exact aq _ _ | apply p | apply q | apply r | apply s | apply t | apply ag | apply aF | apply bI | apply fo | apply dJ | apply bD | apply aQ | apply bd | apply bg | apply dK | apply a8 | apply fS | apply fP) | intro _ | split | dsimp only | trivial)):T:=h p q r s t
theorem zB6 {T A B C D E F:Prop} (p:A) (q:B) (r:C) (s:D) (t:E) (u:F) (h:A->B->C->D->E->F->T:=by intro p q r s t u;(try dsimp only);repeat' (first | (with_reducible first | exact aq _ _ | apply p | apply q | apply r | apply s | apply t | apply u | apply ag | apply aF | apply bI | apply fo | apply dJ | apply bD | apply aQ | apply bd | apply bg | apply dK | apply a8 | apply fS | apply fP) | intro _ | split | dsimp only | trivial)):T:=h p q r s t u
theorem fW (x0 x1 x2):FT P (@Go.part x0 x1 x2):=by
 unfold Go.part
 exact mh (@fit_isAgg P)
theorem fit_Op_equalIn (x0 x1 x2 x3):FT P (@Go.Op.equalIn x0 x1 x2 x3):=by
 induction x0 generalizing x1 x2 x3 with
 | zero =>
  unfold Go.Op.equalIn
  exact zB6 (@gM P) (@mF P) (@pR P) (@qm P) (@gD P) (@fW P)
 | succ n ih =>
  unfold Go.Op.equalIn
  try dsimp only
  repeat' (first | (with_reducible first | exact aq P _ | apply ih | apply aF | apply bd | apply ag | apply gM | apply bI | apply mF | apply bg | apply dK | apply pR | apply bD | apply qm | apply gD | apply a8 | apply fW | apply aQ | apply fAi | apply fRi) | (intro _) | split)
theorem uQ (x0 x1 x2):FT P (@Go.Op.equal x0 x1 x2):=by
 unfold Go.Op.equal
 exact mh (@fit_Op_equalIn P)
theorem ri (x0 x1 x2 x3):FT P (Instr.findAsking x0 x1 x2 x3):=by
 induction x2 generalizing x3 with
 | nil=>exact aq P _
 | cons e es ih=>unfold Instr.findAsking;refine aQ (uQ P _ _ _) fun _=>?_;split<;>first | exact ih _ | exact aq P _
theorem gb (x0 x1 x2):FT P (@Go.Instr.findKey x0 x1 x2):=by
 unfold Go.Instr.findKey
 exact mh (@ri P)
theorem fK (x0 x1 x2):FT P (@Go.Builtin.firstCells x0 x1 x2):=by
 unfold Go.Builtin.firstCells
 exact mh (@j_ P)
theorem cd (x0):FT P (@Go.zeroValue x0):=by
 unfold Go.zeroValue
 exact nQ
theorem jg (x0 x1 x2):FT P (storeCells x0 x1 x2):=by
 induction x1 generalizing x2 with
 | nil=>exact aq P _
 | cons e es ih=>unfold storeCells;exact aQ (fit_store P _ _ _) fun _=>ih _
theorem pS (x0 x1 x2):FT P (@Go.storeVar x0 x1 x2):=by
 unfold Go.storeVar
 exact mh (@jg P)
theorem fit_Instr_alloc (x0 x1 x2):FT P (@Go.Instr.alloc x0 x1 x2):=by
 unfold Go.Instr.alloc
 exact zB3 (@cd P) (@pS P) (@iu P)
theorem pC (x0 x1):FT P (@Go.Builtin.holdsCells x0 x1):=by
 unfold Go.Builtin.holdsCells
 exact nQ
theorem q8 (x0 x1 x2 x3 x4):FT P (@Go.Builtin.mayShare x0 x1 x2 x3 x4):=by
 unfold Go.Builtin.mayShare
 exact uo (@pC P) (@pP P)
theorem nD (x0):FT P (@Go.asIntOf x0):=by
 unfold Go.asIntOf
 exact nQ
theorem fj (x0):FT P (@Go.asInt x0):=by
 unfold Go.asInt
 exact mh (@nD P)
theorem nA (x0):FT P (@Go.Builtin.lenOf x0):=by
 unfold Go.Builtin.lenOf
 exact nQ
theorem sD (x0 x1 x2):FT P (Builtin.append_ x0 x1 x2):=by
 unfold Builtin.append_
 split
 ·refine aQ (bd P _) fun t=>?_
  split
  ·split
   ·refine aQ (dK P _) fun size=>?_
    extract_lets j0 j1
    have h0:∀ u,Fit P (fun _=>True) 0 (j0 u):=fun u=>aF P _
    have h1:∀ zeros,Fit P (fun _=>True) 0 (j1 zeros):=by
     intro zeros
     simp -zeta only [j1]
     extract_lets j2
     have h2:∀ n,Fit P (fun _=>True) 0 (j2 n):=by
      intro n
      simp -zeta only [j2]
      extract_lets app need j3 j4 j5
      have ha:Fit P (fun _=>True) 0 app :=
       ck (fK P _ _ _) (ck (aq P _) (aQ (cd P _) fun _=>aq P _))
      have h4:∀ u,Fit P (fun _=>True) 0 (j4 u):=by
       intro u
       refine aQ (bD P _) fun _=>aQ (bg P _) fun _=>aQ (fit_askRoom P _) fun _=>aQ (fK P _ _ _) fun _=>aQ ha fun _=>aQ (cd P _) fun _=>?_
       exact aQ (gC P _ _) fun _=>aq P _
      have h5:∀ u,Fit P (fun _=>True) 0 (j5 u):=by
       intro u
       refine aQ (bg P _) fun info=>?_
       refine ck (aQ (ck (a8 P _) (aQ (q8 P _ _ _ _ _) fun _=>?_)) fun _=>h4 ()) (h4 ())
       exact ck (aQ (iq P (by simp) (by simp)) fun _=>h0 ()) (h0 ())
      refine ck ?_ ?_
      ·refine aQ ha fun new=>?_
       split
       ·exact aQ (jg P _ _ _) fun _=>aq P _
       ·exact aq P _
      ·refine aQ (bg P _) fun info=>?_
       exact ck (aQ (a8 P _) fun _=>h5 ()) (h5 ())
     refine ck ?_ (aQ (nA P _) fun _=>h2 _)
     refine aQ (fj P _) fun l=>?_
     extract_lets l' j4 j3
     have h4:∀ u,Fit P (fun _=>True) 0 (j4 u):=fun u=>aQ (aq P _) fun _=>h2 _
     have h3:∀ u,Fit P (fun _=>True) 0 (j3 u):=by
      intro u
      refine aQ (bg P _) fun info=>?_
      exact ck (aQ (bD P _) fun _=>aQ (a8 P _) fun _=>h4 ()) (h4 ())
     exact ck (aQ (a8 P _) fun _=>h3 ()) (h3 ())
    split
    ·exact aQ (bd P _) fun _=>aQ (aq P _) fun _=>h1 _
    ·exact aQ (aq P _) fun _=>h1 _
   ·exact ag P _
  ·exact ag P _
 ·exact ag P _
theorem fit_Builtin_cap_ (x0 x1 x2):FT P (@Go.Builtin.cap_ x0 x1 x2):=by
 unfold Go.Builtin.cap_
 exact nQ
theorem tF (x0 x1 x2):FT P (@Go.Builtin.clear_ x0 x1 x2):=by
 unfold Go.Builtin.clear_
 exact uo (@cd P) (@jg P)
theorem tG (x0 x1 x2):FT P (Builtin.close_ x0 x1 x2):=by
 rcases x2 with ⟨_ | ⟨a,_ | ⟨b,l⟩⟩⟩
 ·exact ag P _
 ·cases a with
  | chan r =>
   cases r with
   | none=>exact (a8 P (.plain "close of nil channel"):Fit P (fun _=>True) 0 (runtimePanic (.plain "close of nil channel"):Sem Value))
   | some r =>
    refine aQ (s:=getObj r) (dJ P r) fun o=>?_
    cases o with
    | chan a b c d e f =>
     cases c with
     | true=>exact aQ (a8 P _) fun _=>aQ (fS P _ _) fun _=>aq P _
     | false=>exact aQ (fS P _ _) fun _=>aq P _
    | _=>exact ag P _
  | _=>exact ag P _
 ·exact ag P _
theorem qZ (x0 x1 x2):FT P (Builtin.complex_ x0 x1 x2):=by
 rcases x2 with ⟨_ | ⟨a,_ | ⟨b,_ | ⟨c,l⟩⟩⟩⟩
 ·exact ag P _
 ·exact ag P _
 ·cases a with
  | float k re =>
   cases b with
   | float k' im =>
    by_cases h:k=k'
    ·have e:Builtin.complex_ x0 x1 ⟨[.float k re,.float k' im]⟩=pure (.complex k re im):=(if_pos h:(if k=k' then pure (.complex k re im) else stuck "complex: parts of different kinds":Sem Value)=_)
     rw [e];exact aq P _
    ·have e:Builtin.complex_ x0 x1 ⟨[.float k re,.float k' im]⟩=stuck "complex: parts of different kinds":=(if_neg h:(if k=k' then pure (.complex k re im) else stuck "complex: parts of different kinds":Sem Value)=_)
     rw [e];exact ag P _
   | _=>exact ag P _
  | _=>exact ag P _
 ·exact ag P _
theorem uE (x0 x1 x2):FT P (@Go.Builtin.copy_ x0 x1 x2):=by
 unfold Go.Builtin.copy_
 exact zB3 (@nA P) (@fK P) (@jg P)
theorem fN (x0 x1 x2 x3):FT P (@Go.Instr.checkKey x0 x1 x2 x3):=by
 induction x1 generalizing x0 x2 x3 with
 | zero =>
  unfold Go.Instr.checkKey
  exact uo (@gD P) (@fW P)
 | succ n ih =>
  unfold Go.Instr.checkKey
  exact zB5 ih (@gD P) (@fW P) (@fAi P) (@fRi P)
theorem sF (x0 x1 x2):FT P (@Go.Builtin.delete_ x0 x1 x2):=by
 unfold Go.Builtin.delete_
 exact uo (@fN P) (@gb P)
theorem uF (x0 x1 x2):FT P (@Go.Builtin.imag_ x0 x1 x2):=by
 unfold Go.Builtin.imag_
 rcases x2 with ⟨_ | ⟨a,_ | ⟨b,_ | ⟨c,_ | ⟨d,l⟩⟩⟩⟩⟩
 all_goals (try cases a)
 all_goals (try cases b)
 all_goals (try cases c)
 all_goals first | exact ag P _ | exact aq P _ | skip
 all_goals
  repeat' (first | (with_reducible first | exact aq P _ | apply ag) | (intro _) | split | (exact ag P _) | (exact aq P _) | (dsimp only) | (apply aQ))
theorem oz (x0 x1 x2):FT P (@Go.Builtin.len_ x0 x1 x2):=by
 unfold Go.Builtin.len_
 exact nQ
theorem kG (x0 x1 x2):FT P (@Go.Op.stringOp x0 x1 x2):=by
 unfold Go.Op.stringOp
 exact nQ
theorem fit_Builtin_max2 (x0 x1):FT P (@Go.Builtin.max2 x0 x1):=by
 unfold Go.Builtin.max2
 exact uo (@kG P) (@pL P)
theorem fit_Builtin_max_ (x0 x1 x2):FT P (@Go.Builtin.max_ x0 x1 x2):=by
 unfold Go.Builtin.max_
 try dsimp only
 repeat' (first | (with_reducible first | exact aq P _ | apply ag | apply fit_Builtin_max2 | apply fFo) | intro _ | split | trivial | dsimp only | (with_reducible first | exact iq P (by simp) (by simp)))
theorem fit_Builtin_min2 (x0 x1):FT P (@Go.Builtin.min2 x0 x1):=by
 unfold Go.Builtin.min2
 exact uo (@kG P) (@pL P)
theorem fit_Builtin_min_ (x0 x1 x2):FT P (@Go.Builtin.min_ x0 x1 x2):=by
 unfold Go.Builtin.min_
 try dsimp only
 repeat' (first | (with_reducible first | exact aq P _ | apply ag | apply fit_Builtin_min2 | apply fFo) | intro _ | split | trivial | dsimp only | (with_reducible first | exact iq P (by simp) (by simp)))
theorem tL:Fit P (fun _=>True) 0 Instr.panicnil:=by
 unfold Instr.panicnil
 refine ⟨⟨_,rfl,rfl⟩,fun r=>?_⟩
 show Fit P _ 0 (Sem.bind (.pure r) _)
 simp only [Sem.bind]
 split
 ·exact aQ (bI P) fun _=>aq P _
 ·exact ag P _
theorem qi (x0):FT P (@Go.Instr.panic x0):=by
 unfold Go.Instr.panic
 exact uo (@iG P) (@tL P)
theorem uG (x0 x1 x2):FT P (@Go.Builtin.real_ x0 x1 x2):=by
 unfold Go.Builtin.real_
 rcases x2 with ⟨_ | ⟨a,_ | ⟨b,_ | ⟨c,_ | ⟨d,l⟩⟩⟩⟩⟩
 all_goals (try cases a)
 all_goals (try cases b)
 all_goals (try cases c)
 all_goals first | exact ag P _ | exact aq P _ | skip
 all_goals
  repeat' (first | (with_reducible first | exact aq P _ | apply ag) | (intro _) | split | (exact ag P _) | (exact aq P _) | (dsimp only) | (apply aQ))
theorem fL (x0 x1 x2):FT P (Builtin.unsafeAdd_ x0 x1 x2):=by
 rcases x2 with ⟨_ | ⟨a,_ | ⟨b,_ | ⟨c,l⟩⟩⟩⟩
 ·exact ag P _
 ·exact ag P _
 ·cases a with
  | pointer r =>
   refine aQ (s:=asInt b) (fj P b) fun n=>?_
   exact mh (@mK P)
  | _=>exact ag P _
 ·exact ag P _
theorem kI (x0 x1 x2):FT P (@Go.variablesAt x0 x1 x2):=by
 unfold Go.variablesAt
 exact nQ
theorem nV (x0 x1 x2):FT P (Builtin.unsafeSlice_ x0 x1 x2):=by
 rcases x2 with ⟨_ | ⟨a,_ | ⟨b,_ | ⟨c,l⟩⟩⟩⟩
 ·exact ag P _
 ·exact ag P _
 ·cases a with
  | pointer r =>
   refine aQ (s:=asInt b) (fj P b) fun n=>?_
   repeat' (first | (with_reducible first | exact aq P _ | apply ag | apply aF | apply a8 | apply fP | apply fO | apply bg | apply dK | apply kI | apply mK | apply bI | apply aQ) | intro _ | split | dsimp only)
  | _=>exact ag P _
 ·exact ag P _
theorem kD (x0 x1 x2):FT P (Builtin.unsafeSliceData_ x0 x1 x2):=by
 rcases x2 with ⟨_ | ⟨a,_ | ⟨b,l⟩⟩⟩
 ·exact ag P _
 ·cases a with
  | slice r n c =>
   cases r with
   | none=>exact aq P _
   | some r =>
    by_cases hc:c≠0
    ·refine cast ?_ (aq P (Value.pointer (some r)))
     exact congrArg (Fit P (fun _=>True) 0) (if_pos hc).symm
    ·refine cast (congrArg (Fit P (fun _=>True) 0) (if_neg hc).symm) ?_
     exact uo (@fO P) (@mK P)
  | _=>exact ag P _
 ·exact ag P _
theorem fit_loadBytes (x0 x1 x2):FT P (loadBytes x0 x1 x2):=by
 induction x2 generalizing x0 x1 with
 | zero=>exact aq P _
 | succ n ih=>unfold loadBytes;refine aQ (mH P _ _) fun _=>?_;split<;>first | exact ih _ _ | exact ag P _
theorem m_ (x0 x1 x2):FT P (Builtin.unsafeString_ x0 x1 x2):=by
 rcases x2 with ⟨_ | ⟨a,_ | ⟨b,_ | ⟨c,l⟩⟩⟩⟩
 ·exact ag P _
 ·exact ag P _
 ·cases a with
  | pointer r =>
   refine aQ (s:=asInt b) (fj P b) fun n=>?_
   exact zB4 (@fit_loadBytes P) (@fO P) (@pO P) (@kI P)
  | _=>exact ag P _
 ·exact ag P _
theorem gg (x0):FT P (@Go.markStringish x0):=by
 unfold Go.markStringish
 exact mh (@pO P)
theorem km (x0 x1 x2):FT P (Builtin.unsafeStringData_ x0 x1 x2):=by
 rcases x2 with ⟨_ | ⟨a,_ | ⟨b,l⟩⟩⟩
 ·exact ag P _
 ·cases a with
  | string s =>
   by_cases hc:s.size=0
   ·refine cast (congrArg (Fit P (fun _=>True) 0) (if_pos hc).symm) ?_
    exact zB4 (@gC P) (@gg P) (@fO P) (@pO P)
   ·refine cast (congrArg (Fit P (fun _=>True) 0) (if_neg hc).symm) ?_
    exact zB4 (@gC P) (@gg P) (@fO P) (@pO P)
  | _=>exact ag P _
 ·exact ag P _
theorem jS (x0):FT P (@Go.asAddr x0):=by
 unfold Go.asAddr
 exact nQ
theorem fit_partAt (x0 x1 x2):FT P (@Go.partAt x0 x1 x2):=by
 unfold Go.partAt
 exact mh (@mF P)
theorem mG (x0 x1):FT P (@Go.fieldPlace x0 x1):=by
 unfold Go.fieldPlace
 exact mh (@fit_partAt P)
theorem tN (x0 x1 x2):FT P (@Go.follow x0 x1 x2):=by
 induction x0 generalizing x1 x2 with
 | nil =>
  unfold Go.follow
  exact zB4 (@gY P) (@jS P) (@mG P) (@fW P)
 | cons e es ih =>
  unfold Go.follow
  exact zB5 ih (@gY P) (@jS P) (@mG P) (@fW P)
theorem mD (x0 x1 x2):FT P (Builtin.ssaWrapNilChk_ x0 x1 x2):=by
 rcases x2 with ⟨_ | ⟨a,_ | ⟨b,_ | ⟨c,_ | ⟨d,l⟩⟩⟩⟩⟩
 ·exact ag P _
 ·exact ag P _
 ·exact ag P _
 ·cases b with
  | string s =>
   cases c with
   | string m =>
    cases a with
    | pointer r =>
     cases r with
     | some r=>exact aq P _
     | none =>
      refine aQ (s:=choose (.extern "ssa:wrapnilchk.dereferenced" 2)) (bD P _) fun n=>?_
      exact nQ
    | _=>exact ag P _
   | _=>exact ag P _
  | _=>exact ag P _
 ·exact ag P _
theorem mJ (x0 x1 x2 x3):FT P (@Go.receiverAt x0 x1 x2 x3):=by
 unfold Go.receiverAt
 exact zB4 (@gY P) (@jS P) (@fF P) (@mD P)
theorem fit_method (x0 x1 x2 x3):FT P (@Go.method x0 x1 x2 x3):=by
 induction x0 generalizing x1 x2 x3 with
 | zero =>
  unfold Go.method
  exact zB3 (@tN P) (@gY P) (@mJ P)
 | succ n ih =>
  unfold Go.method
  exact zB4 ih (@tN P) (@gY P) (@mJ P)
theorem fit_receiverVia (x0 x1 x2 x3):FT P (@Go.receiverVia x0 x1 x2 x3):=by
 unfold Go.receiverVia
 exact uo (@tN P) (@mJ P)
theorem dE (x0):FT P (@Go.Instr.getLoop x0):=by
 unfold Go.Instr.getLoop
 exact nQ
theorem je (x0 x1):FT P (@Go.Instr.keyThatStays x0 x1):=by
 unfold Go.Instr.keyThatStays
 exact nQ
theorem nC (x0 x1 x2 x3):FT P (@Go.Op.floatArith x0 x1 x2 x3):=by
 unfold Go.Op.floatArith
 exact nQ
theorem dt (x0 x1 x2 x3):FT P (@Go.Op.Complex.arith x0 x1 x2 x3):=by
 unfold Go.Op.Complex.arith
 exact mh (@nC P)
theorem ig (x0 x1):FT P (@Go.Op.Complex.add x0 x1):=by
 unfold Go.Op.Complex.add
 exact mh (@dt P)
theorem fit_Instr_box (x0 x1):FT P (@Go.Instr.box x0 x1):=by
 unfold Go.Instr.box
 exact mh (@iu P)
theorem fit_Instr_entry (x0):FT P (@Go.Instr.entry x0):=by
 unfold Go.Instr.entry
 exact nQ
theorem fit_asAgg (x0):FT P (@Go.asAgg x0):=by
 unfold Go.asAgg
 exact nQ
theorem fit_Instr_field (x0 x1 x2):FT P (@Go.Instr.field x0 x1 x2):=by
 unfold Go.Instr.field
 exact uo (@fit_asAgg P) (@fW P)
theorem qj (x0 x1 x2 x3):FT P (@Go.Op.floatCmp x0 x1 x2 x3):=by
 unfold Go.Op.floatCmp
 exact nQ
theorem hU {x0} (x1):FT P (@Go.panicString x0 x1):=by
 unfold Go.panicString
 exact mh (@iG P)
theorem fit_Conv_seenAt (x0):FT P (@Go.Conv.seenAt x0):=by
 unfold Go.Conv.seenAt
 exact mh (@mK P)
theorem fit_cellsIn (x0):FT P (@Go.cellsIn x0):=by
 unfold Go.cellsIn
 exact nQ
theorem uR (x0 x1):FT P (@Go.asNumber x0 x1):=by
 unfold Go.asNumber
 exact nQ
theorem pH (x0 x1 x2):FT P (@Go.Conv.unsafePointer x0 x1 x2):=by
 unfold Go.Conv.unsafePointer
 exact zB4 (@fit_Conv_seenAt P) (@fit_cellsIn P) (@kI P) (@uR P)
theorem ij (x0 x1):FT P (@Go.Op.Complex.mul x0 x1):=by
 unfold Go.Op.Complex.mul
 exact mh (@dt P)
theorem ik (x0 x1):FT P (@Go.Op.Complex.sub x0 x1):=by
 unfold Go.Op.Complex.sub
 exact mh (@dt P)
theorem nW (x0 x1 x2 x3 x4):FT P (@Go.Op.Complex.corrected x0 x1 x2 x3 x4):=by
 unfold Go.Op.Complex.corrected
 exact zB3 (@ij P) (@ig P) (@ik P)
theorem uI (x0 x1):FT P (@Go.Instr.arrayAt x0 x1):=by
 unfold Go.Instr.arrayAt
 exact nQ
theorem q_ (x0 x1):FT P (@Go.Deferred.ofValue x0 x1):=by
 unfold Go.Deferred.ofValue
 exact nQ
theorem nF (x0 x1 x2):FT P (@Go.resolve x0 x1 x2):=by
 unfold Go.resolve
 exact mh (@q_ P)
theorem rf (x0 x1 x2):FT P (@Go.Instr.buildSlice x0 x1 x2):=by
 unfold Go.Instr.buildSlice
 exact uo (@gC P) (@cd P)
theorem sL (x0 x1 x2 x3):FT P (@Go.Instr.mapUpdate x0 x1 x2 x3):=by
 unfold Go.Instr.mapUpdate
 exact zB3 (@fN P) (@gb P) (@je P)
theorem kH {x0} (x1 x2 x3 x4):FT P (@Go.boundsPanic x0 x1 x2 x3 x4):=by
 unfold Go.boundsPanic
 exact mh (@fitM P)
theorem fit_Instr_index (x0 x1 x2):FT P (@Go.Instr.index x0 x1 x2):=by
 unfold Go.Instr.index
 exact zB3 (@nD P) (@fW P) (@kH P)
theorem sH (x0 x1 x2):FT P (@Go.Conv.floatToInt x0 x1 x2):=by
 unfold Go.Conv.floatToInt
 exact nQ
theorem pE (x0):FT P (@Go.Conv.runesToString x0):=by
 unfold Go.Conv.runesToString
 try dsimp only
 repeat' (first | (with_reducible first | exact aq P _ | apply j_ | apply ag | apply aQ | apply fAi) | intro _ | split | trivial | dsimp only | (with_reducible first | exact iq P (by simp) (by simp)))
theorem rj (x0 x1 x2):FT P (@Go.Instr.sliceBound x0 x1 x2):=by
 unfold Go.Instr.sliceBound
 exact uo (@nD P) (@kH P)
theorem pJ (x0):FT P (@Go.Instr.takeDeferred x0):=by
 unfold Go.Instr.takeDeferred
 exact nQ
theorem fit_Op_addrMod (x0 x1 x2):FT P (@Go.Op.addrMod x0 x1 x2):=by
 unfold Go.Op.addrMod
 exact mh (@mF P)
theorem fit_movedNumber (x0 x1 x2):FT P (@Go.movedNumber x0 x1 x2):=by
 unfold Go.movedNumber
 exact zB3 (@gM P) (@fL P) (@uR P)
theorem qk (x0 x1 x2 x3):FT P (@Go.Op.intArith x0 x1 x2 x3):=by
 unfold Go.Op.intArith
 exact nQ
theorem rp (x0 x1 x2 x3):FT P (@Go.Op.intBits x0 x1 x2 x3):=by
 unfold Go.Op.intBits
 exact nQ
theorem fit_Op_unary (x0 x1):FT P (@Go.Op.unary x0 x1):=by
 unfold Go.Op.unary
 exact uo (@qk P) (@rp P)
theorem sK (x0 x1 x2):FT P (@Go.Instr.makeSlice x0 x1 x2):=by
 unfold Go.Instr.makeSlice
 exact zB4 (@fj P) (@fit_askRoom P) (@gC P) (@cd P)
theorem tI (x0 x1):FT P (@Go.Instr.makeChan x0 x1):=by
 unfold Go.Instr.makeChan
 exact mh (@fj P)
theorem ru (x0):FT P (@Go.cutType x0):=by
 unfold Go.cutType
 exact nQ
theorem tM (x0 x1):FT P (@Go.Op.Complex.quo x0 x1):=by
 unfold Go.Op.Complex.quo
 exact mh (@dt P)
theorem uH (x0 x1):FT P (@Go.Conv.intToInt x0 x1):=by
 unfold Go.Conv.intToInt
 try dsimp only
 repeat' (first | (with_reducible exact aq P _)  | (with_reducible first | apply aQ | apply fitM) | intro _ | split | dsimp only)
theorem fit_Op_shift (x0 x1 x2 x3 x4):FT P (@Go.Op.shift x0 x1 x2 x3 x4):=by
 unfold Go.Op.shift
 exact nQ
theorem fit_Op_intDiv (x0 x1 x2 x3):FT P (@Go.Op.intDiv x0 x1 x2 x3):=by
 unfold Go.Op.intDiv
 exact nQ
theorem fit_Op_intCmp (x0 x1 x2):FT P (@Go.Op.intCmp x0 x1 x2):=by
 unfold Go.Op.intCmp
 exact nQ
theorem fZ (x0 x1 x2):FT P (@Go.Conv.floatToFloat x0 x1 x2):=by
 unfold Go.Conv.floatToFloat
 exact nQ
theorem sM (x0 x1 x2):FT P (@Go.Op.Complex.conv x0 x1 x2):=by
 unfold Go.Op.Complex.conv
 exact mh (@fZ P)
theorem pK (x0 x1 x2 x3):FT P (@Go.Op.Complex.product x0 x1 x2 x3):=by
 unfold Go.Op.Complex.product
 exact zB3 (@ij P) (@ik P) (@ig P)
theorem mE (x0 x1 x2 x3):FT P (@Go.Op.Complex.cmp x0 x1 x2 x3):=by
 unfold Go.Op.Complex.cmp
 exact uo (@qj P) (@pL P)
theorem oB (x0 x1 x2 x3):FT P (@Go.Op.Complex.quotient x0 x1 x2 x3):=by
 unfold Go.Op.Complex.quotient
 exact zB6 (@mE P) (@ij P) (@nW P) (@tM P) (@ig P) (@ik P)
theorem fit_Op_complexOp (x0 x1 x2 x3 x4 x5):FT P (@Go.Op.complexOp x0 x1 x2 x3 x4 x5):=by
 unfold Go.Op.complexOp
 exact zB5 (@dt P) (@sM P) (@pK P) (@oB P) (@mE P)
theorem fit_movedPointer (x0 x1 x2):FT P (@Go.movedPointer x0 x1 x2):=by
 unfold Go.movedPointer
 exact uo (@fL P) (@uU P)
theorem oC (x0 x1):FT P (@Go.Op.twoPlaces x0 x1):=by
 unfold Go.Op.twoPlaces
 exact mh (@mF P)
theorem fit_Op_addrSub (x0 x1 x2):FT P (@Go.Op.addrSub x0 x1 x2):=by
 unfold Go.Op.addrSub
 exact mh (@oC P)
theorem fit_Op_addrCmp (x0 x1 x2):FT P (@Go.Op.addrCmp x0 x1 x2):=by
 unfold Go.Op.addrCmp
 exact mh (@oC P)
theorem fit_binOp (x0 x1 x2 x3):FT P (@Go.binOp x0 x1 x2 x3):=by
 unfold Go.binOp
 try dsimp only
 repeat' (first | (with_reducible first | exact aq P _ | apply fit_Op_shift | apply ag | apply qk | apply fit_Op_intDiv | apply rp | apply fit_Op_intCmp | apply nC | apply qj | apply fit_Op_complexOp | apply kG | apply uQ | apply bd | apply fit_movedPointer | apply fit_movedNumber | apply gM | apply fit_Op_addrSub | apply fit_Op_addrCmp | apply fit_Op_addrMod | apply aF | apply aQ) | intro _ | split | dsimp only)
theorem sI (x0 x1):FT P (@Go.Conv.intToFloat x0 x1):=by
 unfold Go.Conv.intToFloat
 try dsimp only
 repeat' (first | (with_reducible exact aq P _)  | (with_reducible first | apply aQ | apply fitM) | intro _ | split | dsimp only)
theorem na (x0 x1 x2 x3):FT P (@Go.Conv.complexToComplex x0 x1 x2 x3):=by
 unfold Go.Conv.complexToComplex
 exact mh (@fZ P)
theorem q9 (x0):FT P (@Go.Conv.intToString x0):=by
 unfold Go.Conv.intToString
 try dsimp only
 repeat' (first | (with_reducible exact aq P _)  | (with_reducible first | apply aQ | apply fitM) | intro _ | split | dsimp only)
theorem pF (x0 x1):FT P (@Go.Conv.stringToBytes x0 x1):=by
 unfold Go.Conv.stringToBytes
 exact uo (@gC P) (@gg P)
theorem pG (x0 x1):FT P (@Go.Conv.stringToRunes x0 x1):=by
 unfold Go.Conv.stringToRunes
 exact mh (@gC P)
theorem pD (x0):FT P (@Go.Conv.bytesToString x0):=by
 unfold Go.Conv.bytesToString
 try dsimp only
 repeat' (first | (with_reducible first | exact aq P _ | apply j_ | apply ag | apply aQ | apply fAi) | intro _ | split | trivial | dsimp only | (with_reducible first | exact iq P (by simp) (by simp)))
theorem fit_convert (x0 x1 x2):FT P (@Go.convert x0 x1 x2):=by
 unfold Go.convert
 try dsimp only
 repeat' (first | (with_reducible first | exact aq P _ | apply bd | apply uH | apply sI | apply sH | apply fZ | apply na | apply q9 | apply pF | apply pG | apply ag | apply gg | apply aF | apply pD | apply pE | apply pH | apply aQ) | intro _ | split | dsimp only)
theorem uK (x0 x1):FT P (@Go.Instr.extract x0 x1):=by
 unfold Go.Instr.extract
 exact nQ
theorem fit_Instr_next (x0 x1 x2):FT P (@Go.Instr.next x0 x1 x2):=by
 unfold Go.Instr.next
 exact nQ
theorem eu (x0):FT P (@Go.Instr.sureAddr x0):=by
 unfold Go.Instr.sureAddr
 exact nQ
theorem pI (x0 x1):FT P (@Go.Instr.deferInRound x0 x1):=by
 unfold Go.Instr.deferInRound
 exact uo (@dE P) (@fit_throw P)
theorem ql (x0 x1 x2):FT P (@Go.followBlind x0 x1 x2):=by
 induction x0 generalizing x1 x2 with
 | nil =>
  unfold Go.followBlind
  exact mh (@fW P)
 | cons e es ih =>
  unfold Go.followBlind
  exact uo ih (@fW P)
theorem fit_nilAhead (x0 x1 x2 x3):FT P (@Go.nilAhead x0 x1 x2 x3):=by
 induction x0 generalizing x1 x2 x3 with
 | zero =>
  unfold Go.nilAhead
  exact mh (@ql P)
 | succ n ih =>
  unfold Go.nilAhead
  exact uo ih (@ql P)
theorem fit_Op_eqGuardIn (x0 x1 x2 x3):FT P (@Go.Op.eqGuardIn x0 x1 x2 x3):=by
 induction x0 generalizing x1 x2 x3 with
 | zero =>
  unfold Go.Op.eqGuardIn
  exact mh (@fW P)
 | succ n ih =>
  unfold Go.Op.eqGuardIn
  exact zB4 ih (@fW P) (@fAi P) (@fRi P)
theorem fit_Instr_ready (x0):FT P (@Go.Instr.ready x0):=by
 unfold Go.Instr.ready
 exact nQ
theorem rk (x0 x1 x2 x3):FT P (@Go.Instr.typeAssert x0 x1 x2 x3):=by
 unfold Go.Instr.typeAssert
 exact mh (@cd P)
theorem jC (x0 x1 x2 x3 x4 x5):FT P (@Go.Instr.sliceBounds x0 x1 x2 x3 x4 x5):=by
 unfold Go.Instr.sliceBounds
 exact mh (@rj P)
theorem fit_Instr_loadAt (x0 x1):FT P (@Go.Instr.loadAt x0 x1):=by
 unfold Go.Instr.loadAt
 exact uo (@eu P) (@fF P)
theorem uN (x0 x1):FT P (@Go.Instr.makeMap x0 x1):=by
 unfold Go.Instr.makeMap
 exact mh (@fj P)
theorem tJ (x0 x1 x2):FT P (@Go.Instr.makeFunc x0 x1 x2):=by
 unfold Go.Instr.makeFunc
 try dsimp only
 repeat' (first | (with_reducible exact aq P _)  | (with_reducible first | apply aQ | apply fitM) | intro _ | split | dsimp only)
theorem fit_Instr_build (x0 x1):FT P (@Go.Instr.build x0 x1):=by
 unfold Go.Instr.build
 try dsimp only
 repeat' (first | (with_reducible first | exact aq P _ | apply cd | apply bd | apply dK | apply ag | apply aQ | apply fAm) | intro _ | split | trivial | dsimp only | (with_reducible first | exact iq P (by simp) (by simp)))
theorem uM (x0 x1 x2):FT P (@Go.Instr.indexAt x0 x1 x2):=by
 unfold Go.Instr.indexAt
 exact zB3 (@nD P) (@kH P) (@eu P)
theorem uJ (x0):FT P (@Go.Instr.endLoop x0):=by
 unfold Go.Instr.endLoop
 exact mh (@dE P)
theorem uL (x0 x1 x2):FT P (@Go.Instr.fieldAt x0 x1 x2):=by
 unfold Go.Instr.fieldAt
 exact uo (@eu P) (@mG P)
theorem fit_Instr_waits (x0):FT P (@Go.Instr.waits x0):=by
 unfold Go.Instr.waits
 exact nQ
theorem uP (x0 x1 x2):FT P (@Go.Instr.storeAt x0 x1 x2):=by
 unfold Go.Instr.storeAt
 exact uo (@eu P) (@pS P)
theorem fit_eqGuard (x0 x1 x2 x3 x4 x5):FT P (@Go.eqGuard x0 x1 x2 x3 x4 x5):=by
 unfold Go.eqGuard
 exact mh (@fit_Op_eqGuardIn P)
theorem oA (x0 x1):FT P (@Go.Instr.makeInterface x0 x1):=by
 unfold Go.Instr.makeInterface
 exact nQ
theorem fit_Instr_slice (x0 x1 x2 x3 x4):FT P (@Go.Instr.slice x0 x1 x2 x3 x4):=by
 unfold Go.Instr.slice
 exact uo (@jC P) (@jS P)
theorem uO (x0 x1 x2 x3 x4):FT P (@Go.Instr.sliceAt x0 x1 x2 x3 x4):=by
 unfold Go.Instr.sliceAt
 exact zB3 (@eu P) (@jC P) (@fit_Instr_slice P)
theorem fit_Instr_lookup (x0 x1 x2 x3):FT P (@Go.Instr.lookup x0 x1 x2 x3):=by
 unfold Go.Instr.lookup
 exact zB3 (@fN P) (@gb P) (@cd P)
theorem tK (x0 x1 x2):FT P (@Go.Instr.mapEntry x0 x1 x2):=by
 unfold Go.Instr.mapEntry
 exact zB4 (@fN P) (@gb P) (@je P) (@cd P)
theorem rh (x0 x1 x2 x3):FT P (@Go.Instr.entryStore x0 x1 x2 x3):=by
 unfold Go.Instr.entryStore
 exact mh (@fj P)
theorem fit_Instr_range (x0 x1):FT P (@Go.Instr.range x0 x1):=by
 unfold Go.Instr.range
 exact nQ
theorem sJ (x0 x1 x2 x3 x4 x5):FT P (@Go.Instr.enterLoop x0 x1 x2 x3 x4 x5):=by
 unfold Go.Instr.enterLoop
 exact mh (@dE P)
theorem ra (x0):FT P (@Go.Instr.beginRound x0):=by
 unfold Go.Instr.beginRound
 exact mh (@dE P)
theorem tH (x0 x1):FT P (@Go.Instr.endRound x0 x1):=by
 unfold Go.Instr.endRound
 exact mh (@dE P)
theorem jf (x0):FT P (@Go.asString x0):=by
 unfold Go.asString
 exact nQ
end Go.Proofs.YtpbbmagjhkakgaaGreatDoor.Lf
