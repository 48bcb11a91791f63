import Derived.Test.YtpbbmagjhkakgaaGreatDoorA1
namespace Go.Proofs.YtpbbmagjhkakgaaGreatDoor
namespace Lf
open Go
variable(P:Program)
abbrev FT{a:Type}(s:Sem a):Prop:=Fit P (λ_=>True) 0 s
theorem aP{b}(a):FT P (pure a:Sem b):=⟨rfl,trivial⟩
theorem bV{P d b M s}{f:d->Sem b}(c:Fit P (λ_=>True) 0 s)(e:∀a,Fit P M 0 (f a)):Fit P M 0 (s>>=f):=KR (λa _=>e a) c
theorem KQ{P d b s}{f:d->b}(c:Fit P (λ_=>True) 0 s):FT P (f<$>s):=KR (L:=λ_=>True) (f:=λa=>pure (f a)) (λ_ _=>aP P _) c
theorem qa(a m):FT P (load a m):=λ_=>⟨rfl,trivial⟩
theorem fit_store(a v m):FT P (store a v m):=⟨rfl,trivial⟩
theorem jJ(o):FT P (newObj o):=λ_=>⟨rfl,trivial⟩
theorem jk(o):FT P (shape o):=λ_=>⟨rfl,trivial⟩
theorem tL(a n):FT P (freeze a n):=⟨rfl,trivial⟩
theorem tM(a):FT P (frozen a):=λ_=>⟨rfl,trivial⟩
theorem gQ(r):FT P (getObj r):=λ_=>⟨rfl,trivial⟩
theorem jL(r o):FT P (setObj r o):=⟨rfl,trivial⟩
theorem dU(q):FT P (choose q):=λ_=>⟨rfl,trivial⟩
theorem dX:Fit P (λ_=>True) 0 program:=⟨rfl,trivial⟩
theorem aI{a L}(s):Fit P L 0 (stuck s:Sem a):=.inl rfl
theorem bJ{a L}(s):Fit P L 0 (unsupported s:Sem a):=.inl rfl
theorem mz{a L}(s):Fit P L 0 (goPanic s:Sem a):=.inl rfl
theorem QN{a L}(s):Fit P L 0 (throw s:Sem a):=.inl rfl
theorem BU(n):FT P (askRoom n):=by unfold askRoom;split<;>exact⟨rfl,trivial⟩
theorem fLi{P}{d c:Type}{f:d->c->Sem (ForInStep c)}(e:∀a b,Fit P (λ_=>True) 0 (f a b))(l:aB d):∀b,Fit P (λ_=>True) 0 (forIn l b f):=by
 induction l with
 |nil=>intro b;rw[List.forIn_nil];exact aP P _
 |cons a l g=>intro b;rw[List.forIn_cons];refine bV (e _ _) λr=>?_;split<;>first|exact aP P _|exact g _
theorem Zn{P}{d c:Type}{f}(e:∀a b,Fit P (λ_=>True) 0 (f a b))(l:aU d)(b:c):FT P (forIn l b f):=by
 rw[<-Array.forIn_toList];exact fLi e _ _
theorem fRi{P c f}(d:∀a b,Fit P (λ_=>True) 0 (f a b))(l:Std.Legacy.Range)(b:c):FT P (forIn l b f):=by
 rw[Std.Legacy.Range.forIn_eq_forIn_range'];exact fLi d _ _
theorem fFo{P}{d c:Type}{f:c->d->Sem c}(e:∀a b,Fit P (λ_=>True) 0 (f a b))(l):∀b,Fit P (λ_=>True) 0 (List.foldlM f b l):=by
 induction l with
 |nil=>intro b;exact aP P _
 |cons a l g=>intro b;rw[List.foldlM_cons];exact bV (e _ _) λr=>g _
theorem fLm{P}{c b:Type}{f:c->Sem b}(d:∀a,Fit P (λ_=>True) 0 (f a))(l):FT P (List.mapM f l):=by
 rw[List.mapM_eq_reverse_foldlM_cons];exact KQ (fFo (λ_ a=>KQ (d a)) _ _)
theorem fAm{P}{c b:Type}{f:c->Sem b}(d:∀a,Fit P (λ_=>True) 0 (f a))(l):FT P (Array.mapM f l):=by
 rw[Array.mapM_eq_mapM_toList];exact KQ (fLm d _)
theorem eK{P a L c}[Decidable c]{x y:Sem a}(b:Fit P L 0 x)(d:Fit P L 0 y):Fit P L 0 (if c then x else y):=by split<;>assumption
theorem lY{m}(h:m≠.disable)(a:m≠.enable):FT P (mark m):=by
 unfold mark Fit;cases m<;>first|exact absurd rfl h|exact absurd rfl a|exact⟨rfl,trivial⟩
theorem zA0{T:bQ}(h:T:=by(try dsimp only);repeat' (first|(with_reducible first|exact aP _ _|apply aI|apply bJ|apply dX|apply jk|apply gQ|apply dU|apply bV)|intro _|split|dsimp only|trivial)):T:=h
theorem P5{T A:bQ}(p:A)(h:A->T:=by intro p;(try dsimp only);repeat' (first|(with_reducible first|exact aP _ _|apply p|apply aI|apply bJ|apply dX|apply jk|apply gQ|apply dU|apply bV)|intro _|split|dsimp only|trivial)):T:=h p
theorem zA3{T A B C:bQ}(p:A)(q:B)(r:C)(h:A->B->C->T:=by intro p q r;(try dsimp only);repeat' (first|(with_reducible first|exact aP _ _|apply p|apply q|apply r|apply aI|apply bJ|apply dX|apply jk|apply gQ|apply dU|apply bV)|intro _|split|dsimp only|trivial)):T:=h p q r
theorem zA4{T A B C D:bQ}(p:A)(q:B)(r:C)(s:D)(h:A->B->C->D->T:=by intro p q r s;(try dsimp only);repeat' (first|(with_reducible first|exact aP _ _|apply p|apply q|apply r|apply s|apply aI|apply bJ|apply dX|apply jk|apply gQ|apply dU|apply bV)|intro _|split|dsimp only|trivial)):T:=h p q r s
theorem tJ(x0):FT P (@Go.asBool x0):=by
 unfold Go.asBool;exact zA0
theorem cS(x0):FT P (@Go.underlying x0):=by
 unfold Go.underlying;exact zA0
theorem GR(x0):FT P (@Go.isAgg x0):=by
 unfold Go.isAgg;exact P5 (@cS P)
theorem cV(x0):FT P (@Go.typeInfo x0):=by
 unfold Go.typeInfo;exact zA0
theorem gR(x0):FT P (@Go.sizeOf x0):=by
 unfold Go.sizeOf;exact P5 (@cV P)
theorem zv(x0 x1 x2 x3):FT P (loadCellsFrom x0 x1 x2 x3):=by
 induction x2 generalizing x1 x3 with
 |zero=>exact aP P _
 |succ n a=>unfold loadCellsFrom;exact bV (qa P _ _) λ_=>a _ _
theorem n6(x0 x1):FT P (@Go.loadCells x0 x1):=by
 unfold Go.loadCells;exact P5 (@zv P)
theorem jw(x0 x1):FT P (@Go.loadVar x0 x1):=by
 unfold Go.loadVar;exact zA4 (@GR P) (@gR P) (@n6 P) (@qa P)
theorem lB(x0 x1):FT P (@Go.Place.get x0 x1):=by
 unfold Go.Place.get;exact P5 (@jw P)
theorem zD(x0):FT P (@Go.numberAt x0):=by
 unfold Go.numberAt;exact zA0
theorem kR(x0):FT P (@Go.behindNumber x0):=by
 unfold Go.behindNumber;exact P5 (@zD P)
theorem qe(x0):FT P (@Go.viewAt x0):=by
 unfold Go.viewAt;exact zA0
theorem yc(x0):FT P (@Go.noView x0):=by
 unfold Go.noView;exact P5 (@qe P)
theorem p9(x0):FT P (@Go.byteOf x0):=by
 unfold Go.byteOf;exact P5 (@yc P)
theorem Gh(x0):FT P (@Go.stringish x0):=by
 unfold Go.stringish;exact P5 (@tM P)
theorem zC(x0 x1):FT P (@Go.mayBeOne x0 x1):=by
 unfold Go.mayBeOne;exact P5 (@Gh P)
theorem tP(x0 x1):FT P (@Go.sameAddr x0 x1):=by
 unfold Go.sameAddr;exact zA3 (@tM P) (@yc P) (@zC P)
theorem uF(x0 x1):FT P (@Go.samePointer x0 x1):=by
 unfold Go.samePointer;exact P5 (@tP P)
theorem kH(x0):FT P (@Go.typeStr x0):=by
 unfold Go.typeStr;exact P5 (@cV P)
theorem jI(x0):FT P (@Go.elemOf x0):=by
 unfold Go.elemOf;exact P5 (@cS P)
theorem kG(x0 x1):FT P (@Go.newRow x0 x1):=by
 unfold Go.newRow;exact P5 (@jJ P)
theorem lZ(x0 x1):FT P (@Go.newVar x0 x1):=by
 unfold Go.newVar;exact P5 (@kG P)
theorem cM{x0}(x1):FT P (@Go.runtimePanic x0 x1):=by
 unfold Go.runtimePanic;exact zA3 (@mz P) (@jI P) (@lZ P)
theorem q8{T:bQ}(h:T:=by(try dsimp only);repeat' (first|(with_reducible first|exact aP _ _|apply aI|apply bJ|apply dX|apply jk|apply gQ|apply dU|apply bV|apply cS|apply cV|apply gR|apply cM|apply jL|apply jJ)|intro _|split|dsimp only|trivial)):T:=h
theorem pO{T A:bQ}(p:A)(h:A->T:=by intro p;(try dsimp only);repeat' (first|(with_reducible first|exact aP _ _|apply p|apply aI|apply bJ|apply dX|apply jk|apply gQ|apply dU|apply bV|apply cS|apply cV|apply gR|apply cM|apply jL|apply jJ)|intro _|split|dsimp only|trivial)):T:=h p
theorem yF{T A B:bQ}(p:A)(q:B)(h:A->B->T:=by intro p q;(try dsimp only);repeat' (first|(with_reducible first|exact aP _ _|apply p|apply q|apply aI|apply bJ|apply dX|apply jk|apply gQ|apply dU|apply bV|apply cS|apply cV|apply gR|apply cM|apply jL|apply jJ)|intro _|split|dsimp only|trivial)):T:=h p q
theorem P6{T A B C:bQ}(p:A)(q:B)(r:C)(h:A->B->C->T:=by intro p q r;(try dsimp only);repeat' (first|(with_reducible first|exact aP _ _|apply p|apply q|apply r|apply aI|apply bJ|apply dX|apply jk|apply gQ|apply dU|apply bV|apply cS|apply cV|apply gR|apply cM|apply jL|apply jJ)|intro _|split|dsimp only|trivial)):T:=h p q r
theorem P7{T A B C D:bQ}(p:A)(q:B)(r:C)(s:D)(h:A->B->C->D->T:=by intro p q r s;(try dsimp only);repeat' (first|(with_reducible first|exact aP _ _|apply p|apply q|apply r|apply s|apply aI|apply bJ|apply dX|apply jk|apply gQ|apply dU|apply bV|apply cS|apply cV|apply gR|apply cM|apply jL|apply jJ)|intro _|split|dsimp only|trivial)):T:=h p q r s
theorem zB5{T A B C D E:bQ}(p:A)(q:B)(r:C)(s:D)(t:E)(h:A->B->C->D->E->T:=by intro p q r s t;(try dsimp only);repeat' (first|(with_reducible first|exact aP _ _|apply p|apply q|apply r|apply s|apply t|apply aI|apply bJ|apply dX|apply jk|apply gQ|apply dU|apply bV|apply cS|apply cV|apply gR|apply cM|apply jL|apply jJ)|intro _|split|dsimp only|trivial)):T:=h p q r s t
theorem zB6{T A B C D E F:bQ}(p:A)(q:B)(r:C)(s:D)(t:E)(u:F)(h:A->B->C->D->E->F->T:=by intro p q r s t u;(try dsimp only);repeat' (first|(with_reducible first|exact aP _ _|apply p|apply q|apply r|apply s|apply t|apply u|apply aI|apply bJ|apply dX|apply jk|apply gQ|apply dU|apply bV|apply cS|apply cV|apply gR|apply cM|apply jL|apply jJ)|intro _|split|dsimp only|trivial)):T:=h p q r s t u
theorem jU(x0 x1 x2):FT P (@Go.part x0 x1 x2):=by
 unfold Go.part;exact pO (@GR P)
theorem Ef(x0 x1 x2 x3):FT P (@Go.Op.equalIn x0 x1 x2 x3):=by
 induction x0 generalizing x1 x2 x3 with
 |zero=>
  unfold Go.Op.equalIn;exact zB6 (@kR P) (@p9 P) (@tP P) (@uF P) (@kH P) (@jU P)
 |succ n a=>
  unfold Go.Op.equalIn
  try dsimp only
  repeat' (first|(with_reducible first|exact aP P _|apply a|apply bJ|apply cS|apply aI|apply kR|apply dX|apply p9|apply cV|apply gR|apply tP|apply dU|apply uF|apply kH|apply cM|apply jU|apply bV|apply Zn|apply fRi)|(intro _)|split)
theorem zt(x0 x1 x2):FT P (@Go.Op.equal x0 x1 x2):=by
 unfold Go.Op.equal;exact pO (@Ef P)
theorem vD(x0 x1 x2 x3):FT P (Instr.findAsking x0 x1 x2 x3):=by
 induction x2 generalizing x3 with
 |nil=>exact aP P _
 |cons e b a=>unfold Instr.findAsking;refine bV (zt P _ _ _) λ_=>?_;split<;>first|exact a _|exact aP P _
theorem kp(x0 x1 x2):FT P (@Go.Instr.findKey x0 x1 x2):=by
 unfold Go.Instr.findKey;exact pO (@vD P)
theorem jE(x0 x1 x2):FT P (@Go.Builtin.firstCells x0 x1 x2):=by
 unfold Go.Builtin.firstCells;exact pO (@n6 P)
theorem eH(x0):FT P (@Go.zeroValue x0):=by
 unfold Go.zeroValue;exact q8
theorem mY(x0 x1 x2):FT P (storeCells x0 x1 x2):=by
 induction x1 generalizing x2 with
 |nil=>exact aP P _
 |cons e b a=>unfold storeCells;exact bV (fit_store P _ _ _) λ_=>a _
theorem tQ(x0 x1 x2):FT P (@Go.storeVar x0 x1 x2):=by
 unfold Go.storeVar;exact pO (@mY P)
theorem CZ(x0 x1 x2):FT P (@Go.Instr.alloc x0 x1 x2):=by
 unfold Go.Instr.alloc;exact P6 (@eH P) (@tQ P) (@lZ P)
theorem tu(x0 x1):FT P (@Go.Builtin.holdsCells x0 x1):=by
 unfold Go.Builtin.holdsCells;exact q8
theorem vq(x0 x1 x2 x3 a):FT P (@Go.Builtin.mayShare x0 x1 x2 x3 a):=by
 unfold Go.Builtin.mayShare;exact yF (@tu P) (@tM P)
theorem qM(x0):FT P (@Go.asIntOf x0):=by
 unfold Go.asIntOf;exact q8
theorem ji(x0):FT P (@Go.asInt x0):=by
 unfold Go.asInt;exact pO (@qM P)
theorem qK(x0):FT P (@Go.Builtin.lenOf x0):=by
 unfold Go.Builtin.lenOf;exact q8
theorem xh(x0 x1 x2):FT P (Builtin.append_ x0 x1 x2):=by
 unfold Builtin.append_;split
 .refine bV (cS P _) λt=>?_;split
  .split
   .refine bV (gR P _) λsize=>?_
    extract_lets j0 j1
    let h:∀u,Fit P (λ_=>True) 0 (j0 u):=λu=>bJ P _;let i:∀a,Fit P (λ_=>True) 0 (j1 a):=by
     intro a;simp-zeta only[j1]
     extract_lets j2
     let d:∀n,Fit P (λ_=>True) 0 (j2 n):=by
      intro n;simp-zeta only[j2]
      extract_lets app need j3 j4 j5
      let e:Fit P (λ_=>True) 0 app:=
       eK (jE P _ _ _) (eK (aP P _) (bV (eH P _) λ_=>aP P _))
      let c:∀u,Fit P (λ_=>True) 0 (j4 u):=by
       intro u;refine bV (dU P _) λ_=>bV (cV P _) λ_=>bV (BU P _) λ_=>bV (jE P _ _ _) λ_=>bV e λ_=>bV (eH P _) λ_=>?_;exact bV (kG P _ _) λ_=>aP P _
      let f:∀u,Fit P (λ_=>True) 0 (j5 u):=by
       intro u;refine bV (cV P _) λb=>?_;refine eK (bV (eK (cM P _) (bV (vq P _ _ _ _ _) λ_=>?_)) λ_=>c ()) (c ());exact eK (bV (lY P aF aF) λ_=>h ()) (h ())
      apply eK
      .refine bV e λnew=>?_;split
       .exact bV (mY P _ _ _) λ_=>aP P _
       .exact aP P _
      .refine bV (cV P _) λb=>?_;exact eK (bV (cM P _) λ_=>f ()) (f ())
     refine eK ?_ (bV (qK P _) λ_=>d _);refine bV (ji P _) λl=>?_
     extract_lets l' j4 j3
     let c:∀u,Fit P (λ_=>True) 0 (j4 u):=λu=>bV (aP P _) λ_=>d _;let g:∀u,Fit P (λ_=>True) 0 (j3 u):=by
      intro u;refine bV (cV P _) λb=>?_;exact eK (bV (dU P _) λ_=>bV (cM P _) λ_=>c ()) (c ())
     exact eK (bV (cM P _) λ_=>g ()) (g ())
    split
    .exact bV (cS P _) λ_=>bV (aP P _) λ_=>i _
    .exact bV (aP P _) λ_=>i _
   .exact aI P _
  .exact aI P _
 .exact aI P _
theorem AV(x0 x1 x2):FT P (@Go.Builtin.cap_ x0 x1 x2):=by
 unfold Go.Builtin.cap_;exact q8
theorem xS(x0 x1 x2):FT P (@Go.Builtin.clear_ x0 x1 x2):=by
 unfold Go.Builtin.clear_;exact yF (@eH P) (@mY P)
theorem xU(x0 x1 x2):FT P (Builtin.close_ x0 x1 x2):=by
 obtain⟨_|⟨a,_|⟨b,l⟩⟩⟩:=x2
 .exact aI P _
 .cases a with
  |chan r=>
   cases r with
   |none=>exact(cM P (.plain "close of nil channel"):Fit P (λ_=>True) 0 (runtimePanic (.plain "close of nil channel"):Sem aE))
   |some r=>
    refine bV (s:=getObj r) (gQ P r) λo=>?_;cases o with
    |chan a b c d e f=>
     cases c with
     |true=>exact bV (cM P _) λ_=>bV (jL P _ _) λ_=>aP P _
     |false=>exact bV (jL P _ _) λ_=>aP P _
    |_=>exact aI P _
  |_=>exact aI P _
 .exact aI P _
theorem vp(x0 x1 x2):FT P (Builtin.complex_ x0 x1 x2):=by
 obtain⟨_|⟨a,_|⟨b,_|⟨c,l⟩⟩⟩⟩:=x2
 .exact aI P _
 .exact aI P _
 .cases a with
  |float k re=>
   cases b with
   |float d f=>
    by_cases h:k=d
    .have e:Builtin.complex_ x0 x1 ⟨[.float k re,.float d f]⟩=pure (.complex k re f):=(if_pos h:(if k=d then pure (.complex k re f)else stuck "complex: parts of different kinds":Sem Value)=_);rw[e];exact aP P _
    .have e:Builtin.complex_ x0 x1 ⟨[.float k re,.float d f]⟩=stuck "complex: parts of different kinds":=(if_neg h:(if k=d then pure (.complex k re f)else stuck "complex: parts of different kinds":Sem Value)=_);rw[e];exact aI P _
   |_=>exact aI P _
  |_=>exact aI P _
 .exact aI P _
theorem yZ(x0 x1 x2):FT P (@Go.Builtin.copy_ x0 x1 x2):=by
 unfold Go.Builtin.copy_;exact P6 (@qK P) (@jE P) (@mY P)
theorem jH(x0 x1 x2 x3):FT P (@Go.Instr.checkKey x0 x1 x2 x3):=by
 induction x1 generalizing x0 x2 x3 with
 |zero=>
  unfold Go.Instr.checkKey;exact yF (@kH P) (@jU P)
 |succ n a=>
  unfold Go.Instr.checkKey;exact zB5 a (@kH P) (@jU P) (@Zn P) (@fRi P)
theorem xi(x0 x1 x2):FT P (@Go.Builtin.delete_ x0 x1 x2):=by
 unfold Go.Builtin.delete_;exact yF (@jH P) (@kp P)
theorem y8(x0 x1 x2):FT P (@Go.Builtin.imag_ x0 x1 x2):=by
 unfold Go.Builtin.imag_;obtain⟨_|⟨a,_|⟨b,_|⟨c,_|⟨d,l⟩⟩⟩⟩⟩:=x2
 all_goals(try cases a)
 all_goals(try cases b)
 all_goals(try cases c)
 all_goals first|exact aI P _|exact aP P _|skip
 all_goals
  repeat' (first|(with_reducible first|exact aP P _|apply aI)|(intro _)|split|(exact aI P _)|(exact aP P _)|(dsimp only)|(apply bV))
theorem rR(x0 x1 x2):FT P (@Go.Builtin.len_ x0 x1 x2):=by
 unfold Go.Builtin.len_;exact q8
theorem oI(x0 x1 x2):FT P (@Go.Op.stringOp x0 x1 x2):=by
 unfold Go.Op.stringOp;exact q8
theorem AW(x0 x1):FT P (@Go.Builtin.max2 x0 x1):=by
 unfold Go.Builtin.max2;exact yF (@oI P) (@tJ P)
theorem AX(x0 x1 x2):FT P (@Go.Builtin.max_ x0 x1 x2):=by
 unfold Go.Builtin.max_
 try dsimp only
 repeat' (first|(with_reducible first|exact aP P _|apply aI|apply AW|apply fFo)|intro _|split|trivial|dsimp only|(with_reducible first|exact lY P a a))
theorem AY(x0 x1):FT P (@Go.Builtin.min2 x0 x1):=by
 unfold Go.Builtin.min2;exact yF (@oI P) (@tJ P)
theorem AZ(x0 x1 x2):FT P (@Go.Builtin.min_ x0 x1 x2):=by
 unfold Go.Builtin.min_
 try dsimp only
 repeat' (first|(with_reducible first|exact aP P _|apply aI|apply AY|apply fFo)|intro _|split|trivial|dsimp only|(with_reducible first|exact lY P a a))
theorem xZ:Fit P (λ_=>True) 0 Instr.panicnil:=by
 unfold Instr.panicnil;refine⟨⟨_,rfl,rfl⟩,λr=>?_⟩;show Fit P _ 0 (Sem.bind (.pure r) _);simp only[Sem.bind];split
 .exact bV (dX P) λ_=>aP P _
 .exact aI P _
theorem uB(x0):FT P (@Go.Instr.panic x0):=by
 unfold Go.Instr.panic;exact yF (@mz P) (@xZ P)
theorem y_(x0 x1 x2):FT P (@Go.Builtin.real_ x0 x1 x2):=by
 unfold Go.Builtin.real_;obtain⟨_|⟨a,_|⟨b,_|⟨c,_|⟨d,l⟩⟩⟩⟩⟩:=x2
 all_goals(try cases a)
 all_goals(try cases b)
 all_goals(try cases c)
 all_goals first|exact aI P _|exact aP P _|skip
 all_goals
  repeat' (first|(with_reducible first|exact aP P _|apply aI)|(intro _)|split|(exact aI P _)|(exact aP P _)|(dsimp only)|(apply bV))
theorem jF(x0 x1 x2):FT P (Builtin.unsafeAdd_ x0 x1 x2):=by
 obtain⟨_|⟨a,_|⟨b,_|⟨c,l⟩⟩⟩⟩:=x2
 .exact aI P _
 .exact aI P _
 .cases a with
  |pointer r=>
   refine bV (s:=asInt b) (ji P b) λn=>?_;exact pO (@qe P)
  |_=>exact aI P _
 .exact aI P _
theorem oK(x0 x1 x2):FT P (@Go.variablesAt x0 x1 x2):=by
 unfold Go.variablesAt;exact q8
theorem rj(x0 x1 x2):FT P (Builtin.unsafeSlice_ x0 x1 x2):=by
 obtain⟨_|⟨a,_|⟨b,_|⟨c,l⟩⟩⟩⟩:=x2
 .exact aI P _
 .exact aI P _
 .cases a with
  |pointer r=>
   refine bV (s:=asInt b) (ji P b) λn=>?_
   repeat' (first|(with_reducible first|exact aP P _|apply aI|apply bJ|apply cM|apply jJ|apply jI|apply cV|apply gR|apply oK|apply qe|apply dX|apply bV)|intro _|split|dsimp only)
  |_=>exact aI P _
 .exact aI P _
theorem oG(x0 x1 x2):FT P (Builtin.unsafeSliceData_ x0 x1 x2):=by
 obtain⟨_|⟨a,_|⟨b,l⟩⟩⟩:=x2
 .exact aI P _
 .cases a with
  |slice r n c=>
   cases r with
   |none=>exact aP P _
   |some r=>
    by_cases d:c≠0
    .refine cast ?_ (aP P (Value.pointer (some r)));exact oB (Fit P (λ_=>True) 0) (bY d).symm
    .refine cast (oB (Fit P (λ_=>True) 0) (bN d).symm) ?_;exact yF (@jI P) (@qe P)
  |_=>exact aI P _
 .exact aI P _
theorem Gf(x0 x1 x2):FT P (loadBytes x0 x1 x2):=by
 induction x2 generalizing x0 x1 with
 |zero=>exact aP P _
 |succ n a=>unfold loadBytes;refine bV (qa P _ _) λ_=>?_;split<;>first|exact a _ _|exact aI P _
theorem qC(x0 x1 x2):FT P (Builtin.unsafeString_ x0 x1 x2):=by
 obtain⟨_|⟨a,_|⟨b,_|⟨c,l⟩⟩⟩⟩:=x2
 .exact aI P _
 .exact aI P _
 .cases a with
  |pointer r=>
   refine bV (s:=asInt b) (ji P b) λn=>?_;exact P7 (@Gf P) (@jI P) (@tL P) (@oK P)
  |_=>exact aI P _
 .exact aI P _
theorem kq(x0):FT P (@Go.markStringish x0):=by
 unfold Go.markStringish;exact pO (@tL P)
theorem oh(x0 x1 x2):FT P (Builtin.unsafeStringData_ x0 x1 x2):=by
 obtain⟨_|⟨a,_|⟨b,l⟩⟩⟩:=x2
 .exact aI P _
 .cases a with
  |string s=>
   by_cases c:s.size=0
   .refine cast (oB (Fit P (λ_=>True) 0) (bY c).symm) ?_;exact P7 (@kG P) (@kq P) (@jI P) (@tL P)
   .refine cast (oB (Fit P (λ_=>True) 0) (bN c).symm) ?_;exact P7 (@kG P) (@kq P) (@jI P) (@tL P)
  |_=>exact aI P _
 .exact aI P _
theorem nQ(x0):FT P (@Go.asAddr x0):=by
 unfold Go.asAddr;exact q8
theorem Nu(x0 x1 x2):FT P (@Go.partAt x0 x1 x2):=by
 unfold Go.partAt;exact pO (@p9 P)
theorem p_(x0 x1):FT P (@Go.fieldPlace x0 x1):=by
 unfold Go.fieldPlace;exact pO (@Nu P)
theorem ya(x0 x1 x2):FT P (@Go.follow x0 x1 x2):=by
 induction x0 generalizing x1 x2 with
 |nil=>
  unfold Go.follow;exact P7 (@lB P) (@nQ P) (@p_ P) (@jU P)
 |cons e b a=>
  unfold Go.follow;exact zB5 a (@lB P) (@nQ P) (@p_ P) (@jU P)
theorem pZ(x0 x1 x2):FT P (Builtin.ssaWrapNilChk_ x0 x1 x2):=by
 obtain⟨_|⟨a,_|⟨b,_|⟨c,_|⟨d,l⟩⟩⟩⟩⟩:=x2
 .exact aI P _
 .exact aI P _
 .exact aI P _
 .cases b with
  |string s=>
   cases c with
   |string m=>
    cases a with
    |pointer r=>
     cases r with
     |some r=>exact aP P _
     |none=>
      refine bV (s:=choose (.extern "ssa:wrapnilchk.dereferenced" 2)) (dU P _) λn=>?_;exact q8
    |_=>exact aI P _
   |_=>exact aI P _
  |_=>exact aI P _
 .exact aI P _
theorem qd(x0 x1 x2 x3):FT P (@Go.receiverAt x0 x1 x2 x3):=by
 unfold Go.receiverAt;exact P7 (@lB P) (@nQ P) (@jw P) (@pZ P)
theorem Nt(x0 x1 x2 x3):FT P (@Go.method x0 x1 x2 x3):=by
 induction x0 generalizing x1 x2 x3 with
 |zero=>
  unfold Go.method;exact P6 (@ya P) (@lB P) (@qd P)
 |succ n a=>
  unfold Go.method;exact P7 a (@ya P) (@lB P) (@qd P)
theorem Db(x0 x1 x2 x3):FT P (@Go.receiverVia x0 x1 x2 x3):=by
 unfold Go.receiverVia;exact yF (@ya P) (@qd P)
theorem gL(x0):FT P (@Go.Instr.getLoop x0):=by
 unfold Go.Instr.getLoop;exact q8
theorem mW(x0 x1):FT P (@Go.Instr.keyThatStays x0 x1):=by
 unfold Go.Instr.keyThatStays;exact q8
theorem qL(x0 x1 x2 x3):FT P (@Go.Op.floatArith x0 x1 x2 x3):=by
 unfold Go.Op.floatArith;exact q8
theorem gD(x0 x1 x2 x3):FT P (@Go.Op.Complex.arith x0 x1 x2 x3):=by
 unfold Go.Op.Complex.arith;exact pO (@qL P)
theorem lV(x0 x1):FT P (@Go.Op.Complex.add x0 x1):=by
 unfold Go.Op.Complex.add;exact pO (@gD P)
theorem Gb(x0 x1):FT P (@Go.Instr.box x0 x1):=by
 unfold Go.Instr.box;exact pO (@lZ P)
theorem C2(x0):FT P (@Go.Instr.entry x0):=by
 unfold Go.Instr.entry;exact q8
theorem A7(x0):FT P (@Go.asAgg x0):=by
 unfold Go.asAgg;exact q8
theorem C4(x0 x1 x2):FT P (@Go.Instr.field x0 x1 x2):=by
 unfold Go.Instr.field;exact yF (@A7 P) (@jU P)
theorem uC(x0 x1 x2 x3):FT P (@Go.Op.floatCmp x0 x1 x2 x3):=by
 unfold Go.Op.floatCmp;exact q8
theorem lK{x0}(x1):FT P (@Go.panicString x0 x1):=by
 unfold Go.panicString;exact pO (@mz P)
theorem CY(x0):FT P (@Go.Conv.seenAt x0):=by
 unfold Go.Conv.seenAt;exact pO (@qe P)
theorem KT(x0):FT P (@Go.cellsIn x0):=by
 unfold Go.cellsIn;exact q8
theorem zu(x0 x1):FT P (@Go.asNumber x0 x1):=by
 unfold Go.asNumber;exact q8
theorem tF(x0 x1 x2):FT P (@Go.Conv.unsafePointer x0 x1 x2):=by
 unfold Go.Conv.unsafePointer;exact P7 (@CY P) (@KT P) (@oK P) (@zu P)
theorem lW(x0 x1):FT P (@Go.Op.Complex.mul x0 x1):=by
 unfold Go.Op.Complex.mul;exact pO (@gD P)
theorem lX(x0 x1):FT P (@Go.Op.Complex.sub x0 x1):=by
 unfold Go.Op.Complex.sub;exact pO (@gD P)
theorem rk(x0 x1 x2 x3 a):FT P (@Go.Op.Complex.corrected x0 x1 x2 x3 a):=by
 unfold Go.Op.Complex.corrected;exact P6 (@lW P) (@lV P) (@lX P)
theorem zg(x0 x1):FT P (@Go.Instr.arrayAt x0 x1):=by
 unfold Go.Instr.arrayAt;exact q8
theorem vu(x0 x1):FT P (@Go.Deferred.ofValue x0 x1):=by
 unfold Go.Deferred.ofValue;exact q8
theorem qN(x0 x1 x2):FT P (@Go.resolve x0 x1 x2):=by
 unfold Go.resolve;exact pO (@vu P)
theorem vz(x0 x1 x2):FT P (@Go.Instr.buildSlice x0 x1 x2):=by
 unfold Go.Instr.buildSlice;exact yF (@kG P) (@eH P)
theorem xo(x0 x1 x2 x3):FT P (@Go.Instr.mapUpdate x0 x1 x2 x3):=by
 unfold Go.Instr.mapUpdate;exact P6 (@jH P) (@kp P) (@mW P)
theorem oJ{x0}(x1 x2 x3 a):FT P (@Go.boundsPanic x0 x1 x2 x3 a):=by
 unfold Go.boundsPanic;exact pO (@KQ P)
theorem C5(x0 x1 x2):FT P (@Go.Instr.index x0 x1 x2):=by
 unfold Go.Instr.index;exact P6 (@qM P) (@jU P) (@oJ P)
theorem xk(x0 x1 x2):FT P (@Go.Conv.floatToInt x0 x1 x2):=by
 unfold Go.Conv.floatToInt;exact q8
theorem tA(x0):FT P (@Go.Conv.runesToString x0):=by
 unfold Go.Conv.runesToString
 try dsimp only
 repeat' (first|(with_reducible first|exact aP P _|apply n6|apply aI|apply bV|apply Zn)|intro _|split|trivial|dsimp only|(with_reducible first|exact lY P a a))
theorem vE(x0 x1 x2):FT P (@Go.Instr.sliceBound x0 x1 x2):=by
 unfold Go.Instr.sliceBound;exact yF (@qM P) (@oJ P)
theorem tH(x0):FT P (@Go.Instr.takeDeferred x0):=by
 unfold Go.Instr.takeDeferred;exact q8
theorem Ed(x0 x1 x2):FT P (@Go.Op.addrMod x0 x1 x2):=by
 unfold Go.Op.addrMod;exact pO (@p9 P)
theorem C_(x0 x1 x2):FT P (@Go.movedNumber x0 x1 x2):=by
 unfold Go.movedNumber;exact P6 (@kR P) (@jF P) (@zu P)
theorem uD(x0 x1 x2 x3):FT P (@Go.Op.intArith x0 x1 x2 x3):=by
 unfold Go.Op.intArith;exact q8
theorem vG(x0 x1 x2 x3):FT P (@Go.Op.intBits x0 x1 x2 x3):=by
 unfold Go.Op.intBits;exact q8
theorem I8(x0 x1):FT P (@Go.Op.unary x0 x1):=by
 unfold Go.Op.unary;exact yF (@uD P) (@vG P)
theorem xn(x0 x1 x2):FT P (@Go.Instr.makeSlice x0 x1 x2):=by
 unfold Go.Instr.makeSlice;exact P7 (@ji P) (@BU P) (@kG P) (@eH P)
theorem xW(x0 x1):FT P (@Go.Instr.makeChan x0 x1):=by
 unfold Go.Instr.makeChan;exact pO (@ji P)
theorem vI(x0):FT P (@Go.cutType x0):=by
 unfold Go.cutType;exact q8
theorem x_(x0 x1):FT P (@Go.Op.Complex.quo x0 x1):=by
 unfold Go.Op.Complex.quo;exact pO (@gD P)
theorem zc(x0 x1):FT P (@Go.Conv.intToInt x0 x1):=by
 unfold Go.Conv.intToInt
 try dsimp only
 repeat' (first|(with_reducible exact aP P _)|(with_reducible first|apply bV|apply KQ)|intro _|split|dsimp only)
theorem I7(x0 x1 x2 x3 a):FT P (@Go.Op.shift x0 x1 x2 x3 a):=by
 unfold Go.Op.shift;exact q8
theorem Gd(x0 x1 x2 x3):FT P (@Go.Op.intDiv x0 x1 x2 x3):=by
 unfold Go.Op.intDiv;exact q8
theorem Gc(x0 x1 x2):FT P (@Go.Op.intCmp x0 x1 x2):=by
 unfold Go.Op.intCmp;exact q8
theorem kl(x0 x1 x2):FT P (@Go.Conv.floatToFloat x0 x1 x2):=by
 unfold Go.Conv.floatToFloat;exact q8
theorem xp(x0 x1 x2):FT P (@Go.Op.Complex.conv x0 x1 x2):=by
 unfold Go.Op.Complex.conv
 exact pO (@kl P)
theorem tI(x0 x1 x2 x3):FT P (@Go.Op.Complex.product x0 x1 x2 x3):=by
 unfold Go.Op.Complex.product;exact P6 (@lW P) (@lX P) (@lV P)
theorem p8(x0 x1 x2 x3):FT P (@Go.Op.Complex.cmp x0 x1 x2 x3):=by
 unfold Go.Op.Complex.cmp;exact yF (@uC P) (@tJ P)
theorem rU(x0 x1 x2 x3):FT P (@Go.Op.Complex.quotient x0 x1 x2 x3):=by
 unfold Go.Op.Complex.quotient;exact zB6 (@p8 P) (@lW P) (@rk P) (@x_ P) (@lV P) (@lX P)
theorem A5(x0 x1 x2 x3 b a):FT P (@Go.Op.complexOp x0 x1 x2 x3 b a):=by
 unfold Go.Op.complexOp;exact zB5 (@gD P) (@xp P) (@tI P) (@rU P) (@p8 P)
theorem A8(x0 x1 x2):FT P (@Go.movedPointer x0 x1 x2):=by
 unfold Go.movedPointer;exact yF (@jF P) (@zD P)
theorem rW(x0 x1):FT P (@Go.Op.twoPlaces x0 x1):=by
 unfold Go.Op.twoPlaces;exact pO (@p9 P)
theorem Ee(x0 x1 x2):FT P (@Go.Op.addrSub x0 x1 x2):=by
 unfold Go.Op.addrSub;exact pO (@rW P)
theorem Ec(x0 x1 x2):FT P (@Go.Op.addrCmp x0 x1 x2):=by
 unfold Go.Op.addrCmp;exact pO (@rW P)
theorem QM(x0 x1 x2 x3):FT P (@Go.binOp x0 x1 x2 x3):=by
 unfold Go.binOp
 try dsimp only
 repeat' (first|(with_reducible first|exact aP P _|apply I7|apply aI|apply uD|apply Gd|apply vG|apply Gc|apply qL|apply uC|apply A5|apply oI|apply zt|apply cS|apply A8|apply C_|apply kR|apply Ee|apply Ec|apply Ed|apply bJ|apply bV)|intro _|split|dsimp only)
theorem xl(x0 x1):FT P (@Go.Conv.intToFloat x0 x1):=by
 unfold Go.Conv.intToFloat
 try dsimp only
 repeat' (first|(with_reducible exact aP P _)|(with_reducible first|apply bV|apply KQ)|intro _|split|dsimp only)
theorem qD(x0 x1 x2 x3):FT P (@Go.Conv.complexToComplex x0 x1 x2 x3):=by
 unfold Go.Conv.complexToComplex;exact pO (@kl P)
theorem vt(x0):FT P (@Go.Conv.intToString x0):=by
 unfold Go.Conv.intToString
 try dsimp only
 repeat' (first|(with_reducible exact aP P _)|(with_reducible first|apply bV|apply KQ)|intro _|split|dsimp only)
theorem tC(x0 x1):FT P (@Go.Conv.stringToBytes x0 x1):=by
 unfold Go.Conv.stringToBytes;exact yF (@kG P) (@kq P)
theorem tD(x0 x1):FT P (@Go.Conv.stringToRunes x0 x1):=by
 unfold Go.Conv.stringToRunes;exact pO (@kG P)
theorem tz(x0):FT P (@Go.Conv.bytesToString x0):=by
 unfold Go.Conv.bytesToString
 try dsimp only
 repeat' (first|(with_reducible first|exact aP P _|apply n6|apply aI|apply bV|apply Zn)|intro _|split|trivial|dsimp only|(with_reducible first|exact lY P a a))
theorem KU(x0 x1 x2):FT P (@Go.convert x0 x1 x2):=by
 unfold Go.convert
 try dsimp only
 repeat' (first|(with_reducible first|exact aP P _|apply cS|apply zc|apply xl|apply xk|apply kl|apply qD|apply vt|apply tC|apply tD|apply aI|apply kq|apply bJ|apply tz|apply tA|apply tF|apply bV)|intro _|split|dsimp only)
theorem zi(x0 x1):FT P (@Go.Instr.extract x0 x1):=by
 unfold Go.Instr.extract;exact q8
theorem Eb(x0 x1 x2):FT P (@Go.Instr.next x0 x1 x2):=by
 unfold Go.Instr.next
 exact q8
theorem iy(x0):FT P (@Go.Instr.sureAddr x0):=by
 unfold Go.Instr.sureAddr;exact q8
theorem tG(x0 x1):FT P (@Go.Instr.deferInRound x0 x1):=by
 unfold Go.Instr.deferInRound;exact yF (@gL P) (@QN P)
theorem uE(x0 x1 x2):FT P (@Go.followBlind x0 x1 x2):=by
 induction x0 generalizing x1 x2 with
 |nil=>
  unfold Go.followBlind;exact pO (@jU P)
 |cons e b a=>
  unfold Go.followBlind;exact yF a (@jU P)
theorem I9(x0 x1 x2 x3):FT P (@Go.nilAhead x0 x1 x2 x3):=by
 induction x0 generalizing x1 x2 x3 with
 |zero=>
  unfold Go.nilAhead;exact pO (@uE P)
 |succ n a=>
  unfold Go.nilAhead;exact yF a (@uE P)
theorem A6(x0 x1 x2 x3):FT P (@Go.Op.eqGuardIn x0 x1 x2 x3):=by
 induction x0 generalizing x1 x2 x3 with
 |zero=>
  unfold Go.Op.eqGuardIn;exact pO (@jU P)
 |succ n a=>
  unfold Go.Op.eqGuardIn;exact P7 a (@jU P) (@Zn P) (@fRi P)
theorem C7(x0):FT P (@Go.Instr.ready x0):=by
 unfold Go.Instr.ready;exact q8
theorem vF(x0 x1 x2 x3):FT P (@Go.Instr.typeAssert x0 x1 x2 x3):=by
 unfold Go.Instr.typeAssert;exact pO (@eH P)
theorem nH(x0 x1 x2 x3 b a):FT P (@Go.Instr.sliceBounds x0 x1 x2 x3 b a):=by
 unfold Go.Instr.sliceBounds;exact pO (@vE P)
theorem A0(x0 x1):FT P (@Go.Instr.loadAt x0 x1):=by
 unfold Go.Instr.loadAt;exact yF (@iy P) (@jw P)
theorem zn(x0 x1):FT P (@Go.Instr.makeMap x0 x1):=by
 unfold Go.Instr.makeMap;exact pO (@ji P)
theorem xX(x0 x1 x2):FT P (@Go.Instr.makeFunc x0 x1 x2):=by
 unfold Go.Instr.makeFunc
 try dsimp only
 repeat' (first|(with_reducible exact aP P _)|(with_reducible first|apply bV|apply KQ)|intro _|split|dsimp only)
theorem C1(x0 x1):FT P (@Go.Instr.build x0 x1):=by
 unfold Go.Instr.build
 try dsimp only
 repeat' (first|(with_reducible first|exact aP P _|apply eH|apply cS|apply gR|apply aI|apply bV|apply fAm)|intro _|split|trivial|dsimp only|(with_reducible first|exact lY P a a))
theorem zl(x0 x1 x2):FT P (@Go.Instr.indexAt x0 x1 x2):=by
 unfold Go.Instr.indexAt;exact P6 (@qM P) (@oJ P) (@iy P)
theorem zh(x0):FT P (@Go.Instr.endLoop x0):=by
 unfold Go.Instr.endLoop;exact pO (@gL P)
theorem zj(x0 x1 x2):FT P (@Go.Instr.fieldAt x0 x1 x2):=by
 unfold Go.Instr.fieldAt;exact yF (@iy P) (@p_ P)
theorem C9(x0):FT P (@Go.Instr.waits x0):=by
 unfold Go.Instr.waits;exact q8
theorem zq(x0 x1 x2):FT P (@Go.Instr.storeAt x0 x1 x2):=by
 unfold Go.Instr.storeAt;exact yF (@iy P) (@tQ P)
theorem KV(x0 x1 x2 x3 b a):FT P (@Go.eqGuard x0 x1 x2 x3 b a):=by
 unfold Go.eqGuard;exact pO (@A6 P)
theorem rS(x0 x1):FT P (@Go.Instr.makeInterface x0 x1):=by
 unfold Go.Instr.makeInterface;exact q8
theorem C8(x0 x1 x2 x3 a):FT P (@Go.Instr.slice x0 x1 x2 x3 a):=by
 unfold Go.Instr.slice;exact yF (@nH P) (@nQ P)
theorem zp(x0 x1 x2 x3 a):FT P (@Go.Instr.sliceAt x0 x1 x2 x3 a):=by
 unfold Go.Instr.sliceAt;exact P6 (@iy P) (@nH P) (@C8 P)
theorem A4(x0 x1 x2 x3):FT P (@Go.Instr.lookup x0 x1 x2 x3):=by
 unfold Go.Instr.lookup;exact P6 (@jH P) (@kp P) (@eH P)
theorem xY(x0 x1 x2):FT P (@Go.Instr.mapEntry x0 x1 x2):=by
 unfold Go.Instr.mapEntry;exact P7 (@jH P) (@kp P) (@mW P) (@eH P)
theorem vC(x0 x1 x2 x3):FT P (@Go.Instr.entryStore x0 x1 x2 x3):=by
 unfold Go.Instr.entryStore;exact pO (@ji P)
theorem C6(x0 x1):FT P (@Go.Instr.range x0 x1):=by
 unfold Go.Instr.range;exact q8
theorem xm(x0 x1 x2 x3 b a):FT P (@Go.Instr.enterLoop x0 x1 x2 x3 b a):=by
 unfold Go.Instr.enterLoop;exact pO (@gL P)
theorem vw(x0):FT P (@Go.Instr.beginRound x0):=by
 unfold Go.Instr.beginRound;exact pO (@gL P)
theorem xV(x0 x1):FT P (@Go.Instr.endRound x0 x1):=by
 unfold Go.Instr.endRound;exact pO (@gL P)
theorem mX(x0):FT P (@Go.asString x0):=by
 unfold Go.asString;exact q8
end Lf
end Go.Proofs.YtpbbmagjhkakgaaGreatDoor
