import Derived.Test.YtpbbmagjhkakgaaGreatDoorA1
namespace Go.Proofs.YtpbbmagjhkakgaaGreatDoor
namespace Lf
open Go
variable(P:Program)
abbrev FT{a:Type}(s:Sem a):Prop:=Fit P (λ_=>True) 0 s
theorem aO{b}(a):FT P (pure a:Sem b):=⟨rfl,trivial⟩
theorem bV{P d b M s}{f:d->Sem b}(c:Fit P (λ_=>True) 0 s)(e:∀a,Fit P M 0 (f a)):Fit P M 0 (s>>=f):=Km (λa _=>e a) c
theorem Kl{P d b s}{f:d->b}(c:Fit P (λ_=>True) 0 s):FT P (f<$>s):=Km (L:=λ_=>True) (f:=λa=>pure (f a)) (λ_ _=>aO P _) c
theorem pT(a m):FT P (load a m):=λ_=>⟨rfl,trivial⟩
theorem fit_store(a v m):FT P (store a v m):=⟨rfl,trivial⟩
theorem jE(o):FT P (newObj o):=λ_=>⟨rfl,trivial⟩
theorem jg(o):FT P (shape o):=λ_=>⟨rfl,trivial⟩
theorem tj(a n):FT P (freeze a n):=⟨rfl,trivial⟩
theorem tq(a):FT P (frozen a):=λ_=>⟨rfl,trivial⟩
theorem gL(r):FT P (getObj r):=λ_=>⟨rfl,trivial⟩
theorem jG(r o):FT P (setObj r o):=⟨rfl,trivial⟩
theorem dT(q):FT P (choose q):=λ_=>⟨rfl,trivial⟩
theorem dX:Fit P (λ_=>True) 0 program:=⟨rfl,trivial⟩
theorem aH{a L}(s):Fit P L 0 (stuck s:Sem a):=.inl rfl
theorem bJ{a L}(s):Fit P L 0 (unsupported s:Sem a):=.inl rfl
theorem mh{a L}(s):Fit P L 0 (goPanic s:Sem a):=.inl rfl
theorem Qb{a L}(s):Fit P L 0 (throw s:Sem a):=.inl rfl
theorem Bx(n):FT P (askRoom n):=by unfold askRoom;split<;>exact⟨rfl,trivial⟩
theorem fLi{P}{d c:Type}{f:d->c->Sem (ForInStep c)}(e:∀a b,Fit P (λ_=>True) 0 (f a b))(l:aB d):∀b,Fit P (λ_=>True) 0 (forIn l b f):=by
 induction l with
 |nil=>intro b;rw[List.forIn_nil];exact aO P _
 |cons a l g=>intro b;rw[List.forIn_cons];refine bV (e _ _) λr=>?_;split<;>first|exact aO P _|exact g _
theorem Ys{P}{d c:Type}{f}(e:∀a b,Fit P (λ_=>True) 0 (f a b))(l:aY d)(b:c):FT P (forIn l b f):=by
 rw[<-Array.forIn_toList];exact fLi e _ _
theorem fRi{P c f}(d:∀a b,Fit P (λ_=>True) 0 (f a b))(l:Std.Legacy.Range)(b:c):FT P (forIn l b f):=by
 rw[Std.Legacy.Range.forIn_eq_forIn_range'];exact fLi d _ _
theorem fFo{P}{d c:Type}{f:c->d->Sem c}(e:∀a b,Fit P (λ_=>True) 0 (f a b))(l):∀b,Fit P (λ_=>True) 0 (List.foldlM f b l):=by
 induction l with
 |nil=>intro b;exact aO P _
 |cons a l g=>intro b;rw[List.foldlM_cons];exact bV (e _ _) λr=>g _
theorem fLm{P}{c b:Type}{f:c->Sem b}(d:∀a,Fit P (λ_=>True) 0 (f a))(l):FT P (List.mapM f l):=by
 rw[List.mapM_eq_reverse_foldlM_cons];exact Kl (fFo (λ_ a=>Kl (d a)) _ _)
theorem fAm{P}{c b:Type}{f:c->Sem b}(d:∀a,Fit P (λ_=>True) 0 (f a))(l):FT P (Array.mapM f l):=by
 rw[Array.mapM_eq_mapM_toList];exact Kl (fLm d _)
theorem eK{P a L c}[Decidable c]{x y:Sem a}(b:Fit P L 0 x)(d:Fit P L 0 y):Fit P L 0 (if c then x else y):=by split<;>assumption
theorem lO{m}(h:m≠.disable)(a:m≠.enable):FT P (mark m):=by
 unfold mark Fit;cases m<;>first|exact absurd rfl h|exact absurd rfl a|exact⟨rfl,trivial⟩
theorem ZK{T:bQ}(h:T:=by(try dsimp only);repeat' (first|(with_reducible first|exact aO _ _|apply aH|apply bJ|apply dX|apply jg|apply gL|apply dT|apply bV)|intro _|split|dsimp only|trivial)):T:=h
theorem Po{T A:bQ}(p:A)(h:A->T:=by intro p;(try dsimp only);repeat' (first|(with_reducible first|exact aO _ _|apply p|apply aH|apply bJ|apply dX|apply jg|apply gL|apply dT|apply bV)|intro _|split|dsimp only|trivial)):T:=h p
theorem zA3{T A B C:bQ}(p:A)(q:B)(r:C)(h:A->B->C->T:=by intro p q r;(try dsimp only);repeat' (first|(with_reducible first|exact aO _ _|apply p|apply q|apply r|apply aH|apply bJ|apply dX|apply jg|apply gL|apply dT|apply bV)|intro _|split|dsimp only|trivial)):T:=h p q r
theorem zA4{T A B C D:bQ}(p:A)(q:B)(r:C)(s:D)(h:A->B->C->D->T:=by intro p q r s;(try dsimp only);repeat' (first|(with_reducible first|exact aO _ _|apply p|apply q|apply r|apply s|apply aH|apply bJ|apply dX|apply jg|apply gL|apply dT|apply bV)|intro _|split|dsimp only|trivial)):T:=h p q r s
theorem s_(x0):FT P (@Go.asBool x0):=by
 unfold Go.asBool;exact ZK
theorem cQ(x0):FT P (@Go.underlying x0):=by
 unfold Go.underlying;exact ZK
theorem Gk(x0):FT P (@Go.isAgg x0):=by
 unfold Go.isAgg;exact Po (@cQ P)
theorem cU(x0):FT P (@Go.typeInfo x0):=by
 unfold Go.typeInfo;exact ZK
theorem gM(x0):FT P (@Go.sizeOf x0):=by
 unfold Go.sizeOf;exact Po (@cU P)
theorem yV(x0 x1 x2 x3):FT P (loadCellsFrom x0 x1 x2 x3):=by
 induction x2 generalizing x1 x3 with
 |zero=>exact aO P _
 |succ n a=>unfold loadCellsFrom;exact bV (pT P _ _) λ_=>a _ _
theorem nS(x0 x1):FT P (@Go.loadCells x0 x1):=by
 unfold Go.loadCells;exact Po (@yV P)
theorem jo(x0 x1):FT P (@Go.loadVar x0 x1):=by
 unfold Go.loadVar;exact zA4 (@Gk P) (@gM P) (@nS P) (@pT P)
theorem lj(x0 x1):FT P (@Go.Place.get x0 x1):=by
 unfold Go.Place.get;exact Po (@jo P)
theorem yY(x0):FT P (@Go.numberAt x0):=by
 unfold Go.numberAt;exact ZK
theorem kN(x0):FT P (@Go.behindNumber x0):=by
 unfold Go.behindNumber;exact Po (@yY P)
theorem pV(x0):FT P (@Go.viewAt x0):=by
 unfold Go.viewAt;exact ZK
theorem xH(x0):FT P (@Go.noView x0):=by
 unfold Go.noView;exact Po (@pV P)
theorem pR(x0):FT P (@Go.byteOf x0):=by
 unfold Go.byteOf;exact Po (@xH P)
theorem FQ(x0):FT P (@Go.stringish x0):=by
 unfold Go.stringish;exact Po (@tq P)
theorem yX(x0 x1):FT P (@Go.mayBeOne x0 x1):=by
 unfold Go.mayBeOne;exact Po (@FQ P)
theorem tz(x0 x1):FT P (@Go.sameAddr x0 x1):=by
 unfold Go.sameAddr;exact zA3 (@tq P) (@xH P) (@yX P)
theorem uj(x0 x1):FT P (@Go.samePointer x0 x1):=by
 unfold Go.samePointer;exact Po (@tz P)
theorem kC(x0):FT P (@Go.typeStr x0):=by
 unfold Go.typeStr;exact Po (@cU P)
theorem jD(x0):FT P (@Go.elemOf x0):=by
 unfold Go.elemOf;exact Po (@cQ P)
theorem kB(x0 x1):FT P (@Go.newRow x0 x1):=by
 unfold Go.newRow;exact Po (@jE P)
theorem lQ(x0 x1):FT P (@Go.newVar x0 x1):=by
 unfold Go.newVar;exact Po (@kB P)
theorem cK{x0}(x1):FT P (@Go.runtimePanic x0 x1):=by
 unfold Go.runtimePanic;exact zA3 (@mh P) (@jD P) (@lQ P)
theorem qO{T:bQ}(h:T:=by(try dsimp only);repeat' (first|(with_reducible first|exact aO _ _|apply aH|apply bJ|apply dX|apply jg|apply gL|apply dT|apply bV|apply cQ|apply cU|apply gM|apply cK|apply jG|apply jE)|intro _|split|dsimp only|trivial)):T:=h
theorem pC{T A:bQ}(p:A)(h:A->T:=by intro p;(try dsimp only);repeat' (first|(with_reducible first|exact aO _ _|apply p|apply aH|apply bJ|apply dX|apply jg|apply gL|apply dT|apply bV|apply cQ|apply cU|apply gM|apply cK|apply jG|apply jE)|intro _|split|dsimp only|trivial)):T:=h p
theorem yo{T A B:bQ}(p:A)(q:B)(h:A->B->T:=by intro p q;(try dsimp only);repeat' (first|(with_reducible first|exact aO _ _|apply p|apply q|apply aH|apply bJ|apply dX|apply jg|apply gL|apply dT|apply bV|apply cQ|apply cU|apply gM|apply cK|apply jG|apply jE)|intro _|split|dsimp only|trivial)):T:=h p q
theorem Pp{T A B C:bQ}(p:A)(q:B)(r:C)(h:A->B->C->T:=by intro p q r;(try dsimp only);repeat' (first|(with_reducible first|exact aO _ _|apply p|apply q|apply r|apply aH|apply bJ|apply dX|apply jg|apply gL|apply dT|apply bV|apply cQ|apply cU|apply gM|apply cK|apply jG|apply jE)|intro _|split|dsimp only|trivial)):T:=h p q r
theorem Pq{T A B C D:bQ}(p:A)(q:B)(r:C)(s:D)(h:A->B->C->D->T:=by intro p q r s;(try dsimp only);repeat' (first|(with_reducible first|exact aO _ _|apply p|apply q|apply r|apply s|apply aH|apply bJ|apply dX|apply jg|apply gL|apply dT|apply bV|apply cQ|apply cU|apply gM|apply cK|apply jG|apply jE)|intro _|split|dsimp only|trivial)):T:=h p q r s
theorem zB5{T A B C D E:bQ}(p:A)(q:B)(r:C)(s:D)(t:E)(h:A->B->C->D->E->T:=by intro p q r s t;(try dsimp only);repeat' (first|(with_reducible first|exact aO _ _|apply p|apply q|apply r|apply s|apply t|apply aH|apply bJ|apply dX|apply jg|apply gL|apply dT|apply bV|apply cQ|apply cU|apply gM|apply cK|apply jG|apply jE)|intro _|split|dsimp only|trivial)):T:=h p q r s t
theorem zB6{T A B C D E F:bQ}(p:A)(q:B)(r:C)(s:D)(t:E)(u:F)(h:A->B->C->D->E->F->T:=by intro p q r s t u;(try dsimp only);repeat' (first|(with_reducible first|exact aO _ _|apply p|apply q|apply r|apply s|apply t|apply u|apply aH|apply bJ|apply dX|apply jg|apply gL|apply dT|apply bV|apply cQ|apply cU|apply gM|apply cK|apply jG|apply jE)|intro _|split|dsimp only|trivial)):T:=h p q r s t u
theorem jO(x0 x1 x2):FT P (@Go.part x0 x1 x2):=by
 unfold Go.part;exact pC (@Gk P)
theorem DU(x0 x1 x2 x3):FT P (@Go.Op.equalIn x0 x1 x2 x3):=by
 induction x0 generalizing x1 x2 x3 with
 |zero=>
  unfold Go.Op.equalIn;exact zB6 (@kN P) (@pR P) (@tz P) (@uj P) (@kC P) (@jO P)
 |succ n a=>
  unfold Go.Op.equalIn
  try dsimp only
  repeat' (first|(with_reducible first|exact aO P _|apply a|apply bJ|apply cQ|apply aH|apply kN|apply dX|apply pR|apply cU|apply gM|apply tz|apply dT|apply uj|apply kC|apply cK|apply jO|apply bV|apply Ys|apply fRi)|(intro _)|split)
theorem yT(x0 x1 x2):FT P (@Go.Op.equal x0 x1 x2):=by
 unfold Go.Op.equal;exact pC (@DU P)
theorem uZ(x0 x1 x2 x3):FT P (Instr.findAsking x0 x1 x2 x3):=by
 induction x2 generalizing x3 with
 |nil=>exact aO P _
 |cons e b a=>unfold Instr.findAsking;refine bV (yT P _ _ _) λ_=>?_;split<;>first|exact a _|exact aO P _
theorem kl(x0 x1 x2):FT P (@Go.Instr.findKey x0 x1 x2):=by
 unfold Go.Instr.findKey;exact pC (@uZ P)
theorem jz(x0 x1 x2):FT P (@Go.Builtin.firstCells x0 x1 x2):=by
 unfold Go.Builtin.firstCells;exact pC (@nS P)
theorem eH(x0):FT P (@Go.zeroValue x0):=by
 unfold Go.zeroValue;exact qO
theorem mO(x0 x1 x2):FT P (storeCells x0 x1 x2):=by
 induction x1 generalizing x2 with
 |nil=>exact aO P _
 |cons e b a=>unfold storeCells;exact bV (fit_store P _ _ _) λ_=>a _
theorem tA(x0 x1 x2):FT P (@Go.storeVar x0 x1 x2):=by
 unfold Go.storeVar;exact pC (@mO P)
theorem CD(x0 x1 x2):FT P (@Go.Instr.alloc x0 x1 x2):=by
 unfold Go.Instr.alloc;exact Pp (@eH P) (@tA P) (@lQ P)
theorem sS(x0 x1):FT P (@Go.Builtin.holdsCells x0 x1):=by
 unfold Go.Builtin.holdsCells;exact qO
theorem uT(x0 x1 x2 x3 a):FT P (@Go.Builtin.mayShare x0 x1 x2 x3 a):=by
 unfold Go.Builtin.mayShare;exact yo (@sS P) (@tq P)
theorem qB(x0):FT P (@Go.asIntOf x0):=by
 unfold Go.asIntOf;exact qO
theorem jf(x0):FT P (@Go.asInt x0):=by
 unfold Go.asInt;exact pC (@qB P)
theorem qz(x0):FT P (@Go.Builtin.lenOf x0):=by
 unfold Go.Builtin.lenOf;exact qO
theorem wO(x0 x1 x2):FT P (Builtin.append_ x0 x1 x2):=by
 unfold Builtin.append_;split
 .refine bV (cQ P _) λt=>?_;split
  .split
   .refine bV (gM P _) λsize=>?_
    extract_lets j0 j1
    let h:∀u,Fit P (λ_=>True) 0 (j0 u):=λu=>bJ P _;let i:∀a,Fit P (λ_=>True) 0 (j1 a):=by
     intro a;simp-zeta only[j1]
     extract_lets j2
     let d:∀n,Fit P (λ_=>True) 0 (j2 n):=by
      intro n;simp-zeta only[j2]
      extract_lets app need j3 j4 j5
      let e:Fit P (λ_=>True) 0 app:=
       eK (jz P _ _ _) (eK (aO P _) (bV (eH P _) λ_=>aO P _))
      let c:∀u,Fit P (λ_=>True) 0 (j4 u):=by
       intro u;refine bV (dT P _) λ_=>bV (cU P _) λ_=>bV (Bx P _) λ_=>bV (jz P _ _ _) λ_=>bV e λ_=>bV (eH P _) λ_=>?_;exact bV (kB P _ _) λ_=>aO P _
      let f:∀u,Fit P (λ_=>True) 0 (j5 u):=by
       intro u;refine bV (cU P _) λb=>?_;refine eK (bV (eK (cK P _) (bV (uT P _ _ _ _ _) λ_=>?_)) λ_=>c ()) (c ());exact eK (bV (lO P aE aE) λ_=>h ()) (h ())
      apply eK
      .refine bV e λnew=>?_;split
       .exact bV (mO P _ _ _) λ_=>aO P _
       .exact aO P _
      .refine bV (cU P _) λb=>?_;exact eK (bV (cK P _) λ_=>f ()) (f ())
     refine eK ?_ (bV (qz P _) λ_=>d _);refine bV (jf P _) λl=>?_
     extract_lets l' j4 j3
     let c:∀u,Fit P (λ_=>True) 0 (j4 u):=λu=>bV (aO P _) λ_=>d _;let g:∀u,Fit P (λ_=>True) 0 (j3 u):=by
      intro u;refine bV (cU P _) λb=>?_;exact eK (bV (dT P _) λ_=>bV (cK P _) λ_=>c ()) (c ())
     exact eK (bV (cK P _) λ_=>g ()) (g ())
    split
    .exact bV (cQ P _) λ_=>bV (aO P _) λ_=>i _
    .exact bV (aO P _) λ_=>i _
   .exact aH P _
  .exact aH P _
 .exact aH P _
theorem AB(x0 x1 x2):FT P (@Go.Builtin.cap_ x0 x1 x2):=by
 unfold Go.Builtin.cap_;exact qO
theorem xx(x0 x1 x2):FT P (@Go.Builtin.clear_ x0 x1 x2):=by
 unfold Go.Builtin.clear_;exact yo (@eH P) (@mO P)
theorem xy(x0 x1 x2):FT P (Builtin.close_ x0 x1 x2):=by
 obtain⟨_|⟨a,_|⟨b,l⟩⟩⟩:=x2
 .exact aH P _
 .cases a with
  |chan r=>
   cases r with
   |none=>exact(cK P (.plain "close of nil channel"):Fit P (λ_=>True) 0 (runtimePanic (.plain "close of nil channel"):Sem aF))
   |some r=>
    refine bV (s:=getObj r) (gL P r) λo=>?_;cases o with
    |chan a b c d e f=>
     cases c with
     |true=>exact bV (cK P _) λ_=>bV (jG P _ _) λ_=>aO P _
     |false=>exact bV (jG P _ _) λ_=>aO P _
    |_=>exact aH P _
  |_=>exact aH P _
 .exact aH P _
theorem uS(x0 x1 x2):FT P (Builtin.complex_ x0 x1 x2):=by
 obtain⟨_|⟨a,_|⟨b,_|⟨c,l⟩⟩⟩⟩:=x2
 .exact aH P _
 .exact aH P _
 .cases a with
  |float k re=>
   cases b with
   |float d f=>
    by_cases h:k=d
    .have e:Builtin.complex_ x0 x1 ⟨[.float k re,.float d f]⟩=pure (.complex k re f):=(if_pos h:(if k=d then pure (.complex k re f)else stuck "complex: parts of different kinds":Sem Value)=_);rw[e];exact aO P _
    .have e:Builtin.complex_ x0 x1 ⟨[.float k re,.float d f]⟩=stuck "complex: parts of different kinds":=(if_neg h:(if k=d then pure (.complex k re f)else stuck "complex: parts of different kinds":Sem Value)=_);rw[e];exact aH P _
   |_=>exact aH P _
  |_=>exact aH P _
 .exact aH P _
theorem yH(x0 x1 x2):FT P (@Go.Builtin.copy_ x0 x1 x2):=by
 unfold Go.Builtin.copy_;exact Pp (@qz P) (@jz P) (@mO P)
theorem jC(x0 x1 x2 x3):FT P (@Go.Instr.checkKey x0 x1 x2 x3):=by
 induction x1 generalizing x0 x2 x3 with
 |zero=>
  unfold Go.Instr.checkKey;exact yo (@kC P) (@jO P)
 |succ n a=>
  unfold Go.Instr.checkKey;exact zB5 a (@kC P) (@jO P) (@Ys P) (@fRi P)
theorem wP(x0 x1 x2):FT P (@Go.Builtin.delete_ x0 x1 x2):=by
 unfold Go.Builtin.delete_;exact yo (@jC P) (@kl P)
theorem yI(x0 x1 x2):FT P (@Go.Builtin.imag_ x0 x1 x2):=by
 unfold Go.Builtin.imag_;obtain⟨_|⟨a,_|⟨b,_|⟨c,_|⟨d,l⟩⟩⟩⟩⟩:=x2
 all_goals(try cases a)
 all_goals(try cases b)
 all_goals(try cases c)
 all_goals first|exact aH P _|exact aO P _|skip
 all_goals
  repeat' (first|(with_reducible first|exact aO P _|apply aH)|(intro _)|split|(exact aH P _)|(exact aO P _)|(dsimp only)|(apply bV))
theorem rF(x0 x1 x2):FT P (@Go.Builtin.len_ x0 x1 x2):=by
 unfold Go.Builtin.len_;exact qO
theorem ox(x0 x1 x2):FT P (@Go.Op.stringOp x0 x1 x2):=by
 unfold Go.Op.stringOp;exact qO
theorem AD(x0 x1):FT P (@Go.Builtin.max2 x0 x1):=by
 unfold Go.Builtin.max2;exact yo (@ox P) (@s_ P)
theorem AE(x0 x1 x2):FT P (@Go.Builtin.max_ x0 x1 x2):=by
 unfold Go.Builtin.max_
 try dsimp only
 repeat' (first|(with_reducible first|exact aO P _|apply aH|apply AD|apply fFo)|intro _|split|trivial|dsimp only|(with_reducible first|exact lO P a a))
theorem AF(x0 x1):FT P (@Go.Builtin.min2 x0 x1):=by
 unfold Go.Builtin.min2;exact yo (@ox P) (@s_ P)
theorem AG(x0 x1 x2):FT P (@Go.Builtin.min_ x0 x1 x2):=by
 unfold Go.Builtin.min_
 try dsimp only
 repeat' (first|(with_reducible first|exact aO P _|apply aH|apply AF|apply fFo)|intro _|split|trivial|dsimp only|(with_reducible first|exact lO P a a))
theorem xE:Fit P (λ_=>True) 0 Instr.panicnil:=by
 unfold Instr.panicnil;refine⟨⟨_,rfl,rfl⟩,λr=>?_⟩;show Fit P _ 0 (Sem.bind (.pure r) _);simp only[Sem.bind];split
 .exact bV (dX P) λ_=>aO P _
 .exact aH P _
theorem uf(x0):FT P (@Go.Instr.panic x0):=by
 unfold Go.Instr.panic;exact yo (@mh P) (@xE P)
theorem yJ(x0 x1 x2):FT P (@Go.Builtin.real_ x0 x1 x2):=by
 unfold Go.Builtin.real_;obtain⟨_|⟨a,_|⟨b,_|⟨c,_|⟨d,l⟩⟩⟩⟩⟩:=x2
 all_goals(try cases a)
 all_goals(try cases b)
 all_goals(try cases c)
 all_goals first|exact aH P _|exact aO P _|skip
 all_goals
  repeat' (first|(with_reducible first|exact aO P _|apply aH)|(intro _)|split|(exact aH P _)|(exact aO P _)|(dsimp only)|(apply bV))
theorem jA(x0 x1 x2):FT P (Builtin.unsafeAdd_ x0 x1 x2):=by
 obtain⟨_|⟨a,_|⟨b,_|⟨c,l⟩⟩⟩⟩:=x2
 .exact aH P _
 .exact aH P _
 .cases a with
  |pointer r=>
   refine bV (s:=asInt b) (jf P b) λn=>?_;exact pC (@pV P)
  |_=>exact aH P _
 .exact aH P _
theorem oz(x0 x1 x2):FT P (@Go.variablesAt x0 x1 x2):=by
 unfold Go.variablesAt;exact qO
theorem qV(x0 x1 x2):FT P (Builtin.unsafeSlice_ x0 x1 x2):=by
 obtain⟨_|⟨a,_|⟨b,_|⟨c,l⟩⟩⟩⟩:=x2
 .exact aH P _
 .exact aH P _
 .cases a with
  |pointer r=>
   refine bV (s:=asInt b) (jf P b) λn=>?_
   repeat' (first|(with_reducible first|exact aO P _|apply aH|apply bJ|apply cK|apply jE|apply jD|apply cU|apply gM|apply oz|apply pV|apply dX|apply bV)|intro _|split|dsimp only)
  |_=>exact aH P _
 .exact aH P _
theorem ot(x0 x1 x2):FT P (Builtin.unsafeSliceData_ x0 x1 x2):=by
 obtain⟨_|⟨a,_|⟨b,l⟩⟩⟩:=x2
 .exact aH P _
 .cases a with
  |slice r n c=>
   cases r with
   |none=>exact aO P _
   |some r=>
    by_cases d:c≠0
    .refine cast ?_ (aO P (Value.pointer (some r)));exact og (Fit P (λ_=>True) 0) (bY d).symm
    .refine cast (og (Fit P (λ_=>True) 0) (bN d).symm) ?_;exact yo (@jD P) (@pV P)
  |_=>exact aH P _
 .exact aH P _
theorem FO(x0 x1 x2):FT P (loadBytes x0 x1 x2):=by
 induction x2 generalizing x0 x1 with
 |zero=>exact aO P _
 |succ n a=>unfold loadBytes;refine bV (pT P _ _) λ_=>?_;split<;>first|exact a _ _|exact aH P _
theorem qq(x0 x1 x2):FT P (Builtin.unsafeString_ x0 x1 x2):=by
 obtain⟨_|⟨a,_|⟨b,_|⟨c,l⟩⟩⟩⟩:=x2
 .exact aH P _
 .exact aH P _
 .cases a with
  |pointer r=>
   refine bV (s:=asInt b) (jf P b) λn=>?_;exact Pq (@FO P) (@jD P) (@tj P) (@oz P)
  |_=>exact aH P _
 .exact aH P _
theorem km(x0):FT P (@Go.markStringish x0):=by
 unfold Go.markStringish;exact pC (@tj P)
theorem nY(x0 x1 x2):FT P (Builtin.unsafeStringData_ x0 x1 x2):=by
 obtain⟨_|⟨a,_|⟨b,l⟩⟩⟩:=x2
 .exact aH P _
 .cases a with
  |string s=>
   by_cases c:s.size=0
   .refine cast (og (Fit P (λ_=>True) 0) (bY c).symm) ?_;exact Pq (@kB P) (@km P) (@jD P) (@tj P)
   .refine cast (og (Fit P (λ_=>True) 0) (bN c).symm) ?_;exact Pq (@kB P) (@km P) (@jD P) (@tj P)
  |_=>exact aH P _
 .exact aH P _
theorem nF(x0):FT P (@Go.asAddr x0):=by
 unfold Go.asAddr;exact qO
theorem MQ(x0 x1 x2):FT P (@Go.partAt x0 x1 x2):=by
 unfold Go.partAt;exact pC (@pR P)
theorem pS(x0 x1):FT P (@Go.fieldPlace x0 x1):=by
 unfold Go.fieldPlace;exact pC (@MQ P)
theorem xG(x0 x1 x2):FT P (@Go.follow x0 x1 x2):=by
 induction x0 generalizing x1 x2 with
 |nil=>
  unfold Go.follow;exact Pq (@lj P) (@nF P) (@pS P) (@jO P)
 |cons e b a=>
  unfold Go.follow;exact zB5 a (@lj P) (@nF P) (@pS P) (@jO P)
theorem pP(x0 x1 x2):FT P (Builtin.ssaWrapNilChk_ x0 x1 x2):=by
 obtain⟨_|⟨a,_|⟨b,_|⟨c,_|⟨d,l⟩⟩⟩⟩⟩:=x2
 .exact aH P _
 .exact aH P _
 .exact aH P _
 .cases b with
  |string s=>
   cases c with
   |string m=>
    cases a with
    |pointer r=>
     cases r with
     |some r=>exact aO P _
     |none=>
      refine bV (s:=choose (.extern "ssa:wrapnilchk.dereferenced" 2)) (dT P _) λn=>?_;exact qO
    |_=>exact aH P _
   |_=>exact aH P _
  |_=>exact aH P _
 .exact aH P _
theorem pU(x0 x1 x2 x3):FT P (@Go.receiverAt x0 x1 x2 x3):=by
 unfold Go.receiverAt;exact Pq (@lj P) (@nF P) (@jo P) (@pP P)
theorem MP(x0 x1 x2 x3):FT P (@Go.method x0 x1 x2 x3):=by
 induction x0 generalizing x1 x2 x3 with
 |zero=>
  unfold Go.method;exact Pp (@xG P) (@lj P) (@pU P)
 |succ n a=>
  unfold Go.method;exact Pq a (@xG P) (@lj P) (@pU P)
theorem CQ(x0 x1 x2 x3):FT P (@Go.receiverVia x0 x1 x2 x3):=by
 unfold Go.receiverVia;exact yo (@xG P) (@pU P)
theorem gH(x0):FT P (@Go.Instr.getLoop x0):=by
 unfold Go.Instr.getLoop;exact qO
theorem mM(x0 x1):FT P (@Go.Instr.keyThatStays x0 x1):=by
 unfold Go.Instr.keyThatStays;exact qO
theorem qA(x0 x1 x2 x3):FT P (@Go.Op.floatArith x0 x1 x2 x3):=by
 unfold Go.Op.floatArith;exact qO
theorem gu(x0 x1 x2 x3):FT P (@Go.Op.Complex.arith x0 x1 x2 x3):=by
 unfold Go.Op.Complex.arith;exact pC (@qA P)
theorem lL(x0 x1):FT P (@Go.Op.Complex.add x0 x1):=by
 unfold Go.Op.Complex.add;exact pC (@gu P)
theorem FI(x0 x1):FT P (@Go.Instr.box x0 x1):=by
 unfold Go.Instr.box;exact pC (@lQ P)
theorem CG(x0):FT P (@Go.Instr.entry x0):=by
 unfold Go.Instr.entry;exact qO
theorem AL(x0):FT P (@Go.asAgg x0):=by
 unfold Go.asAgg;exact qO
theorem CH(x0 x1 x2):FT P (@Go.Instr.field x0 x1 x2):=by
 unfold Go.Instr.field;exact yo (@AL P) (@jO P)
theorem ug(x0 x1 x2 x3):FT P (@Go.Op.floatCmp x0 x1 x2 x3):=by
 unfold Go.Op.floatCmp;exact qO
theorem lB{x0}(x1):FT P (@Go.panicString x0 x1):=by
 unfold Go.panicString;exact pC (@mh P)
theorem CC(x0):FT P (@Go.Conv.seenAt x0):=by
 unfold Go.Conv.seenAt;exact pC (@pV P)
theorem Ko(x0):FT P (@Go.cellsIn x0):=by
 unfold Go.cellsIn;exact qO
theorem yU(x0 x1):FT P (@Go.asNumber x0 x1):=by
 unfold Go.asNumber;exact qO
theorem sY(x0 x1 x2):FT P (@Go.Conv.unsafePointer x0 x1 x2):=by
 unfold Go.Conv.unsafePointer;exact Pq (@CC P) (@Ko P) (@oz P) (@yU P)
theorem lM(x0 x1):FT P (@Go.Op.Complex.mul x0 x1):=by
 unfold Go.Op.Complex.mul;exact pC (@gu P)
theorem lN(x0 x1):FT P (@Go.Op.Complex.sub x0 x1):=by
 unfold Go.Op.Complex.sub;exact pC (@gu P)
theorem qW(x0 x1 x2 x3 a):FT P (@Go.Op.Complex.corrected x0 x1 x2 x3 a):=by
 unfold Go.Op.Complex.corrected;exact Pp (@lM P) (@lL P) (@lN P)
theorem yL(x0 x1):FT P (@Go.Instr.arrayAt x0 x1):=by
 unfold Go.Instr.arrayAt;exact qO
theorem uV(x0 x1):FT P (@Go.Deferred.ofValue x0 x1):=by
 unfold Go.Deferred.ofValue;exact qO
theorem qC(x0 x1 x2):FT P (@Go.resolve x0 x1 x2):=by
 unfold Go.resolve;exact pC (@uV P)
theorem uX(x0 x1 x2):FT P (@Go.Instr.buildSlice x0 x1 x2):=by
 unfold Go.Instr.buildSlice;exact yo (@kB P) (@eH P)
theorem wV(x0 x1 x2 x3):FT P (@Go.Instr.mapUpdate x0 x1 x2 x3):=by
 unfold Go.Instr.mapUpdate;exact Pp (@jC P) (@kl P) (@mM P)
theorem oy{x0}(x1 x2 x3 a):FT P (@Go.boundsPanic x0 x1 x2 x3 a):=by
 unfold Go.boundsPanic;exact pC (@Kl P)
theorem CI(x0 x1 x2):FT P (@Go.Instr.index x0 x1 x2):=by
 unfold Go.Instr.index;exact Pp (@qB P) (@jO P) (@oy P)
theorem wR(x0 x1 x2):FT P (@Go.Conv.floatToInt x0 x1 x2):=by
 unfold Go.Conv.floatToInt;exact qO
theorem sU(x0):FT P (@Go.Conv.runesToString x0):=by
 unfold Go.Conv.runesToString
 try dsimp only
 repeat' (first|(with_reducible first|exact aO P _|apply nS|apply aH|apply bV|apply Ys)|intro _|split|trivial|dsimp only|(with_reducible first|exact lO P a a))
theorem u6(x0 x1 x2):FT P (@Go.Instr.sliceBound x0 x1 x2):=by
 unfold Go.Instr.sliceBound;exact yo (@qB P) (@oy P)
theorem s8(x0):FT P (@Go.Instr.takeDeferred x0):=by
 unfold Go.Instr.takeDeferred;exact qO
theorem DS(x0 x1 x2):FT P (@Go.Op.addrMod x0 x1 x2):=by
 unfold Go.Op.addrMod;exact pC (@pR P)
theorem CN(x0 x1 x2):FT P (@Go.movedNumber x0 x1 x2):=by
 unfold Go.movedNumber;exact Pp (@kN P) (@jA P) (@yU P)
theorem uh(x0 x1 x2 x3):FT P (@Go.Op.intArith x0 x1 x2 x3):=by
 unfold Go.Op.intArith;exact qO
theorem u_(x0 x1 x2 x3):FT P (@Go.Op.intBits x0 x1 x2 x3):=by
 unfold Go.Op.intBits;exact qO
theorem Iy(x0 x1):FT P (@Go.Op.unary x0 x1):=by
 unfold Go.Op.unary;exact yo (@uh P) (@u_ P)
theorem wU(x0 x1 x2):FT P (@Go.Instr.makeSlice x0 x1 x2):=by
 unfold Go.Instr.makeSlice;exact Pq (@jf P) (@Bx P) (@kB P) (@eH P)
theorem xB(x0 x1):FT P (@Go.Instr.makeChan x0 x1):=by
 unfold Go.Instr.makeChan;exact pC (@jf P)
theorem vg(x0):FT P (@Go.cutType x0):=by
 unfold Go.cutType;exact qO
theorem xF(x0 x1):FT P (@Go.Op.Complex.quo x0 x1):=by
 unfold Go.Op.Complex.quo;exact pC (@gu P)
theorem yK(x0 x1):FT P (@Go.Conv.intToInt x0 x1):=by
 unfold Go.Conv.intToInt
 try dsimp only
 repeat' (first|(with_reducible exact aO P _)|(with_reducible first|apply bV|apply Kl)|intro _|split|dsimp only)
theorem Ix(x0 x1 x2 x3 a):FT P (@Go.Op.shift x0 x1 x2 x3 a):=by
 unfold Go.Op.shift;exact qO
theorem FK(x0 x1 x2 x3):FT P (@Go.Op.intDiv x0 x1 x2 x3):=by
 unfold Go.Op.intDiv;exact qO
theorem FJ(x0 x1 x2):FT P (@Go.Op.intCmp x0 x1 x2):=by
 unfold Go.Op.intCmp;exact qO
theorem j'(x0 x1 x2):FT P (@Go.Conv.floatToFloat x0 x1 x2):=by
 unfold Go.Conv.floatToFloat;exact qO
theorem wW(x0 x1 x2):FT P (@Go.Op.Complex.conv x0 x1 x2):=by
 unfold Go.Op.Complex.conv
 exact pC (@j' P)
theorem s9(x0 x1 x2 x3):FT P (@Go.Op.Complex.product x0 x1 x2 x3):=by
 unfold Go.Op.Complex.product;exact Pp (@lM P) (@lN P) (@lL P)
theorem pQ(x0 x1 x2 x3):FT P (@Go.Op.Complex.cmp x0 x1 x2 x3):=by
 unfold Go.Op.Complex.cmp;exact yo (@ug P) (@s_ P)
theorem rH(x0 x1 x2 x3):FT P (@Go.Op.Complex.quotient x0 x1 x2 x3):=by
 unfold Go.Op.Complex.quotient;exact zB6 (@pQ P) (@lM P) (@qW P) (@xF P) (@lL P) (@lN P)
theorem AJ(x0 x1 x2 x3 b a):FT P (@Go.Op.complexOp x0 x1 x2 x3 b a):=by
 unfold Go.Op.complexOp;exact zB5 (@gu P) (@wW P) (@s9 P) (@rH P) (@pQ P)
theorem AM(x0 x1 x2):FT P (@Go.movedPointer x0 x1 x2):=by
 unfold Go.movedPointer;exact yo (@jA P) (@yY P)
theorem rI(x0 x1):FT P (@Go.Op.twoPlaces x0 x1):=by
 unfold Go.Op.twoPlaces;exact pC (@pR P)
theorem DT(x0 x1 x2):FT P (@Go.Op.addrSub x0 x1 x2):=by
 unfold Go.Op.addrSub;exact pC (@rI P)
theorem DR(x0 x1 x2):FT P (@Go.Op.addrCmp x0 x1 x2):=by
 unfold Go.Op.addrCmp;exact pC (@rI P)
theorem Qa(x0 x1 x2 x3):FT P (@Go.binOp x0 x1 x2 x3):=by
 unfold Go.binOp
 try dsimp only
 repeat' (first|(with_reducible first|exact aO P _|apply Ix|apply aH|apply uh|apply FK|apply u_|apply FJ|apply qA|apply ug|apply AJ|apply ox|apply yT|apply cQ|apply AM|apply CN|apply kN|apply DT|apply DR|apply DS|apply bJ|apply bV)|intro _|split|dsimp only)
theorem wS(x0 x1):FT P (@Go.Conv.intToFloat x0 x1):=by
 unfold Go.Conv.intToFloat
 try dsimp only
 repeat' (first|(with_reducible exact aO P _)|(with_reducible first|apply bV|apply Kl)|intro _|split|dsimp only)
theorem qs(x0 x1 x2 x3):FT P (@Go.Conv.complexToComplex x0 x1 x2 x3):=by
 unfold Go.Conv.complexToComplex;exact pC (@j' P)
theorem uU(x0):FT P (@Go.Conv.intToString x0):=by
 unfold Go.Conv.intToString
 try dsimp only
 repeat' (first|(with_reducible exact aO P _)|(with_reducible first|apply bV|apply Kl)|intro _|split|dsimp only)
theorem sV(x0 x1):FT P (@Go.Conv.stringToBytes x0 x1):=by
 unfold Go.Conv.stringToBytes;exact yo (@kB P) (@km P)
theorem sX(x0 x1):FT P (@Go.Conv.stringToRunes x0 x1):=by
 unfold Go.Conv.stringToRunes;exact pC (@kB P)
theorem sT(x0):FT P (@Go.Conv.bytesToString x0):=by
 unfold Go.Conv.bytesToString
 try dsimp only
 repeat' (first|(with_reducible first|exact aO P _|apply nS|apply aH|apply bV|apply Ys)|intro _|split|trivial|dsimp only|(with_reducible first|exact lO P a a))
theorem Kp(x0 x1 x2):FT P (@Go.convert x0 x1 x2):=by
 unfold Go.convert
 try dsimp only
 repeat' (first|(with_reducible first|exact aO P _|apply cQ|apply yK|apply wS|apply wR|apply j'|apply qs|apply uU|apply sV|apply sX|apply aH|apply km|apply bJ|apply sT|apply sU|apply sY|apply bV)|intro _|split|dsimp only)
theorem yN(x0 x1):FT P (@Go.Instr.extract x0 x1):=by
 unfold Go.Instr.extract;exact qO
theorem DQ(x0 x1 x2):FT P (@Go.Instr.next x0 x1 x2):=by
 unfold Go.Instr.next
 exact qO
theorem iq(x0):FT P (@Go.Instr.sureAddr x0):=by
 unfold Go.Instr.sureAddr;exact qO
theorem sZ(x0 x1):FT P (@Go.Instr.deferInRound x0 x1):=by
 unfold Go.Instr.deferInRound;exact yo (@gH P) (@Qb P)
theorem ui(x0 x1 x2):FT P (@Go.followBlind x0 x1 x2):=by
 induction x0 generalizing x1 x2 with
 |nil=>
  unfold Go.followBlind;exact pC (@jO P)
 |cons e b a=>
  unfold Go.followBlind;exact yo a (@jO P)
theorem Iz(x0 x1 x2 x3):FT P (@Go.nilAhead x0 x1 x2 x3):=by
 induction x0 generalizing x1 x2 x3 with
 |zero=>
  unfold Go.nilAhead;exact pC (@ui P)
 |succ n a=>
  unfold Go.nilAhead;exact yo a (@ui P)
theorem AK(x0 x1 x2 x3):FT P (@Go.Op.eqGuardIn x0 x1 x2 x3):=by
 induction x0 generalizing x1 x2 x3 with
 |zero=>
  unfold Go.Op.eqGuardIn;exact pC (@jO P)
 |succ n a=>
  unfold Go.Op.eqGuardIn;exact Pq a (@jO P) (@Ys P) (@fRi P)
theorem CK(x0):FT P (@Go.Instr.ready x0):=by
 unfold Go.Instr.ready;exact qO
theorem u7(x0 x1 x2 x3):FT P (@Go.Instr.typeAssert x0 x1 x2 x3):=by
 unfold Go.Instr.typeAssert;exact pC (@eH P)
theorem nj(x0 x1 x2 x3 b a):FT P (@Go.Instr.sliceBounds x0 x1 x2 x3 b a):=by
 unfold Go.Instr.sliceBounds;exact pC (@u6 P)
theorem AH(x0 x1):FT P (@Go.Instr.loadAt x0 x1):=by
 unfold Go.Instr.loadAt;exact yo (@iq P) (@jo P)
theorem yQ(x0 x1):FT P (@Go.Instr.makeMap x0 x1):=by
 unfold Go.Instr.makeMap;exact pC (@jf P)
theorem xC(x0 x1 x2):FT P (@Go.Instr.makeFunc x0 x1 x2):=by
 unfold Go.Instr.makeFunc
 try dsimp only
 repeat' (first|(with_reducible exact aO P _)|(with_reducible first|apply bV|apply Kl)|intro _|split|dsimp only)
theorem CF(x0 x1):FT P (@Go.Instr.build x0 x1):=by
 unfold Go.Instr.build
 try dsimp only
 repeat' (first|(with_reducible first|exact aO P _|apply eH|apply cQ|apply gM|apply aH|apply bV|apply fAm)|intro _|split|trivial|dsimp only|(with_reducible first|exact lO P a a))
theorem yP(x0 x1 x2):FT P (@Go.Instr.indexAt x0 x1 x2):=by
 unfold Go.Instr.indexAt;exact Pp (@qB P) (@oy P) (@iq P)
theorem yM(x0):FT P (@Go.Instr.endLoop x0):=by
 unfold Go.Instr.endLoop;exact pC (@gH P)
theorem yO(x0 x1 x2):FT P (@Go.Instr.fieldAt x0 x1 x2):=by
 unfold Go.Instr.fieldAt;exact yo (@iq P) (@pS P)
theorem CM(x0):FT P (@Go.Instr.waits x0):=by
 unfold Go.Instr.waits;exact qO
theorem yS(x0 x1 x2):FT P (@Go.Instr.storeAt x0 x1 x2):=by
 unfold Go.Instr.storeAt;exact yo (@iq P) (@tA P)
theorem Kq(x0 x1 x2 x3 b a):FT P (@Go.eqGuard x0 x1 x2 x3 b a):=by
 unfold Go.eqGuard;exact pC (@AK P)
theorem rG(x0 x1):FT P (@Go.Instr.makeInterface x0 x1):=by
 unfold Go.Instr.makeInterface;exact qO
theorem CL(x0 x1 x2 x3 a):FT P (@Go.Instr.slice x0 x1 x2 x3 a):=by
 unfold Go.Instr.slice;exact yo (@nj P) (@nF P)
theorem yR(x0 x1 x2 x3 a):FT P (@Go.Instr.sliceAt x0 x1 x2 x3 a):=by
 unfold Go.Instr.sliceAt;exact Pp (@iq P) (@nj P) (@CL P)
theorem AI(x0 x1 x2 x3):FT P (@Go.Instr.lookup x0 x1 x2 x3):=by
 unfold Go.Instr.lookup;exact Pp (@jC P) (@kl P) (@eH P)
theorem xD(x0 x1 x2):FT P (@Go.Instr.mapEntry x0 x1 x2):=by
 unfold Go.Instr.mapEntry;exact Pq (@jC P) (@kl P) (@mM P) (@eH P)
theorem uY(x0 x1 x2 x3):FT P (@Go.Instr.entryStore x0 x1 x2 x3):=by
 unfold Go.Instr.entryStore;exact pC (@jf P)
theorem CJ(x0 x1):FT P (@Go.Instr.range x0 x1):=by
 unfold Go.Instr.range;exact qO
theorem wT(x0 x1 x2 x3 b a):FT P (@Go.Instr.enterLoop x0 x1 x2 x3 b a):=by
 unfold Go.Instr.enterLoop;exact pC (@gH P)
theorem uW(x0):FT P (@Go.Instr.beginRound x0):=by
 unfold Go.Instr.beginRound;exact pC (@gH P)
theorem xA(x0 x1):FT P (@Go.Instr.endRound x0 x1):=by
 unfold Go.Instr.endRound;exact pC (@gH P)
theorem mN(x0):FT P (@Go.asString x0):=by
 unfold Go.asString;exact qO
end Lf
end Go.Proofs.YtpbbmagjhkakgaaGreatDoor
