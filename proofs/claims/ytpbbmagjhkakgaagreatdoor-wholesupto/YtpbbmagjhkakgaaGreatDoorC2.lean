import Derived.Test.YtpbbmagjhkakgaaGreatDoorB9
import Derived.Conc.AppendEvents3
namespace Go.Proofs.YtpbbmagjhkakgaaGreatDoor
set_option maxHeartbeats 2000000
set_option maxRecDepth 100000
namespace Lf
open Go Go.Conc
open Go.ConcN (sumTo upd sumTo_upd upd_ne upd_same)
variable{P:Program}
section
variable{c:Nat}{z:aE}{kN:Nat}{R0:(Nat->Prop)->aC->aC->Prop}{D0:(Nat->Prop)->aC->aC->aU Event->Prop}{RB:(Nat->Prop)->aC->aC->Prop}{DB:(Nat->Prop)->aC->aC->aU Event->Prop}{CA CB:(Nat->Prop)->Touch->Prop}{n κ:Nat}{K:bU->aC->Prop}
structure St(P:Program)(c kN:Nat)(z:aE)(R0 RB:(Nat->Prop)->aC->aC->Prop)(CA CB:(Nat->Prop)->Touch->Prop)(n κ:Nat)(LB:aB aE)(T:Nat->Prop)(b:bU)(wb:aC)(LA:aB aE)(S:Nat->Prop)(g:bU)(wa:aC)(gs:aU bU)(x:bU)(w:aC)(t:Trace)(q:Nat->Nat)(buf:aU aE)(s r:Nat):Prop where
 r0:R0 S wa w
 rB:RB T wb w
 J0:MP kN S T w
 zero:gs[0]?=some x
 child:gs[κ]?=some b
 Vc:lH x g\/(x=parked g #[rcase c z] (.recv true)/\AtR P c z R0 CA S g wa/\buf=#[])
 leave:rI P (λj=>j=κ) t gs q
 trace:∃B,TI True κ B (CA S) (CB T) t
 chan:w.heap[c]?=some (.chan n buf false s r false)
 list:LA=buf.toList++LB
 room:buf.size+LB.length<=n
section
variable{LB LA:aB aE}{S T:Nat->Prop}{b g x:bU}{wb wa w:aC}{gs:aU bU}{t:Trace}{q:Nat->Nat}{buf:aU aE}{s r:Nat}
theorem St.at(H:AG c kN R0 D0 RB DB CA CB)(h:St P c kN z R0 RB CA CB n κ LB T b wb LA S g wa gs x w t q buf s r)(d):St P c kN z R0 RB CA CB n κ LB T b wb LA S g wa gs x (w.at d) t q buf s r:=by
 exact⟨H.t0.trans _ _ _ _ h.r0 (H.at0 _ w d),H.tB.trans _ _ _ _ h.rB (H.atB _ w d),h.J0.same rfl,h.zero,h.child,h.Vc,h.leave,h.trace,h.chan,h.list,h.room⟩
theorem St.stays(h:St P c kN z R0 RB CA CB n κ LB T b wb LA S g wa gs x w t q buf s r)(a d):woken P a d w x=x:=by
 rcases h.Vc with e|⟨rfl,_,_⟩
 .exact woken_running e.status
 .exact woken_recv_open a d h.chan
theorem St.awake(h:St P c kN z R0 RB CA CB n κ LB T b wb LA S g wa gs x w t q buf s r)(j:b.status=.running):∀y∈gs,awake y:=by
 intro y f;obtain⟨i,hi,rfl⟩:=Array.mem_iff_getElem.1 f;rcases BG i with rfl|a
 .have:gs[0]=x:=by simpa[sL hi]using h.zero
  rw[this];rcases h.Vc with d|⟨d,_,_⟩
  .exact awake_of (.inl d.status)
  .exact awake_of (.inr (.inl (by rw[d];rfl)))
 .by_cases e:i=κ
  .subst e;have:gs[i]=b:=by simpa[sL hi]using h.child
   rw[this];exact awake_of (.inl j)
  .exact awake_of ((h.leave.old i _ a e (sL hi)).status.elim .inl λx=>.inr (.inr x))
theorem St.slip(G:b.status=.running)(h:St P c kN z R0 RB CA CB n κ LB T b wb LA S g wa gs x w t q buf s r){i y sl}(hi:gs[i]?=some y)(E:y.status=.running)(f:0<i)(m:i≠κ):
  ∃d u j,runT P (crowd gs w sl) i=(.next (crowd d w sl),u)/\d.size=gs.size/\sumTo gs.size j<sumTo gs.size q/\St P c kN z R0 RB CA CB n κ LB T b wb LA S g wa d x w (t++u) j buf s r:=by
 obtain⟨d,u,j,C,p,D,F,l,o⟩:=Go.Proofs.YtpbbmagjhkakgaaGreatDoor.Lf.slip (w:=w) (sl:=sl) h.leave hi E f m;obtain⟨B,A⟩:=h.trace;obtain⟨v,_,k⟩:=A.still (λop e=>(l op e).2.1) λop e=>⟨.inl (by rw[(l op e).1];omega),.inl ((l op e).1▸m)⟩;exact⟨d,u,j,C,p,D,h.r0,h.rB,h.J0,o 0 x (.inl rfl) h.zero h.stays,o κ b (.inr rfl) h.child λa H=>woken_running G,h.Vc,F,⟨v,k⟩,h.chan,h.list,h.room⟩
end
theorem zwt{T:bQ} (h:T:=by
 have Eo:=crowd_waits (P:=P) (gs:=gs) (w:=w) (sl:=sl) (i:=0) hi (show stepG P (0==0) x w=_ from Z0) (λcc ZZ=>by
  simp at ZZ;subst ZZ;exact ways_recv_none hS.chan (ot hnb))
 refine⟨_,_,Eo,Dq (by first|exact .recv hs h1 h2|exact .fin hs h1 h2) _ _ (parked g #[rcase c z] (.recv true)) _ sl _ q #[] s r aZ rfl ⟨hS.r0,hS.rB,hS.J0,by simp[NI],?_,.inr ⟨rfl,h1,rfl⟩,?_,⟨B',Dc⟩,hS.chan,hS.list,hS.room⟩⟩
 .rw[qF (lG Zs)];exact hS.child
 .refine hS.leave.JO (by simp) (λj v hj hjk hv=>?_) (λop AA=>by obtain⟨e,_,rfl⟩:=Go.Conc.mem_ofEvents AA;exact⟨.inl rfl,NI⟩);rw[qF (by omega)]at hv;exact hv):T:=h
theorem yn(H:AG c kN R0 D0 RB DB CA CB)(Zs:κ≠0){LB T b wb}(F:b.status=.running)
  (mv:∀{LA:aB aE}{S g}{wa},SA P c z R0 D0 CA K LA S g wa->∀gs x w sl t q buf s r,St P c kN z R0 RB CA CB n κ LB T b wb LA S g wa gs x w t q buf s r->∃D u,runT P (crowd gs w sl) κ=(.next D,u)/\mn P K D (t++u))
  {LA S g wa} (X:SA P c z R0 D0 CA K LA S g wa):
  ∀M (gs x w sl t q buf) (s r),sumTo gs.size q<=M->St P c kN z R0 RB CA CB n κ LB T b wb LA S g wa gs x w t q buf s r->mn P K (crowd gs w sl) t:=by
 let core:∀{LA:aB aE}{S:Nat->bQ}{g:bU}{wa:aC},SA P c z R0 D0 CA K LA S g wa->∀(V:bU->bQ)(_:∀gs x w sl t q buf s r,V x->x.status=.running->St P c kN z R0 RB CA CB n κ LB T b wb LA S g wa gs x w t q buf s r->∃D u,runT P (crowd gs w sl) 0=(.next D,u)/\mn P K D (t++u))(M:Nat)(gs:aU bU)(x:bU)(w:aC)(sl:aR (Nat×Nat))(t:Trace)(q:Nat->Nat)(buf:aU aE)(s r:Nat),sumTo gs.size q<=M->V x->
   St P c kN z R0 RB CA CB n κ LB T b wb LA S g wa gs x w t q buf s r->mn P K (crowd gs w sl) t:=by
  intro LA S g wa X V a6 M
  induction M using Nat.strongRecOn with
  |_ M ae=>
   intro gs x w sl t q buf s r m h hS;obtain⟨i,y,d,p,hi,hy,C⟩:=crowd_pick (P:=P) (w:=w) (sl:=sl) (hS.awake F) ⟨κ,b,hS.child,F⟩;let J2:=hS.at H d;rcases BG i with rfl|R
   .rw[hS.zero]at hi;obtain rfl:=nD hi;obtain⟨D,u,O,G⟩:=a6 gs x (w.at d) p t q buf s r h hy J2;exact mn.step (C.trans O) G
   .by_cases A:i=κ
    .subst A;obtain⟨D,u,O,G⟩:=mv X gs x (w.at d) p t q buf s r J2;exact mn.step (C.trans O) G
    .obtain⟨ad,u,q',O,G,e3,e4⟩:=J2.slip F (sl:=p) hi hy R A;exact mn.step (C.trans O) (ae _ (fZ e3 m) ad x _ p _ q' buf s r (G▸aZ) h e4)
 let Dq:∀{LA:aB aE}{S:Nat->bQ}{g:bU}{wa:aC},SA P c z R0 D0 CA K LA S g wa->∀(M:Nat)(gs:aU bU)(x:bU)(w:aC)(sl:aR (Nat×Nat))(t:Trace)(q:Nat->Nat)(buf:aU aE)(s r:Nat),sumTo gs.size q<=M->x.status=.blocked->
   St P c kN z R0 RB CA CB n κ LB T b wb LA S g wa gs x w t q buf s r->mn P K (crowd gs w sl) t:=λX=>core X (·.status=.blocked) λ_ _ _ _ _ _ _ _ _ h hr _=>by rw[h]at hr;cases hr
 induction X with
 |@own LA S g wa f hs h1 h2 ih=>
  intro M gs x w sl t q buf s r m hS;rcases hS.Vc with h|⟨h,_,_⟩
  case inr=>exact Dq (.own f hs h1 h2) M gs x w sl t q buf s r m (by rw[h];rfl) hS
  refine core (.own f hs h1 h2) (lH · g) (λgs x w sl t q buf s r h _ hS=>?_) M gs x w sl t q buf s r m h hS;let hi:=hS.zero;obtain⟨N,Q⟩:=h1 _ hS.r0;let a8:=(h.step (P:=P) true w).trans N;obtain⟨b1,b2,b3,b4⟩:=H.d0 _ _ _ _ _ hS.J0 Q;let Eo:=runT_crowd_go (P:=P) (w:=w) (sl:=sl) (i:=0) hi (show stepG P (0==0) x w=_ from a8);let NI:0<gs.size:=(jR.1 hi).1;let aa:=H.mono _ _ (Ei S w (f w).2.1);obtain⟨B,U⟩:=hS.trace;obtain⟨B',_,Dc⟩:=(U.mono (Zv B) aa.1 λ_ x=>x).QK Zs (H.apart _ _ _ (hS.J0.Pu b4)) (fn:=x.frame.fn) (pos:=x.frame.place) b3;refine⟨_,_,Eo,ih _ hS.r0 _ _ _ _ sl _ q buf s r aZ ⟨H.Cj _ _,H.tB.trans _ _ _ _ hS.rB b1,hS.J0.Pu b4,by simp[NI],?_,.inl (.self (h2 _ hS.r0).running),?_,⟨B',Dc⟩,b2.trans hS.chan,hS.list,hS.room⟩⟩
  .rw[qF (lG Zs),Dh,hS.child];simp[woken_running F]
  .refine hS.leave.JO aF (λj v hj hjk hv=>?_) (λop AA=>by obtain⟨e,_,rfl⟩:=Go.Conc.mem_ofEvents AA;exact⟨.inl rfl,NI⟩);rw[qF aA,Dh]at hv;obtain⟨z',hz,rfl⟩:=nA.1 hv;rw[woken_quitsD (hS.leave.old j z' hj hjk hz)];exact hz
 |@recv v LA S g wa hs h1 h2 ih=>
  intro M gs x w sl t q buf s r m hS;rcases hS.Vc with h|⟨h,_,_⟩
  case inr=>exact Dq (.recv hs h1 h2) M gs x w sl t q buf s r m (by rw[h];rfl) hS
  refine core (.recv hs h1 h2) (lH · g) (λgs x w sl t q buf s r h _ hS=>?_) M gs x w sl t q buf s r m h hS;let hi:=hS.zero;obtain⟨es,N,Q⟩:=h1 _ hS.r0;let Z0:=(h.step (P:=P) true w).trans N;let NI:0<gs.size:=(jR.1 hi).1;obtain⟨B,U⟩:=hS.trace;obtain⟨B',_,Dc⟩:=U.QK Zs (H.apart _ _ _ hS.J0) (fn:=x.frame.fn) (pos:=x.frame.place) Q;let hnb:∀(j:Nat)(o:bU),j≠0->gs[j]?=some o->o.status≠.blocked:=λj o hj k=>by
   by_cases A:j=κ
   .subst A;rw[hS.child]at k;obtain rfl:=nD k;rw[F];simp
   .rcases(hS.leave.old j o aA A k).status with e|e<;>rw[e]<;>simp
  by_cases Y:buf=#[]
  ·
   subst Y;exact zwt
  ·
   obtain⟨l0,J⟩:∃l0,buf.toList=v::l0:=by
    have:=hS.list;cases W:buf.toList with
    |nil=>exact absurd (by simpa using W) Y
    |cons a l=>rw[W]at this;simp at this;exact⟨l,by rw[this.1]⟩
   obtain⟨I,ag,Z⟩:=Ib J.symm;let Eo:=crowd_recv_buf (P:=P) (gs:=gs) (w:=w) (sl:=sl) (i:=0) hi (show stepG P (0==0) x w=_ from Z0) hS.chan I (ot hnb);rw[finishComm_recv,ag]at Eo;let L:=H.Rp S w n (buf.extract 1 buf.size) false s (r+1) false;let E:=H.WN T w n (buf.extract 1 buf.size) false s (r+1) false;obtain⟨a7,_,af⟩:=Dc.still (u:=#[{g:=0,fn:=g.frame.fn,pos:=g.frame.place,act:=.recv c r n},{g:=0,fn:=g.frame.fn,pos:=g.frame.place,act:=.recvDone c r}]) (λop AA=>by simp at AA;rcases AA with rfl|rfl<;>rfl) (λop AA=>by simp at AA;rcases AA with rfl|rfl<;>simp);refine⟨_,_,Eo,ih _ (H.t0.trans _ _ _ _ hS.r0 L) _ _ _ _ sl _ q (buf.extract 1 buf.size) s (r+1) aZ ⟨H.Cj _ _,H.tB.trans _ _ _ _ hS.rB E,hS.J0.same (jQ _ _ _ _ _ _ _ _),by simp[NI],?_,.inl (.self rfl),?_,⟨a7,by rw[<-Cx];exact af⟩,kT hS.chan,?_,?_⟩⟩
   .rw[qF (lG Zs)];exact hS.child
   .refine hS.leave.JO aF (λj v hj hjk hv=>?_) λop AA=>?_
    .rw[qF aA]at hv;exact hv
    .rcases CH.1 AA with AA|AA
     .obtain⟨e,_,rfl⟩:=Go.Conc.mem_ofEvents AA;exact⟨.inl rfl,NI⟩
     .simp at AA;rcases AA with rfl|rfl<;>exact⟨.inl rfl,NI⟩
   .have:=hS.list;rw[J]at this;simp at this;rw[Z];exact this
   .have:=hS.room;simp;omega
 |@fin S g wa hs h1 h2=>
  intro M gs x w sl t q buf s r m hS;rcases hS.Vc with h|⟨h,_,_⟩
  case inr=>exact Dq (.fin hs h1 h2) M gs x w sl t q buf s r m (by rw[h];rfl) hS
  refine core (.fin hs h1 h2) (lH · g) (λgs x w sl t q buf s r h _ hS=>?_) M gs x w sl t q buf s r m h hS;let hi:=hS.zero;obtain⟨es,N,Q⟩:=h1 _ hS.r0;let Z0:=(h.step (P:=P) true w).trans N;let NI:0<gs.size:=(jR.1 hi).1;obtain⟨B,U⟩:=hS.trace;obtain⟨B',_,Dc⟩:=U.QK Zs (H.apart _ _ _ hS.J0) (fn:=x.frame.fn) (pos:=x.frame.place) Q;let hnb:∀(j:Nat)(o:bU),j≠0->gs[j]?=some o->o.status≠.blocked:=λj o hj k=>by
   by_cases A:j=κ
   .subst A;rw[hS.child]at k;obtain rfl:=nD k;rw[F];simp
   .rcases(hS.leave.old j o aA A k).status with e|e<;>rw[e]<;>simp
  obtain rfl:buf=#[]:=by
   have:=hS.list;simp at this;exact this.1
  exact zwt
end
end Lf
namespace Lf
open Go Go.Conc
open Go.ConcN (sumTo upd sumTo_upd upd_ne upd_same)
variable{P:Program}
section
variable{c:Nat}{z:aE}{kN:Nat}{R0:(Nat->Prop)->aC->aC->Prop}{D0:(Nat->Prop)->aC->aC->aU Event->Prop}{RB:(Nat->Prop)->aC->aC->Prop}{DB:(Nat->Prop)->aC->aC->aU Event->Prop}{CA CB:(Nat->Prop)->Touch->Prop}{n κ:Nat}{K:bU->aC->Prop}
theorem phase(H:AG c kN R0 D0 RB DB CA CB)(m:κ≠0){Z T b wb}(hB:SB P c RB DB CB n Z T b wb):
  ∀{Q:aB aE}{S g}{N},SA P c z R0 D0 CA K Q S g N->∀gs (x w sl t q l) (s r),St P c kN z R0 RB CA CB n κ Z T b wb Q S g N gs x w t q l s r->mn P K (crowd gs w sl) t:=by
 let W:(κ==0)=false:=by simp[m]
 induction hB with
 |@own Z T b wb f hs h1 h2 ih=>
  intro Q S g N I gs x w sl t q l s r k;refine yn H m hs (λ{Q S g N} I gs x w sl t q l s r k=>?_) I _ gs x w sl t q l s r aZ k;let⟨a1,a2⟩:=h1 _ k.rB;let⟨b1,b2,b3,b4⟩:=H.dB _ _ _ _ _ k.J0 a2;let A:=(jR.1 k.child).1;let⟨B,hT⟩:=k.trace;let⟨B',_,Dc⟩:=(hT.mono (Zv B) (λ_ x=>x) (H.mono _ _ (Ei T w (f w).2.1)).2).Yp m (H.apart _ _ _ (k.J0.XB b4)) (fn:=b.frame.fn) (pos:=b.frame.place) b3;refine⟨_,_,runT_crowd_go (P:=P) (w:=w) (sl:=sl) (i:=κ) k.child (by rw[W];exact a1),ih _ k.rB I _ x _ sl _ q l s r ⟨H.t0.trans _ _ _ _ k.r0 b1,H.HU _ _,k.J0.XB b4,?_,by simp[A],k.Vc,?_,⟨B',Dc⟩,b2.trans k.chan,k.list,k.room⟩⟩
  .rw[qF m,Dh,k.zero];obtain h3|⟨rfl,_,_⟩:=k.Vc
   .simp[woken_running h3.status]
   .simp[woken_recv_open b (f w).1 (b2.trans k.chan)]
  .refine k.leave.JO aF (λj v G p E=>?_) (λop d=>by obtain⟨e,_,rfl⟩:=Go.Conc.mem_ofEvents d;exact⟨.inr rfl,A⟩);rw[qF (lG p),Dh]at E;obtain⟨z',hz,rfl⟩:=nA.1 E;rw[woken_quitsD (k.leave.old j z' G p hz)];exact hz
 |@send v y Z T b wb hs h1 h2 ih=>
  intro Q S g N I gs x w sl t q l s r k;refine yn H m hs (λ{Q S g N} I gs x w sl t q l s r k=>?_) I _ gs x w sl t q l s r aZ k;let⟨es,a1,a2⟩:=h1 _ k.rB;let a6:stepG P (κ==0) b w=.comm b #[scase c v y] true .send w es:=by rw[W];exact a1
  let A:=(jR.1 k.child).1;let M:=(jR.1 k.zero).1;let⟨B,hT⟩:=k.trace;let⟨B',_,Dc⟩:=hT.Yp m (H.apart _ _ _ k.J0) (fn:=b.frame.fn) (pos:=b.frame.place) a2;let R:∀j v,0<j->j≠κ->gs[j]?=some v->v.status≠.blocked:=λj v G p E=>by rcases(k.leave.old j v G p E).status with e|e<;>rw[e]<;>simp
  obtain hx|⟨rfl,af,rfl⟩:=k.Vc
  ·
   let D:=crowd_send_room (P:=P) (gs:=gs) (w:=w) (sl:=sl) (i:=κ) k.child a6 k.chan (by have:=k.room;simp at this;omega) (ot λj g' G J=>by
    obtain rfl|C:=BG j
    .rw[k.zero]at J;obtain rfl:=nD J;rw[hx.status];simp
    .exact R j g' C G J)
   rw[finishComm_send]at D;obtain⟨L,_,F⟩:=Dc.still (u:=#[{g:=κ,fn:=b.frame.fn,pos:=b.frame.place,act:=.send c s},{g:=κ,fn:=b.frame.fn,pos:=b.frame.place,act:=.sendDone c s}]) (λop d=>by simp at d;rcases d with rfl|rfl<;>rfl) (λop d=>by simp at d;rcases d with rfl|rfl<;>simp);refine⟨_,_,D,ih _ (H.tB.trans _ _ _ _ k.rB (H.WN T w n (l.push v) false (s+1) r false)) I _ x _ sl _ q (l.push v) (s+1) r ⟨H.t0.trans _ _ _ _ k.r0 (H.Rp S w n (l.push v) false (s+1) r false),H.HU _ _,k.J0.same (jQ _ _ _ _ _ _ _ _),?_,by simp[A],.inl hx,?_,⟨L,by rw[<-Cx];exact F⟩,kT k.chan,by rw[k.list];simp,by have:=k.room;simp at this⊢;omega⟩⟩
   .rw[qF m];exact k.zero
   .refine k.leave.JO aF (λj v G p E=>?_) λop d=>?_
    .rw[qF (lG p)]at E;exact E
    .obtain d|d:=CH.1 d
     .obtain⟨e,_,rfl⟩:=Go.Conc.mem_ofEvents d;exact⟨.inr rfl,A⟩
     .simp at d;rcases d with rfl|rfl<;>exact⟨.inr rfl,A⟩
  ·
   let hp:partners (gs.setIfInBounds κ ph) c false=[(0,0)]:=by
    have:=partners_one (gs:=gs.setIfInBounds κ ph) (r:=c) (send:=false) (j:=0) (g:=parked g #[rcase c z] (.recv true)) (by rw[qF m];exact k.zero) (λj g' G J=>by
     obtain⟨_,rfl⟩|⟨ae,aa⟩:=getElem?_stand gs κ j g' J
     .exact offersAt_ph c false
     .exact offersAt_of_not_blocked (R j g' aA ae aa) c false)
    rw[this,offersAt_parked_recv];simp
   let D:=crowd_send_meets (P:=P) (gs:=gs) (w:=w) (sl:=sl) (i:=κ) (j:=0) k.child a6 k.chan (lG m) k.zero hp;rw[finishComm_send,finishComm_recv]at D;let O:=k.list;simp at O;let hA':∀U,R0 S N U->SA P c z R0 D0 CA K Z S (Go.Conc.served g (recvd true v true)) U:=by
    cases I with
    |own f k1 k2 k3=>
     let⟨e1,e2,_⟩:=af _ k.r0;rw[(k2 _ k.r0).1]at e2;cases e2
    |recv k1 k2 k3=>
     simp only[FD]at O;obtain⟨rfl,rfl⟩:=O;exact k3
    |fin k1 k2 k3=>cases O
   obtain⟨L,_,F⟩:=Dc.still (u:=#[{g:=κ,fn:=b.frame.fn,pos:=b.frame.place,act:=.send c s},{g:=0,fn:=g.frame.fn,pos:=g.frame.place,act:=.recv c r n},{g:=κ,fn:=b.frame.fn,pos:=b.frame.place,act:=.sendDone c s},{g:=0,fn:=g.frame.fn,pos:=g.frame.place,act:=.recvDone c r}]) (λop d=>by simp at d;rcases d with rfl|rfl|rfl|rfl<;>rfl) (λop d=>by simp at d;rcases d with rfl|rfl|rfl|rfl<;>simp);refine⟨_,_,D,ih _ (H.tB.trans _ _ _ _ k.rB (H.WN T w n #[] false (s+1) (r+1) false)) (hA' _ (H.t0.trans _ _ _ _ k.r0 (H.Rp S w n #[] false (s+1) (r+1) false))) _ (Go.Conc.served g (recvd true v true)) _ sl _ q #[] (s+1) (r+1) ⟨H.Cj _ _,H.HU _ _,k.J0.same (jQ _ _ _ _ _ _ _ _),?_,by simp[A],.inl (.self rfl),?_,⟨L,by rw[<-Cx];exact F⟩,kT k.chan,aF,by have:=k.room;simp at this⊢;omega⟩⟩
   .rw[qF m];simp[M]
   .refine k.leave.JO aF (λj v G p E=>?_) λop d=>?_
    .rw[qF (lG p),qF aA]at E;exact E
    .obtain d|d:=CH.1 d
     .obtain⟨e,_,rfl⟩:=Go.Conc.mem_ofEvents d;exact⟨.inr rfl,A⟩
     .simp at d;rcases d with rfl|rfl|rfl|rfl
      .exact⟨.inr rfl,A⟩
      .exact⟨.inl rfl,M⟩
      .exact⟨.inr rfl,A⟩
      .exact⟨.inl rfl,M⟩
 |@close T b b' wb qb hs hw h1 hq=>
  intro Q S g N I gs x w sl t q l s r k;refine yn H m hs (λ{Q S g N} I gs x w sl t q l s r k=>?_) I _ gs x w sl t q l s r aZ k;let⟨es,a1,a2⟩:=h1 w l s r k.rB k.chan;let A:=(jR.1 k.child).1;let⟨B,hT⟩:=k.trace;let⟨B',_,Dc⟩:=hT.Yp m (H.apart _ _ _ k.J0) (fn:=b.frame.fn) (pos:=b.frame.place) a2;let⟨L,_,F⟩:=Dc.still (u:=#[{g:=κ,fn:=b.frame.fn,pos:=b.frame.place,act:=.close c}]) (λop d=>by simp at d;subst d;rfl) (λop d=>by simp at d;subst d;simp);let V:t++MemOp.ofEvents κ b.frame.fn b.frame.place (es.push ⟨.obj c,true,true⟩)=t++MemOp.ofEvents κ b.frame.fn b.frame.place es++#[{g:=κ,fn:=b.frame.fn,pos:=b.frame.place,act:=.close c}]:=by
   rw[ofEvents_push,Array.push_eq_append,<-Cx];rfl
  let X:Deaf (t++MemOp.ofEvents κ b.frame.fn b.frame.place (es.push ⟨.obj c,true,true⟩)) κ=0:=by rw[V];exact F.vM trivial
  let Y:Shut κ c (t++MemOp.ofEvents κ b.frame.fn b.frame.place (es.push ⟨.obj c,true,true⟩)):=by
   rw[V];let C:(t++MemOp.ofEvents κ b.frame.fn b.frame.place es++#[({g:=κ,fn:=b.frame.fn,pos:=b.frame.place,act:=.close c}:MemOp)])[(t++MemOp.ofEvents κ b.frame.fn b.frame.place es).size]?=some {g:=κ,fn:=b.frame.fn,pos:=b.frame.place,act:=.close c}:=by
    rw[Array.getElem?_append_right aZ];simp
   refine⟨_,by rw[act?_of C],by unfold Trace.g?;rw[C];rfl,⟨κ,by unfold Trace.g?;rw[C];rfl,by rw[deaf_old aZ];exact Dc.vM trivial⟩,λi a ha hg=>?_⟩;let⟨y,hy,hya⟩:=touch_of ha;obtain⟨hi,_⟩|⟨_,a7⟩:=getElem?_append_cases hy
   .exact hi
   .simp at a7;subst a7;cases hya
  let ad:∀o,woken P b b' (w.setChan c n l true s r false) o=o.again (w.setChan c n l true s r false):=by
   intro o;unfold Go.Conc.woken;rcases hq.status with h|h<;>simp[hw,h]
  let hx:∃x',((gs.map (woken P b b' (w.setChan c n l true s r false))).setIfInBounds κ b')[0]?=some x'/\lH x' g:=by
   rw[qF m,Dh,k.zero];obtain h3|⟨rfl,_,_⟩:=k.Vc
   .exact⟨x,by simp[woken_running h3.status],h3⟩
   .exact⟨{parked g #[rcase c z] (.recv true)with status:=.running},by rw[Iu,ad,again_recv_closed (kT k.chan)],⟨rfl,rfl,rfl,rfl⟩⟩
  let⟨x',QU,Wh⟩:=hx;refine⟨_,_,runT_crowd_go (P:=P) (w:=w) (sl:=sl) (i:=κ) k.child (by rw[W];exact a1),Oc H m I _ T _ x' _ sl _ (upd q κ qb) l s r aZ ⟨k.J0.same (jQ _ _ _ _ _ _ _ _),H.t0.trans _ _ _ _ k.r0 (H.Rp S w n l true s r false),Wh,QU,by simpa using A,⟨λj v G _ E=>?_,λj G=>?_⟩,⟨L,by rw[V];exact F.aa_⟩,Y,kT k.chan,by rw[k.list];simp⟩⟩
  .by_cases p:j=κ
   .subst p;rw[FI (by simpa using A)]at E;obtain rfl:=nD E;rw[upd_same,X];exact hq
   .rw[qF (lG p),Dh]at E;obtain⟨z',hz,rfl⟩:=nA.1 E;let a8:=k.leave.old j z' G p hz;rw[woken_quitsD a8,upd_ne q qb p,kA t _ λop d e=>by obtain⟨e',_,rfl⟩:=Go.Conc.mem_ofEvents d;exact p e.symm];exact a8
  .rw[kA t _ λop d e=>by obtain⟨e',_,rfl⟩:=Go.Conc.mem_ofEvents d;simp at G;simp at e;omega];exact k.leave.above j (by simpa using G)
end
end Lf
namespace Lf
open Go Go.Conc
open Go.ConcN (sumTo upd sumTo_upd upd_ne upd_same)
variable{P:Program}{K:bU->aC->Prop}
def Xm(P:Program)(K:bU->aC->Prop)(i child:bU)(a:aC):Prop:=
 ∃(c:Nat)(z:aE)(f:(Nat->Prop)->aC->aC->Prop)(b:(Nat->Prop)->aC->aC->aU Event->Prop)(d:(Nat->Prop)->aC->aC->Prop)(e:(Nat->Prop)->aC->aC->aU Event->Prop)(g h:(Nat->Prop)->Touch->Prop)(n:Nat)(L:aB aE),
  AG c a.heap.size f b d e g h/\SB P c d e h n L (λ_=>False) child a/\SA P c z f b g K L (λ_=>False) i a/\a.heap[c]?=some (.chan n #[] false 0 0 false)/\L.length<=n
theorem oQ.spawn{g w}(V:g.status=.running)(h:∀d,∃D child w' p,stepG P true g (w.at d)=.spawn D child w' p/\(∀e∈p,e.loc≠.mark .disable/\e.loc≠.mark .enable)/\Xm P K D child w'):oQ P K g w:=by
 let E:∀(M:Nat)(k:aU bU)(d0:Nat)(sl:aR (Nat×Nat))(t:Trace)(q:Nat->Nat),sumTo k.size q<=M->k[0]?=some g->rI P (λ_=>False) t k q->(∃B,Past (λ_=>False) B t)->mn P K (crowd k (w.at d0) sl) t:=by
  intro M
  induction M using Nat.strongRecOn with
  |_ M X=>
   intro k d0 sl t q hM A hL C;let T:∀x∈k,awake x:=by
    intro x Q;obtain⟨i,hi,rfl⟩:=Array.mem_iff_getElem.1 Q;rcases BG i with rfl|m
    .have:k[0]=g:=by simpa[sL hi]using A
     rw[this];exact awake_of (.inl V)
    .exact awake_of ((hL.old i _ m (λx=>x) (sL hi)).status.elim .inl λx=>.inr (.inr x))
   obtain⟨i,x,d,o,hi,Q,s⟩:=crowd_pick (P:=P) (w:=w.at d0) (sl:=sl) T ⟨0,g,A,V⟩;let hw:(w.at d0).at d=w.at d:=rfl;rw[hw]at s;let O:=(jR.1 A).1;obtain⟨B,C⟩:=C;rcases BG i with rfl|m
   .obtain rfl:x=g:=by rw[A]at hi;exact(nD hi).symm
    obtain⟨D,child,w',p,a1,a2,c,z,R0,D0,RB,DB,CA,CB,n,L,H,J,G,hc,hn⟩:=h d;let F:=runT_crowd_spawn (P:=P) (w:=w.at d) (sl:=o) (i:=0) hi (show stepG P (0==0) x (w.at d)=_ from a1);let l:∀op∈MemOp.ofEvents 0 x.frame.fn x.frame.place p,op.g=0:=λop f=>by obtain⟨e,_,rfl⟩:=Go.Conc.mem_ofEvents f;rfl
    let U:Deaf (t++MemOp.ofEvents 0 x.frame.fn x.frame.place p) 0=Deaf t 0:=by rw[Deaf_own];exact deafBehind_still a2 _
    obtain⟨B',R,Z⟩:=zJ (MemOp.ofEvents 0 x.frame.fn x.frame.place p) B;let hP:=(C.mono R).app0 l (λ_ _ _ _ h=>h.elim) U Z;let hk:Deaf (t++MemOp.ofEvents 0 x.frame.fn x.frame.place p) k.size=0:=by rw[kA t _ λop f e=>by have:=l op f;omega];exact hL.above _ aZ
    let hT:=TI.fork (CA:=CA λ_=>False) (CB:=CB λ_=>False) (hc:=True) hP hk (x:={g:=0,fn:=x.frame.fn,pos:=x.frame.place,act:=.go k.size}) (y:={g:=k.size,fn:=child.frame.fn,pos:=x.frame.place,act:=.start}) ⟨rfl,rfl⟩ ⟨rfl,rfl⟩;let r:∀a b:MemOp,t++((MemOp.ofEvents 0 x.frame.fn x.frame.place p).push a|>.push b)=t++MemOp.ofEvents 0 x.frame.fn x.frame.place p++#[a,b]:=by
     intro a b;apply Array.ext';simp
    let N:k.size≠0:=aA;refine mn.step (s.trans F) (phase H N J G _ D w' o _ q #[] 0 0 ⟨H.Cj _ _,H.HU _ _,⟨λ_ x=>x.elim,λ_ x=>x.elim,λ_ x=>x.elim,aZ⟩,?_,?_,.inl (.self G.running),⟨λj y Y a6 I=>?_,λj Y=>?_⟩,⟨B',by rw[r];exact hT⟩,hc,aF,by simpa using hn⟩)
    .rw[Array.getElem?_push_lt (by simpa using O)];simp
    .let e:k.size=(k.setIfInBounds 0 D).size:=by simp
     rw[e,Array.getElem?_push_size]
    .let v:j<k.size:=by
      have:=(jR.1 I).1;simp at this;omega
     let hy':k[j]?=some y:=by
      rw[Array.getElem?_push_lt (by simpa using v)]at I;simp only[Array.getElem_setIfInBounds_ne (by simpa using v) (show 0≠j from aA)]at I;rw[sL v];exact I
     rw[r,kA _ #[_,_] (λop f e=>by simp at f;rcases f with rfl|rfl<;>simp at e<;>omega),kA t _ λop f e=>by have:=l op f;omega];exact hL.old j y Y (λx=>x) hy'
    .simp at Y;rw[r,kA _ #[_,_] (λop f e=>by simp at f;rcases f with rfl|rfl<;>simp at e<;>omega),kA t _ λop f e=>by have:=l op f;omega];exact hL.above j aA
   .obtain⟨S,u,q',e1,e2,e3,e4,W,e6⟩:=slip (w:=w.at d) (sl:=o) hL hi Q m λx=>x;refine mn.step (s.trans e1) (X _ (fZ e3 hM) S d o _ q' (by rw[e2];exact aZ) (e6 0 g (.inl rfl) A λa a'=>woken_running V) e4 ⟨B,?_⟩);exact C.appMute (g:=i) aA (λop f=>(W op f).1) (λop f=>(W op f).2.1) λop f=>(W op f).2.2 B
 intro k sl t hf;obtain⟨A,⟨q,hL⟩,C⟩:=hf;exact E _ k w.drawn sl t q aZ A (rI.of hL _) C
theorem aJ.spawn{g w}(f:g.status=.running)(h:∀a d,∃c child w' b,stepG P true g (re w a d)=.spawn c child w' b/\(∀e∈b,e.loc≠.mark .disable/\e.loc≠.mark .enable)/\Xm P K c child w'):aJ P K g w:=
 λa _=>oQ.spawn f λi=>h a i
end Lf
namespace Lf
open Go Go.Conc Go.RowKit Tryz
structure uW(c B:Nat)(M Ro:Nat->Prop):Prop where
 chan:c<B
 m:∀b,M b->b<B/\b≠c
 ro:∀b,Ro b->b<B/\b≠c/\¬M b
section
variable(c B:Nat)(M Ro:Nat->Prop)
structure IJ(S:Nat->Prop)(w w':aC):Prop where
 size:w.heap.size<=w'.heap.size
 block:∀b,b≠c->b<w.heap.size->(S b\/b<B)->w'.heap[b]?=w.heap[b]?
 os:w'.os=w.os
 output:w'.output=w.output
 tape:w'.tape=w.tape
structure Dl(T:Nat->Prop)(w w':aC):Prop where
 size:w.heap.size<=w'.heap.size
 block:∀b,b≠c->b<w.heap.size->(T b\/Ro b)->w'.heap[b]?=w.heap[b]?
def Sy(S:Nat->Prop)(a:Touch):Prop:=∃b,a.loc=.cell b/\(S b.block\/(b.block<B/\(a.write=true->M b.block)))
def MQ(T:Nat->Prop)(a:Touch):Prop:=(∃b,a.loc=.cell b/\(T b.block\/(Ro b.block/\a.write=false)))\/a.loc=.obj c
structure Ax(S:Nat->Prop)(w w':aC)(es:aU Event):Prop where
 size:w.heap.size<=w'.heap.size
 block:∀b,b<w.heap.size->¬S b->¬M b->w'.heap[b]?=w.heap[b]?
 bH:∀e∈es,BK (Sy B M (grow S w w')) e
structure AD(T:Nat->Prop)(w w':aC)(es:aU Event):Prop where
 size:w.heap.size<=w'.heap.size
 block:∀b,b<w.heap.size->¬T b->w'.heap[b]?=w.heap[b]?
 os:w'.os=w.os
 output:w'.output=w.output
 tape:w'.tape=w.tape
 bH:∀e∈es,BK (MQ c Ro (grow T w w')) e
theorem Hz{c}{w:aC}{n a d s r tm b}(h:b≠c):(w.setChan c n a d s r tm).heap[b]?=w.heap[b]?:=by
 simp only[World.setChan];rw[qF (lG h)]
theorem kL(H:uW c B M Ro):AG c B (IJ c B) (Ax B M) (Dl c Ro) (AD c Ro) (Sy B M) (MQ c Ro)where
 t0:=⟨λS x y z h k=>⟨gH h.size k.size,λb i g o=>(k.block b i (fZ g h.size) o).trans (h.block b i g o),k.os.trans h.os,k.output.trans h.output,k.tape.trans h.tape⟩,λS w=>⟨aZ,λ_ _ _ _=>rfl,λe m=>by simp at m⟩,λS w=>⟨aZ,λ_ _ _ _=>rfl,λe m=>by simp at m⟩⟩
 tB:=⟨λS x y z h k=>⟨gH h.size k.size,λb i g o=>(k.block b i (fZ g h.size) o).trans (h.block b i g o)⟩,λS w=>⟨aZ,λ_ _ _=>rfl,rfl,rfl,rfl,λe m=>by simp at m⟩,λS w=>⟨aZ,λ_ _ _=>rfl,rfl,rfl,rfl,λe m=>by simp at m⟩⟩
 Cj S w:=⟨aZ,λ_ _ _ _=>rfl,rfl,rfl,rfl⟩
 HU S w:=⟨aZ,λ_ _ _ _=>rfl⟩
 at0 S w d:=⟨aZ,λ_ _ _ _=>rfl,rfl,rfl,rfl⟩
 atB S w d:=⟨aZ,λ_ _ _ _=>rfl⟩
 Rp S w n buf cl s r tm:=⟨by rw[jQ];exact aZ,λb h _ _=>Hz h,rfl,rfl,rfl⟩
 WN S w n buf cl s r tm:=⟨by rw[jQ];exact aZ,λb h _ _=>Hz h⟩
 d0 S T w w' es hA h:=by
  refine⟨⟨h.size,λb E p f=>h.block b p ?_ ?_⟩,h.block c (fZ H.chan hA.low) ?_ ?_,h.bH,h.size⟩
  .intro l;obtain f|f:=f
   .exact hA.st b l f
   .have:=(H.ro b f).1;have:=(hA.s b l).1;omega
  .intro v;obtain f|f:=f
   .have:=(H.m b v).1;have:=(hA.t b f).1;omega
   .exact(H.ro b f).2.2 v
  .intro l;have:=(hA.s c l).1;have:=H.chan;omega
  .intro v;exact(H.m c v).2 rfl
 dB S T w w' es hA h:=by
  refine⟨⟨h.size,λb E p l=>h.block b p ?_,h.os,h.output,h.tape⟩,h.block c (fZ H.chan hA.low) ?_,h.bH,h.size⟩
  .intro f;obtain l|l:=l
   .exact hA.st b l f
   .have:=(hA.t b f).1;omega
  .intro f;have:=(hA.t c f).1;have:=H.chan;omega
 mono S S' h:=⟨λa ⟨u,i,g⟩=>⟨u,i,g.imp (h _) id⟩,λa x=>x.imp (λ⟨u,i,g⟩=>⟨u,i,g.imp (h _) id⟩) id⟩
 apart S T w hA:=by
  let q:∀a b:Touch,Sy B M S a->MQ c Ro T b->a.loc=b.loc->(a.write=true\/b.write=true)->False:=by
   rintro a b ⟨u,i,g⟩ (⟨G,A,j⟩|A) t hw
   case inr=>rw[i,A]at t;cases t
   rw[i,A]at t;cases t;obtain g|⟨g,o⟩:=g
   .obtain j|⟨j,_⟩:=j
    .exact hA.st _ g j
    .have:=(hA.s _ g).1;have:=(H.ro _ j).1;omega
   .obtain j|⟨j,F⟩:=j
    .have:=(hA.t _ j).1;omega
    .obtain hw|hw:=hw
     .exact(H.ro _ j).2.2 (o hw)
     .rw[F]at hw;cases hw
  intro a b D C p;exact⟨λh=>q a b C p h.1 (by simpa using h.2.2.1),λh=>q a b C p h.1.symm (by have:=h.2.2.1;simpa using this.symm)⟩
end
section
variable{c B:Nat}{M Ro:Nat->Prop}
theorem BK.cell{C b wr}(h:C ⟨.cell b,wr,.plain⟩):BK C ⟨.cell b,wr,false⟩:=by
 refine⟨λx a _=>?_,aF,aF⟩;cases wr<;>(simp[MemAct.ofEvent,MemAct.touch?]at a;subst a;exact h)
theorem dL(w:aC)(o){b}(h:b<w.heap.size):(w.alloc o).heap[b]?=w.heap[b]?:=by
 simp only[World.alloc];rw[Array.getElem?_push_lt h,sL h]
theorem mq(w:aC)(o):(w.alloc o).heap[w.heap.size]?=some o:=by simp only[World.alloc];rw[Array.getElem?_push_size]
theorem bM(w:aC)(o):(w.alloc o).heap.size=w.heap.size+1:=by simp only[World.alloc];rw[Array.size_push]
theorem AD.alloc(T w o):AD c Ro T w (w.alloc o) #[]:=⟨by rw[bM];omega,λb h _=>dL w o h,rfl,rfl,rfl,λe a=>by simp at a⟩
theorem Ax.alloc(S w o):Ax B M S w (w.alloc o) #[]:=⟨by rw[bM];omega,λb h _ _=>dL w o h,λe a=>by simp at a⟩
theorem AD.reads{T w a}(h:∀e∈a,BK (MQ c Ro T) e):AD c Ro T w w a:=⟨aZ,λ_ _ _=>rfl,rfl,rfl,rfl,by rw[dC];exact h⟩
theorem Ax.reads{S w a}(h:∀e∈a,BK (Sy B M S) e):Ax B M S w w a:=⟨aZ,λ_ _ _ _=>rfl,by rw[dC];exact h⟩
end
section
variable{c B:Nat}{M Ro:Nat->Prop}
structure HB(c:Nat)(Ro rJ:Nat->Prop)(gG:aC)(T:Nat->Prop)(w:aC)(fs:aB (Nat×Obj)):Prop where
 sub:∀b,rJ b->T b
 keep:Dl c Ro rJ gG w
 lt:c<w.heap.size
 facts:∀p∈fs,(T p.1\/Ro p.1)/\p.1≠c/\w.heap[p.1]?=some p.2
variable{rJ T:Nat->Prop}{gG w w':aC}{fs:aB (Nat×Obj)}
theorem HB.start(hc:c<w.heap.size)(h:∀p∈fs,(T p.1\/Ro p.1)/\p.1≠c/\w.heap[p.1]?=some p.2):HB c Ro T w T w fs:=⟨λ_ h=>h,⟨aZ,λ_ _ _ _=>rfl⟩,hc,h⟩
theorem HB.rely(h:HB c Ro rJ gG T w fs)(r:Dl c Ro T w w'):HB c Ro rJ gG T w' fs:=
 ⟨h.sub,⟨gH h.keep.size r.size,λb e a d=>(r.block b e (fZ a h.keep.size) (d.imp (h.sub b) id)).trans (h.keep.block b e a d)⟩,fZ h.lt r.size,λp f=>by
  let⟨e,a,d⟩:=h.facts p f
  exact⟨e,a,(r.block _ a (jR.1 d).1 e).trans d⟩⟩
theorem HB.alloc(h:HB c Ro rJ gG T w fs)(o):HB c Ro rJ gG (grow T w (w.alloc o)) (w.alloc o) ((w.heap.size,o)::fs):=by
 refine⟨λb x=>.inl (h.sub b x),⟨by rw[bM];have:=h.keep.size;omega,λb g a d=>(dL w o (fZ a h.keep.size)).trans (h.keep.block b g a d)⟩,by rw[bM];have:=h.lt;omega,λp f=>?_⟩;obtain rfl|f:=gA.1 f
 .exact⟨.inl (.inr ⟨aZ,by rw[bM];exact j7⟩),λe=>by have:=h.lt;omega,mq w o⟩
 .let⟨g,a,d⟩:=h.facts p f;exact⟨g.imp .inl id,a,(dL w o (jR.1 d).1).trans d⟩
theorem HB.get(h:HB c Ro rJ gG T w fs){b o}(a:(b,o)∈fs):w.heap[b]?=some o:=(h.facts _ a).2.2
theorem HB.own(h:HB c Ro rJ gG T w fs){b o}(a:(b,o)∈fs):T b\/Ro b:=(h.facts _ a).1
theorem HB.cell(h:HB c Ro rJ gG T w fs){b i a t m v}(d:(b,Obj.cells a t m)∈fs)(e:a[i]?=some v):w.cell? ⟨b,i,none⟩=some v:=by
 have:=h.get d;simp[World.cell?,this,e]
def xR:Obj->aU aE
 |.cells cs _ _=>cs
 |_=>#[]
theorem HB.o(h:HB c Ro rJ gG T w fs):∀p∈fs,∀i,w.cell? ⟨p.1,i,none⟩=(xR p.2)[i]?:=λp a i=>by
 let⟨b,o⟩:=p
 have:=h.get a
 cases o<;>simp[World.cell?,this,xR]
theorem HB.S0(h:HB c Ro rJ gG T w fs){o u}(e:w.alloc o=u):HB c Ro rJ gG (grow T w u) u ((w.heap.size,o)::fs):=e▸h.alloc o
theorem HB.ZU(_h:HB c Ro rJ gG T w fs){o u}(e:w.alloc o=u):grow T w u w.heap.size:=e▸.inr ⟨aZ,by rw[bM];exact j7⟩
theorem HB.call{d}(h:HB c Ro rJ gG T w fs)(a:∀b,T b->d b)(r:Dl c Ro T w w'):HB c Ro rJ gG d w' fs:=
 let k:=h.rely r;⟨λb x=>a b (h.sub b x),k.keep,k.lt,λp e=>let⟨h1,h2,h3⟩:=k.facts p e;⟨h1.imp (a _) id,h2,h3⟩⟩
theorem HB.read(h:HB c Ro rJ gG T w fs){b o}(e:(b,o)∈fs){a}(d:a.block=b):BK (MQ c Ro T) ⟨.cell a,false,false⟩:=
 BK.cell (.inl ⟨a,rfl,(h.own e).imp (λx=>d▸x) λx=>⟨d▸x,rfl⟩⟩)
theorem HB.fresh(h:HB c Ro rJ gG T w fs):gG.heap.size<=w.heap.size/\∀p∈fs,p.1≠w.heap.size:=⟨h.keep.size,λp a e=>by have:=(jR.1 (h.facts p a).2.2).1;omega⟩
theorem eC(w:aC)(a v):(w.setCell a v).heap.size=w.heap.size:=by simp[World.setCell]
theorem b_(w:aC)(a v){k}(h:k≠a.block):(w.setCell a v).heap[k]?=w.heap[k]?:=by
 simp only[World.setCell];rw[uy];simp[lG h]
theorem ui{w:aC}{b i v a t m}(h:w.heap[b]?=some (.cells a t m)):(w.setCell ⟨b,i,none⟩ v).heap[b]?=some (.cells (a.setIfInBounds i v) t m):=by
 simp only[World.setCell];rw[uy];simp[h]
theorem HB.set{b i v g t m}(h:HB c Ro rJ gG T w ((b,.cells g t m)::fs))(l:gG.heap.size<=b)(j:∀p∈fs,p.1≠b):HB c Ro rJ gG T (w.setCell ⟨b,i,none⟩ v) ((b,.cells (g.setIfInBounds i v) t m)::fs):=by
 refine⟨h.sub,⟨by rw[eC];exact h.keep.size,λk e a d=>?_⟩,by rw[eC];exact h.lt,λp f=>?_⟩
 .rw[b_ _ _ _ (show k≠b from aA)];exact h.keep.block k e a d
 .obtain rfl|f:=gA.1 f
  .let⟨e,a,d⟩:=h.facts _ (.head _);exact⟨e,a,ui d⟩
  .let⟨e,a,d⟩:=h.facts p (.tail _ f);exact⟨e,a,by rw[b_ _ _ _ (j p f)];exact d⟩
theorem AD.U8{T w w' f b}(d:T b)(i:w'.heap.size=w.heap.size)(n:∀k,k≠b->w'.heap[k]?=w.heap[k]?)(h:w'.os=w.os)(g:w'.output=w.output)(m:w'.tape=w.tape)(j:∀e∈f,∃a,e=⟨.cell a,true,false⟩/\a.block=b):AD c Ro T w w' f:=by
 refine⟨by rw[i];exact aZ,λk _ o=>n k λe=>o (e▸d),h,g,m,λe l=>?_⟩;obtain⟨a,rfl,rfl⟩:=j e l;exact BK.cell (.inl ⟨a,rfl,.inl (.inl d)⟩)
theorem JD{P fn a t}(h:fn.results=#[.cell a t]){tmps b}(c:tmps.getD a undef=.pointer (some b)){w v}(d:(loadVar t b).run P w=.ok v w):(results fn tmps).run P w=.ok v w/\(results fn tmps).events P w #[]=(loadVar t b).events P w #[]:=by
 simp at c;constructor<;>simp[results,h,c,asAddr,d]
end
section
variable{P:Program}{main:Bool}{R:(Nat->Prop)->aC->aC->Prop}{D:(Nat->Prop)->aC->aC->aU Event->Prop}{c:Nat}{fn:FuncId}{ops:aU Oper}{Q:Act->aB aE->(Nat->Prop)->aC->Prop}{md:Region.Mode}{I:(Nat->Prop)->aC->Prop}{fin:Nat}
def sU(P:Program)(main:Bool)(R:(Nat->Prop)->World->World->Prop)(D:(Nat->Prop)->World->World->Array Event->Prop)(c:Nat)(fn:FuncId)(ops:Array Oper)(i:Nat)(K:Act->List Value->(Nat->Prop)->World->Prop)(a:Act)(L:List Value)(S:Nat->Prop)(w:World):Prop:=
 match ops[i]? with
 |none=>False
 |some o=>if Region.wanted o (yielded ops a.tmps)then
   match o.op with
   |.send ch x=>∃j,a.eval ch=.chan (some c)/\L=a.eval x::j/\∀d,R S w d->K (a.put o.dst undef) j S d
   |_=>∀b,R S w b->uponE o a (λk g=>D S b g (listed P fn a o b)/\K k L (grow S b g) g)
     (λf e g=>g=b/\D S b b (listed P fn a o b)/\lS P main R D f e S b (λv l h=>K (a.put o.dst v) L l h)) ((execOp a.eval o).run P b)
  else K (a.put o.dst undef) L S w
theorem O7{o a K d E e}(h:∀a w,K a w->d a w)(g:∀f b w,E f b w->e f b w){r}(c:uponE o a K E r):uponE o a d e r:=by
 cases r with
 |ok n i=>cases n<;>first|exact h _ _ c|exact g _ _ _ c|exact c
 |halt x i=>exact c
theorem Ka{i a L S w K l}(h:∀a L S w,K a L S w->l a L S w)(b:sU P main R D c fn ops i K a L S w):sU P main R D c fn ops i l a L S w:=by
 unfold sU at*;split
 .simp_all
 .rename_i o p;simp only[p]at b;split
  .rename_i hw;simp only[hw,fB]at b;split
   .rename_i m x d;simp only[d]at b;let⟨L',h1,h2,h3⟩:=b;exact⟨L',h1,h2,λk r=>h _ _ _ _ (h3 k r)⟩
   .rename_i d;split at b
    .rename_i m x e;exact absurd e (d m x)
    .exact λj g=>O7 (λs q x=>⟨x.1,h _ _ _ _ x.2⟩) (λf n q x=>⟨x.1,x.2.1,x.2.2.mono λ_ _ _ y=>h _ _ _ _ y⟩) (b j g)
  .rename_i hw;simp only[hw]at b;exact h _ _ _ _ b
def sT(P:Program)(main:Bool)(R:(Nat->Prop)->aC->aC->Prop)(D:(Nat->Prop)->aC->aC->aU Event->Prop)(c:Nat)(fn:FuncId)(md:Region.Mode)(ops:aU Oper)(Q:Act->aB aE->(Nat->Prop)->aC->Prop)(I:(Nat->Prop)->aC->Prop)(fin:Nat):Nat->aU Bool->Act->aB aE->(Nat->Prop)->aC->Prop
 |0,listed,a,L,S,w=>Region.ready md ops listed=[]/\Q a L S w
 |fuel+1,listed,a,L,S,w=>
  (Region.ready md ops listed=[]->Q a L S w)/\
  ∀i∈Region.ready md ops listed,sU P main R D c fn ops i (λa' L' S' w'=>(i≠fin->I S' w')/\sT P main R D c fn md ops Q I fin fuel (listed.setIfInBounds i true) a' L' S' w') a L S w
theorem sU.rely(T:fX R D){K}(l:∀a L S x y,K a L S x->R S x y->K a L S y){i a L S w e}(h:sU P main R D c fn ops i K a L S w)(r:R S w e):sU P main R D c fn ops i K a L S e:=by
 unfold sU at*;split
 .simp_all
 .rename_i o k;simp only[k]at h;split
  .rename_i hw;simp only[hw,fB]at h;split
   .rename_i j x f;simp only[f]at h;let⟨L',h1,h2,h3⟩:=h;exact⟨L',h1,h2,λd b=>h3 d (T.trans _ _ _ _ r b)⟩
   .rename_i f;split at h
    .rename_i j x g;exact absurd g (f j x)
    .exact λd b=>h d (T.trans _ _ _ _ r b)
  .rename_i hw;simp only[hw]at h;exact l _ _ _ _ _ h r
theorem sT.rely(T:fX R D)(j:∀S x y,I S x->R S x y->I S y)(g:∀a L S x y,Q a L S x->R S x y->Q a L S y):
  ∀(d:Nat)(b:aU Bool)(a:Act)(L:aB aE)(S:Nat->bQ)(w f:aC),sT P main R D c fn md ops Q I fin d b a L S w->R S w f->sT P main R D c fn md ops Q I fin d b a L S f
 |0,_,_,_,_,_,_,h,r=>⟨h.1,g _ _ _ _ _ h.2 r⟩
 |d+1,_,_,_,_,_,_,h,r=>⟨λe=>g _ _ _ _ _ (h.1 e) r,λi hi=>(h.2 i hi).rely T (λa L S x y z r=>⟨λe=>j _ _ _ (z.1 e) r,sT.rely T j g d _ a L S x y z.2 r⟩) r⟩
variable{Stop:aB aE->(Nat->Prop)->bU->aC->Prop}{b:Frame}{k:aB Item}{cs:aB Frame}
def IP(P:Program)(main:Bool)(R:(Nat->Prop)->aC->aC->Prop)(D:(Nat->Prop)->aC->aC->aU Event->Prop)(c:Nat)(ops:aU Oper)(Stop:aB aE->(Nat->Prop)->bU->aC->Prop):Prop:=
 (∀o∈ops,∀b x,o.op≠.send b x)\/∀(v:aE)(L:aB aE)(S:Nat->Prop)(g:bU)(w:aC),g.status=.running->(∀a,R S w a->stepG P main g a=.comm g #[scase c v (.tuple #[])] true .send a #[])->(∀a,R S w a->RT P main R D (Stop L) S (Go.Conc.served g undef) a)->RT P main R D (Stop (v::L)) S g w
theorem RT.opR(T:fX R D)(f:IP P main R D c ops Stop)
  (t:b.fn=fn) (n:b.kind≠.early) {i rest a L S w}
  (h:sU P main R D c fn ops i (λI p u s=>RT P main R D (Stop p) u (G (b.at I (.inRegion ops rest::k)) cs) s) a L S w):RT P main R D (Stop L) S (G (b.at a (.inRegion ops (i::rest)::k)) cs) w:=by
 unfold sU at h;cases j:ops[i]? with
 |none=>simp only[j]at h
 |some o=>
  simp only[j]at h;let l:∀v,(b.at a (.inRegion ops (i::rest)::k)).finish v=b.at (a.put o.dst v) (.inRegion ops rest::k):=λv=>by rw[Frame.finish_at,j];rfl
  by_cases hw:Region.wanted o (yielded ops a.tmps)=true
  .simp only[hw,fB]at h;split at h
   .rename_i C x g;obtain⟨p,E,rfl,H⟩:=h;let m:∀d,(execOp a.eval o).run P d=.ok (.comm #[scase c (a.eval x) (.tuple #[])] true .send) d:=λd=>by
     unfold execOp;simp[g,E,scase]
    let A:∀d,listed P b.fn a o d=#[]:=λd=>by
     have:(execOp a.eval o).events P d #[]=#[]:=by unfold execOp;simp[g]
     unfold listed;rw[this];exact seen_none P _
    obtain r|f:=f
    .exact absurd g (r o (Array.mem_of_getElem? j) C x)
    refine f _ _ _ _ _ rfl (λd e=>?_) λd e=>?_
    .rw[stepG_comm j hw n (m d),A]
    .have:=H d e;show RT P main R D (Stop p) S {(G (b.at a (.inRegion ops (i::rest)::k)) cs)with frame:=(b.at a (.inRegion ops (i::rest)::k)).finish undef,status:=.running,offers:=Option.none} d;rw[l];exact this
   .rename_i g;refine .one rfl λd e=>?_;have:=h d e
    revert this
    cases q:(execOp a.eval o).run P d with
    |ok x s=>
     cases x<;>simp only[uponE,false_imp_iff]
     .rw[stepG_value j hw n q];exact λy=>t▸y
     .rw[stepG_none j hw n q];exact λy=>t▸y
     .rw[stepG_enter j hw n q];rintro⟨rfl,B,J⟩;rw[goes_go,dC];exact⟨t▸B,J _ _ _ λv u F z=>by rw[l];exact z⟩
    |halt x s=>simp only[uponE,false_imp_iff]
  .simp only[hw,fA,gI]at h;let hw':Region.wanted o (yielded ops a.tmps)=false:=by simpa using hw
   refine .one rfl λd e=>?_;rw[stepG_unwanted j hw',goes_go,dC];exact⟨T.idle _ _,h.rely T e⟩
theorem M4(T:fX R D)(f:IP P main R D c ops Stop)
  (q:b.fn=fn) (u:b.kind≠.early) (l:∀a L S w,Q a L S w->RT P main R D (Stop L) S (G (b.at a k) cs) w):
  ∀e t (d a L S) (w),sT P main R D c fn md ops Q I fin e d a L S w->RT P main R D (Stop L) S (G (b.at a (.inRegion ops (Region.linearise.go md ops e t d [])::k)) cs) w:=by
 intro e
 induction e with
 |zero=>intro t d a L S w h;simp only[Region.linearise.go,List.reverse_nil];exact RT.nil T (l _ _ _ _ h.2)
 |succ e s=>
  intro t d a L S w h;let⟨h₀,h₁⟩:=h;simp only[Region.linearise.go]
  change RT P main R D (Stop L) S (G (b.at a (.inRegion ops (match(Region.ready md ops d)[t%(Region.ready md ops d).length]? with
   |some i=>Region.linearise.go md ops e (t/(Region.ready md ops d).length) (d.setIfInBounds i true) [i]
   |none=>[].reverse)::k)) cs) w
  cases hi:(Region.ready md ops d)[t%(Region.ready md ops d).length]? with
  |none=>
   let g:Region.ready md ops d=[]:=by
    cases n:Region.ready md ops d with
    |nil=>rfl
    |cons x xs=>
     rw[n]at hi;let j:t%(x::xs).length<(x::xs).length:=Nat.mod_lt _ aF;simp at hi;simp at j;omega
   exact RT.nil T (l _ _ _ _ (h₀ g))
  |some i=>
   simp only[];rw[linearise_go_acc,List.reverse_singleton,List.singleton_append];exact RT.opR T f q u (Ka (λr m o p x=>s _ _ r m o p x.2) (h₁ i (iF hi)))
end
section
variable{P:Program}{main:Bool}{R:(Nat->Prop)->aC->aC->Prop}{D:(Nat->Prop)->aC->aC->aU Event->Prop}{c:Nat}{fn:FuncId}{ops:aU Oper}{Q:Act->aB aE->(Nat->Prop)->aC->Prop}{md:Region.Mode}{I:(Nat->Prop)->aC->Prop}{fin:Nat}
def mN(P:Program)(D:(Nat->Prop)->aC->aC->aU Event->Prop)(fn:FuncId)(ops:aU Oper)(I:(Nat->Prop)->aC->Prop)(o:Oper)(v:aE)(a:Act):Prop:=
 (∀b x,o.op≠.send b x)/\Region.wanted o (yielded ops a.tmps)=true/\∀S w,I S w->(execOp a.eval o).run P w=.ok (.value v) w/\D S w w (listed P fn a o w)
theorem mN.of_same{o v a b}(c:mN P D fn ops I o v a)(d:execOp b.eval o=execOp a.eval o)(hw:Region.wanted o (yielded ops b.tmps)=Region.wanted o (yielded ops a.tmps)):mN P D fn ops I o v b:=by
 unfold mN listed at*;rw[d,hw];exact c
theorem mN.opR(e:∀S x y,I S x->R S x y->I S y){i o v a}(hi:ops[i]?=some o)(j:mN P D fn ops I o v a){K}(g:∀a L S x y,K a L S x->R S x y->K a L S y){L S w}(f:I S w)(h:K (a.put o.dst v) L S w):sU P main R D c fn ops i K a L S w:=by
 unfold sU;simp only[hi];let⟨hs,hw,hv⟩:=j;simp only[hw,fB];intro d b;rw[(hv S d (e _ _ _ f b)).1];simp only[uponE,dC];exact⟨(hv S d (e _ _ _ f b)).2,g _ _ _ _ _ h b⟩
theorem D9{o:Oper}{a:Act}{b v}(h:∀d,b=some d->d∉o.looksAt ops){x}(e:x∈o.op.operands):(a.put b v).eval x=a.eval x:=
 Act.eval_put λd f c=>h d f (by
  subst c
  exact List.mem_append_left _ (List.mem_filterMap.2 ⟨.tmp d,by simpa using e,rfl⟩))
theorem Qf{j e g v}(B:ops[j]?=some g)(nz:e.apart ops g=true)(s:∀cs b,e.op≠.select cs b)(p:∀cs b,g.op≠.select cs b){K a L S w}
  (C:mN P D fn ops I e v a) (h:sU P main R D c fn ops j K (a.put e.dst v) L S w):sU P main R D c fn ops j (λA o t q=>mN P D fn ops I e v A/\K (A.put e.dst v) o t q) a L S w:=by
 have⟨h1,h2,h3⟩:=Oper.apart_spec nz;have keep:∀u,mN P D fn ops I e v (a.put g.dst u):=λu=>C.of_same (execOp_put e s a g.dst u h3) (wanted_put e a g.dst u h3);unfold sU at*;simp only[B]at*;rw[wanted_put g a e.dst v h1]at h;split
 .rename_i hw;simp only[hw,fB]at h;split
  .rename_i y x d;simp only[d]at h;have⟨o,e1,e2,e3⟩:=h;rw[D9 h1 (by simp[d,Op.operands])]at e1;rw[D9 h1 (by simp[d,Op.operands])]at e2;exact⟨o,e1,e2,λm r=>⟨keep _,by rw[<-Act.put_comm a v undef h2];exact e3 m r⟩⟩
  .rename_i d;split at h
   .rename_i y x k;exact absurd k (d y x)
   .intro i l;have h:=h i l;unfold listed at*;rw[execOp_put g p a e.dst v h1]at h;generalize(execOp a.eval g).run P i=r at*;cases r with
    |ok n q=>
     cases n<;>simp only[uponE]at h⊢
     case value u=>exact⟨h.1,keep u,by rw[<-Act.put_comm a v u h2];exact h.2⟩
     case skip=>exact⟨h.1,keep _,by rw[<-Act.put_comm a v undef h2];exact h.2⟩
     case enter f args=>exact⟨h.1,h.2.1,h.2.2.mono λu t E z=>⟨keep u,by rw[<-Act.put_comm a v u h2];exact z⟩⟩
    |halt x q=>simp only[uponE]at h
 .rename_i hw;simp only[hw]at h;exact⟨keep _,by rw[<-Act.put_comm a v undef h2];exact h⟩
theorem M0(T:fX R D)(m:∀S x y,I S x->R S x y->I S y)(O:∀a L S x y,Q a L S x->R S x y->Q a L S y){i A v}(hi:ops[i]?=some A)
  (s:∀(j:Nat)(o) cs b,ops[j]?=some o->o.op≠.select cs b) (E:∀o,ops[fin]?=some o->∃e∈o.after,Region.binds md e=true/\e.on=i):
  ∀f (d a L S) (w),
   (∀j n,ops[j]?=some n->j≠i->d.getD j true=false->(∀e∈n.after,Region.binds md e=true->e.on≠i)->A.apart ops n=true)->
   i∈Region.ready md ops d->mN P D fn ops I A v a->I S w->
   sT P main R D c fn md ops Q I fin f (d.setIfInBounds i true) (a.put A.dst v) L S w->sT P main R D c fn md ops Q I fin (f+1) d a L S w:=by
 let Z:∀(q:bQ) f d,∀a L S x y,((q->I S x)/\sT P main R D c fn md ops Q I fin f d a L S x)->R S x y->((q->I S y)/\sT P main R D c fn md ops Q I fin f d a L S y):=
  λq f d a L S x y h r=>⟨λe=>m _ _ _ (h.1 e) r,sT.rely T m O f d a L S x y h.2 r⟩
 intro f
 induction f with
 |zero=>
  intro d a L S w _ t K B H;refine⟨λh=>(by rw[h]at t;cases t),λj J=>?_⟩;by_cases g:j=i
  .subst g;exact K.opR m hi (Z _ _ _) B ⟨λ_=>B,H⟩
  .have:=ready_mono J g;rw[H.1]at this;cases this
 |succ f ih=>
  intro d a L S w l t K B H;refine⟨λh=>(by rw[h]at t;cases t),λj J=>?_⟩;by_cases g:j=i
  .subst g;exact K.opR m hi (Z _ _ _) B ⟨λ_=>B,H⟩
  .let u:=H.2 j (ready_mono J g);let⟨TL,n,TQ,Gj⟩:=mem_ready.1 J;let p:∀e∈n.after,Region.binds md e=true->e.on≠i:=λe N U z=>by
    let u:=Gj e N U;let Y:=(mem_ready.1 t).1;rw[z]at u;obtain V|V:=BI i d.size
    .simp[V]at Y u;rw[Y]at u;cases u
    .simp[ML V]at u
   let X:j≠fin:=by
    rintro rfl;let⟨e,N,U,z⟩:=E n TQ;exact p e N U z
   let YA:∀k ok,ops[k]?=some ok->k≠i->(d.setIfInBounds j true).getD k true=false->
     (∀e∈ok.after,Region.binds md e=true->e.on≠i)->A.apart ops ok=true:=λk ok hk M F W=>by
    refine l k ok hk M ?_ W;by_cases C:j=k
    .subst C;exact TL
    .rw[getD_set_ne true C]at F;exact F
   refine Ka (λa' L' S' w' G=>⟨G.2.1,ih (d.setIfInBounds j true) a' L' S' w' YA (ready_mono t (lG g)) G.1 (G.2.1 X) ?_⟩) (Qf TQ (l j n TQ g TL p) (λcs b=>s i A cs b hi) (λcs b=>s j n cs b TQ) K u);rw[Array.setIfInBounds_comm _ _ g];exact G.2.2
theorem Qo(T:fX R D)(j:∀S x y,I S x->R S x y->I S y)(g:∀a L S x y,Q a L S x->R S x y->Q a L S y)(i){k v f b a L S w}(hi:ops[i]?=some k)
  (m:Region.noSelect ops=true) (q:Region.free md ops b i=true) (n:(Region.ready md ops b).contains i=true) (d:((ops[fin]?).map λo=>o.after.any λe=>Region.binds md e&&e.on==i).getD true=true)
  (p:mN P D fn ops I k v a) (r:I S w) (h:sT P main R D c fn md ops Q I fin f (b.setIfInBounds i true) (a.put k.dst v) L S w):sT P main R D c fn md ops Q I fin (f+1) b a L S w:=
 M0 T j g hi (Region.noSelect_spec m) (λo l=>by
  rw[l]at d
  simp only[Iu,fD]at d
  let⟨e,he,hb⟩:=Array.any_eq_true'.1 d
  simp only[sP,wG]at hb
  exact⟨e,he,hb.1,hb.2⟩) f b a L S w (Region.free_spec hi q) (by simpa using n) p r h
theorem kC{i d b a L S w}(f:Region.ready md ops b=[i])
  (h:sU P main R D c fn ops i (λm L' g k=>(i≠fin->I g k)/\sT P main R D c fn md ops Q I fin d (b.setIfInBounds i true) m L' g k) a L S w):sT P main R D c fn md ops Q I fin (d+1) b a L S w:=
 ⟨λl=>(by rw[f]at l;cases l),λj e=>(by rw[f]at e;simp at e;subst e;exact h)⟩
theorem AJ{b:aU Bool}{a:Act}{L:aB aE}{S:Nat->bQ}{w:aC}(e:Region.ready md ops b=[])(h:Q a L S w):∀d,sT P main R D c fn md ops Q I fin d b a L S w
 |0=>⟨e,h⟩
 |_+1=>⟨λ_=>h,λi hi=>by rw[e]at hi;cases hi⟩
theorem sU.call(T:fX R D){i o f g args ats K a L S w}(n:ops[i]?=some o)(hw:Region.wanted o (yielded ops a.tmps)=true)(e:o.op=.call {callee:=.value (.func f),args,argTypes:=ats})
  (m:P.funcs[f]?=some g) (d:(g.name== "runtime.NumGoroutine")=false) (l:g.body.isNone=false) (h:∀b,R S w b->lS P main R D f (args.map a.eval) S b λv q k=>K (a.put o.dst v) L q k):sU P main R D c fn ops i K a L S w:=by
 unfold sU;simp only[n,hw,fB,e];intro b j;let p:listed P fn a o b=#[]:=by unfold listed;rw[events_call_body e m d l];exact seen_none P _
 rw[run_call_body e m d l,p];exact⟨rfl,T.idle _ _,h b j⟩
theorem sU.op{i o K a L S w}(g:ops[i]?=some o)(hw:Region.wanted o (yielded ops a.tmps)=true)(k:∀j x,o.op≠.send j x)
  (h:∀b,R S w b->∀e,(∀f w',D S b w' (listed P fn a o b)/\K f L (grow S b w') w'->e f w')->uponK o a e ((execOp a.eval o).run P b)):sU P main R D c fn ops i K a L S w:=by
 unfold sU;simp only[g,hw,fB];intro b d;have:=h b d _ λ_ _ x=>x
 revert this
 cases(execOp a.eval o).run P b with
 |ok n w'=>cases n<;>first|exact id|exact False.elim
 |halt x w'=>exact False.elim
theorem sU.send{i o K a L L' S w e x}(g:ops[i]?=some o)(hw:Region.wanted o (yielded ops a.tmps)=true)(d:o.op=.send e x)(j:a.eval e=.chan (some c))(f:L=a.eval x::L')(h:∀b,R S w b->K (a.put o.dst undef) L' S b):sU P main R D c fn ops i K a L S w:=by
 unfold sU;simp only[g,hw,fB,d];exact⟨L',j,f,h⟩
variable{Stop:aB aE->(Nat->Prop)->bU->aC->Prop}{b:Frame}{k:aB Item}{cs:aB Frame}
theorem RT.drawn(T:fX R D)(e:IP P main R D c ops Stop)
  (j:b.fn=fn) (l:b.kind≠.early) (g:P.follows .mixedOrders=true) {id a L S w} (i:∀a L S w,Q a L S w->RT P main R D (Stop L) S (G (b.at a k) cs) w)
  (h:∀d,R S w d->sT P main R D c fn .any ops Q I fin ops.size (Array.replicate ops.size false) a L S {d with drawn:=d.drawn+1}):RT P main R D (Stop L) S (G (b.at a (.code (.region id ops true)::k)) cs) w:=
 RT.draw T λd f t=>by
  simp only[Region.schedule,g,Bool.true_or,fB]
  exact M4 T e j l i ops.size t _ a L S _ (h d f)
end
section
variable{P:Program}{c kN n:Nat}{R0:(Nat->Prop)->aC->aC->Prop}{D0:(Nat->Prop)->aC->aC->aU Event->Prop}{RB:(Nat->Prop)->aC->aC->Prop}{DB:(Nat->Prop)->aC->aC->aU Event->Prop}{CA CB:(Nat->Prop)->Touch->Prop}
theorem SB.rely(H:AG c kN R0 D0 RB DB CA CB){L T g w w'}(h:SB P c RB DB CB n L T g w)(e:RB T w w'):SB P c RB DB CB n L T g w':=by
 cases h with
 |own f j d i=>exact .own f j (λb a=>d b (H.tB.trans _ _ _ _ e a)) λb a=>i b (H.tB.trans _ _ _ _ e a)
 |send j d i=>exact .send j (λb a=>d b (H.tB.trans _ _ _ _ e a)) λb a=>i b (H.tB.trans _ _ _ _ e a)
 |close j d i l=>exact .close j d (λb k s r a=>i b k s r (H.tB.trans _ _ _ _ e a)) l
theorem SB.n9(H:AG c kN R0 D0 RB DB CA CB){L T g w}(h:RT P false RB DB (λT g w=>SB P c RB DB CB n L T g w) T g w):SB P c RB DB CB n L T g w:=by
 induction h with
 |stop h=>exact h _ (H.HU _ _)
 |step f a h _ b=>exact .own f a h b
theorem SB.walk(H:AG c kN R0 D0 RB DB CA CB){L T g w}(h:SB P c RB DB CB n L T g w):RT P false RB DB (λT g w=>SB P c RB DB CB n L T g w) T g w:=.stop λ_ r=>h.rely H r
theorem SB.sends(H:AG c kN R0 D0 RB DB CA CB)(d):IP P false RB DB c d (λL T g w=>SB P c RB DB CB n L T g w):=
 .inr λv L S g w i h f=>SB.walk H (.send (y:=.tuple #[]) i (λb a=>⟨#[],h b a,λe j=>by simp at j⟩) λb a=>SB.n9 H (f b a))
theorem SA.n9{z K}(H:AG c kN R0 D0 RB DB CA CB){L S g w}(h:RT P true R0 D0 (λS g w=>SA P c z R0 D0 CA K L S g w) S g w):SA P c z R0 D0 CA K L S g w:=by
 induction h with
 |stop h=>exact h _ (H.Cj _ _)
 |step f a h _ b=>exact .own f a h b
theorem SA.walk{z K}(H:AG c kN R0 D0 RB DB CA CB){L S g w}(h:SA P c z R0 D0 CA K L S g w):RT P true R0 D0 (λS g w=>SA P c z R0 D0 CA K L S g w) S g w:=.stop λ_ r=>h.rely H r
end
section
variable{c B:Nat}{M:Nat->Prop}
structure H0(c B:Nat)(M:Nat->Prop)(oD:Nat->Prop)(gG:aC)(S:Nat->Prop)(w:aC)(fs:aB (Nat×Obj)):Prop where
 own:∀b,S b->B<=b/\b<w.heap.size
 mine:∀b,oD b->S b
 news:∀b,S b->oD b\/gG.heap.size<=b
 keep:∀b,(oD b\/b<B)->b<gG.heap.size->b≠c->¬M b->w.heap[b]?=gG.heap[b]?
 os:w.os=gG.os
 output:w.output=gG.output
 chan:c<B
 low:B<=gG.heap.size
 size:gG.heap.size<=w.heap.size
 facts:∀p∈fs,(S p.1\/p.1<B)/\p.1≠c/\w.heap[p.1]?=some p.2
variable{oD S:Nat->Prop}{gG w w':aC}{fs:aB (Nat×Obj)}
theorem H0.start(d:∀b,S b->B<=b/\b<w.heap.size)(hc:c<B)(a:B<=w.heap.size)(h:∀p∈fs,(S p.1\/p.1<B)/\p.1≠c/\w.heap[p.1]?=some p.2):H0 c B M S w S w fs:=
 ⟨d,λ_ x=>x,λ_ x=>.inl x,λ_ _ _ _ _=>rfl,rfl,rfl,hc,a,aZ,h⟩
theorem H0.base(h:H0 c B M oD gG S w fs):B<=w.heap.size:=gH h.low h.size
theorem H0.rely(h:H0 c B M oD gG S w fs)(r:IJ c B S w w'):H0 c B M oD gG S w' fs:=
 ⟨λb x=>⟨(h.own b x).1,fZ (h.own b x).2 r.size⟩,h.mine,h.news,λb e a d g=>(r.block b d (fZ a h.size) (e.imp (h.mine b) id)).trans (h.keep b e a d g),r.os.trans h.os,r.output.trans h.output,h.chan,h.low,gH h.size r.size,λp f=>by
  let⟨e,a,d⟩:=h.facts p f
  exact⟨e,a,(r.block _ a (jR.1 d).1 e).trans d⟩⟩
theorem H0.alloc(h:H0 c B M oD gG S w fs)(o):H0 c B M oD gG (grow S w (w.alloc o)) (w.alloc o) ((w.heap.size,o)::fs):=by
 let j:=h.low;let k:=h.size;refine⟨λb x=>?_,λb x=>.inl (h.mine b x),λb x=>?_,λb g d a i=>(dL w o aA).trans (h.keep b g d a i),h.os,h.output,h.chan,h.low,by rw[bM];omega,λp f=>?_⟩
 .rw[bM];obtain x|x:=x
  .have:=h.own b x;omega
  .rw[bM]at x;omega
 .obtain x|x:=x
  .exact h.news b x
  .exact .inr aA
 .obtain rfl|f:=gA.1 f
  .exact⟨.inl (.inr ⟨aZ,by rw[bM];exact j7⟩),λe=>by have:=h.chan;omega,mq w o⟩
  .let⟨g,d,a⟩:=h.facts p f;exact⟨g.imp .inl id,d,(dL w o (jR.1 a).1).trans a⟩
theorem H0.grown{v:aE}(h:H0 c B M oD gG S w fs)(a:w.grownBy w' v.ownBlock)(m:∀g,v.ownBlock=some g->M g)(l:∀p∈fs,some p.1≠v.ownBlock):H0 c B M oD gG (grow S w w') w' fs:=by
 let n:=h.low;let o:=h.size;let q:=a.size;refine⟨λb x=>?_,λb x=>.inl (h.mine b x),λb x=>?_,λb i f d k=>(a.block b aA λe=>k (m b e.symm)).trans (h.keep b i f d k),a.os.trans h.os,a.output.trans h.output,h.chan,h.low,aA,λp j=>?_⟩
 .obtain x|x:=x
  .have:=h.own b x;omega
  .omega
 .obtain x|x:=x
  .exact h.news b x
  .exact .inr aA
 .let⟨i,f,d⟩:=h.facts p j;exact⟨i.imp .inl id,f,(a.block _ (jR.1 d).1 (l p j)).trans d⟩
theorem H0.step{g l i}(h:H0 c B M oD gG S w fs)(k:H0 c B g S w l w' i)(o:∀b,g b->M b)(n:∀p∈fs,¬g p.1):H0 c B M oD gG l w' fs:=by
 let q:=h.low;let r:=h.size;let s:=k.size;refine⟨k.own,λb x=>k.mine b (h.mine b x),λb x=>?_,λb d f a m=>(k.keep b (d.imp (h.mine b) id) aA a λe=>m (o b e)).trans (h.keep b d f a m),k.os.trans h.os,k.output.trans h.output,h.chan,h.low,aA,λp j=>?_⟩
 .obtain x|x:=k.news b x
  .exact h.news b x
  .exact .inr aA
 .let⟨d,f,a⟩:=h.facts p j;exact⟨d.imp (k.mine _) id,f,(k.keep _ d (jR.1 a).1 f (n p j)).trans a⟩
theorem H0.less{fs'}(h:H0 c B M oD gG S w fs)(b:∀p∈fs',p∈fs):H0 c B M oD gG S w fs':={h with facts:=λp a=>h.facts p (b p a)}
theorem H0.get(h:H0 c B M oD gG S w fs){b o}(a:(b,o)∈fs):w.heap[b]?=some o:=(h.facts _ a).2.2
theorem H0.o(h:H0 c B M oD gG S w fs):∀p∈fs,∀i,w.cell? ⟨p.1,i,none⟩=(xR p.2)[i]?:=λp a i=>by
 let⟨b,o⟩:=p
 have:=h.get a
 cases o<;>simp[World.cell?,this,xR]
theorem H0.ZU(_h:H0 c B M oD gG S w fs){o u}(e:w.alloc o=u):grow S w u w.heap.size:=e▸.inr ⟨aZ,by rw[bM];exact j7⟩
theorem H0.S0(h:H0 c B M oD gG S w fs){o u}(e:w.alloc o=u):H0 c B M oD gG (grow S w u) u ((w.heap.size,o)::fs):=e▸h.alloc o
theorem H0.cell(h:H0 c B M oD gG S w fs){b i a t m v}(d:(b,Obj.cells a t m)∈fs)(e:a[i]?=some v):w.cell? ⟨b,i,none⟩=some v:=by
 have:=h.get d;simp[World.cell?,this,e]
theorem H0.fresh(h:H0 c B M oD gG S w fs):gG.heap.size<=w.heap.size/\∀p∈fs,p.1≠w.heap.size:=⟨h.size,λp a e=>by have:=(jR.1 (h.facts p a).2.2).1;omega⟩
theorem H0.read{g}(h:H0 c B M oD gG S w fs){b o}(f:(b,o)∈fs){a}(d:a.block=b):BK (Sy B g S) ⟨.cell a,false,false⟩:=
 BK.cell ⟨a,rfl,(h.facts _ f).1.imp (λx=>d▸x) λx=>⟨d▸x,λe=>by cases e⟩⟩
theorem H0.set{b i v l t m}(h:H0 c B M oD gG S w ((b,.cells l t m)::fs))(g:gG.heap.size<=b\/M b)(o:∀p∈fs,p.1≠b):H0 c B M oD gG S (w.setCell ⟨b,i,none⟩ v) ((b,.cells (l.setIfInBounds i v) t m)::fs):=by
 refine⟨λk q=>by rw[eC];exact h.own k q,h.mine,h.news,λk e a d n=>?_,h.os,h.output,h.chan,h.low,by rw[eC];exact h.size,λp f=>?_⟩
 .let j:k≠b:=by
   rintro rfl;obtain g|g:=g
   .omega
   .exact n g
  rw[b_ _ _ _ (show k≠(⟨b,i,none⟩:bC).block from j)];exact h.keep k e a d n
 .obtain rfl|f:=gA.1 f
  .let⟨e,a,d⟩:=h.facts _ (.head _);exact⟨e,a,ui d⟩
  .let⟨e,a,d⟩:=h.facts p (.tail _ f);exact⟨e,a,by rw[b_ _ _ _ (o p f)];exact d⟩
theorem Ax.U8{S w w' d b}(f:S b\/(b<B/\M b))(g:w'.heap.size=w.heap.size)(i:∀k,k≠b->w'.heap[k]?=w.heap[k]?)(h:∀e∈d,∃a,e=⟨.cell a,true,false⟩/\a.block=b):Ax B M S w w' d:=by
 refine⟨by rw[g];exact aZ,λk _ j c=>i k λe=>?_,λe c=>?_⟩
 .subst e;exact f.elim j λx=>c x.2
 .obtain⟨a,rfl,rfl⟩:=h e c;exact BK.cell ⟨a,rfl,f.imp .inl λx=>⟨x.1,λ_=>x.2⟩⟩
end
section
variable{B:Nat}{M:Nat->Prop}
theorem BK.at{C e c}(b:e.loc=.cell c)(h:∀k,C ⟨.cell c,e.write,k⟩):BK C e:=by
 let⟨loc,wr,sy⟩:=e;simp only at b h;subst b;refine⟨λx a _=>?_,aF,aF⟩;cases wr<;>cases sy<;>(simp[MemAct.ofEvent,MemAct.touch?]at a;subst a;exact h _)
theorem BK.neutral{C m}(h:Neutral m):BK C ⟨.mark m,false,true⟩:=by
 refine⟨λx a _=>?_,?_,?_⟩
 .let b:MemAct.ofEvent ⟨.mark m,false,true⟩=.mark m:=rfl;rw[b,h.touch]at a;cases a
 .rintro e;cases e;simp[Neutral]at h
 .rintro e;cases e;simp[Neutral]at h
theorem Ax.append{S w n}{v:aE}{a:bC}{l}(j:w.grownBy n v.ownBlock)(f:∀ev∈l,(∃d,ev.loc=.cell d/\((ev.write=false/\d.block=a.block)\/some d.block=v.ownBlock))\/∃m,ev=⟨.mark m,false,true⟩/\Neutral m)
  (o:S a.block) (h:∀g,v.ownBlock=some g->g<B/\M g):Ax B M S w n l:=by
 refine⟨j.size,λb r s i=>j.block b r λe=>i (h b e.symm).2,λe q=>?_⟩;obtain⟨d,p,c⟩|⟨m,rfl,i⟩:=f e q
 .refine BK.at p λk=>⟨d,rfl,?_⟩;obtain⟨_,c⟩|c:=c
  .exact .inl (.inl (c▸o))
  .exact .inr ⟨(h _ c.symm).1,λ_=>(h _ c.symm).2⟩
 .exact BK.neutral i
end
section
variable{P:Program}{main:Bool}{R:(Nat->Prop)->aC->aC->Prop}{D:(Nat->Prop)->aC->aC->aU Event->Prop}{c:Nat}{fn:FuncId}{ops:aU Oper}{Q:Act->aB aE->(Nat->Prop)->aC->Prop}{md:Region.Mode}{I:(Nat->Prop)->aC->Prop}{fin:Nat}
theorem vT{S a o w b}(h:(execOp a.eval o).events P w #[]=#[])(k:D S w b #[]):D S w b (listed P fn a o w):=listed_nil h▸k
theorem tk(T:fX R D)(b:∀S x y,I S x->R S x y->I S y)(d:∀a L S x y,Q a L S x->R S x y->Q a L S y)(i:Nat){oi:Oper}{v:aE}{fuel:Nat}{lst:aU Bool}{a:Act}{L:aB aE}{S:Nat->bQ}{w:aC}(g:I S w)(h:sT P main R D c fn md ops Q I fin fuel (lst.setIfInBounds i true) (a.put oi.dst v) L S w)(hi:ops[i]?=some oi:=by rfl)
  (hs:Region.noSelect ops=true:=by decide+kernel) (hf:Region.free md ops lst i=true:=by decide+kernel) (hr:(Region.ready md ops lst).contains i=true:=by decide+kernel) (TH:((ops[fin]?).map λo=>o.after.any λe=>Region.binds md e&&e.on==i).getD true=true:=by decide+kernel)
  (hns:∀ch x,oi.op≠.send ch x:=by simp) (hw:Region.wanted oi (yielded ops a.tmps)=true:=by rfl)
  (hy:∀S w,I S w->∀K:Result Next->bQ,K (.ok (.value v) w)->K ((execOp a.eval oi).run P w):=by
   intro S' w' hw K hK;have f:=hw.o
   try simp only[lh,xR]at f
   go_simp;exact hK)
  (hd:∀S w,I S w->D S w w (listed P fn a oi w):=by
   intro S' w' hw
   first
   |(refine vT ?_ (TT.idle _ _);simp[go_sem];done)
   |(have f:=hw.o
     try simp only[lh,xR]at f
     (first|refine AD.reads λe he=>?_|refine Ax.reads λe he=>?_)
     have hm:=mem_listed he;simp[go_sem, *]at hm
     repeat' (rcases hm with hm|hm)
     all_goals(try subst hm);first|exact hw.read (.head _) rfl|exact hw.read (.tail _ (.head _)) rfl|exact hw.read (.tail _ (.tail _ (.head _))) rfl|exact hw.read (.tail _ (.tail _ (.tail _ (.head _)))) rfl)):
  sT P main R D c fn md ops Q I fin (fuel+1) lst a L S w:=Qo T b d i hi hs hf hr TH ⟨hns,hw,λS w h=>⟨run_eq_of (hy S w h),hd S w h⟩⟩ g h
end
theorem zP{T Q:bQ}(k:Q) (h:Q->T:=by
 intro kk
 repeat(first|refine RT.seq TT ?_|refine RT.nil TT ?_|refine RT.block TT ?_|(refine RT.region TT ?_;simp only[ju,ic,jr,Nat.reduceAdd,fE,List.range,List.range.loop]))
 exact kk):T:=h k
theorem zO{T Q:bQ}(k:Q) (h:Q->T:=by
 intro kk hF;refine zP ?_;refine RT.op rfl (by rfl) (by simp[base,baseD]) (λv hR K hK=>?_);replace hF:=hF.rely hR;have f:=hF.o
 try simp only[lh,xR]at f
 go_simp;refine hK _ _ ⟨?_,?_⟩
 .first
  |(refine vT ?_ (TT.idle _ _);simp[go_sem, *];done)
  |((first|refine AD.reads λe he=>?_|refine Ax.reads λe he=>?_)
    have hm:=mem_listed he;simp[go_sem, *]at hm
    repeat' (rcases hm with hm|hm)
    all_goals(try subst hm);first|exact hF.read (.head _) rfl|exact hF.read (.tail _ (.head _)) rfl|exact hF.read (.tail _ (.tail _ (.head _))) rfl|exact hF.read (.tail _ (.tail _ (.tail _ (.head _)))) rfl)
 clear f hK K hR;rw[dC]
 revert hF
 revert v
 exact kk):T:=h k
theorem zA{T Q:bQ}(k:Q) (h:Q->T:=by
 intro kk hF;refine zP ?_;refine RT.op rfl (by rfl) (by simp[base,baseD]) (λv hR K hK=>?_);replace hF:=hF.rely hR;go_simp;refine hK _ _ ⟨vT (by simp[go_sem]) (by first|exact AD.alloc _ _ _|exact Ax.alloc _ _ _),?_⟩;clear hK K hR;have ho:=hF.fresh;generalize hu:World.alloc v _=u;have ht:=hF.ZU hu;replace hF:=hF.S0 hu;generalize grow _ v u=G at hF ht⊢;generalize v.heap.size=b at hF ho ht⊢;clear hu v
 revert ht
 revert ho
 revert hF
 revert b
 revert u
 revert G
 exact kk):T:=h k
variable{main:Bool}{c B:Nat}{M Ro:Nat->Prop}
theorem Y2(H:uW c B M Ro)(num time at_)(d so n cap)(i)(a)(m)(v)(T)(w)(h:c<w.heap.size)(j:(T d\/Ro d)/\d≠c/\w.heap[d]?=some (.cells a 4 m))(s:a[so+i]?=some (.bool v))(hi:i<n):
  lS prog main (Dl c Ro) (AD c Ro) 170 #[.agg #[num,time,at_,.slice (some (Ad d so)) n cap],Iv i] T w λr l k=>r=.bool v/\(∀b,T b->l b)/\Dl c Ro T w k:=by
 have TT:=(kL c B M Ro H).tB;intro f o z g;have hF:HB c Ro T w T w [(d,.cells a 4 m)]:=.start h (λp e=>by simp at e;subst e;exact j);rw[enter_at _ func170 rfl];simp only[ntmps170,ju,ic,jr,Nat.reduceAdd,Nat.reduceSub,uK,uL,uO,uM,jq,lq];have Z3:(i:Int)<(n:Int):=aA
 revert hF
 refine zA λA y q hF _ _=>?_
 repeat(revert hF;refine zO λx hF=>?_)
 apply RT.nil TT;apply RT.ret TT;refine RT.leave TT (v:=.bool v) rfl rfl func170 (λu _=>?_) (g _ _ _ ⟨rfl,hF.sub,hF.keep⟩);rw[events_results_tmp rfl,seen_none];exact⟨results_tmp (fn:=f170) (t:=4) rfl _ _ _,TT.idle _ _⟩
end Lf
namespace Lf
open Tryz Go Go.Conc Go.RowKit
variable{main:Bool}{c B:Nat}{M Ro:Nat->Prop}
theorem R9(H:uW c B M Ro)(name eE fY at_)(cP num time)(j so n cap)(node:Nat)(l)(m)(v)(T)(w)(hc:c<w.heap.size)(hs:(T j\/Ro j)/\j≠c/\w.heap[j]?=some (.cells l 4 m))(hv:l[so+node]?=some (.bool v))(hi:node<n):
  lS prog main (Dl c Ro) (AD c Ro) 134 #[.agg #[name,eE,Iv node,Iv cP,fY],.agg #[Iv num,Iv time,at_,.slice (some (Ad j so)) n cap]] T w λr T' w'=>r=.agg #[Iv num,Iv time,Iv cP,.bool v]/\(∀b,T b->T' b)/\Dl c Ro T w w':=by
 have TT:=(kL c B M Ro H).tB;intro Stop cf cs F;have hF:HB c Ro T w T w [(j,.cells l 4 m)]:=.start hc (λp s=>by simp at s;subst s;exact hs);rw[enter_at _ func134 rfl];simp only[ntmps134,ju,ic,jr,Nat.reduceAdd,Nat.reduceSub,uK,uL,uO,uM,jq,lq]
 revert hF
 refine zA λT1 u1 N hF _ _=>?_
 revert hF
 refine zA λT2 u2 J hF _ _=>?_
 revert hF
 refine zA λT3 u3 G hF g W=>?_;apply RT.nil TT;apply RT.seq TT;have d:∀(S:Nat->bQ)(x y:aC),HB c Ro T w S x [(J,.cells #[Iv num,Iv time,at_,.slice (some (Ad j so)) n cap] 159),(N,.cells #[name,eE,Iv node,Iv cP,fY] 183),(j,.cells l 4 m)]->Dl c Ro S x y->HB c Ro T w S y [(J,.cells #[Iv num,Iv time,at_,.slice (some (Ad j so)) n cap] 159),(N,.cells #[name,eE,Iv node,Iv cP,fY] 183),(j,.cells l 4 m)]:=λS x y h r=>h.rely r;let U:Act->aB aE->(Nat->bQ)->aC->bQ:=λa L S w'=>∃t5 t6 t7 t8 t9 t10 t11 t12 t13 t14 u,a={tmps:=#[.agg #[name,eE,Iv node,Iv cP,fY],.agg #[Iv num,Iv time,at_,.slice (some (Ad j so)) n cap],Pt N,Pt J,Pt G,t5,t6,t7,t8,t9,t10,t11,t12,t13,t14,u],defers:=[]}/\HB c Ro T w S w' [(G,.cells #[Iv num,Iv time,Iv cP,.bool v] 59)];have f:∀a L S x y,U a L S x->Dl c Ro S x y->U a L S y:=by
  rintro a L S x y ⟨t5,t6,t7,t8,t9,t10,t11,t12,t13,t14,u,h1,h2⟩ r;exact⟨t5,t6,t7,t8,t9,t10,t11,t12,t13,t14,u,h1,h2.rely r⟩
 refine RT.drawn (Stop:=λ_=>Stop) (L:=[]) (c:=c) (Q:=U) (I:=λS w'=>HB c Ro T w S w' [(J,.cells #[Iv num,Iv time,at_,.slice (some (Ad j so)) n cap] 159),(N,.cells #[name,eE,Iv node,Iv cP,fY] 183),(j,.cells l 4 m)]) (fn:=134) (fin:=99) TT (.inl (by intro o ho ch x;simp at ho;rcases ho with rfl|rfl|rfl|rfl|rfl|rfl|rfl|rfl|rfl|rfl|rfl|rfl<;>simp)) rfl (by simp[base]) aL (λa L S w' hq=>?_) λq hR=>?_
 case refine_2=>
  replace hF:=hF.rely hR;replace hF:=hF.rely (w':={q with drawn:=q.drawn+1}) ⟨aZ,λ_ _ _ _=>rfl⟩;simp only[ju,ic,jr,Nat.reduceAdd,fE];generalize({q with drawn:=q.drawn+1}:aC)=x1 at hF⊢;have A:HB c Ro T w _ x1 _:=⟨hF.sub,hF.keep,hF.lt,λp s=>hF.facts p (.tail _ s)⟩;refine tk TT d f 0 A ?_;refine tk TT d f 1 A ?_;refine tk TT d f 2 A ?_
  try walk_nrm
  refine tk TT d f 3 A ?_
  try walk_nrm
  refine tk TT d f 4 A ?_
  try walk_nrm
  refine tk TT d f 5 A ?_
  try walk_nrm
  refine tk TT d f 6 A ?_
  try walk_nrm
  refine tk TT d f 7 A ?_
  try walk_nrm
  refine tk TT d f 8 A ?_
  try walk_nrm
  refine kC (i:=9) jZ (sU.call TT rfl (by rfl) rfl func170 (by rfl) rfl λD a6=>?_);replace hF:=hF.rely a6;simp only[Dj,hY,sR]
  change lS prog main (Dl c Ro) (AD c Ro) 170 #[.agg #[Iv num,Iv time,at_,.slice (some (Ad j so)) n cap],Iv node] _ D _
  apply lS.mono (Y2 H (Iv num) (Iv time) at_ j so n cap node l m v _ D hF.lt (hF.facts _ (.tail _ (.tail _ (.tail _ (.head _))))) hv hi);rintro r S' w3 ⟨rfl,R,Z⟩;replace hF:=hF.call R Z;refine⟨λ_=>⟨hF.sub,hF.keep,hF.lt,λp s=>hF.facts p (.tail _ s)⟩,?_⟩
  try walk_nrm
  refine kC (i:=10) jZ (sU.op rfl (by rfl) aF λad Y K hK=>?_);replace hF:=hF.rely Y;go_simp;refine hK _ _ ⟨by rw[listed_nil (by simp[go_sem])];exact TT.idle _ _,?_⟩;rw[dC];refine⟨λ_=>⟨hF.sub,hF.keep,hF.lt,λp s=>hF.facts p (.tail _ s)⟩,?_⟩
  try walk_nrm
  refine kC (i:=11) jZ (sU.op rfl (by rfl) aF λO aa K hK=>?_);replace hF:=hF.rely aa;have a1:=hF.cell (i:=0) (.head _) rfl;have X:=hF.cell (i:=1) (.head _) rfl;have a8:=hF.cell (i:=2) (.head _) rfl;have V:=hF.cell (i:=3) (.head _) rfl;have hz:∀i,O.frozen? (Ad G i)=false:=λi=>by simp[World.frozen?,(hF.get (.head _))]
  go_simp;refine hK _ _ ⟨?_,?_⟩
  .refine AD.U8 (b:=G) (R _ W) (by simp only[eC]) (λk F=>(b_ _ _ _ F).trans ((b_ _ _ _ F).trans ((b_ _ _ _ F).trans (b_ _ _ _ F)))) rfl rfl rfl λe he=>?_;have hm:=mem_listed he;simp[go_sem,events_store (v:=Value.bool v) (hv:=rfl), *]at hm;obtain rfl|rfl|rfl|rfl:=hm<;>exact⟨_,rfl,rfl⟩
  rw[pG _ (by simp only[eC])];replace hF:=(((hF.set (i:=0) (v:=Iv num) g.1 g.2).set (i:=1) (v:=Iv time) g.1 g.2).set (i:=2) (v:=Iv cP) g.1 g.2).set (i:=3) (v:=.bool v) g.1 g.2;refine⟨λ_=>⟨hF.sub,hF.keep,hF.lt,λp s=>hF.facts p (.tail _ s)⟩,?_⟩;exact AJ jZ ⟨_,_,_,_,_,_,_,_,_,_,_,rfl,hF.sub,hF.keep,hF.lt,λp s=>by simp at s;subst s;exact hF.facts _ (.head _)⟩ _
 obtain⟨t5,t6,t7,t8,t9,t10,t11,t12,t13,t14,u,rfl,z⟩:=hq;apply RT.ret TT;refine RT.leave TT (v:=.agg #[Iv num,Iv time,Iv cP,.bool v]) rfl rfl func134 (λC a7=>?_) (F _ _ _ ⟨rfl,z.sub,z.keep⟩);replace z:=z.rely a7;have a1:=z.cell (i:=0) (.head _) rfl;have X:=z.cell (i:=1) (.head _) rfl;have a8:=z.cell (i:=2) (.head _) rfl;have V:=z.cell (i:=3) (.head _) rfl;have E:(loadVar 59 (Ad G 0)).run prog C=.ok (.agg #[Iv num,Iv time,Iv cP,.bool v]) C:=by
  simp[go_sem,loadVar, *]
 have⟨e1,e2⟩:=JD (P:=prog) (fn:=f134) (a:=4) (t:=59) rfl (tmps:=#[.agg #[name,eE,Iv node,Iv cP,fY],.agg #[Iv num,Iv time,at_,.slice (some (Ad j so)) n cap],Pt N,Pt J,Pt G,t5,t6,t7,t8,t9,t10,t11,t12,t13,t14,u]) rfl E;refine⟨e1,?_⟩;rw[e2];refine AD.reads λe he=>?_;have hm:=mem_seen he;simp[go_sem,loadVar, *]at hm;obtain rfl|rfl|rfl|rfl:=hm<;>exact z.read (.head _) rfl
end Lf
namespace Lf
open Tryz Go Go.Conc Go.RowKit
theorem RT.defer{P f R D g S}{b:Frame}{a k m w}(T:fX R D){e i rest o}(p:e[i]?=some o)(hw:Region.wanted o (yielded e a.tmps)=true)(q:b.kind≠.early)(d)
  (s:∀c,(execOp a.eval o).run P c=.ok (.defer d) c) (r:∀c,(execOp a.eval o).events P c #[]=#[]) (h:RT P f R D g S (G (b.at (Act.put ⟨a.tmps,d::a.defers⟩ o.dst undef) (.inRegion e rest::k)) m) w):
  RT P f R D g S (G (b.at a (.inRegion e (i::rest)::k)) m) w:=by
 refine .one rfl λc l=>?_;let j:(b.at ⟨a.tmps,d::a.defers⟩ (.inRegion e (i::rest)::k)).finish undef=b.at (Act.put ⟨a.tmps,d::a.defers⟩ o.dst undef) (.inRegion e rest::k):=by rw[Vs,p];rfl
 let hk':(b.kind==CallKind.early)=false:=by simpa using q
 let n:stepG P f (G (b.at a (.inRegion e (i::rest)::k)) m) c=.go (G (b.at (Act.put ⟨a.tmps,d::a.defers⟩ o.dst undef) (.inRegion e rest::k)) m) c #[]:=by
  rw[stepG_oper p hw,<-j];simp[stepG.apply,s,r,G,Frame.at,hk',GStep.after,seen_none]
 rw[n,goes_go,dC];exact⟨T.idle _ _,h.rely T l⟩
noncomputable def bot:Frame:={(default:Frame)with fn:=prog.funcs.size,defers:=[],mode:=.panicking [goexitEntry]}
def call133(c b a:Nat):Deferred:={target:=.fn (.func 133) #[Pt c,Pt b,Pt a],args:=#[]}
noncomputable def o9:Code:=f133.body.getD .skip
theorem GK(b c a w):stepG prog false (born prog (call133 b c a)) w=
  .go (G ((baseD 133).at ⟨#[Pt b,Pt c,Pt a,undef,undef,undef,undef,undef,undef,undef,undef,undef,undef,undef,undef,undef,undef,undef,undef,undef],[]⟩ [.code o9]) [bot]) w #[]:=by
 let e:¬f133.name= "runtime.NumGoroutine":=aG;let d:¬f133.body=none:=by simp[f133]
 simp[born,call133,stepG,unwind,callDeferred,invoke,callFunc,func133,e,d,seen,GStep.after,G,Frame.enter,Frame.at,baseD,bot,o9,ntmps133];rfl
def vg(c:Nat):Deferred:={target:=.builtin .close #[235] 0 #[false],args:=#[.chan (some c)]}
theorem Nd{c n s r d}(b a w)(e:w.heap[c]?=some (.chan n d false s r false)):
  stepG prog false (G {(baseD 133).at ⟨b,[vg c]⟩ a with mode:=.returning} [bot]) w=.go (G {(baseD 133).at ⟨b,[]⟩ a with mode:=.returning} [bot]) (w.setChan c n d true s r false) (#[⟨.obj c,false,true⟩].push ⟨.obj c,true,true⟩):=by
 let g:=run_close_open (P:=prog) #[235] 0 e;let f:=events_close_open (P:=prog) (es:=#[]) #[235] 0 e;simp[G,stepG,unwind,callDeferred,Frame.at,vg,invoke,builtin,g,f,GStep.after,World.setChan];exact seen_eq (by simp[baseD,func133];rfl) aF
theorem On(a b):QuitsD prog 2 0 (G {(baseD 133).at ⟨a,[]⟩ b with mode:=.returning} [bot]):=by
 refine QuitsD.ctl (g':=G bot []) rfl (λw=>?_) ?_
 .simp[G,stepG,unwind,doReturn,results,Frame.at,baseD,bot,func133,seen,GStep.after,goexitEntry]
 refine QuitsD.ctl (g':={G bot []with status:=.finished}) rfl (λw=>?_) ⟨rfl,rfl⟩;simp[G,stepG,unwind,bot,goexitEntry,Frame.catches];rfl
structure nk where
 name:a_
 eE:aR bC
 fY:aR bC
 node:Nat
 cP:Int
 v:Bool
def letter(num time:Int)(p:nk):aE:=.agg #[.pointer p.fY,Iv num,Iv time,Iv p.cP,.bool p.v]
def eI(a:aU aE)(b:Nat)(ps:aB nk):Prop:=∀(j:Nat)(p:nk),ps[j]?=some p->a[b+j*5]?=some (.string p.name)/\a[b+j*5+1]?=some (.pointer p.eE)/\a[b+j*5+2]?=some (Iv p.node)/\a[b+j*5+3]?=some (Iv p.cP)/\a[b+j*5+4]?=some (.pointer p.fY)
noncomputable def Hf:Code:=match o9 with
 |.seq _ (.seq _ (.block _ (.loop x)))=>x
 |_=>.skip
noncomputable def B4(c o q m:Nat)(sv:aE)(N k:Nat)(r p n g b i l f e j h d a:aE):bU:=
 G ((baseD 133).at ⟨#[Pt o,Pt q,Pt m,r,p,.chan (some c),sv,Iv N,Iv k,n,g,b,i,l,f,e,j,h,d,a],[vg c]⟩ [.code Hf,.inLoop Hf,.inBlock 0]) [bot]
variable{c B:Nat}{M Ro:Nat->Prop}
abbrev Vu(c f h e pb g N cap d so n cp:Nat)(num time:Int)(at_:aE)(a:aU aE)(i:Nat×Nat)(b:aU aE)(m:Nat×Nat):aB (Nat×Obj):=
 [(f,.cells #[.chan (some c)] 235),(h,.cells #[.slice (some (Ad pb g)) N cap] 151),(e,.cells #[Iv num,Iv time,at_,.slice (some (Ad d so)) n cp] 159),(pb,.cells a 183 i),(d,.cells b 4 m)]
theorem WU(H:uW c B M Ro)(L)(V U W pb t cap sb so n cp)(num time)(at_)(d)(mp)(o)(m)(ps)(ai:eI d t ps)(hn:ps.length<9223372036854775807)(af:∀p∈ps,o[so+p.node]?=some (.bool p.v)/\p.node<n)(nn)
  (k) (p) (R:ps[k]?=some p) (u3 u4 u9 D z u N F E J P O C) (f) (j) (T) (w) (hF:HB c Ro f j T w (Vu c V U W pb t ps.length cap sb so n cp num time at_ d mp o m))
  (next:∀u3 u4 u9 D z u N F E J P O C (T) (w),HB c Ro f j T w (Vu c V U W pb t ps.length cap sb so n cp num time at_ d mp o m)->SB prog c (Dl c Ro) (AD c Ro) (MQ c Ro) nn L T (B4 c V U W (.slice (some (Ad pb t)) ps.length cap) ps.length (k+1) u3 u4 u9 D z u N F E J P O C) w):
  SB prog c (Dl c Ro) (AD c Ro) (MQ c Ro) nn (letter num time p::L) T (B4 c V U W (.slice (some (Ad pb t)) ps.length cap) ps.length k u3 u4 u9 D z u N F E J P O C) w:=by
 have PP:=kL c B M Ro H;have TT:=PP.tB;have ay:=(eY.1 R).1;have⟨q0,q1,q2,q3,q4⟩:=ai k p R;apply SB.n9 PP;have ae:=λu3 u4 u9 D z u N F E J P O C T w h=>SB.walk PP (next u3 u4 u9 D z u N F E J P O C T w h);simp only[B4,Hf,o9,f133,fD]at ae⊢
 revert hF
 refine zO λv1 hF=>?_;apply RT.nil TT;apply RT.seq TT;apply RT.cond TT true (by simp[Act.eval]);simp only[fB];apply RT.skip TT;have abl:=aA
 revert hF
 refine zO λv2 hF=>?_
 revert hF
 refine zO λv3 hF=>?_
 revert hF
 refine zA λT4 u4 b4 hF l ah=>?_;refine RT.op rfl (by rfl) (by simp[baseD]) λv5 hR K hK=>?_;replace hF:=hF.rely hR;have b0:=hF.cell (i:=0) (.head _) rfl;have ax:=hF.cell (i:=1) (.head _) rfl;have az:=hF.cell (i:=2) (.head _) rfl;have b2:=hF.cell (i:=3) (.head _) rfl;have b1:=hF.cell (i:=4) (.head _) rfl;have hz:∀i,v5.frozen? (Ad b4 i)=false:=λi=>by simp[World.frozen?,(hF.get (.head _))]
 go_simp;refine hK _ _ ⟨?_,?_⟩
 .refine AD.U8 (b:=b4) ah (by simp only[eC]) (λk R=>(b_ _ _ _ R).trans ((b_ _ _ _ R).trans ((b_ _ _ _ R).trans ((b_ _ _ _ R).trans (b_ _ _ _ R))))) rfl rfl rfl λe he=>?_;have hm:=mem_listed he;simp[go_sem,events_store (v:=Value.string p.name) (hv:=rfl),events_store (v:=Value.pointer p.eE) (hv:=rfl),events_store (v:=Value.pointer p.fY) (hv:=rfl), *]at hm;obtain rfl|rfl|rfl|rfl|rfl:=hm<;>exact⟨_,rfl,rfl⟩
 rw[pG _ (by simp only[eC])];replace hF:=((((hF.set (i:=0) (v:=.string p.name) l.1 l.2).set (i:=1) (v:=.pointer p.eE) l.1 l.2).set (i:=2) (v:=Iv p.node) l.1 l.2).set (i:=3) (v:=Iv p.cP) l.1 l.2).set (i:=4) (v:=.pointer p.fY) l.1 l.2;generalize World.setCell _ _ _=x2 at hF⊢;apply RT.nil TT;replace hF:HB c Ro f j T4 x2 ((b4,.cells #[.string p.name,.pointer p.eE,Iv p.node,Iv p.cP,.pointer p.fY] 183)::Vu c V U W pb t ps.length cap sb so n cp num time at_ d mp o m):=hF;have G:∀(S:Nat->bQ)(x y:aC),HB c Ro f j S x ((b4,.cells #[.string p.name,.pointer p.eE,Iv p.node,Iv p.cP,.pointer p.fY] 183)::Vu c V U W pb t ps.length cap sb so n cp num time at_ d mp o m)->Dl c Ro S x y->HB c Ro f j S y ((b4,.cells #[.string p.name,.pointer p.eE,Iv p.node,Iv p.cP,.pointer p.fY] 183)::Vu c V U W pb t ps.length cap sb so n cp num time at_ d mp o m):=λS x y h r=>h.rely r;let Qv:Act->aB aE->(Nat->bQ)->aC->bQ:=λa L' S w'=>∃X a8 t12 t13 a6 Z aa a7 a1 Y,a=⟨#[Pt V,Pt U,Pt W,u3,Pt b4,.chan (some c),.slice (some (Ad pb t)) ps.length cap,Iv ps.length,Iv k,.bool true,X,a8,t12,t13,a6,Z,aa,a7,a1,Y],[vg c]⟩/\L'=L/\HB c Ro f j S w' ((b4,.cells #[.string p.name,.pointer p.eE,Iv p.node,Iv p.cP,.pointer p.fY] 183)::Vu c V U W pb t ps.length cap sb so n cp num time at_ d mp o m);have A:∀a L S x y,Qv a L S x->Dl c Ro S x y->Qv a L S y:=by
  rintro a L S x y ⟨X,a8,t12,t13,a6,Z,aa,a7,a1,Y,h1,h2,h3⟩ r;exact⟨X,a8,t12,t13,a6,Z,aa,a7,a1,Y,h1,h2,h3.rely r⟩
 refine RT.drawn (Stop:=λL T g w=>SB prog c (Dl c Ro) (AD c Ro) (MQ c Ro) nn L T g w) (L:=letter num time p::L) (c:=c) (Q:=Qv) (I:=λS w'=>HB c Ro f j S w' ((b4,.cells #[.string p.name,.pointer p.eE,Iv p.node,Iv p.cP,.pointer p.fY] 183)::Vu c V U W pb t ps.length cap sb so n cp num time at_ d mp o m)) (fn:=133) (fin:=99) TT (SB.sends PP _) rfl (by simp[baseD]) aL (λa L S w' hq=>?_) λs hR=>?_
 case refine_2=>
  replace hF:=hF.rely hR;replace hF:=hF.rely (w':={s with drawn:=s.drawn+1}) ⟨aZ,λ_ _ _ _=>rfl⟩;simp only[ju,ic,jr,Nat.reduceAdd,fE];generalize({s with drawn:=s.drawn+1}:aC)=x3 at hF⊢;have hI:=hF;refine tk TT G A 0 hI ?_
  try walk_nrm
  refine tk TT G A 1 hI ?_
  try walk_nrm
  refine tk TT G A 2 hI ?_
  try walk_nrm
  refine tk TT G A 3 hI ?_
  try walk_nrm
  refine tk TT G A 4 hI ?_
  try walk_nrm
  refine kC (i:=5) jZ (sU.call TT rfl (by rfl) rfl func134 (by rfl) rfl λad aj=>?_);replace hF:=hF.rely aj;simp only[Dj,hY,sR]
  change lS prog false (Dl c Ro) (AD c Ro) 134 #[.agg #[.string p.name,.pointer p.eE,Iv p.node,Iv p.cP,.pointer p.fY],.agg #[Iv num,Iv time,at_,.slice (some (Ad sb so)) n cp]] _ ad _
  apply lS.mono (R9 H (.string p.name) (.pointer p.eE) (.pointer p.fY) at_ p.cP num time sb so n cp p.node o m p.v _ ad hF.lt (hF.facts _ (.tail _ (.tail _ (.tail _ (.tail _ (.tail _ (.head _))))))) (af p (iF R)).1 (af p (iF R)).2);rintro r S' w3 ⟨rfl,ar,an⟩;replace hF:=hF.call ar an;refine⟨λ_=>hF,?_⟩
  try walk_nrm
  refine kC (i:=6) jZ (sU.op rfl (by rfl) aF λaw ag K hK=>?_);replace hF:=hF.rely ag;go_simp;refine hK _ _ ⟨by rw[listed_nil (by simp[go_sem])];exact TT.idle _ _,?_⟩;rw[dC];refine⟨λ_=>hF,?_⟩
  try walk_nrm
  refine kC (i:=7) jZ (sU.send (L':=L) rfl (by rfl) rfl rfl rfl λau ak=>?_);replace hF:=hF.rely ak;refine⟨λ_=>hF,?_⟩
  try walk_nrm
  exact AJ jZ ⟨_,_,_,_,_,_,_,_,_,_,rfl,rfl,hF⟩ _
 obtain⟨X,a8,t12,t13,a6,Z,aa,a7,a1,Y,rfl,rfl,hG⟩:=hq;have hF:=hG;apply RT.inBlock TT
 revert hF
 refine zO λv6 hF=>?_
 revert hF
 refine zO λv7 hF=>?_;apply RT.nil TT;apply RT.inLoop TT;have aq:IntKind.i64.wrap ((k:Int)+1)=((k+1:Nat):Int):=by rw[IntKind.wrap_i64];omega
 try rw[aq]
 exact ae _ _ _ _ _ _ _ _ _ _ _ _ _ _ _ ⟨hF.sub,hF.keep,hF.lt,λq hq=>hF.facts q (.tail _ hq)⟩
end Lf
namespace Lf
open Go Go.Conc
variable{P:Program}{K:bU->aC->Prop}{b:Frame}{k:aB Item}{cs:aB Frame}{a:Act}{w:aC}
theorem aJ.seq(f:Plain P){x y}(hi:∀c∈k,cY c)(e:∀d∈cs,bK d)(h:aJ P K (G (b.at a (.code x::.code y::k)) cs) w):aJ P K (G (b.at a (.code (.seq x y)::k)) cs) w:=
 aJ.move f (kP hi e) (λ_=>.one step_seq) λ_=>h
theorem aJ.code{c Q}(h:eX P c Q a w)(i:AB Q k cs)(l:∀e d w' g,Q e d w'->At b k cs g e d->aJ P K g w'):aJ P K (G (b.at a (.code c::k)) cs) w:=
 (h b k cs i).trans λg w' ⟨e,d,j,f⟩=>l e d w' g j f
theorem aJ.piece(p:Plain P){c}(J:Act->aC->bQ)(m:∀a w j d,J a w->J a (re w j d))(hi:∀l∈k,cY l)(n:∀o∈cs,bK o)(h:∀j d,c.wp P (λe f i=>e=.normal/\J f i) a (re w j d))(q:∀f i,J f i->aJ P K (G (b.at f k) cs) i):aJ P K (G (b.at a (.code c::k)) cs) w:=
 aJ.code (Q:=λe f i=>e=.normal/\J f i) (eX.of_wp p (λe a w j d x=>⟨x.1,m _ _ _ _ x.2⟩) (λa w x=>by cases x.1) h) ⟨hi,n,λ_ _ _ x=>(by cases x.1),λ_ _ _ x=>(by cases x.1)⟩
  λe f i g x y=>by
   obtain⟨rfl,x⟩:=x
   obtain rfl:g=_:=y
   exact q f i x
theorem aJ.val(s:Plain P){c i rest o v w'}(j:c[i]?=some o)(hw:Region.wanted o (yielded c a.tmps)=true)
  (m:∀e d,(execOp a.eval o).run P (re w e d)=.ok (.value v) (re w' e d)) (hi:∀l∈k,cY l) (q:∀n∈cs,bK n)
  (h:aJ P K (G (b.at (a.put o.dst v) (.inRegion c rest::k)) cs) w'):aJ P K (G (b.at a (.inRegion c (i::rest)::k)) cs) w:=by
 let f:(b.at a (.inRegion c (i::rest)::k)).finish v=b.at (a.put o.dst v) (.inRegion c rest::k):=by rw[Frame.finish_at,j];rfl
 let p:aJ P (λg x=>g=G (b.at (a.put o.dst v) (.inRegion c rest::k)) cs/\∃e d,x=re w' e d) (G (b.at a (.inRegion c (i::rest)::k)) cs) w:=by
  refine .of_steps s ?_ (pY hi q) λe d=>⟨_,re w' e d,.one (step_lone_go (fr':=b.at (a.put o.dst v) (.inRegion c rest::k)) (cs':=cs) ?_),ft _ _,λ_=>⟨rfl,e,d,rfl⟩⟩
  .rintro g x e d ⟨rfl,r,t,rfl⟩;exact⟨rfl,e,d,rfl⟩
  .rw[stepG_op j hw,<-f];simp[stepG.apply,m,Frame.at]
 apply p.trans;rintro g x ⟨rfl,e,d,rfl⟩;exact h.other e d
theorem aJ.v(j:Plain P){ops:aU Oper}{i:Nat}{rest:aB Nat}{o:Oper}{v:aE}(hi:∀c∈k,cY c)(g:∀f∈cs,bK f)(h:aJ P K (G (b.at (a.put o.dst v) (.inRegion ops rest::k)) cs) w)(e:ops[i]?=some o:=by rfl)(hw:Region.wanted o (yielded ops a.tmps)=true:=by rfl)
  (hr:∀τ d (K:Result Next->bQ),K (.ok (.value v) (re w τ d))->K ((execOp a.eval o).run P (re w τ d)):=by
   intro τ d K hK;go_simp;exact hK):aJ P K (G (b.at a (.inRegion ops (i::rest)::k)) cs) w:=aJ.val j e hw (λτ d=>run_eq_of (hr τ d)) hi g h
theorem aJ.new(j:Plain P){ops:aU Oper}{i:Nat}{rest:aB Nat}{o:Oper}{ob:Obj}(hi:∀c∈k,cY c)(g:∀f∈cs,bK f)(h:aJ P K (G (b.at (a.put o.dst (.pointer (some ⟨w.heap.size,0,none⟩))) (.inRegion ops rest::k)) cs) (w.alloc ob))(e:ops[i]?=some o:=by rfl)(hw:Region.wanted o (yielded ops a.tmps)=true:=by rfl)
  (hr:∀τ d (K:Result Next->bQ),K (.ok (.value (.pointer (some ⟨w.heap.size,0,none⟩))) ((re w τ d).alloc ob))->K ((execOp a.eval o).run P (re w τ d)):=by
   intro τ d K hK;go_simp;exact hK):aJ P K (G (b.at a (.inRegion ops (i::rest)::k)) cs) w:=aJ.val (w':=w.alloc ob) j e hw (λτ d=>run_eq_of (hr τ d)) hi g h
theorem aJ.non(s:Plain P){c i rest o w'}(j:c[i]?=some o)(hw:Region.wanted o (yielded c a.tmps)=true)
  (m:∀e d,(execOp a.eval o).run P (re w e d)=.ok .skip (re w' e d)) (hi:∀l∈k,cY l) (q:∀n∈cs,bK n)
  (h:aJ P K (G (b.at (a.put o.dst undef) (.inRegion c rest::k)) cs) w'):aJ P K (G (b.at a (.inRegion c (i::rest)::k)) cs) w:=by
 let f:(b.at a (.inRegion c (i::rest)::k)).finish undef=b.at (a.put o.dst undef) (.inRegion c rest::k):=by rw[Frame.finish_at,j];rfl
 let p:aJ P (λg x=>g=G (b.at (a.put o.dst undef) (.inRegion c rest::k)) cs/\∃e d,x=re w' e d) (G (b.at a (.inRegion c (i::rest)::k)) cs) w:=by
  refine .of_steps s ?_ (pY hi q) λe d=>⟨_,re w' e d,.one (step_lone_go (fr':=b.at (a.put o.dst undef) (.inRegion c rest::k)) (cs':=cs) ?_),ft _ _,λ_=>⟨rfl,e,d,rfl⟩⟩
  .rintro g x e d ⟨rfl,r,t,rfl⟩;exact⟨rfl,e,d,rfl⟩
  .rw[stepG_op j hw,<-f];simp[stepG.apply,m,Frame.at]
 apply p.trans;rintro g x ⟨rfl,e,d,rfl⟩;exact h.other e d
theorem aJ.region(g:Plain P){id c}(hi:∀d∈k,cY d)(f:∀e∈cs,bK e)(h:aJ P K (G (b.at a (.inRegion c (List.range c.size)::k)) cs) w):aJ P K (G (b.at a (.code (.region id c false)::k)) cs) w:=
 aJ.move g (kP hi f) (λ_=>.one step_region) λ_=>h
theorem aJ.nil(g:Plain P){c}(hi:∀d∈k,cY d)(f:∀e∈cs,bK e)(h:aJ P K (G (b.at a k) cs) w):aJ P K (G (b.at a (.inRegion c []::k)) cs) w:=
 aJ.move g (pY hi f) (λ_=>.one step_region_end) λ_=>h
theorem aJ.draw(o:Plain P){id c}(hi:∀j∈k,cY j)(m:∀l∈cs,bK l)(h:∀t,aJ P K (G (b.at a (.inRegion c (Region.schedule (P.follows .mixedOrders) c t)::k)) cs) w):aJ P K (G (b.at a (.code (.region id c true)::k)) cs) w:=by
 let f:aJ P (λg i=>(∃t,g=G (b.at a (.inRegion c (Region.schedule (P.follows .mixedOrders) c t)::k)) cs)/\∃e d,i=re w e d) (G (b.at a (.code (.region id c true)::k)) cs) w:=by
  refine .of_steps o ?_ (kP hi m) λe d=>⟨_,re w e (d+1),.one step_region_draw,ft _ _,λ_=>⟨⟨_,rfl⟩,e,d+1,rfl⟩⟩
  .rintro g i e d ⟨f,n,p,rfl⟩;exact⟨f,e,d,rfl⟩
 apply f.trans;rintro g i ⟨⟨t,rfl⟩,e,d,rfl⟩;exact(h t).other e d
theorem aJ.enter(p:Plain P){c i rest o f args}(j:c[i]?=some o)(hw:Region.wanted o (yielded c a.tmps)=true)
  (l:∀e d,(execOp a.eval o).run P (re w e d)=.ok (.enter f args) (re w e d)) (hi:∀g∈k,cY g) (n:∀m∈cs,bK m)
  (h:aJ P K (G (Frame.enter P f args .normal) (b.at a (.inRegion c (i::rest)::k)::cs)) w):aJ P K (G (b.at a (.inRegion c (i::rest)::k)) cs) w:=by
 refine aJ.step p (pY hi n) (λe d=>.one (step_lone_go (fr':=Frame.enter P f args .normal) (cs':=b.at a (.inRegion c (i::rest)::k)::cs) ?_)) λ_=>h;rw[stepG_op j hw];simp[stepG.apply,l,Frame.at]
theorem aJ.call(q:Plain P){c i rest o f args R}(t:c[i]?=some o)(hw:Region.wanted o (yielded c a.tmps)=true)
  (A:∀n d,(execOp a.eval o).run P (re w n d)=.ok (.enter f args) (re w n d)) (hi:∀z∈k,cY z) (p:∀s∈cs,bK s) (h:cI P f args w R) (x:∀e j,R e j->∃v,e=.returned v)
  (y:∀v j,R (.returned v) j->aJ P K (G (b.at (a.put o.dst v) (.inRegion c rest::k)) cs) j):aJ P K (G (b.at a (.inRegion c (i::rest)::k)) cs) w:=by
 let m:∀v,(b.at a (.inRegion c (i::rest)::k)).finish v=b.at (a.put o.dst v) (.inRegion c rest::k):=by
  intro v;rw[Frame.finish_at,t];rfl
 let l:bK (b.at a (.inRegion c (i::rest)::k)):=jP (bP trivial hi);refine aJ.enter q t hw A hi p ((h _ (lC l p)).trans ?_);rintro g j ⟨e,s,rfl,u,r,_,B⟩;obtain⟨v,rfl⟩:=x e j r;refine aJ.step q (tq u (lC l p)) (fr':=b.at (a.put o.dst v) (.inRegion c rest::k)) (cs':=cs) (λn d=>.one ?_) λ_=>y v j r;rw[<-m];exact step_leave_returned (qk B n d)
def gJ(md:Region.Mode)(ops:aU Oper):Nat->aU Bool->aB (aB Nat)
 |0,_=>[[]]
 |fuel+1,listed=>if Region.ready md ops listed=[]then[[]]else(Region.ready md ops listed).flatMap λi=>(gJ md ops fuel (listed.setIfInBounds i true)).map (i:: ·)
theorem linearise_go_acc(e:Region.Mode)(d:aU Oper):∀(b t:Nat)(a:aU Bool)(c:aB Nat),Region.linearise.go e d b t a c=c.reverse++Region.linearise.go e d b t a []
 |0,_,_,c=>by simp[Region.linearise.go]
 |b+1,t,a,c=>by
  simp only[Region.linearise.go]
  split
  .rename_i i hi
   rw[linearise_go_acc e d b _ _ (i::c),linearise_go_acc e d b _ _ [i]]
   simp
  .simp
theorem xC(d:Region.Mode)(b:aU Oper):∀(c t:Nat)(a:aU Bool),Region.linearise.go d b c t a []∈gJ d b c a
 |0,_,_=>by simp[Region.linearise.go,gJ]
 |c+1,t,a=>by
  let f:Region.linearise.go d b (c+1) t a []=(match(Region.ready d b a)[t%(Region.ready d b a).length]? with
   |some i=>Region.linearise.go d b c (t/(Region.ready d b a).length) (a.setIfInBounds i true) [i]
   |none=>[].reverse):=rfl
  rw[f]
  cases hi:(Region.ready d b a)[t%(Region.ready d b a).length]? with
  |none=>
   let e:Region.ready d b a=[]:=by
    rcases BG (Region.ready d b a).length with h|h
    .exact uJ.1 h
    .have:=Ik.1 hi;have:=Nat.mod_lt t h;omega
   simp[gJ,e]
  |some i=>
   let j:i∈Region.ready d b a:=iF hi;let g:Region.ready d b a≠[]:=λh=>by rw[h]at j;cases j
   simp only[gJ,bN g];rw[linearise_go_acc];refine MH.2 ⟨i,j,iZ.2 ⟨_,xC d b c (t/(Region.ready d b a).length) _,aF⟩⟩
theorem z_(b:P.follows .mixedOrders=true)(a t):Region.schedule (P.follows .mixedOrders) a t∈gJ .any a a.size (Array.replicate a.size false):=by
 simp only[Region.schedule,b,Bool.true_or,fB];exact xC .any a _ t _
theorem cI.Js{f d c a R}(l:P.funcs[f]?=some d)(k:d.body=some c)
  (h:∀cs,(∀b∈cs,bK b)->aJ P (λg j=>∃e b,g=G b cs/\bK b/\R e j/\b.fn=f/\b.leaving P j e) (G ((base f).at {tmps:=a++Array.replicate (d.ntmps-a.size) undef,defers:=[]} [.code c]) cs) w):cI P f a w R:=by
 intro cs i;rw[enter_at a l k];exact h cs i
theorem aJ.ret(s:Plain P){f j}{R:Ending->aC->bQ}{v}(hi:∀p∈k,cY p)(r:∀c∈cs,bK c)(z:P.funcs[f]?=some j)(t:a.defers=[])(q:∀b d,(results j a.tmps).run P (re w b d)=.ok v (re w b d))(o:∀b d,R (.returned v) (re w b d)):
  aJ P (λg i=>∃e c,g=G c cs/\bK c/\R e i/\c.fn=f/\c.leaving P i e) (G ((base f).at a (.code .ret::k)) cs) w:=
 aJ.code (Q:=λe n i=>e=.ret/\n=a/\∃b d,i=re w b d) (eX.ret s λb d=>⟨rfl,rfl,b,d,rfl⟩) ⟨hi,r,λ_ _ _ x=>(by cases x.1),λ_ _ _ x=>(by cases x.1)⟩ λe n i g x y=>by
  obtain⟨rfl,rfl,b,d,rfl⟩:=x
  obtain⟨m,u,rfl⟩:=y
  exact .here λh l=>⟨.returned v,_,rfl,u,o h l,rfl,rfl,t,rfl,j,z,q h l⟩
end Lf
namespace Lf
open Go Go.Conc
variable{P:Program}{K:bU->aC->Prop}{b:Frame}{k:aB Item}{cs:aB Frame}{a:Act}{w:aC}
def oX:aB Code->Code->Code
 |[],z=>z
 |c::l,z=>.seq c (oX l z)
def kW(P:Program):aB Code->(Act->aC->Prop)->Act->aC->Prop
 |[],J,a,w=>J a w
 |c::l,J,a,w=>c.wp P (λe a' w'=>e=.normal/\kW P l J a' w') a w
theorem Ij{z:Code}{J:Act->aC->bQ}:∀(l:aB Code)(a:Act)(w:aC),kW P l J a w->∃d f,J d f/\Steps P (lone (b.at a (.code (oX l z)::k)) cs w) (lone (b.at d (.code z::k)) cs f)
 |[],a,w,h=>⟨a,w,h,.refl _ _⟩
 |c::l,a,w,h=>by
  let⟨e,a1,w1,g,h2⟩:=h b (.code (oX l z)::k) cs
  obtain⟨rfl,g⟩:=g
  obtain⟨d,f,j,i⟩:=Ij l a1 w1 g
  exact⟨d,f,j,.head step_seq (Steps.trans h2 i)⟩
theorem aJ.pieces(q:Plain P)(l){z}(J)(n:∀a w f d,J a w->J a (re w f d))(hi:∀m∈k,cY m)(o:∀p∈cs,bK p)(h:∀f d,kW P l J a (re w f d))
  (r:∀c e,J c e->aJ P K (G (b.at c (.code z::k)) cs) e):aJ P K (G (b.at a (.code (oX l z)::k)) cs) w:=by
 let i:aJ P (λg e=>∃c,J c e/\g=G (b.at c (.code z::k)) cs) (G (b.at a (.code (oX l z)::k)) cs) w:=by
  refine .of_steps q ?_ (kP hi o) λf d=>?_
  .rintro g w f d ⟨c,i,j⟩;exact⟨c,n _ _ _ _ i,j⟩
  .let⟨c,e,i,j⟩:=Ij (b:=b) (k:=k) (cs:=cs) (z:=z) l a (re w f d) (h f d);exact⟨_,e,j,ft _ _,λ_=>⟨c,i,rfl⟩⟩
 apply i.trans;rintro g e ⟨c,i,rfl⟩;exact r c e i
theorem qI{j R}(g:∀e w b d,R e w->R e (re w b d)):∀e a w b d,bodyPost P j R e a w->bodyPost P j R e a (re w b d):=by
 intro e a w b d h;cases e with
 |normal=>obtain⟨c,v,i,f⟩:=h;exact⟨c,v,nV i b d,g _ _ _ _ f⟩
 |ret=>obtain⟨c,v,i,f⟩:=h;exact⟨c,v,nV i b d,g _ _ _ _ f⟩
 |panic chain=>obtain⟨c,f⟩:=h;exact⟨c,g _ _ _ _ f⟩
 |exit id=>exact h
 |goto l=>exact h
 |outgrown=>exact g _ _ _ _ h
theorem aJ.last(t:Plain P){f c z R}(s:∀i∈cs,bK i)(r:P.funcs[f]?=some c)(n:∀e w b d,R e w->R e (re w b d))(p:∀w,¬R .outgrown w)
  (h:∀b d,z.wp P (bodyPost P c R) a (re w b d)):aJ P (λg w'=>∃e i,g=G i cs/\bK i/\R e w'/\i.fn=f/\i.leaving P w' e) (G ((base f).at a [.code z]) cs) w:=by
 refine aJ.code (Q:=bodyPost P c R) (eX.of_wp t (qI n) (λa w x=>p w x) h) ⟨λ_ h=>(by cases h),s,λ_ _ _ x=>x.elim,λ_ _ _ x=>x.elim⟩ λe u w' g k m=>?_;cases e with
 |normal=>
  cases m;let⟨hd,v,hr,hv⟩:=k;exact aJ.move t (tq (jP λ_ h=>by cases h) s) (λ_=>.one step_end) λo=>.here λb d=>⟨.returned v,_,rfl,o.ok.frame,n _ _ _ _ hv,rfl,rfl,hd,rfl,c,r,nV hr b d⟩
 |ret=>
  obtain⟨j,q,rfl⟩:=m;let⟨hd,v,hr,hv⟩:=k;exact .here λb d=>⟨.returned v,_,rfl,q,n _ _ _ _ hv,rfl,rfl,hd,rfl,c,r,nV hr b d⟩
 |panic chain=>
  obtain⟨j,q,rfl⟩:=m;let⟨hd,hv⟩:=k;exact .here λb d=>⟨.panicked chain,_,rfl,q,n _ _ _ _ hv,rfl,rfl,hd,c,r⟩
 |exit id=>exact k.elim
 |goto l=>exact k.elim
 |outgrown=>exact m.elim
theorem aJ.YD{c}(J:Act->aC->bQ)(hi:∀i∈k,cY i)(l:∀j∈cs,bK j)(h:eX P c (λe d f=>e=.normal/\J d f) a w)(m:∀d f,J d f->aJ P K (G (b.at d k) cs) f):aJ P K (G (b.at a (.code c::k)) cs) w:=
 aJ.code h ⟨hi,l,λ_ _ _ x=>(by cases x.1),λ_ _ _ x=>(by cases x.1)⟩ λe d f g x y=>by
  obtain⟨rfl,x⟩:=x
  obtain rfl:g=_:=y
  exact m d f x
theorem eX.GJ(k:Plain P){id c}(I:Nat->Act->aC->bQ)(J:Act->aC->bQ)(o:∀a w j d,J a w->J a (re w j d))(b)(g:I b a w)
  (f:∀n a w,I n a w->eX P c (λe h i=>(e=.normal/\∃m,m<n/\I m h i)\/(e=.exit id/\J h i)) a w):eX P (.block id (.loop c)) (λe h i=>e=.normal/\J h i) a w:=by
 refine eX.block k (λa w j d x=>⟨rfl,o _ _ _ _ x.2⟩) (eX.loop k I b g λn a w l=>(f n a w l).mono λe a w x=>?_);obtain⟨rfl,x⟩|⟨rfl,x⟩:=x
 .exact x
 .simp only[Exit.then,Exit.inBlock,fB];exact⟨trivial,x⟩
end Lf
namespace Lf
open Go Go.Conc
def waits(ops:aU Oper)(i j:Nat):Bool:=match ops[i]? with
 |some o=>o.after.toList.any λe=>Region.binds .any e&&e.on==j
 |none=>false
def BN(ops:aU Oper)(i:Nat):aR Tmp:=(ops[i]?).bind (·.dst)
def gN(ops:aU Oper)(n:Nat):Bool:=
 ops.size==n+2&&waits ops (n+1) n&&(List.range n).all (λi=>(List.range (n+1)).any λj=>decide (i<j)&&waits ops j i)&&
 (List.range (n+2)).all (λi=>match ops[i]? with|some o=>o.after.toList.all λe=>decide (e.on<i)|none=>true)&&
 (List.range (n+1)).all (λi=>match ops[i]? with
  |some o=>o.guard.isNone&&(BN ops i).isSome&&(match o.op with|.select .. =>false|_=>true)&&o.op.operands.all (λx=>match x with|.tmp t=>(List.range n).all λj=>BN ops j !=some t||waits ops i j|_=>true)&&(List.range n).all λj=>j==i||BN ops j !=o.dst
  |none=>false)
theorem GN{i:Nat}{p q:Nat->Bool}(f:p i=true)(d:q i=false)(c:∀j,j≠i->q j=p j):∀{l:aB Nat},l.Nodup->i∈l->(l.filter p).length=(l.filter q).length+1
 |[],_,h=>by cases h
 |a::l,b,h=>by
  let⟨ha,b⟩:=Iw.1 b
  by_cases e:a=i
  .subst e
   have:l.filter q=l.filter p:=List.filter_congr λj g=>c j λe=>ha (e▸g)
   simp[f,d,this]
  .have:=GN f d c b ((gA.1 h).resolve_left λx=>e x.symm)
   simp only[List.filter_cons,c a e]
   split<;>simp[this]
section
variable{P:Program}{ops:aU Oper}{Q:Exit->Act->aC->Prop}{F:Act}{w:aC}{n:Nat}
structure aaF(ops:aU Oper)(F:Act)(n:Nat)(listed:aU Bool)(A:Act):Prop where
 size:A.tmps.size=F.tmps.size
 defers:A.defers=F.defers
 ls:listed.size=n+2
 Y':∀s,(∀i,i<n->BN ops i=some s->listed.getD i false=true)->A.tmps[s]?=F.tmps[s]?
 closed:∀i j,listed.getD i false=true->waits ops i j=true->listed.getD j false=true
 late:listed.getD n false=false/\listed.getD (n+1) false=false
theorem iq.re{l:aB Nat}{a:Act}(h:iq P ops Q l a w)(g:Tape)(d:Nat):iq P ops Q l a (re w g d):=λb k f i c e=>h b k f i c e
theorem Jz(hP:Plain P){oc f M R}(a8:gN ops n=true)
  (hr:∀i o,i<n->ops[i]?=some o->∃d v,o.dst=some d/\F.tmps[d]?=some v/\∀D e,(execOp F.eval o).run P (re w D e)=.ok (.value v) (re w D e))
  (ho:ops[n]?=some oc) (hc:∀D d,(execOp F.eval oc).run P (re w D d)=.ok (.enter f M) (re w D d)) (hC:cI P f M w R) (hR:∀e J,R e J->∃v,e=.returned v) (hQ:¬LetsOut Q) (ah:∀c a w D d,Q (.panic c) a w->Q (.panic c) a (re w D d))
  (hk:∀v J,R (.returned v) J->iq P ops Q [n+1] (F.put oc.dst v) J):
  ∀z (r A) (l),aaF ops F n r A->((List.range (n+2)).filter λi=> !r.getD i false).length=z->l∈gJ .any ops z r->iq P ops Q l A w:=by
 simp only[gN,sP,wG,yE,Aq,Ap,pz]at a8;have⟨⟨⟨⟨Jf,Z5⟩,Z7⟩,TB⟩,YC⟩:=a8;have V:∀{i:Nat}{o:Oper}{A:Act},i<n+1->ops[i]?=some o->Region.wanted o (yielded ops A.tmps)=true:=λhi h=>by
  have:=YC _ hi;rw[h]at this;simp only[sP,Option.isNone_iff_eq_none]at this;simp[Region.wanted,this.1.1.1.1]
 intro z
 induction z with
 |zero=>
  intro r A l B hf _;have:=List.filter_eq_nil_iff.1 (uJ.1 hf) n aF;simp[B.late.1]at this
 |succ z ih=>
  intro r A l B hf W;have G:=B.ls;have Y:∀i,i<n+2->r.getD i true=r.getD i false:=λi hi=>by simp[Array.getD,G,hi]
  have I:∀{i j:Nat}{o:Oper},ops[i]?=some o->(waits ops i j=true↔∃e∈o.after,Region.binds .any e=true/\e.on=j):=λh=>by simp only[waits,h,Ap,Array.mem_toList_iff,sP,wG]
  have aj:∀{i:Nat},i<n+2->r.getD i false=false->(∀j,waits ops i j=true->r.getD j false=true)->i∈Region.ready .any ops r:=λ{i} hi h1 h2=>by
   refine mem_ready.2 ⟨(Y i hi).trans h1,ops[i]'aA,sL aA,λe O L=>h2 _ ((I (sL aA)).2 ⟨e,O,L,rfl⟩)⟩
  have S:∀{i j:Nat},i<n+2->waits ops i j=true->j<i:=λ{i j} hi h=>by
   have hd:=TB i hi;have hg:ops[i]?=some (ops[i]'aA):=sL aA;obtain⟨e,O,_,rfl⟩:=(I hg).1 h;rw[hg]at hd;simp only[yE,pz]at hd;exact hd e (by simpa using O)
  simp only[gJ]at W;split at W
  .rename_i X;have:∀i,i<n+1->r.getD i false=true:=λi=>by
    induction i using Nat.strongRecOn with
    |ind i af=>
     intro hi;cases U:r.getD i false with
     |true=>rfl
     |false=>
      have:=aj aA U λj y=>af j (S aA y) (by have:=S aA y;omega);rw[X]at this;cases this
   have:=this n aA;rw[B.late.1]at this;cases this
  have⟨i,hi,W⟩:=MH.1 W;obtain⟨l',C,rfl⟩:=iZ.1 W;have⟨h0,o,Wc,aaT⟩:=mem_ready.1 hi;have N:i<n+2:=by have:=(jR.1 Wc).1;omega
  rw[Y i N]at h0;have H:∀j,waits ops i j=true->r.getD j false=true:=λj y=>by
   obtain⟨e,O,L,rfl⟩:=(I Wc).1 y;exact aaT e O L
  have ad:i≠n+1:=by
   rintro rfl;have:=H n Z5;rw[B.late.1]at this;cases this
  have a6:∀cs b,o.op≠.select cs b:=λcs b e=>by
   have:=YC i aA;rw[Wc]at this;simp[e]at this
  have ak:∀x∈o.op.operands,A.eval x=F.eval x:=λx U=>by
   have:=YC i aA;rw[Wc]at this;simp only[sP,Array.all_eq_true_iff_forall_mem]at this;have U:=this.1.2 x U;cases x with
   |tmp t=>
    simp only[yE,Aq,Bool.or_eq_true,bne_iff_ne]at U;have:=B.Y' t λj y e=>H j ((U j y).resolve_left λk=>k e);simp[Act.eval,this]
   |const v=>rfl
   |global g=>rfl
   |func g=>rfl
  by_cases aa:i<n
  .have⟨d,v,e1,e2,e3⟩:=hr i o aa Wc;refine iq.cons hP (λA' J=>A'=A.put (some d) v/\∃D e,J=re w D e) (λ_ _ D e x=>⟨x.1,D,e,by obtain⟨_,_,rfl⟩:=x.2;rfl⟩) ah hQ (λD e=>?_) ?_
   .unfold wpOp;simp only[Wc,V aA Wc,fB];refine .inl ?_;unfold Oper.wp;rw[(execOp_congr o a6 ak),e3];simp only[Oper.upon,e1];exact⟨trivial,D,e,rfl⟩
   .rintro A' J ⟨rfl,D,e,rfl⟩;have u:∀j,(r.setIfInBounds i true).getD j false=if j=i then true else r.getD j false:=λj=>by
     by_cases y:j=i
     .subst y;simp[Array.getD,G,N]
     .rw[bN y];exact getD_set_ne false λx=>y x.symm
    refine iq.re (ih _ _ _ ⟨?_,?_,?_,λs hs=>?_,λa b ha L=>?_,?_⟩ ?_ C) D e
    .simp[Act.put,B.size]
    .exact B.defers
    .simp[G]
    .by_cases T:s=d
     .subst T;rw[e2];have:=(jR.1 e2).1;simp[Act.put,B.size,this]
     .have e4:(A.put (some d) v).tmps[s]?=A.tmps[s]?:=by simp[Act.put,qF λx=>T x.symm]
      rw[e4];refine B.Y' s λj y e5=>?_;have:=hs j y e5;rw[u]at this;split at this
      .rename_i h6;subst h6;simp[BN,Wc,e1]at e5;exact absurd e5.symm T
      .exact this
    .rw[u]at ha⊢;split
     .rfl
     .split at ha
      .rename_i h6;subst h6;exact H b L
      .exact B.closed a b ha L
    .rw[u,u,bN aA,bN aA];exact B.late
    .have:=GN (i:=i) (p:=λi=> !r.getD i false) (q:=λj=> !(r.setIfInBounds i true).getD j false) (by simp[h0]) (by simp[u]) (λj y=>by simp[u,y]) (List.nodup_range (n:=n+2)) (Aq.2 N);omega
  .obtain rfl:i=n:=by omega
   cases ho.symm.trans Wc;have E:∀j,j<i->r.getD j false=true:=λj y=>by
    obtain⟨m,hm⟩:∃m,i-j=m:=⟨_,rfl⟩
    induction m using Nat.strongRecOn generalizing j with
    |ind m an=>
     have⟨q,h1,h2,h3⟩:=Z7 j y;by_cases hq:q=i
     .subst hq;exact H j h3
     .exact B.closed q j (an (i-q) aA q aA rfl) h3
   have ai:A=F:=by
    have⟨t1,d1⟩:=A;have⟨t2,d2⟩:=F;have h1:=B.defers;have h2:t1=t2:=Array.ext_getElem? λs=>B.Y' s λj y _=>E j y;simp only at h1;rw[h1,h2]
   subst ai;have Z:z=1:=by
    have:((List.range (i+2)).filter λj=> !r.getD j false)=[i,i+1]:=by
     rw[Iy,Iy,List.filter_append,List.filter_append,List.filter_eq_nil_iff.2 λj y=>by simp[E j (Aq.1 y)]];have a1:(!r.getD i false)=true:=by rw[B.late.1];rfl
     have a2:(!r.getD (i+1) false)=true:=by rw[B.late.2];rfl
     simp only[List.filter_cons,a1,a2,List.filter_nil,fB,jq,lq]
    rw[this]at hf;simp at hf;omega
   subst Z;have ae:l'=[i+1]:=by
    have u:∀j,(r.setIfInBounds i true).getD j false=if j=i then true else r.getD j false:=λj=>by
     by_cases y:j=i
     .subst y;simp[Array.getD,G]
     .rw[bN y];exact getD_set_ne false λx=>y x.symm
    have a7:∀j,j∈Region.ready .any ops (r.setIfInBounds i true)->j=i+1:=λj y=>by
     have⟨k0,o',k1,_⟩:=mem_ready.1 y;have:=(jR.1 k1).1;have e9:(r.setIfInBounds i true).getD j true=(r.setIfInBounds i true).getD j false:=by
      have ag:j<i+2:=aA;simp[Array.getD,G,ag]
     rw[e9,u]at k0;split at k0
     .cases k0
     .refine GB λad=>?_;rw[E j aA]at k0;cases k0
    have K:i+1∈Region.ready .any ops (r.setIfInBounds i true):=by
     refine mem_ready.2 ⟨?_,ops[i+1]'aA,sL aA,λe O L=>?_⟩
     .have e9:(r.setIfInBounds i true).getD (i+1) true=(r.setIfInBounds i true).getD (i+1) false:=by simp[Array.getD,G]
      rw[e9,u,bN aA];exact B.late.2
     .have:=S (i:=i+1) aA ((I (sL aA)).2 ⟨e,O,L,rfl⟩);rw[u];split
      .rfl
      .exact E _ aA
    simp only[gJ]at C;split at C
    .rename_i h8;rw[h8]at K;cases K
    .have⟨j,y,C⟩:=MH.1 C;simp at C;rw[C,a7 j y]
   subst ae;exact iq.call hP ho (V (by omega) ho) hc hC (λc J h=>by obtain⟨_,h⟩:=hR _ _ h;cases h) (λJ h=>by obtain⟨_,h⟩:=hR _ _ h;cases h) hk
theorem Cg(b:gN ops n=true):∀(k j:Nat)(a:aU Bool),j+k=n+2->a.size=n+2->(∀i,i<n+2->a.getD i false=decide (i<j))->List.range' j k∈gJ .any ops k a
 |0,_,_,_,_,_=>by simp[gJ]
 |k+1,j,a,t,p,f=>by
  let c:=b
  simp only[gN,sP,wG,yE,Aq,Ap,pz]at b
  let⟨⟨⟨⟨Jf,_⟩,_⟩,TB⟩,_⟩:=b
  let q:ops[j]?=some (ops[j]'aA):=sL aA
  let l:j∈Region.ready .any ops a:=by
   let m:j<n+2:=aA;let s:a.getD j true=a.getD j false:=by simp[Array.getD,p,m]
   refine mem_ready.2 ⟨by rw[s,f j aA];simp,_,q,λe r _=>?_⟩;let o:=TB j aA;rw[q]at o;simp only[yE,pz]at o;have:=o e (by simpa using r);rw[f _ aA];simpa using this
  let g:Region.ready .any ops a≠[]:=λh=>by rw[h]at l;cases l
  simp only[gJ,bN g];refine MH.2 ⟨j,l,iZ.2 ⟨List.range' (j+1) k,Cg c k (j+1) _ aA (by simp[p]) λi hi=>?_,rfl⟩⟩;by_cases d:i=j
  .subst d;simp[Array.getD,p,hi]
  .rw[getD_set_ne false λx=>d x.symm,f i hi];have:(i<j)=(i<j+1):=bI;simp[this]
theorem eX.Ow(r:Plain P)(K:P.follows .mixedOrders=true){id y a u f k R}(n)(F:Act)(g:gN ops n=true)(z:F.tmps.size=a.tmps.size/\F.defers=a.defers)(p:∀s,(∀i,i<n->BN ops i≠some s)->a.tmps[s]?=F.tmps[s]?)
  (E:∀i o,i<n->ops[i]?=some o->∃d v,o.dst=some d/\F.tmps[d]?=some v/\∀m e,(execOp F.eval o).run P (re w m e)=.ok (.value v) (re w m e))
  (J:ops[n]?=some u) (G:∀m d,(execOp F.eval u).run P (re w m d)=.ok (.enter f k) (re w m d)) (hC:cI P f k w R) (C:∀e q,R e q->∃v,e=.returned v) (I:¬LetsOut Q) (x:∀c a w m d,Q (.panic c) a w->Q (.panic c) a (re w m d))
  (D:∀v q,R (.returned v) q->iq P ops Q [n+1] (F.put u.dst v) q):eX P (.region id ops y) Q a w:=by
 let b:ops.size=n+2:=by
  simp only[gN,sP,wG]at g;exact g.1.1.1.1
 let A:∀l,l∈gJ .any ops ops.size (Array.replicate ops.size false)->iq P ops Q l a w:=λl B=>by
  refine Jz r g E J G hC C I x D ops.size (Array.replicate ops.size false) a l ⟨z.1.symm,z.2.symm,by simp[b],λs H=>p s λi hi e=>?_,λi j h _=>?_,by simp[Array.getD,b]⟩ ?_ B
  .have:=H i hi e;simp[Array.getD]at this
  .simp[Array.getD]at h
  .rw[b,List.filter_eq_self.2 λi hi=>by simp[Array.getD]];simp
 cases y with
 |true=>exact eX.LS r λt=>A _ (z_ K ops t)
 |false=>
  refine eX.region r (A _ ?_);rw[List.range_eq_range',b];exact Cg g (n+2) 0 _ aA aF λi hi=>by simp[Array.getD,hi]
end
theorem eX.pieces{P:Program}(m:Plain P)(l:aB Code){z:Code}{Q:Exit->Act->aC->bQ}{a:Act}{w:aC}(J:Act->aC->bQ)(f:∀a w g d,J a w->J a (re w g d))(h:∀g d,kW P l J a (re w g d))(n:∀c e,J c e->eX P z Q c e):eX P (oX l z) Q a w:=
 λb k j i=>aJ.pieces m l J f i.items i.frames h λc e f=>n c e f b k j i
theorem eX.re{P:Program}{c:Code}{Q:Exit->Act->aC->bQ}{a:Act}{w:aC}(h:eX P c Q a w)(i:Tape)(d:Nat):eX P c Q a (re w i d):=λb k g j e f=>h b k g j e f
theorem cI.hole{P}(k:Plain P){f i pre r z b w R}(n:P.funcs[f]?=some i)(x:i.body=some (oX pre (.seq r z)))(q:∀e w g d,R e w->R e (re w g d))(l:∀w,¬R .outgrown w)(J m:Act->aC->bQ)(j:∀a w g d,J a w->J a (re w g d))
  (s:∀g d,kW P pre J {tmps:=b++Array.replicate (i.ntmps-b.size) undef,defers:=[]} (re w g d)) (o:∀a w,J a w->eX P r (λe u v=>e=.normal/\m u v) a w) (t:∀a w,m a w->∀g d,z.wp P (bodyPost P i R) a (re w g d)):cI P f b w R:=
 cI.Js n x λA c=>aJ.pieces k pre J j aF c s λa p j=>aJ.seq k aF c (aJ.YD m (bP trivial aF) c (o a p j) λa y h=>aJ.last k c n q l (t a y h))
end Lf
end Go.Proofs.YtpbbmagjhkakgaaGreatDoor
