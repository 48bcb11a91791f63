import Derived.Test.YtpbbmagjhkakgaaGreatDoorLfFitXToLfRest
import Derived.Test.YtpbbmagjhkakgaaGreatDoorEvRepToEvName
import Derived.Test.YtpbbmagjhkakgaaGreatDoorEvTake2ToLfTape
import Derived.Test.YtpbbmagjhkakgaaGreatDoorEvWorkToEvTake
namespace Go.Proofs.YtpbbmagjhkakgaaGreatDoor
namespace Lf
open Go Go.Conc Go.RowKit
open Go.Proofs (Tryz.f46 Tryz.f88 Tryz.prog)
variable {w : World}
def fg (w:World) (pa:Option Addr) (cap:Nat) (ps:List bC):Prop :=
 (pa=none/\ps=[]/\cap=0)\/∃ pb po fA mp,pa=some ⟨pb,po,none⟩/\w.heap[pb]? = some (.cells fA 183 mp)/\b5 fA po ps
def SoIn (w:World) (sv:Value) (ps:List bC):Prop:=∃ sb so n cp arr m,sv=.slice (some ⟨sb,so,none⟩) n cp/\w.heap[sb]? = some (.cells arr 4 m)/\∀ p∈ps,arr[so+p.node]? = some (.bool p.v)/\p.node<n
theorem Ms.tag {ss:List bt} (se:∀ s∈ss,eG w s) {b:Nat} (h:Ms ss b):∃ cs t,w.heap[b]? = some (.cells cs t (0,0))/\(t=177\/t=59):=by
 obtain ⟨s,hs,rfl | hb⟩:=h
 ·exact ⟨_,_,(se s hs).1,.inl rfl⟩
 ·obtain ⟨h1,h2 | ⟨g,cap,cur,e1,_,e2,_⟩⟩:=(se s hs).2
  ·rw [h2.1] at hb;cases hb
  ·rw [e1] at hb;cases hb;exact ⟨_,_,e2,.inr rfl⟩
theorem Ms.not {ss:List bt} (se:∀ s∈ss,eG w s) {b:Nat} {cs:Array Value} {t:TypeId} {m:Nat×Nat} (hb:w.heap[b]? = some (.cells cs t m)) (h1:t≠177) (h2:t≠59):¬ Ms ss b:=fun h=>by
 obtain ⟨cs',t',e,ht⟩:=Ms.tag se h
 rw [hb] at e
 injection e with e
 injection e with _ e _
 subst e
 exact ht.elim h1 h2
set_option maxRecDepth 100000 in
theorem rest_any (aj nU:Nat) (pa:Option Addr) (cap:Nat) (num time:Int) (at_ sv:Value) (ss:List bt) (ps:List bC) (hP:fg w pa cap ps) (hS:SoIn w sv ps) (hn:∀ s∈ss,s.n<=1000000) (hN:ps.length<=1000000)
  (hlen:ss.length=ps.length) (hps:∀ (i:Nat) (s:bt) (p:bC),ss[i]? = some s->ps[i]? = some p->p.cG=some ⟨s.cj,0,none⟩) (se:∀ s∈ss,eG w s) (jD:Apart ss) (x1 x2 x3 x4 x5 x6 x7 kX lD lF lG lH lI lJ lK lM lN lO lQ lR lU lV lW lX nk nt nu nw qE x32:Value) (cs:List Frame) (bn:∀ fr∈cs,aA fr) (u9 ki jH jI jJ jK jL jM jN:Value)
  (r1 r2 r3 r4:Value) (hwt:w.heap[aj]? = some (.cells #[r1,r2,r3,r4,.slice pa ps.length cap] 153 (0,0))) (js:w.heap[nU]? = some (.cells #[.int .i64 num,.int .i64 time,at_,sv] 159 (0,0))) :
  af Tryz.prog (fun g w'=>∃ e fr,g=G fr cs/\aA fr/\(e=.returned .nilIface/\qH w w' ss num time ps)/\fr.fn=46/\fr.leaving Tryz.prog w' e) (G ((base 46).at ⟨#[(.pointer (some ⟨aj,0,none⟩)),x1,x2,x3,x4,x5,x6,x7,(.pointer (some ⟨nU,0,none⟩)),u9,kX,lD,lF,lG,lH,lI,lJ,lK,lM,lN,lO,lQ,lR,lU,lV,lW,lX,nk,nt,nu,nw,qE,x32,ki,jH,jI,jJ,jK,jL,jM,jN],[]⟩ [.code midE,.code o6]) cs) w:=by
 have hMl:∀ b,Ms ss b->b<w.heap.size:=fun b hb=>by
  obtain ⟨cs,t,e,_⟩:=Ms.tag se hb
  exact aw e
 obtain ⟨sb,so,n,cp,arr,m,rfl,hsb,jh⟩:=hS
 rcases hP with ⟨rfl,rfl,rfl⟩ | ⟨pb,po,fA,mp,rfl,um,hpat⟩
 ·have H:qJ (w.heap.size+2) (w.heap.size+4) (Ms ss) (fun b=>b=w.heap.size+3\/b=w.heap.size):=by
   refine ⟨by omega,fun b hb=>by have:=hMl b hb;omega,fun b hb=>?_⟩
   rcases hb with rfl | rfl
   ·exact ⟨by omega,by omega,fun h=>by have:=hMl _ h;omega⟩
   ·exact ⟨by omega,by omega,fun h=>by have:=hMl _ h;omega⟩
  refine rest_e aj nU none 0 num time at_ _ ss [] H hn hN hlen hps se jD x1 x2 x3 x4 x5 x6 x7 kX lD lF lG lH lI lJ lK lM lN lO lQ lR lU lV lW lX nk nt nu nw qE x32 cs bn u9 ki jH jI jJ jK jL jM jN r1 r2 r3 r4 hwt js (fun w₁ hw=>?_)
  refine child0_c H _ _ _ _ _ w₁ (by rw [hw,vW];omega) (fun q hq=>?_)
  simp at hq
  rcases hq with rfl | rfl
  ·exact ⟨.inr (.inl rfl),by simp,by rw [hw];exact wGo_p5 _ _ _ _ _ _ _⟩
  ·exact ⟨.inr (.inr rfl),by simp,by rw [hw];exact wGo_p2 _ _ _ _ _ _ _⟩
 ·have l1:=aw um
  have l2:=aw hsb
  have H:qJ (w.heap.size+2) (w.heap.size+4) (Ms ss) (fun b=>b=w.heap.size+3\/b=w.heap.size\/b=w.heap.size+1\/b=pb\/b=sb):=by
   refine ⟨by omega,fun b hb=>by have:=hMl b hb;omega,fun b hb=>?_⟩
   rcases hb with rfl | rfl | rfl | rfl | rfl
   ·exact ⟨by omega,by omega,fun h=>by have:=hMl _ h;omega⟩
   ·exact ⟨by omega,by omega,fun h=>by have:=hMl _ h;omega⟩
   ·exact ⟨by omega,by omega,fun h=>by have:=hMl _ h;omega⟩
   ·exact ⟨by omega,by omega,Ms.not se um (by decide) (by decide)⟩
   ·exact ⟨by omega,by omega,Ms.not se hsb (by decide) (by decide)⟩
  refine rest_e aj nU (some ⟨pb,po,none⟩) cap num time at_ _ ss ps H hn hN hlen hps se jD x1 x2 x3 x4 x5 x6 x7 kX lD lF lG lH lI lJ lK lM lN lO lQ lR lU lV lW lX nk nt nu nw qE x32 cs bn u9 ki jH jI jJ jK jL jM jN r1 r2 r3 r4 hwt js (fun w₁ hw=>?_)
  refine child_c H _ _ _ pb po cap sb so n cp num time at_ fA mp arr m ps hpat (by omega) jh _ _ w₁ (by rw [hw,vW];omega) (fun q hq=>?_)
  simp at hq
  rcases hq with rfl | rfl | rfl | rfl | rfl
  ·exact ⟨.inr (.inl rfl),by simp,by rw [hw];exact wGo_p5 _ _ _ _ _ _ _⟩
  ·exact ⟨.inr (.inr (.inl rfl)),by simp,by rw [hw];exact wGo_p2 _ _ _ _ _ _ _⟩
  ·exact ⟨.inr (.inr (.inr (.inl rfl))),by simp,by rw [hw];exact wGo_p3 _ _ _ _ _ _ _⟩
  ·exact ⟨.inr (.inr (.inr (.inr (.inl rfl)))),by simp;omega,by rw [hw,wGo_old _ _ _ _ _ _ _ l1];exact um⟩
  ·exact ⟨.inr (.inr (.inr (.inr (.inr rfl)))),by simp;omega,by rw [hw,wGo_old _ _ _ _ _ _ _ l2];exact hsb⟩
end Lf
namespace Ev
open Go.RowKit Go.Deep Lf
def Roomy (w:World) (ps:List bC):Prop:=∀ (i:Nat) (p:bC),ps[i]? = some p->∃ cj o n cap,p.cG=some ⟨cj,0,none⟩/\w.heap[cj]? = some (.cells #[.slice o n cap] 177 (0,0))/\n<30
set_option maxHeartbeats 1000000 in
theorem checkEvent_ok (aj:Nat) (ai room:Int) (nv ev:Value) (pa:Option Addr) (aM:Nat) (ps:List bC) (E:List bx) (time:Int) (ao:Option Addr) (A:List ByteArray) (cap:Nat) (w:World) (hw:w.heap[aj]? = some (.cells #[.int .i64 ai,.int .i64 room,nv,ev,.slice pa ps.length aM] 153 (0,0))) (hE:bY w ev E) (hn:E.length<=1000000) (ht:0<=time/\time<=1000000000000) (hr:0<=ai/\ai<=1000000000)
  (hl:∀ e,E.getLast? = some e->e.time<time) (oI:(E.length:Int)-nj (time-ai) E+1<=room) (h:eI w ao A) (hA:A.length<=10) (cW:A.length<=cap) (hN:∀ j,j<A.length->eR (A.getD j ByteArray.empty)) (hD:∀ j,j<A.length->Lib.containsS (A.take j) (A.getD j ByteArray.empty)=false)
  (hP:fg w pa aM ps) (hps:ps.length<=1000000) (hpc:ps.length<=aM) (hS:Roomy w ps) :
  Calls Tryz.prog 86 #[.pointer (some ⟨aj,0,none⟩),.int .i64 time,.slice ao A.length cap] w fun e w'=>e=.returned .nilIface/\Below w.heap.size w w':=by
 have hT:=checkTime_ok aj (.int .i64 ai) (.int .i64 room) nv ev (.slice pa ps.length aM) E time w hw hE hn ht hl
 have hAt:Hid (∀ w',Below w.heap.size w w'->Calls Tryz.prog 126 #[.slice ao A.length cap] w' fun e w''=>e=.returned .nilIface/\Below w'.heap.size w' w''):=fun w' hb=>checkAtoms_ok ao A cap w' (h.below hb) hA cW hN hD
 have hRm:Hid (∀ w',Below w.heap.size w w'->Calls Tryz.prog 128 #[.pointer (some ⟨aj,0,none⟩),.int .i64 time] w' fun e w''=>e=.returned .nilIface/\Below w'.heap.size w' w''):=fun w' hb=>checkRoom_ok aj ai room nv ev (.slice pa ps.length aM) E time w' (hb.aE hw) (hE.below hb) hn ht hr oI
 have cz:=aw hw
 have hc4:Hid (∀ w',Below w.heap.size w w'->w'.cell? ⟨aj,4,none⟩=some (.slice pa ps.length aM)):=fun w' hb=>ae (hb.aE hw) rfl
 generalize hlen:ps.length=n at *
 clear hw hE hl oI h hA cW hN hD hr hn
 go_enter Tryz.func86,Tryz.ntmps86
 go_wp2_with fail
 refine hT.mono ?_
 rintro e w0 ⟨rfl,hw0⟩
 have hw0:=hw0.symm
 subst hw0
 clear hT
 go_wp2_with fail
 refine (hAt.out _ (Below.refl _ _)).mono ?_
 rintro e w1 ⟨rfl,a_⟩
 have q4:=hc4.out w1 a_
 go_wp2_with fail
 go_loopw [29] (fun iv wr=>∃ i:Nat,iv=.int .i64 i/\i<=n/\Below w.heap.size w wr) (fun iv _=>n-(intOf iv).toNat)
 case atStart=>exact ⟨0,rfl,Nat.zero_le _,a_⟩
 case round =>
  clear a_ q4
  obtain ⟨i,rfl,tP,h_⟩:=hrel
  by_cases hi:i<n
  ·have fD:ps[i]? = some ps[i]:=List.getElem?_eq_getElem (by omega)
   obtain ⟨cj,o,k,c,df,hsb,hk⟩:=hS i _ fD
   rcases hP with ⟨_,rfl,_⟩ | ⟨pb,po,fA,mp,rfl,um,hpat⟩
   ·simp at hlen;omega
   ·obtain ⟨p0,p1,p2,p3,p4⟩:=hpat i _ fD
    generalize ps[i]=p at *
    rw [df] at p4
    have hpb':=h_.aE um
    have z0:=ae hpb' p0
    have z1:=ae hpb' p1
    have z2:=ae hpb' p2
    have z3:=ae hpb' p3
    have z4:=ae hpb' p4
    have hF:=isFull_any cj o k c (wr.alloc (.cells #[.string p.name,.pointer p.bV,.int .i64 p.node,.int .i64 p.cu,.pointer (some ⟨cj,0,none⟩)] 183)) ((h_.al _).aE hsb)
    rw [show decide ((k:Int)>=30)=false from decide_eq_false (by omega)] at hF
    have cB:Below w.heap.size w (wr.alloc (.cells #[.string p.name,.pointer p.bV,.int .i64 p.node,.int .i64 p.cu,.pointer (some ⟨cj,0,none⟩)] 183)):=h_.al _
    clear hS hpat um hpb' p0 p1 p2 p3 p4 fD
    go_wp2_with fail
    refine hF.mono ?_
    rintro e w2 ⟨rfl,rfl⟩
    go_wp2_with fail
    go_roundw
    case rel=>exact ⟨i+1,by go_num,by omega,cB⟩
    case measure=>simp only [intOf];omega
  ·obtain rfl:i=n:=by omega
   go_wp2_with fail
   refine (hRm.out _ h_).mono ?_
   rintro e w2 ⟨rfl,cB⟩
   go_wp2_with fail
   go_ret
   exact ⟨rfl,h_.tr cB⟩
structure au (P:Nat->Prop) (w w':World):Prop where
 os:w'.os=w.os
 output:w'.output=w.output
 size:w.heap.size<=w'.heap.size
 block:∀ b,b<w.heap.size->¬ P b->w'.heap[b]? = w.heap[b]?
theorem au.refl (P:Nat->Prop) (w:World):au P w w:=⟨rfl,rfl,Nat.le_refl _,fun _ _ _=>rfl⟩
theorem au.trans {P:Nat->Prop} {a b c:World} (h:au P a b) (k:au P b c):au P a c:=⟨k.os.trans h.os,k.output.trans h.output,Nat.le_trans h.size k.size,fun x hx hp=>(k.block x (Nat.lt_of_lt_of_le hx h.size) hp).trans (h.block x hx hp)⟩
theorem au.aL {P:Nat->Prop} {a b:World} (h:Below a.heap.size a b):au P a b:=⟨h.os,h.output,h.size,fun x hx _=>h.block x hx⟩
theorem au.rL {P:Nat->Prop} {a b:World} (h:aY P a b):au P a b:=⟨h.os,h.output,h.size,h.block⟩
theorem au.mono {P Q:Nat->Prop} {a b:World} (h:au P a b) (hP:∀ x,x<a.heap.size->P x->Q x):au Q a b:=⟨h.os,h.output,h.size,fun x hx hq=>h.block x hx fun e=>hq (hP x hx e)⟩
theorem au.aU {P:Nat->Prop} {a b:World} (h:au P a b) (τ:Tape) (d:Nat):au P a (re b τ d):=⟨h.os,h.output,h.size,h.block⟩
theorem au.tape0 {P:Nat->Prop} {a b:World} {τ:Tape} {d:Nat} (h:au P (re a τ d) b):au P a b:=⟨h.os,h.output,h.size,h.block⟩
structure bj (w:World) (aj:Nat) (ai room:Int) (no:Option Addr) (aI:Nat) (K:List Key) (ea:Option Addr) (az:Nat) (C:List bx) (E:List Pe) (pa:Option Addr) (aM:Nat) (ps:List bC) (ss:List bt):Prop where
 cell:w.heap[aj]? = some (.cells #[.int .i64 ai,.int .i64 room,.slice no K.length aI,.slice ea C.length az,.slice pa ps.length aM] 153 (0,0))
 uC:bY w (.slice ea C.length az) C
 len:C.length=E.length
 ins:∀ (i:Nat) c e,C[i]? = some c->E[i]? = some e->cZ w c e
 typed:∀ c∈C,EvT w c
 few:C.length<=1000
 ret:0<=ai/\ai<=1000000000
 nums:∀ c,C.getLast? = some c->0<=c.number/\c.number<=1000000000
 nfew:K.length<=1000
 ncp:K.length<=aI
 nodes:eB w no K
 oc:∀ a,no=some a->∃ cs m,w.heap[a.block]? = some (.cells cs 226 m)
 core:∀ k∈K,ib k.op
 ahead:qg K
 rows:∀ e∈E,e.so.length=K.length+1
 oX:fg w pa aM ps
 tW:ps.length<=1000
 pcp:ps.length<=aM
 vz:ss.length=ps.length
 pstr:∀ (i:Nat) (s:bt) (p:bC),ss[i]? = some s->ps[i]? = some p->p.cG=some ⟨s.cj,0,none⟩
 sok:∀ s∈ss,eG w s
 apart:Apart ss
 pnode:∀ p∈ps,p.node<=K.length
theorem cZ.aU {w:World} {c:bx} {e:Pe} (h:cZ w c e) (τ:Tape) (d:Nat):cZ (re w τ d) c e :=
 ⟨h.number,h.time,h.low,h.sl,h.slen,h.so,h.al,h.alen,h.atoms⟩
theorem bj.aU {w:World} {aj:Nat} {ai room:Int} {no:Option Addr} {aI:Nat} {K:List Key} {ea:Option Addr} {az:Nat} {C:List bx} {E:List Pe} {pa:Option Addr} {aM:Nat} {ps:List bC} {ss:List bt} (h:bj w aj ai room no aI K ea az C E pa aM ps ss) (τ:Tape) (d:Nat):bj (re w τ d) aj ai room no aI K ea az C E pa aM ps ss :=
 ⟨h.cell,h.uC,h.len,fun i c e h1 h2=>(h.ins i c e h1 h2).aU τ d,fun c hc=>⟨(h.typed c hc).so,(h.typed c hc).ao⟩,h.few,h.ret,h.nums,h.nfew,h.ncp,h.nodes,h.oc,h.core,h.ahead,h.rows,h.oX,h.tW,h.pcp,h.vz,h.pstr,h.sok,h.apart,h.pnode⟩
def Own46 (aj:Nat) (ea:Option Addr) (ss:List bt) (b:Nat):Prop:=b=aj\/(∃ a,ea=some a/\a.block=b)\/Ms ss b
end Ev
namespace Ev
open Go.RowKit Go.Deep Lf Go.Conc
def dn (w:World) (P:Nat->Prop) (ts:List TypeId):Prop:=∀ b cs t m,w.heap[b]? = some (.cells cs t m)->t∈ts->¬ P b
theorem dn.none (w:World) (ts:List TypeId):dn w (fun _=>False) ts:=fun _ _ _ _ _ _ h=>h
theorem dn.less {w:World} {P:Nat->Prop} {ts ts':List TypeId} (h:dn w P ts) (hs:∀ t∈ts',t∈ts):dn w P ts':=fun b cs t m h1 h2=>h b cs t m h1 (hs t h2)
section
variable {w w' : World} {P : Nat → Prop}
theorem au.spare (h:au P w w'):aY P w (re w' w.tape w'.drawn):=⟨h.os,rfl,h.output,h.size,h.block⟩
theorem cZ.move {c:bx} {e:Pe} (h:cZ w c e) (ht:EvT w c) (hs:au P w w') (hk:dn w P [4,9]):cZ w' c e:=by
 have:=h.spare hs.spare (fun a ha=>by obtain ⟨cs,m,k⟩:=ht.so a ha;exact hk _ _ _ _ k (by simp)) (fun a ha=>by obtain ⟨cs,m,k⟩:=ht.ao a ha;exact hk _ _ _ _ k (by simp))
 exact ⟨this.number,this.time,this.low,this.sl,this.slen,this.so,this.al,this.alen,this.atoms⟩
theorem EvT.move {c:bx} (ht:EvT w c) (hs:au P w w') (hk:dn w P [4,9]):EvT w' c:=by
 have:=ht.spare hs.spare (fun a ha=>by obtain ⟨cs,m,k⟩:=ht.so a ha;exact hk _ _ _ _ k (by simp)) (fun a ha=>by obtain ⟨cs,m,k⟩:=ht.ao a ha;exact hk _ _ _ _ k (by simp))
 exact ⟨this.so,this.ao⟩
theorem au.get (hs:au P w w') {b:Nat} {o:Obj} (h:w.heap[b]? = some o) (hp:¬ P b):w'.heap[b]? = some o:=(hs.block b (aw h) hp).trans h
theorem eB.move {no:Option Addr} {K:List Key} (h:eB w no K) (ht:∀ a,no=some a->∃ cs m,w.heap[a.block]? = some (.cells cs 226 m)) (hs:au P w w') (hk:dn w P [226]):eB w' no K:=by
 have:=h.spare hs.spare (fun a ha=>by obtain ⟨cs,m,k⟩:=ht a ha;exact hk _ _ _ _ k (by simp))
 exact this
theorem typed.move {no:Option Addr} {t:TypeId} (ht:∀ a,no=some a->∃ cs m,w.heap[a.block]? = some (.cells cs t m)) (hs:au P w w') (hk:dn w P [t]):∀ a,no=some a->∃ cs m,w'.heap[a.block]? = some (.cells cs t m):=fun a ha=>by
 obtain ⟨cs,m,k⟩:=ht a ha
 exact ⟨cs,m,hs.get k (hk _ _ _ _ k (by simp))⟩
theorem fg.move {pa:Option Addr} {aM:Nat} {ps:List bC} (h:fg w pa aM ps) (hs:au P w w') (hk:dn w P [183]):fg w' pa aM ps:=by
 rcases h with h | ⟨pb,po,fA,mp,h1,h2,h3⟩
 ·exact .inl h
 ·exact .inr ⟨pb,po,fA,mp,h1,hs.get h2 (hk _ _ _ _ h2 (by simp)),h3⟩
theorem eG.move {s:bt} (h:eG w s) (hs:au P w w') (hk:dn w P [177,59]):eG w' s:=by
 refine h.heap fun b hb hm=>hs.block b hb ?_
 rcases hm with rfl | hm
 ·exact hk _ _ _ _ h.1 (by simp)
 ·obtain ⟨_,⟨h2,_⟩ | ⟨g,cp,cur,e1,_,e2,_⟩⟩:=h.2
  ·rw [h2] at hm;cases hm
  ·rw [e1] at hm;cases hm;exact hk _ _ _ _ e2 (by simp)
theorem bY.move {ev:Value} {C:List bx} (h:bY w ev C) (hs:au P w w') (hk:dn w P [159]):bY w' ev C :=
 dw h fun b hb=>hs.block b (h.lt b hb).2 (by obtain ⟨cur,hc⟩:=dG h hb;exact hk _ _ _ _ hc (by simp))
theorem eI.move {ao:Option Addr} {A:List ByteArray} (h:eI w ao A) (hs:au (fun _=>False) w w'):eI w' ao A:=fun hne=>by
 obtain ⟨b,off,h1,h2,h3⟩:=h hne
 exact ⟨b,off,h1,Nat.lt_of_lt_of_le h2 hs.size,fun j hj=>by rw [World.cell?_of_block (hs.block b h2 (fun x=>x))];exact h3 j hj⟩
theorem bj.move {aj:Nat} {ai room:Int} {no:Option Addr} {aI:Nat} {K:List Key} {ea:Option Addr} {az:Nat} {C:List bx} {E:List Pe} {pa:Option Addr} {aM:Nat} {ps:List bC} {ss:List bt} (h:bj w aj ai room no aI K ea az C E pa aM ps ss) (hs:au P w w') (hk:dn w P [4,9,226,183,177,59,159,153]):bj w' aj ai room no aI K ea az C E pa aM ps ss :=
 { h with
  cell:=hs.get h.cell (hk _ _ _ _ h.cell (by simp))
  uC:=h.uC.move hs (hk.less (by simp))
  ins:=fun i c e h1 h2=>(h.ins i c e h1 h2).move (h.typed c (List.mem_of_getElem? h1)) hs (hk.less (by simp))
  typed:=fun c hc=>(h.typed c hc).move hs (hk.less (by simp))
  nodes:=h.nodes.move h.oc hs (hk.less (by simp))
  oc:=typed.move h.oc hs (hk.less (by simp))
  oX:=fg.move h.oX hs (hk.less (by simp))
  sok:=fun s qp=>eG.move (h.sok s qp) hs (hk.less (by simp)) }
end
theorem polsAt_says {fA:Array Value} {po:Nat} {ps:List bC} (f:bC->Bool) (h:b5 fA po ps):b5 fA po (ps.map fun p=>{ p with v:=f p }):=fun j p hp=>by
 simp at hp
 obtain ⟨q,hq,rfl⟩:=hp
 exact h j q hq
theorem polsIn_says {w:World} {pa:Option Addr} {aM:Nat} {ps:List bC} (f:bC->Bool) (h:fg w pa aM ps):fg w pa aM (ps.map fun p=>{ p with v:=f p }):=by
 rcases h with ⟨h1,h2,h3⟩ | ⟨pb,po,fA,mp,h1,h2,h3⟩
 ·exact .inl ⟨h1,by rw [h2];rfl,h3⟩
 ·exact .inr ⟨pb,po,fA,mp,h1,h2,polsAt_says f h3⟩
end Ev
section
open Go.RowKit
def WindowEnd (rb:Nat) (w:World) (res:Option ((Int×Int)×List Tok)) (e:Ending) (w':World):Prop :=
 Only rb w w'/\((∃ a b r,res=some ((a,b),r)/\e=.returned (.tuple #[.agg #[.int .i64 a,.int .i64 b],.nilIface])/\gj 208 rb w' r)
  \/(res=none/\∃ fa,e=.returned (.tuple #[.agg #[.int .i64 0,.int .i64 0],.iface 201 (.pointer (some fa))])))
set_option maxHeartbeats 400000 in
theorem window_none (rb:Nat) (ts:List Tok) (op:Int) (w:World) (h:gj 208 rb w ts) (hw:lC op=false) :
  Calls Tryz.prog 186 #[.pointer (some ⟨rb,0,none⟩),.int .i32 op] w (WindowEnd rb w (bX op ts)):=by
 have hF:bX op ts=some ((0,0),ts):=by unfold bX;rw [hw];rfl
 rw [hF]
 clear hF
 go_enter Tryz.func186,Tryz.ntmps186
 go_wp2_with fail
 refine (sY op _).mono ?_
 rintro e w1 ⟨rfl,rfl⟩
 go_wp2_with fail
 refine bodyPost_ret (v:=.tuple #[.agg #[.int .i64 0,.int .i64 0],.nilIface]) (by simp [results,Tryz.results186,go_sem]) rfl ⟨?_,.inl ⟨0,0,ts,rfl,rfl,?_⟩⟩
 ·exact (Only.refl _ _).alloc _
 ·exact h.alloc _
set_option maxHeartbeats 2000000 in
theorem window_some (rb:Nat) (ts:List Tok) (op:Int) (w:World) (h:gj 208 rb w ts) (he:Ends ts) (hw:lC op=true) (hg:eh w) (qx:14<=rb) :
  Calls Tryz.prog 186 #[.pointer (some ⟨rb,0,none⟩),.int .i32 op] w (WindowEnd rb w (bX op ts)):=by
 have hrl:=h.lt
 obtain ⟨t0,r0,hts⟩:=he.cons
 obtain ⟨v,hv,rE⟩:=id h
 rw [hts] at rE
 obtain ⟨tb,off,cap,hvv,htb,cW,hmax,qy,hp1,hx2,hx3⟩:=toks_head rE
 clear qy hx2 hx3
 subst hvv
 have hc:w.cell? ⟨rb,0,none⟩=some (.slice (some ⟨tb,off,none⟩) (r0.length+1) cap):=ae hv rfl
 have htl:tb<w.heap.size:=by omega
 generalize t0.place=pl at hp1
 clear rE hv hts
 have hF:Hid (bX op ts=match bm 91 ts with
  | none=>none
  | some t1=>match p8 t1 with
   | none=>none
   | some (a,t2)=>match bm 44 t2 with
    | none=>none
    | some t3=>match p8 t3 with
     | none=>none
     | some (b,t4)=>match bm 93 t4 with
      | none=>none
      | some t5=>if b<a then none else some ((a,b),t5)):=by show _=_;unfold bX;rw [hw];rfl
 generalize bX op ts=res at *
 go_enter Tryz.func186,Tryz.ntmps186
 go_wp2_with fail
 refine (sY op _).mono ?_
 rintro e w1 ⟨rfl,rfl⟩
 go_wp2_with fail
 have k0:=aB w (.cells #[.int .i64 0,.int .i64 0] 140 (0,0)) _ rfl
 have g0:eh (w.alloc (.cells #[.int .i64 0,.int .i64 0] 140)):=hg.below ((Below.refl _ _).al _)
 have o0:Only rb w (w.alloc (.cells #[.int .i64 0,.int .i64 0] 140)):=(Only.refl _ _).alloc _
 clear hc hp1 cW hmax htb htl hg
 have hr0:=h.alloc (.cells #[.int .i64 0,.int .i64 0] 140)
 have e0:=he
 clear h he
 refine (mA rb ts 91 _ _ hr0 e0).mono ?_
 rintro e w1 ⟨kK,⟨t1,h1,rfl,hr1⟩ | ⟨h1,fa,rfl⟩⟩
 rotate_left
 ·have k1:=kK.heap k0 (by omega)
  have o1:=o0.trans kK
  clear kK
  have c0:=ae (i:=0) k1 rfl
  have c1:=ae (i:=1) k1 rfl
  have f0:w1.frozen? ⟨w.heap.size,0,none⟩=false:=Lib.frozen_of_heap k1 0
  have f1:w1.frozen? ⟨w.heap.size,1,none⟩=false:=Lib.frozen_of_heap k1 1
  clear k0 k1
  go_wp2_with fail
  refine bodyPost_ret (v:=.tuple #[.agg #[.int .i64 0,.int .i64 0],.iface 201 (.pointer (some fa))]) (by simp [results,Tryz.results186,go_sem,c0,c1]) rfl ⟨?_,.inr ⟨by rw [hF.out];simp only [h1],fa,rfl⟩⟩
  exact (o1.setCell (p:=⟨w.heap.size,0,none⟩) (.inr (Nat.le_refl _)) _).setCell (p:=⟨w.heap.size,1,none⟩) (.inr (Nat.le_refl _)) _
 have k1:=kK.heap k0 (by omega)
 have o1:=o0.trans kK
 have g1:=g0.only kK qx
 have e1:=(e0.expect h1).1
 clear k0 o0 g0 hr0 e0 kK
 go_wp2_with fail
 refine (fU rb t1 _ hr1 e1 g1 qx).mono ?_
 rintro e w2 ⟨jE,⟨a,t2,h2,rfl,u7⟩ | ⟨h2,fa,rfl⟩⟩
 rotate_left
 ·have k2:=jE.heap k1 (by omega)
  have o2:=o1.trans jE
  clear jE
  have c0:=ae (i:=0) k2 rfl
  have c1:=ae (i:=1) k2 rfl
  have f0:w2.frozen? ⟨w.heap.size,0,none⟩=false:=Lib.frozen_of_heap k2 0
  have f1:w2.frozen? ⟨w.heap.size,1,none⟩=false:=Lib.frozen_of_heap k2 1
  clear k1 k2
  go_wp2_with fail
  refine bodyPost_ret (v:=.tuple #[.agg #[.int .i64 0,.int .i64 0],.iface 201 (.pointer (some fa))]) (by simp [results,Tryz.results186,go_sem,c0,c1]) rfl ⟨?_,.inr ⟨by rw [hF.out];simp only [h1,h2],fa,rfl⟩⟩
  exact (o2.setCell (p:=⟨w.heap.size,0,none⟩) (.inr (Nat.le_refl _)) _).setCell (p:=⟨w.heap.size,1,none⟩) (.inr (Nat.le_refl _)) _
 have k2:=jE.heap k1 (by omega)
 have o2:=o1.trans jE
 have g2:=g1.only jE qx
 have e2:=(e1.num h2).1
 clear k1 o1 g1 hr1 e1 jE
 go_wp2_with fail
 refine (mA rb t2 44 _ _ u7 e2).mono ?_
 rintro e w3 ⟨n_,⟨t3,h3,rfl,hr3⟩ | ⟨h3,fa,rfl⟩⟩
 rotate_left
 ·have k3:=n_.heap k2 (by omega)
  have o3:=o2.trans n_
  clear n_
  have c0:=ae (i:=0) k3 rfl
  have c1:=ae (i:=1) k3 rfl
  have f0:w3.frozen? ⟨w.heap.size,0,none⟩=false:=Lib.frozen_of_heap k3 0
  have f1:w3.frozen? ⟨w.heap.size,1,none⟩=false:=Lib.frozen_of_heap k3 1
  clear k2 k3
  go_wp2_with fail
  refine bodyPost_ret (v:=.tuple #[.agg #[.int .i64 0,.int .i64 0],.iface 201 (.pointer (some fa))]) (by simp [results,Tryz.results186,go_sem,c0,c1]) rfl ⟨?_,.inr ⟨by rw [hF.out];simp only [h1,h2,h3],fa,rfl⟩⟩
  exact (o3.setCell (p:=⟨w.heap.size,0,none⟩) (.inr (Nat.le_refl _)) _).setCell (p:=⟨w.heap.size,1,none⟩) (.inr (Nat.le_refl _)) _
 have k3:=n_.heap k2 (by omega)
 have o3:=o2.trans n_
 have g3:=g2.only n_ qx
 have e3:=(e2.expect h3).1
 clear k2 o2 g2 u7 e2 n_
 go_wp2_with fail
 refine (fU rb t3 _ hr3 e3 g3 qx).mono ?_
 rintro e w4 ⟨ho4,⟨b,t4,h4,rfl,hr4⟩ | ⟨h4,fa,rfl⟩⟩
 rotate_left
 ·have k4:=ho4.heap k3 (by omega)
  have o4:=o3.trans ho4
  clear ho4
  have c0:=ae (i:=0) k4 rfl
  have c1:=ae (i:=1) k4 rfl
  have f0:w4.frozen? ⟨w.heap.size,0,none⟩=false:=Lib.frozen_of_heap k4 0
  have f1:w4.frozen? ⟨w.heap.size,1,none⟩=false:=Lib.frozen_of_heap k4 1
  clear k3 k4
  go_wp2_with fail
  refine bodyPost_ret (v:=.tuple #[.agg #[.int .i64 0,.int .i64 0],.iface 201 (.pointer (some fa))]) (by simp [results,Tryz.results186,go_sem,c0,c1]) rfl ⟨?_,.inr ⟨by rw [hF.out];simp only [h1,h2,h3,h4],fa,rfl⟩⟩
  exact (o4.setCell (p:=⟨w.heap.size,0,none⟩) (.inr (Nat.le_refl _)) _).setCell (p:=⟨w.heap.size,1,none⟩) (.inr (Nat.le_refl _)) _
 have k4:=ho4.heap k3 (by omega)
 have o4:=o3.trans ho4
 have g4:=g3.only ho4 qx
 have e4:=(e3.num h4).1
 clear k3 o3 g3 hr3 e3 ho4
 go_wp2_with fail
 refine (mA rb t4 93 _ _ hr4 e4).mono ?_
 rintro e w5 ⟨ho5,⟨t5,h5,rfl,hr5⟩ | ⟨h5,fa,rfl⟩⟩
 rotate_left
 ·have k5:=ho5.heap k4 (by omega)
  have o5:=o4.trans ho5
  clear ho5
  have c0:=ae (i:=0) k5 rfl
  have c1:=ae (i:=1) k5 rfl
  have f0:w5.frozen? ⟨w.heap.size,0,none⟩=false:=Lib.frozen_of_heap k5 0
  have f1:w5.frozen? ⟨w.heap.size,1,none⟩=false:=Lib.frozen_of_heap k5 1
  clear k4 k5
  go_wp2_with fail
  refine bodyPost_ret (v:=.tuple #[.agg #[.int .i64 0,.int .i64 0],.iface 201 (.pointer (some fa))]) (by simp [results,Tryz.results186,go_sem,c0,c1]) rfl ⟨?_,.inr ⟨by rw [hF.out];simp only [h1,h2,h3,h4,h5],fa,rfl⟩⟩
  exact (o5.setCell (p:=⟨w.heap.size,0,none⟩) (.inr (Nat.le_refl _)) _).setCell (p:=⟨w.heap.size,1,none⟩) (.inr (Nat.le_refl _)) _
 have k5:=ho5.heap k4 (by omega)
 have o5:=o4.trans ho5
 have g5:=g4.only ho5 qx
 have e5:=(e4.expect h5).1
 clear k4 o4 g4 hr4 e4 ho5
 have c0:=ae (i:=0) k5 rfl
 have c1:=ae (i:=1) k5 rfl
 have f0:w5.frozen? ⟨w.heap.size,0,none⟩=false:=Lib.frozen_of_heap k5 0
 have f1:w5.frozen? ⟨w.heap.size,1,none⟩=false:=Lib.frozen_of_heap k5 1
 have cz:w.heap.size<w5.heap.size:=aw k5
 have hF2:Hid (res=if b<a then none else some ((a,b),t5)):=by show _=_;rw [hF.out];simp only [h1,h2,h3,h4,h5]
 clear hF h1 h2 h3 h4 h5
 by_cases hba:b<a
 ·go_wp2_with fail
  refine bodyPost_ret (v:=.tuple #[.agg #[.int .i64 0,.int .i64 0],.iface 201 (.pointer (some ⟨w5.heap.size,0,none⟩))]) (by simp [results,Tryz.results186,go_sem,c0,c1,cz]) rfl ⟨?_,.inr ⟨by rw [hF2.out,if_pos hba],_,rfl⟩⟩
  exact ((o5.setCell (p:=⟨w.heap.size,0,none⟩) (.inr (Nat.le_refl _)) _).setCell (p:=⟨w.heap.size,1,none⟩) (.inr (Nat.le_refl _)) _).alloc _
 ·go_wp2_with fail
  refine bodyPost_ret (v:=.tuple #[.agg #[.int .i64 a,.int .i64 b],.nilIface]) (by simp [results,Tryz.results186,go_sem,c0,c1]) rfl ⟨?_,.inl ⟨a,b,t5,by rw [hF2.out,if_neg (by omega)],rfl,?_⟩⟩
  ·exact (o5.setCell (p:=⟨w.heap.size,0,none⟩) (.inr (Nat.le_refl _)) _).setCell (p:=⟨w.heap.size,1,none⟩) (.inr (Nat.le_refl _)) _
  ·exact (hr5.setCell (p:=⟨w.heap.size,0,none⟩) hrl _).setCell (p:=⟨w.heap.size,1,none⟩) hrl _
theorem window_any (rb:Nat) (ts:List Tok) (op:Int) (w:World) (h:gj 208 rb w ts) (he:Ends ts) (hg:eh w) (qx:14<=rb) :
  Calls Tryz.prog 186 #[.pointer (some ⟨rb,0,none⟩),.int .i32 op] w (WindowEnd rb w (bX op ts)):=by
 cases hw:lC op with
 | true=>exact window_some rb ts op w h he hw hg qx
 | false=>exact window_none rb ts op w h hw
end
end Go.Proofs.YtpbbmagjhkakgaaGreatDoor
