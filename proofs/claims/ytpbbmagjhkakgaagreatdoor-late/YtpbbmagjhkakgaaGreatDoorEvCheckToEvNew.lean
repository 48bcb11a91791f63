import Derived.Test.YtpbbmagjhkakgaaGreatDoorEvRepToEvOnce
import Derived.Test.YtpbbmagjhkakgaaGreatDoorLfGoToLfRestAny
import Derived.Test.YtpbbmagjhkakgaaGreatDoorEvCopyToEvTake3
import Derived.Test.YtpbbmagjhkakgaaGreatDoorFace
namespace Go.Proofs.YtpbbmagjhkakgaaGreatDoor.Ev
open Go.RowKit Go.Deep Go.Proofs.YtpbbmagjhkakgaaGreatDoor.Lf
def Roomy (w:World) (ps:List Pol):Prop:=∀ (i:Nat) (p:Pol),ps[i]? = some p->∃ stb o n cap,p.strm=some ⟨stb,0,none⟩/\w.heap[stb]? = some (.cells #[.slice o n cap] 177 (0,0))/\n<30
set_option maxHeartbeats 1000000 in
theorem checkEvent_ok (wtb:Nat) (retain room:Int) (nv ev:Value) (pa:Option Addr) (pcap:Nat) (ps:List Pol) (E:List EvC) (time:Int) (ao:Option Addr) (A:List ByteArray) (cap:Nat) (w:World) (hw:w.heap[wtb]? = some (.cells #[.int .i64 retain,.int .i64 room,nv,ev,.slice pa ps.length pcap] 153 (0,0))) (hE:EvsAt w ev E) (hn:E.length<=1000000) (ht:0<=time/\time<=1000000000000) (hr:0<=retain/\retain<=1000000000)
  (hl:∀ e,E.getLast? = some e->e.time<time) (hroom:(E.length:Int)-oldF (time-retain) E+1<=room) (h:StrsIn w ao A) (hA:A.length<=10) (hcap:A.length<=cap) (hN:∀ j,j<A.length->NameOK (A.getD j ByteArray.empty)) (hD:∀ j,j<A.length->Lib.containsS (A.take j) (A.getD j ByteArray.empty)=false)
  (hP:PolsIn w pa pcap ps) (hps:ps.length<=1000000) (hpc:ps.length<=pcap) (hS:Roomy w ps) :
  Calls Tryz.prog 86 #[.pointer (some ⟨wtb,0,none⟩),.int .i64 time,.slice ao A.length cap] w fun e w'=>e=.returned .nilIface/\Below w.heap.size w w':=by
 have hT:=checkTime_ok wtb (.int .i64 retain) (.int .i64 room) nv ev (.slice pa ps.length pcap) E time w hw hE hn ht hl
 have hAt:Hid (∀ w',Below w.heap.size w w'->Calls Tryz.prog 126 #[.slice ao A.length cap] w' fun e w''=>e=.returned .nilIface/\Below w'.heap.size w' w''):=fun w' hb=>checkAtoms_ok ao A cap w' (h.below hb) hA hcap hN hD
 have hRm:Hid (∀ w',Below w.heap.size w w'->Calls Tryz.prog 128 #[.pointer (some ⟨wtb,0,none⟩),.int .i64 time] w' fun e w''=>e=.returned .nilIface/\Below w'.heap.size w' w''):=fun w' hb=>checkRoom_ok wtb retain room nv ev (.slice pa ps.length pcap) E time w' (hb.heapOf hw) (hE.below hb) hn ht hr hroom
 have hlt:=heap_lt hw
 have hc4:Hid (∀ w',Below w.heap.size w w'->w'.cell? ⟨wtb,4,none⟩=some (.slice pa ps.length pcap)):=fun w' hb=>cell_at (hb.heapOf hw) rfl
 generalize hlen:ps.length=n at *
 clear hw hE hl hroom h hA hcap hN hD hr hn
 go_enter Tryz.func86,Tryz.ntmps86
 go_wp2_with fail
 refine hT.mono ?_
 rintro e w0 ⟨rfl,hw0⟩
 have hw0:=hw0.symm
 subst hw0
 clear hT
 go_wp2_with fail
 refine (hAt.out _ (Below.refl _ _)).mono ?_
 rintro e w1 ⟨rfl,hb1⟩
 have q4:=hc4.out w1 hb1
 go_wp2_with fail
 go_loopw [29] (fun iv wr=>∃ i:Nat,iv=.int .i64 i/\i<=n/\Below w.heap.size w wr) (fun iv _=>n-(intOf iv).toNat)
 case atStart=>exact ⟨0,rfl,Nat.zero_le _,hb1⟩
 case round =>
  clear hb1 q4
  obtain ⟨i,rfl,hin,hbw⟩:=hrel
  by_cases hi:i<n
  ·have hget:ps[i]? = some ps[i]:=List.getElem?_eq_getElem (by omega)
   obtain ⟨stb,o,k,c,hst,hsb,hk⟩:=hS i _ hget
   rcases hP with ⟨_,rfl,_⟩ | ⟨pb,po,parr,mp,rfl,hpb,hpat⟩
   ·simp at hlen;omega
   ·obtain ⟨p0,p1,p2,p3,p4⟩:=hpat i _ hget
    generalize ps[i]=p at *
    rw [hst] at p4
    have hpb':=hbw.heapOf hpb
    have z0:=cell_at hpb' p0
    have z1:=cell_at hpb' p1
    have z2:=cell_at hpb' p2
    have z3:=cell_at hpb' p3
    have z4:=cell_at hpb' p4
    have hF:=isFull_any stb o k c (wr.alloc (.cells #[.string p.name,.pointer p.sent,.int .i64 p.node,.int .i64 p.ver,.pointer (some ⟨stb,0,none⟩)] 183)) ((hbw.al _).heapOf hsb)
    rw [show decide ((k:Int)>=30)=false from decide_eq_false (by omega)] at hF
    have hb2:Below w.heap.size w (wr.alloc (.cells #[.string p.name,.pointer p.sent,.int .i64 p.node,.int .i64 p.ver,.pointer (some ⟨stb,0,none⟩)] 183)):=hbw.al _
    clear hS hpat hpb hpb' p0 p1 p2 p3 p4 hget
    go_wp2_with fail
    refine hF.mono ?_
    rintro e w2 ⟨rfl,rfl⟩
    go_wp2_with fail
    go_roundw
    case rel=>exact ⟨i+1,by go_num,by omega,hb2⟩
    case measure=>simp only [intOf];omega
  ·obtain rfl:i=n:=by omega
   go_wp2_with fail
   refine (hRm.out _ hbw).mono ?_
   rintro e w2 ⟨rfl,hb2⟩
   go_wp2_with fail
   go_ret
   exact ⟨rfl,hbw.tr hb2⟩
structure SpareR (P:Nat->Prop) (w w':World):Prop where
 os:w'.os=w.os
 output:w'.output=w.output
 size:w.heap.size<=w'.heap.size
 block:∀ b,b<w.heap.size->¬ P b->w'.heap[b]? = w.heap[b]?
theorem SpareR.refl (P:Nat->Prop) (w:World):SpareR P w w:=⟨rfl,rfl,Nat.le_refl _,fun _ _ _=>rfl⟩
theorem SpareR.trans {P:Nat->Prop} {a b c:World} (h:SpareR P a b) (k:SpareR P b c):SpareR P a c:=⟨k.os.trans h.os,k.output.trans h.output,Nat.le_trans h.size k.size,fun x hx hp=>(k.block x (Nat.lt_of_lt_of_le hx h.size) hp).trans (h.block x hx hp)⟩
theorem SpareR.of_below {P:Nat->Prop} {a b:World} (h:Below a.heap.size a b):SpareR P a b:=⟨h.os,h.output,h.size,fun x hx _=>h.block x hx⟩
theorem SpareR.of_spare {P:Nat->Prop} {a b:World} (h:Spare P a b):SpareR P a b:=⟨h.os,h.output,h.size,h.block⟩
theorem SpareR.mono {P Q:Nat->Prop} {a b:World} (h:SpareR P a b) (hP:∀ x,x<a.heap.size->P x->Q x):SpareR Q a b:=⟨h.os,h.output,h.size,fun x hx hq=>h.block x hx fun e=>hq (hP x hx e)⟩
theorem SpareR.tapeR {P:Nat->Prop} {a b:World} (h:SpareR P a b) (τ:Tape) (d:Nat):SpareR P a (re b τ d):=⟨h.os,h.output,h.size,h.block⟩
theorem SpareR.tape0 {P:Nat->Prop} {a b:World} {τ:Tape} {d:Nat} (h:SpareR P (re a τ d) b):SpareR P a b:=⟨h.os,h.output,h.size,h.block⟩
structure WatchAt (w:World) (wtb:Nat) (retain room:Int) (no:Option Addr) (ncap:Nat) (K:List Key) (ea:Option Addr) (ecap:Nat) (C:List EvC) (E:List Pe) (pa:Option Addr) (pcap:Nat) (ps:List Pol) (ss:List Strm):Prop where
 cell:w.heap[wtb]? = some (.cells #[.int .i64 retain,.int .i64 room,.slice no K.length ncap,.slice ea C.length ecap,.slice pa ps.length pcap] 153 (0,0))
 evs:EvsAt w (.slice ea C.length ecap) C
 len:C.length=E.length
 ins:∀ (i:Nat) c e,C[i]? = some c->E[i]? = some e->EvIn w c e
 typed:∀ c∈C,EvT w c
 few:C.length<=1000
 ret:0<=retain/\retain<=1000000000
 nums:∀ c,C.getLast? = some c->0<=c.number/\c.number<=1000000000
 nfew:K.length<=1000
 ncp:K.length<=ncap
 nodes:NodesIn w no K
 ntyped:∀ a,no=some a->∃ cs m,w.heap[a.block]? = some (.cells cs 226 m)
 core:∀ k∈K,CoreOp k.op
 ahead:Ahead K
 rows:∀ e∈E,e.so.length=K.length+1
 pols:PolsIn w pa pcap ps
 pfew:ps.length<=1000
 pcp:ps.length<=pcap
 plen:ss.length=ps.length
 pstr:∀ (i:Nat) (s:Strm) (p:Pol),ss[i]? = some s->ps[i]? = some p->p.strm=some ⟨s.stb,0,none⟩
 sok:∀ s∈ss,StrOK w s
 apart:Apart ss
 pnode:∀ p∈ps,p.node<=K.length
theorem EvIn.tapeR {w:World} {c:EvC} {e:Pe} (h:EvIn w c e) (τ:Tape) (d:Nat):EvIn (re w τ d) c e :=
 ⟨h.number,h.time,h.low,h.sl,h.slen,h.so,h.al,h.alen,h.atoms⟩
theorem WatchAt.tapeR {w:World} {wtb:Nat} {retain room:Int} {no:Option Addr} {ncap:Nat} {K:List Key} {ea:Option Addr} {ecap:Nat} {C:List EvC} {E:List Pe} {pa:Option Addr} {pcap:Nat} {ps:List Pol} {ss:List Strm} (h:WatchAt w wtb retain room no ncap K ea ecap C E pa pcap ps ss) (τ:Tape) (d:Nat):WatchAt (re w τ d) wtb retain room no ncap K ea ecap C E pa pcap ps ss :=
 ⟨h.cell,h.evs,h.len,fun i c e h1 h2=>(h.ins i c e h1 h2).tapeR τ d,fun c hc=>⟨(h.typed c hc).so,(h.typed c hc).ao⟩,h.few,h.ret,h.nums,h.nfew,h.ncp,h.nodes,h.ntyped,h.core,h.ahead,h.rows,h.pols,h.pfew,h.pcp,h.plen,h.pstr,h.sok,h.apart,h.pnode⟩
def Own46 (wtb:Nat) (ea:Option Addr) (ss:List Strm) (b:Nat):Prop:=b=wtb\/(∃ a,ea=some a/\a.block=b)\/Ms ss b
end Go.Proofs.YtpbbmagjhkakgaaGreatDoor.Ev
namespace Go.Proofs.YtpbbmagjhkakgaaGreatDoor.Ev
open Go.RowKit Go.Deep Go.Proofs.YtpbbmagjhkakgaaGreatDoor.Lf Go.Conc
def Kinds (w:World) (P:Nat->Prop) (ts:List TypeId):Prop:=∀ b cs t m,w.heap[b]? = some (.cells cs t m)->t∈ts->¬ P b
theorem Kinds.none (w:World) (ts:List TypeId):Kinds w (fun _=>False) ts:=fun _ _ _ _ _ _ h=>h
theorem Kinds.less {w:World} {P:Nat->Prop} {ts ts':List TypeId} (h:Kinds w P ts) (hs:∀ t∈ts',t∈ts):Kinds w P ts':=fun b cs t m h1 h2=>h b cs t m h1 (hs t h2)
section
variable {w w' : World} {P : Nat → Prop}
theorem SpareR.spare (h:SpareR P w w'):Spare P w (re w' w.tape w'.drawn):=⟨h.os,rfl,h.output,h.size,h.block⟩
theorem EvIn.move {c:EvC} {e:Pe} (h:EvIn w c e) (ht:EvT w c) (hs:SpareR P w w') (hk:Kinds w P [4,9]):EvIn w' c e:=by
 have:=h.spare hs.spare (fun a ha=>by obtain ⟨cs,m,k⟩:=ht.so a ha;exact hk _ _ _ _ k (by simp)) (fun a ha=>by obtain ⟨cs,m,k⟩:=ht.ao a ha;exact hk _ _ _ _ k (by simp))
 exact ⟨this.number,this.time,this.low,this.sl,this.slen,this.so,this.al,this.alen,this.atoms⟩
theorem EvT.move {c:EvC} (ht:EvT w c) (hs:SpareR P w w') (hk:Kinds w P [4,9]):EvT w' c:=by
 have:=ht.spare hs.spare (fun a ha=>by obtain ⟨cs,m,k⟩:=ht.so a ha;exact hk _ _ _ _ k (by simp)) (fun a ha=>by obtain ⟨cs,m,k⟩:=ht.ao a ha;exact hk _ _ _ _ k (by simp))
 exact ⟨this.so,this.ao⟩
theorem SpareR.get (hs:SpareR P w w') {b:Nat} {o:Obj} (h:w.heap[b]? = some o) (hp:¬ P b):w'.heap[b]? = some o:=(hs.block b (heap_lt h) hp).trans h
theorem NodesIn.move {no:Option Addr} {K:List Key} (h:NodesIn w no K) (ht:∀ a,no=some a->∃ cs m,w.heap[a.block]? = some (.cells cs 226 m)) (hs:SpareR P w w') (hk:Kinds w P [226]):NodesIn w' no K:=by
 have:=h.spare hs.spare (fun a ha=>by obtain ⟨cs,m,k⟩:=ht a ha;exact hk _ _ _ _ k (by simp))
 exact this
theorem typed.move {no:Option Addr} {t:TypeId} (ht:∀ a,no=some a->∃ cs m,w.heap[a.block]? = some (.cells cs t m)) (hs:SpareR P w w') (hk:Kinds w P [t]):∀ a,no=some a->∃ cs m,w'.heap[a.block]? = some (.cells cs t m):=fun a ha=>by
 obtain ⟨cs,m,k⟩:=ht a ha
 exact ⟨cs,m,hs.get k (hk _ _ _ _ k (by simp))⟩
theorem PolsIn.move {pa:Option Addr} {pcap:Nat} {ps:List Pol} (h:PolsIn w pa pcap ps) (hs:SpareR P w w') (hk:Kinds w P [183]):PolsIn w' pa pcap ps:=by
 rcases h with h | ⟨pb,po,parr,mp,h1,h2,h3⟩
 ·exact .inl h
 ·exact .inr ⟨pb,po,parr,mp,h1,hs.get h2 (hk _ _ _ _ h2 (by simp)),h3⟩
theorem StrOK.move {s:Strm} (h:StrOK w s) (hs:SpareR P w w') (hk:Kinds w P [177,59]):StrOK w' s:=by
 refine h.heap fun b hb hm=>hs.block b hb ?_
 rcases hm with rfl | hm
 ·exact hk _ _ _ _ h.1 (by simp)
 ·obtain ⟨_,⟨h2,_⟩ | ⟨g,cp,cur,e1,_,e2,_⟩⟩:=h.2
  ·rw [h2] at hm;cases hm
  ·rw [e1] at hm;cases hm;exact hk _ _ _ _ e2 (by simp)
theorem EvsAt.move {ev:Value} {C:List EvC} (h:EvsAt w ev C) (hs:SpareR P w w') (hk:Kinds w P [159]):EvsAt w' ev C :=
 own_heap h fun b hb=>hs.block b (h.lt b hb).2 (by obtain ⟨cur,hc⟩:=own_tag h hb;exact hk _ _ _ _ hc (by simp))
theorem StrsIn.move {ao:Option Addr} {A:List ByteArray} (h:StrsIn w ao A) (hs:SpareR (fun _=>False) w w'):StrsIn w' ao A:=fun hne=>by
 obtain ⟨b,off,h1,h2,h3⟩:=h hne
 exact ⟨b,off,h1,Nat.lt_of_lt_of_le h2 hs.size,fun j hj=>by rw [World.cell?_of_block (hs.block b h2 (fun x=>x))];exact h3 j hj⟩
theorem WatchAt.move {wtb:Nat} {retain room:Int} {no:Option Addr} {ncap:Nat} {K:List Key} {ea:Option Addr} {ecap:Nat} {C:List EvC} {E:List Pe} {pa:Option Addr} {pcap:Nat} {ps:List Pol} {ss:List Strm} (h:WatchAt w wtb retain room no ncap K ea ecap C E pa pcap ps ss) (hs:SpareR P w w') (hk:Kinds w P [4,9,226,183,177,59,159,153]):WatchAt w' wtb retain room no ncap K ea ecap C E pa pcap ps ss :=
 { h with
  cell:=hs.get h.cell (hk _ _ _ _ h.cell (by simp))
  evs:=h.evs.move hs (hk.less (by simp))
  ins:=fun i c e h1 h2=>(h.ins i c e h1 h2).move (h.typed c (List.mem_of_getElem? h1)) hs (hk.less (by simp))
  typed:=fun c hc=>(h.typed c hc).move hs (hk.less (by simp))
  nodes:=h.nodes.move h.ntyped hs (hk.less (by simp))
  ntyped:=typed.move h.ntyped hs (hk.less (by simp))
  pols:=PolsIn.move h.pols hs (hk.less (by simp))
  sok:=fun s hs'=>StrOK.move (h.sok s hs') hs (hk.less (by simp)) }
end
theorem polsAt_says {parr:Array Value} {po:Nat} {ps:List Pol} (f:Pol->Bool) (h:PolsAt parr po ps):PolsAt parr po (ps.map fun p=>{ p with v:=f p }):=fun j p hp=>by
 simp at hp
 obtain ⟨q,hq,rfl⟩:=hp
 exact h j q hq
theorem polsIn_says {w:World} {pa:Option Addr} {pcap:Nat} {ps:List Pol} (f:Pol->Bool) (h:PolsIn w pa pcap ps):PolsIn w pa pcap (ps.map fun p=>{ p with v:=f p }):=by
 rcases h with ⟨h1,h2,h3⟩ | ⟨pb,po,parr,mp,h1,h2,h3⟩
 ·exact .inl ⟨h1,by rw [h2];rfl,h3⟩
 ·exact .inr ⟨pb,po,parr,mp,h1,h2,polsAt_says f h3⟩
end Go.Proofs.YtpbbmagjhkakgaaGreatDoor.Ev
namespace Go.Proofs.YtpbbmagjhkakgaaGreatDoor.Ev
open Go.RowKit Go.Deep Go.Proofs.YtpbbmagjhkakgaaGreatDoor.Lf Go.Conc
theorem checkRange_ok (s:ByteArray) (v lo hi:Int) (w:World) (h:lo<=v/\v<=hi):Calls Tryz.prog 124 #[.string s,.int .i64 v,.int .i64 lo,.int .i64 hi] w fun e w'=>e=.returned .nilIface/\w'=w:=by
 go_enter Tryz.func124,Tryz.ntmps124
 go_wp2_with fail
 go_ret
 exact ⟨rfl,rfl⟩
set_option maxHeartbeats 1000000 in
theorem pastNew_ok (retain room:Int) (w:World) (h1:0<=retain/\retain<=100000) (h2:1<=room/\room<=60):Calls Tryz.prog 85 #[.int .i64 retain,.int .i64 room] w fun e w'=>e=.returned (.tuple #[.agg #[.int .i64 retain,.int .i64 room,.slice none 0 0,.slice none 0 0],.nilIface])/\Below w.heap.size w w':=by
 have hc1:=checkRange_ok ⟨#[114,101,116,97,105,110]⟩ retain 0 100000 (w.alloc (.cells #[.int .i64 0,.int .i64 0,.slice none 0 0,.slice none 0 0] 148)) h1
 have hc2:=checkRange_ok ⟨#[114,111,111,109]⟩ room 1 60 (w.alloc (.cells #[.int .i64 0,.int .i64 0,.slice none 0 0,.slice none 0 0] 148)) h2
 go_enter Tryz.func85,Tryz.ntmps85
 go_wp2_with fail
 refine hc1.mono ?_
 rintro e w1 ⟨rfl,rfl⟩
 go_wp2_with fail
 refine hc2.mono ?_
 rintro e w1 ⟨rfl,rfl⟩
 go_wp2_with fail
 have hR:(w.alloc (.cells #[.int .i64 retain,.int .i64 room,.slice none 0 0,.slice none 0 0] 148)).heap[w.heap.size]? = some (.cells #[.int .i64 retain,.int .i64 room,.slice none 0 0,.slice none 0 0] 148 (0,0)):=heap_new _ _ _ rfl
 have q0:=cell_at (i:=0) hR rfl
 have q1:=cell_at (i:=1) hR rfl
 have q2:=cell_at (i:=2) hR rfl
 have q3:=cell_at (i:=3) hR rfl
 refine ⟨rfl,_,?_,rfl,(Below.refl _ _).al _⟩
 simp [results,Tryz.f85,go_sem,loadVar,q0,q1,q2,q3]
set_option maxHeartbeats 1000000 in
theorem watchNew_ok (retain room:Int) (w:World) (h1:0<=retain/\retain<=100000) (h2:1<=room/\room<=60):Calls Tryz.prog 45 #[.int .i64 retain,.int .i64 room] w fun e w'=>∃ wtb,e=.returned (.tuple #[.pointer (some ⟨wtb,0,none⟩),.nilIface])/\w.heap.size<=wtb/\w'.heap[wtb]? = some (.cells #[.int .i64 retain,.int .i64 room,.slice none 0 0,.slice none 0 0,.slice none 0 0] 153 (0,0))/\Below w.heap.size w w':=by
 have hp:=pastNew_ok retain room w h1 h2
 go_enter Tryz.func45,Tryz.ntmps45
 go_wp2_with fail
 refine hp.mono ?_
 rintro e w1 ⟨rfl,hb1⟩
 have hs:=hb1.size
 go_wp2_with fail
 go_ret2
 exact ⟨_,rfl,by first | omega | (simp;omega),by first | exact heap_new _ _ _ rfl | exact heap_new _ _ _ (by simp),by first | exact (hb1.al _).al _ | exact hb1.al _⟩
theorem new_ok (retain room:Int) (w:World) (h1:0<=retain/\retain<=100000) (h2:1<=room/\room<=60):Calls Tryz.prog 23 #[.int .i64 retain,.int .i64 room] w fun e w'=>∃ mb wtb,e=.returned (.tuple #[.pointer (some ⟨mb,0,none⟩),.int .i64 0])/\w.heap.size<=mb/\w.heap.size<=wtb/\w'.heap[mb]? = some (.cells #[.pointer (some ⟨wtb,0,none⟩)] 104 (0,0))/\w'.heap[wtb]? = some (.cells #[.int .i64 retain,.int .i64 room,.slice none 0 0,.slice none 0 0,.slice none 0 0] 153 (0,0))/\Below w.heap.size w w':=by
 have hp:=watchNew_ok retain room w h1 h2
 go_enter Tryz.func23,Tryz.ntmps23
 go_wp2_with fail
 refine hp.mono ?_
 rintro e w1 ⟨wtb,rfl,hw,hh,hb1⟩
 have hs:=hb1.size
 go_wp2_with fail
 go_ret2
 exact ⟨_,wtb,rfl,hs,hw,heap_new _ _ _ rfl,(Below.heap_alloc _ _ _ (heap_lt hh)).trans hh,hb1.al _⟩
theorem errno_nil (w:World):Calls Tryz.prog 40 #[.nilIface] w fun e w'=>e=.returned (.int .i64 0)/\w'=w:=by
 go_enter Tryz.func40,Tryz.ntmps40
 go_wp2_with fail
 go_ret
 exact ⟨rfl,rfl⟩
theorem errno_nilH (w:World):HCalls Tryz.prog 40 #[.nilIface] w fun e w'=>e=.returned (.int .i64 0)/\∃ τ d,w'=re w τ d :=
 HCalls.of_calls plain_prog (fun e w τ d x=>⟨x.1,by obtain ⟨_,τ',d',rfl⟩:=x;exact ⟨τ,d,rfl⟩⟩) (fun w x=>by cases x.1) (fun τ d=>(errno_nil (re w τ d)).mono fun e w' ⟨h1,h2⟩=>⟨h1,τ,d,h2⟩)
set_option maxRecDepth 100000 in
set_option maxHeartbeats 1000000 in
theorem monEvent {w:World} {mb wtb:Nat} {time:Int} {ao:Option Addr} {n cap:Nat} {D:World->Prop} (hm:w.heap[mb]? = some (.cells #[.pointer (some ⟨wtb,0,none⟩)] 104 (0,0))) (hD:∀ w τ d,D w->D (re w τ d))
  (h:HCalls Tryz.prog 46 #[.pointer (some ⟨wtb,0,none⟩),.int .i64 time,.slice ao n cap] w fun e W'=>e=.returned .nilIface/\D W'):HCalls Tryz.prog 24 #[.pointer (some ⟨mb,0,none⟩),.int .i64 time,.slice ao n cap] w fun e W'=>e=.returned (.int .i64 0)/\D W':=by
 have hP:=plain_prog
 have hi0:∀ it∈([]:List Item),okItem it:=by simp
 have hi1:∀ (c:Code),∀ it∈[Item.code c],okItem it:=fun c=>okItems_cons trivial (by simp)
 have hc0:∀ τ d,(re w τ d).cell? ⟨mb,0,none⟩=some (.pointer (some ⟨wtb,0,none⟩)):=fun τ d=>cell_at (w:=re w τ d) hm rfl
 refine HCalls.of_lead Tryz.func24 rfl (fun cs hcs=>?_)
 simp only [Tryz.ntmps24,List.size_toArray,List.length_cons,List.length_nil,Nat.reduceAdd,Nat.reduceSub,Array.replicate_succ,Array.replicate_zero,List.push_toArray,List.append_toArray,List.nil_append,List.cons_append]
 refine LeadsR.seq hP hi0 hcs ?_
 refine LeadsR.region hP (hi1 _) hcs ?_
 simp only [List.size_toArray,List.length_cons,List.length_nil,Nat.zero_add,List.range,List.range.loop]
 refine LeadsR.val hP (w':=w) (v:=.int .i64 0) rfl (by rfl) (fun τ d=>run_eq_of ?r0) (hi1 _) hcs ?_
 case r0=>intro K hK;go_simp;exact hK
 try walk_nrm
 refine LeadsR.nil hP (hi1 _) hcs ?_
 refine LeadsR.seq hP hi0 hcs ?_
 refine LeadsR.region hP (hi1 _) hcs ?_
 simp only [List.size_toArray,List.length_cons,List.length_nil,Nat.reduceAdd,Nat.zero_add,List.range,List.range.loop]
 refine LeadsR.val hP (w':=w) (v:=.pointer (some ⟨mb,0,none⟩)) rfl (by rfl) (fun τ d=>run_eq_of ?r1) (hi1 _) hcs ?_
 case r1=>intro K hK;go_simp;exact hK
 try walk_nrm
 refine LeadsR.val hP (w':=w) (v:=.pointer (some ⟨mb,0,none⟩)) rfl (by rfl) (fun τ d=>run_eq_of ?r2) (hi1 _) hcs ?_
 case r2=>intro K hK;go_simp;exact hK
 try walk_nrm
 refine LeadsR.val hP (w':=w) (v:=.pointer (some ⟨mb,0,none⟩)) rfl (by rfl) (fun τ d=>run_eq_of ?r3) (hi1 _) hcs ?_
 case r3=>intro K hK;go_simp;exact hK
 try walk_nrm
 refine LeadsR.val hP (w':=w) (v:=.pointer (some ⟨wtb,0,none⟩)) rfl (by rfl) (fun τ d=>run_eq_of ?r4) (hi1 _) hcs ?_
 case r4=>intro K hK;have:=hc0 τ d;go_simp;exact hK
 try walk_nrm
 refine LeadsR.val hP (w':=w) (v:=.int .i64 time) rfl (by rfl) (fun τ d=>run_eq_of ?r5) (hi1 _) hcs ?_
 case r5=>intro K hK;go_simp;exact hK
 try walk_nrm
 refine LeadsR.val hP (w':=w) (v:=.slice ao n cap) rfl (by rfl) (fun τ d=>run_eq_of ?r6) (hi1 _) hcs ?_
 case r6=>intro K hK;go_simp;exact hK
 try walk_nrm
 refine LeadsR.call hP (f:=46) (args:=#[.pointer (some ⟨wtb,0,none⟩),.int .i64 time,.slice ao n cap]) rfl (by rfl) (fun τ d=>?c7) (hi1 _) hcs h (fun e w' x=>⟨_,x.1⟩) ?_
 case c7=>rw [run_call_body (f:=46) (args:=#[.tmp 10,.tmp 11,.tmp 12]) (ats:=#[100,3,31]) rfl Tryz.func46 (by decide) rfl];simp only [List.map_toArray,List.map_cons,List.map_nil];rfl
 rintro v w1 ⟨hv,hD1⟩
 cases hv
 try walk_nrm
 refine LeadsR.call hP (f:=40) (args:=#[.nilIface]) rfl (by rfl) (fun τ d=>?c8) (hi1 _) hcs (errno_nilH w1) (fun e w' x=>⟨_,x.1⟩) ?_
 case c8=>rw [run_call_body (f:=40) (args:=#[.tmp 13]) (ats:=#[89]) rfl Tryz.func40 (by decide) rfl];simp only [List.map_toArray,List.map_cons,List.map_nil];rfl
 rintro v w2 ⟨hv,τ,d,rfl⟩
 cases hv
 refine LeadsR.other ?_ τ d
 try walk_nrm
 refine LeadsR.val hP (w':=w1) (v:=.int .i64 0) rfl (by rfl) (fun τ d=>run_eq_of ?r9) (hi1 _) hcs ?_
 case r9=>intro K hK;go_simp;exact hK
 try walk_nrm
 refine LeadsR.nil hP (hi1 _) hcs ?_
 exact LeadsR.ret hP hi0 hcs Tryz.func24 rfl (fun τ d=>by simp [results,go_sem,Tryz.f24]) (fun τ d=>⟨rfl,hD _ _ _ hD1⟩)
end Go.Proofs.YtpbbmagjhkakgaaGreatDoor.Ev
