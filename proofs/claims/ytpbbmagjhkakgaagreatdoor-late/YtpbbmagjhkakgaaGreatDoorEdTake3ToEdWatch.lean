import Derived.Test.YtpbbmagjhkakgaaGreatDoorEvCopyToEvTake3
import Derived.Test.YtpbbmagjhkakgaaGreatDoorSnFxToEdTake
import Derived.Test.YtpbbmagjhkakgaaGreatDoorEvCheckToEvNew
import Derived.Test.YtpbbmagjhkakgaaGreatDoorSnInvToRowKeep
import Derived.Test.YtpbbmagjhkakgaaGreatDoorSnSemToPureLoose
namespace Go.Proofs.YtpbbmagjhkakgaaGreatDoor.Ev
open Go.RowKit Go.Deep
def TakeD (wtb:Nat) (retain:Int) (rm:Value) (no:Option Addr) (ncap:Nat) (K:List Key) (ea:Option Addr) (ecap:Nat) (pv:Value) (C D:List EvC) (F:List Pe) (time:Int) (A:List ByteArray) (w:World) (e:Ending) (W':World):Prop :=
 ∃ (c:EvC) (ev':Value) (sb:Nat) (cur:Array Value),e=.returned (evVal c)/\c.so=some ⟨sb,0,none⟩/\w.heap.size<=sb/\W'.heap[sb]? = some (.cells cur 4 (0,0))/\W'.heap[wtb]? = some (.cells #[.int .i64 retain,rm,.slice no K.length ncap,ev',pv] 153 (0,0))/\EvsAt W' ev' (D++[c])/\
  EvIn W' c (workF F.reverse K (⟨nextN C,time,A,[]⟩:Pe).bare)/\EvT W' c/\Spare (fun b=>b=wtb\/(Value.slice ea C.length ecap).ownBlock=some b) w W'/\(∀ b,ev'.ownBlock=some b->(Value.slice ea C.length ecap).ownBlock=some b\/w.heap.size<=b)
set_option maxRecDepth 100000 in
set_option maxHeartbeats 8000000 in
theorem take_drop (wtb:Nat) (retain:Int) (rm:Value) (no:Option Addr) (ncap:Nat) (K:List Key) (ea:Option Addr) (ecap:Nat) (pv:Value) (C:List EvC) (E:List Pe) (time:Int) (ao:Option Addr) (A:List ByteArray) (cap:Nat) (w:World)
  (hw:w.heap[wtb]? = some (.cells #[.int .i64 retain,rm,.slice no K.length ncap,.slice ea C.length ecap,pv] 153 (0,0))) (hE:EvsAt w (.slice ea C.length ecap) C) (hlen:C.length=E.length) (hIn:∀ (i:Nat) c e,C[i]? = some c->E[i]? = some e->EvIn w c e) (hT:∀ c∈C,EvT w c) (hn:C.length<=1000) (ht:0<=time/\time<=1000000000000) (hr:0<=retain/\retain<=1000000000) (k:Nat) (hold:oldF (time-retain) C=k) (hk0:0<k) (hkn:k<=C.length)
  (hnum:∀ c,C.getLast? = some c->0<=c.number/\c.number<=1000000000000) (h:StrsIn w ao A) (hA:A.length<=1000) (hcap:A.length<=cap) (hs:∀ j,j<A.length->(A.getD j ByteArray.empty).size<=1000)
  (hK:K.length<=1000) (hnc:K.length<=ncap) (hN:NodesIn w no K) (hNt:∀ a,no=some a->∃ cs m,w.heap[a.block]? = some (.cells cs 226 m)) (hop:∀ k∈K,CoreOp k.op) (hAh:Ahead K) (hrow:∀ e∈E,e.so.length=K.length+1) :
  Calls Tryz.prog 87 #[.pointer (some ⟨wtb,0,none⟩),.int .i64 time,.slice ao A.length cap] w (TakeD wtb retain rm no ncap K ea ecap pv C (C.drop k) (E.drop k) time A w):=by
 have hInD:∀ (i:Nat) c e,(C.drop k)[i]? = some c->(E.drop k)[i]? = some e->EvIn w c e:=fun i c e h1 h2=>hIn (k+i) c e (by rw [<- List.getElem?_drop];exact h1) (by rw [<- List.getElem?_drop];exact h2)
 have hTD:∀ c∈C.drop k,EvT w c:=fun c hc=>hT c (List.mem_of_mem_drop hc)
 have hlenD:(C.drop k).length=(E.drop k).length:=by rw [List.length_drop,List.length_drop,hlen]
 have hrowD:∀ e∈E.drop k,e.so.length=K.length+1:=fun e he=>hrow e (List.mem_of_mem_drop he)
 have hnD:(C.drop k).length<=1000:=by rw [List.length_drop];omega
 have hE0:=hE
 clear hIn hT hlen hrow
 obtain ⟨D,hD⟩:∃ D,D=C.drop k:=⟨_,rfl⟩
 obtain ⟨F,hF⟩:∃ F,F=E.drop k:=⟨_,rfl⟩
 have hDl:D.length=C.length-k:=by rw [hD,List.length_drop]
 rw [<- hD] at hInD hTD hlenD hnD ⊢
 rw [<- hF] at hInD hlenD hrowD ⊢
 have hlt:=heap_lt hw
 have Hlen:Hid (D.length=F.length):=hlenD
 clear hlenD
 have HDl:Hid (D.length=C.length-k):=hDl
 clear hDl
 have hc3:w.cell? ⟨wtb,3,none⟩=some (.slice ea C.length ecap):=cell_at hw rfl
 have hecap:C.length<=ecap:=by
  rcases hE.cases with ⟨h1,rfl⟩ | ⟨g,cp,hev,h1,_,_⟩
  ·simp
  ·cases hev;exact h1
 have hCo:=copyOf_any ao A cap (w.alloc (.cells #[.int .i64 0,.int .i64 0,.slice none 0 0,.slice none 0 0] 159)) (h.below ((Below.refl _ _).al _)) hA hcap hs
 go_enter Tryz.func87,Tryz.ntmps87
 go_wp2_with fail
 refine hCo.mono ?_
 rintro e w1 ⟨v1,rfl,hrow1,hb1⟩
 obtain ⟨ao2,ac2,rfl,hac2,hst2,hao2⟩:=strs_of_row hrow1
 have hbw1:Below w.heap.size w w1:=((Below.refl _ _).al _).tr hb1
 have hres1:w1.heap[w.heap.size]? = some (.cells #[.int .i64 0,.int .i64 0,.slice none 0 0,.slice none 0 0] 159 (0,0)):=hb1.heapOf (heap_new _ _ _ rfl)
 have hlt1:wtb<w1.heap.size:=Nat.lt_of_lt_of_le hlt hbw1.size
 have hbN:Below w.heap.size w (w1.alloc (.cells #[.int .i64 1,.int .i64 time,.slice ao2 A.length ac2,.slice none 0 0] 159)):=hbw1.al _
 have y3:(w1.alloc (.cells #[.int .i64 1,.int .i64 time,.slice ao2 A.length ac2,.slice none 0 0] 159)).cell? ⟨wtb,3,none⟩=some (.slice ea C.length ecap):=(hbN.cell (p:=⟨wtb,3,none⟩) hlt).trans hc3
 have hown_lt:∀ b,(Value.slice ea C.length ecap).ownBlock=some b->b<w.heap.size:=fun b hb=>(hE.lt b hb).2
 have hnotP:∀ b cs t m,w.heap[b]? = some (.cells cs t m)->t≠153->t≠159->¬ (b=wtb\/(Value.slice ea C.length ecap).ownBlock=some b):=fun b cs t m hb h1 h2 hp=>by
  rcases hp with rfl | hp
  ·rw [hw] at hb;injection hb with hb;injection hb with _ hb _;exact h1 hb.symm
  ·obtain ⟨cur,hc⟩:=own_tag hE hp
   rw [hc] at hb;injection hb with hb;injection hb with _ hb _;exact h2 hb.symm
 have hrowN:∀ a,ao2=some a->w.heap.size+1<=a.block/\∃ cs,w1.heap[a.block]? = some (.cells cs 9 (0,0)):=fun a ha=>by have:=hao2 a ha;simpa using this
 have fin:∀ (num:Int),num=nextN C->∀ (ev':Value) (W':World),W'.heap[wtb]? = some (.cells #[.int .i64 retain,rm,.slice no K.length ncap,ev',pv] 153 (0,0))->EvsAt W' ev' (D++[(⟨num,time,ao2,A.length,ac2,none,0,0⟩:EvC)])->Spare (fun b=>b=wtb\/(Value.slice ea C.length ecap).ownBlock=some b) (w1.alloc (.cells #[.int .i64 num,.int .i64 time,.slice ao2 A.length ac2,.slice none 0 0] 159)) W'->(∀ b,ev'.ownBlock=some b->(Value.slice ea C.length ecap).ownBlock=some b\/(w1.alloc (.cells #[.int .i64 num,.int .i64 time,.slice ao2 A.length ac2,.slice none 0 0] 159)).heap.size<=b)->
   ∃ g gcap,ev'=.slice (some ⟨g,0,none⟩) (D.length+1) gcap/\(∀ (i:Nat) c e,D[i]? = some c->F[i]? = some e->EvIn W' c e)/\(∀ c∈D,EvT W' c)/\EvPre W' (⟨num,time,ao2,A.length,ac2,none,0,0⟩:EvC) (⟨nextN C,time,A,[]⟩:Pe)/\(∀ a,ao2=some a->∃ cs m,W'.heap[a.block]? = some (.cells cs 9 m))/\NodesIn W' no K/\(∀ a,no=some a->∃ cs m,W'.heap[a.block]? = some (.cells cs 226 m))/\W'.heap[w.heap.size]? = some (.cells #[.int .i64 0,.int .i64 0,.slice none 0 0,.slice none 0 0] 159 (0,0))/\w.heap.size≠g/\
   ∀ (sb sc:Nat) (cur:Array Value) (W'':World),W'.heap.size<=sb->W''.heap[sb]? = some (.cells cur 4 (0,0))->Spare (fun b=>b=g\/b=w.heap.size) W' W''->EvsAt W'' (.slice (some ⟨g,0,none⟩) (D.length+1) gcap) (D++[(⟨num,time,ao2,A.length,ac2,none,0,0⟩:EvC).withSo sb (K.length+1) sc])->EvIn W'' ((⟨num,time,ao2,A.length,ac2,none,0,0⟩:EvC).withSo sb (K.length+1) sc) (workF F.reverse K (⟨nextN C,time,A,[]⟩:Pe).bare)->
    TakeD wtb retain rm no ncap K ea ecap pv C D F time A w (.returned (evVal ((⟨num,time,ao2,A.length,ac2,none,0,0⟩:EvC).withSo sb (K.length+1) sc))) W'':=by
  intro num hnumE ev' W' f1 f2 f3 f4
  have hbW:Below w.heap.size w (w1.alloc (.cells #[.int .i64 num,.int .i64 time,.slice ao2 A.length ac2,.slice none 0 0] 159)):=hbw1.al _
  have hWs:(w1.alloc (.cells #[.int .i64 num,.int .i64 time,.slice ao2 A.length ac2,.slice none 0 0] 159)).heap.size=w1.heap.size+1:=by simp
  have hW1:∀ b o,w1.heap[b]? = some o->(w1.alloc (.cells #[.int .i64 num,.int .i64 time,.slice ao2 A.length ac2,.slice none 0 0] 159)).heap[b]? = some o:=fun b o hb=>(Below.heap_alloc _ _ _ (heap_lt hb)).trans hb
  generalize (w1.alloc (.cells #[.int .i64 num,.int .i64 time,.slice ao2 A.length ac2,.slice none 0 0] 159))=W at *
  have hws:=hbw1.size
  have hrl:=heap_lt hres1
  have sp:Spare (fun b=>b=wtb\/(Value.slice ea C.length ecap).ownBlock=some b) w W':=(Spare.of_below hbW).trans f3
  have el:(D++[(⟨num,time,ao2,A.length,ac2,none,0,0⟩:EvC)]).length=D.length+1:=by simp
  obtain ⟨g,gcap,rfl⟩:∃ g gcap,ev'=.slice (some ⟨g,0,none⟩) (D.length+1) gcap:=by
   rcases f2.cases with ⟨_,h2⟩ | ⟨g,cp,hev,_⟩
   ·simp at h2
   ·rw [el] at hev;exact ⟨g,cp,hev⟩
  have hgt:∃ cg,W'.heap[g]? = some (.cells cg 159 (0,0)):=own_tag f2 rfl
  obtain ⟨cg,hgt⟩:=hgt
  have hgf:=f4 g rfl
  have hao3:∀ a,ao2=some a->∃ cs m,W'.heap[a.block]? = some (.cells cs 9 m):=fun a ha=>by
   obtain ⟨h1,cs,h2⟩:=hrowN a ha
   refine ⟨cs,(0,0),(f3.block _ (heap_lt (hW1 _ _ h2)) (fun hp=>?_)).trans (hW1 _ _ h2)⟩
   rcases hp with e | e
   ·omega
   ·have:=hown_lt _ e;omega
  refine ⟨g,gcap,rfl,fun i c e h1 h2=>?_,fun c hc=>?_,⟨hnumE,rfl,⟨by show -1000000000000<=time;omega,ht.2⟩,rfl,by show A.length<=_;omega,fun hne=>?_⟩,hao3,hN.spare sp (fun a ha=>?_),fun a ha=>?_,?_,?_,?_⟩
  ·have ht:=hTD c (List.mem_of_getElem? h1)
   exact (hInD i c e h1 h2).spare sp (fun a ha=>by obtain ⟨cs,m,k⟩:=ht.so a ha;exact hnotP _ _ _ _ k (by decide) (by decide)) (fun a ha=>by obtain ⟨cs,m,k⟩:=ht.ao a ha;exact hnotP _ _ _ _ k (by decide) (by decide))
  ·have ht:=hTD c hc
   exact ht.spare sp (fun a ha=>by obtain ⟨cs,m,k⟩:=ht.so a ha;exact hnotP _ _ _ _ k (by decide) (by decide)) (fun a ha=>by obtain ⟨cs,m,k⟩:=ht.ao a ha;exact hnotP _ _ _ _ k (by decide) (by decide))
  ·obtain ⟨b,off,h1,h2,h3⟩:=hst2 hne
   obtain ⟨k1,cs,k2⟩:=hrowN _ h1
   have hb:W'.heap[b]? = w1.heap[b]?:=((f3.block b (by omega) (fun hp=>by
    rcases hp with e | e
    ·have:w.heap.size+1<=b:=k1;omega
    ·have:=hown_lt _ e;have:w.heap.size+1<=b:=k1;omega)).trans (hW1 b _ k2)).trans k2.symm
   exact ⟨b,off,h1,by have:=f3.size;omega,fun j hj=>by rw [World.cell?_of_block hb];exact h3 j hj⟩
  ·obtain ⟨cs,m,k⟩:=hNt a ha;exact hnotP _ _ _ _ k (by decide) (by decide)
  ·obtain ⟨cs,m,k⟩:=hNt a ha;exact ⟨cs,m,(sp.block _ (heap_lt k) (hnotP _ _ _ _ k (by decide) (by decide))).trans k⟩
  ·refine (f3.block _ (by omega) (fun hp=>?_)).trans (hW1 _ _ hres1)
   rcases hp with e | e
   ·omega
   ·have:=hown_lt _ e;omega
  ·rcases hgf with e | e
   ·have:=hown_lt _ e;omega
   ·omega
  ·intro sb sc cur W'' a1 a2 a3 a4 a5
   have hss:=f3.size
   have hgw:g≠wtb:=by rintro rfl;rw [f1] at hgt;cases hgt
   refine ⟨_,_,sb,cur,rfl,rfl,by omega,a2,(a3.block wtb (heap_lt f1) (fun hp=>hp.elim (fun e=>hgw e.symm) (fun e=>by omega))).trans f1,a4,a5,⟨fun a ha=>?_,fun a ha=>?_⟩,⟨a3.os.trans sp.os,a3.tape.trans sp.tape,a3.output.trans sp.output,Nat.le_trans sp.size a3.size,fun b hb hp=>(a3.block b (Nat.lt_of_lt_of_le hb sp.size) (fun e=>?_)).trans (sp.block b hb hp)⟩,fun b hb=>?_⟩
   ·have:some (⟨sb,0,none⟩:Addr)=some a:=ha
    cases this
    exact ⟨cur,(0,0),a2⟩
   ·obtain ⟨cs,m,k⟩:=hao3 a ha
    obtain ⟨k1,_⟩:=hrowN a ha
    refine ⟨cs,m,(a3.block _ (heap_lt k) (fun hp=>?_)).trans k⟩
    rcases hp with e | e
    ·rw [e,hgt] at k;cases k
    ·omega
   ·rcases e with e | e
    ·rcases hgf with e2 | e2
     ·exact hp (.inr (e▸e2))
     ·omega
    ·omega
   ·exact (f4 b hb).imp id (fun x=>by omega)
 rcases List.eq_nil_or_concat C with rfl | ⟨C0,cl,rfl⟩
 ·simp at hkn;omega
 ·rw [List.concat_eq_append] at *
  have hcl:(C0++[cl])[C0.length]? = some cl:=by simp
  have hlen1:(C0++[cl]).length=C0.length+1:=by simp
  rcases hE.cases with ⟨_,h2⟩ | ⟨g0,cp,hev,_,_,hgl⟩
  ·simp at h2
  cases hev
  have hq:=hE.cell (k:=0) hcl rfl
  have y0:(w1.alloc (.cells #[.int .i64 1,.int .i64 time,.slice ao2 A.length ac2,.slice none 0 0] 159)).cell? ⟨g0,C0.length*4,none⟩=some (.int .i64 cl.number):=(hbN.cell (p:=⟨g0,C0.length*4,none⟩) hgl).trans hq
  have hnb:=hnum cl (by simp)
  have hnn:cl.number+1=nextN (C0++[cl]):=by simp [nextN]
  rw [hlen1] at y3
  go_wp2_with fail
  refine region5_drop _ ?hq5b wtb w1.heap.size retain rm (.slice no K.length ncap) _ _ pv _ _ time ao2 A.length ac2 _ _ _ _ _ _ _ _ _ _ _ _ _ _ _ _ _ _ _ _ _ _ _ _ _ _ _ _ _ _ _ _ _ _ _ _ _ _ _ _ _ _ _ _ _ _ _ _ _ _ _ _ ((hbw1.al _).heapOf hw) (hE.below (hbw1.al _)) hn ht hr k hold hk0 hkn (heap_new _ _ _ rfl) (fun e=>by have:=hown_lt _ e;have:=hbw1.size;omega) ?_
  case hq5b=>exact fun _ _ d _ _ h=>by cases d<;>exact h
  intro ev' W' v41 f1 f2 f3 f4
  rw [<- hD] at f2
  have hDl:=HDl.out
  obtain ⟨g,gcap,rfl,k1,k2,k3,k4,k5,k6,k7,k8,k9⟩:=fin (nextN (C0++[cl])) rfl _ _ f1 f2 f3 f4
  go_wp2_with fail
  refine region6_any _ ?hq6b wtb w.heap.size g gcap (.int .i64 retain) rm no ncap K pv D _ F _ W' _ _ _ _ _ _ _ _ _ _ _ _ _ _ _ _ _ _ _ _ _ _ _ _ _ _ _ _ _ _ _ _ _ _ _ _ _ _ _ _ _ _ _ _ _ _ _ _ _ _ _ _ f1 f2 hnD Hlen.out k1 k2 k3 k4 hK hnc k5 k6 hop hAh hrowD k7 k8 ?_
  case hq6b=>exact fun _ _ d _ _ h=>by cases d<;>exact h
  intro sb sc cur W'' a1 a2 a3 a4 a5 a6
  have q0:=cell_at (i:=0) a6 rfl
  have q1:=cell_at (i:=1) a6 rfl
  have q2:=cell_at (i:=2) a6 rfl
  have q3:=cell_at (i:=3) a6 rfl
  have K9:=k9 sb sc cur W'' a1 a2 a3 a4 a5
  clear k1 k2 k3 k4 k5 k6 k7 k9 f1 f2 f3 f4 a1 a2 a3 a4 a5
  go_wp2_with fail
  rw [hD,hF] at K9
  refine ⟨rfl,_,?_,K9⟩
  simp [results,Tryz.f87,go_sem,loadVar,evVal,EvC.withSo,q0,q1,q2,q3]
end Go.Proofs.YtpbbmagjhkakgaaGreatDoor.Ev
namespace Go.Proofs.YtpbbmagjhkakgaaGreatDoor.Ev
open Go.RowKit Go.Deep Go.Proofs.YtpbbmagjhkakgaaGreatDoor.Lf Go.Conc
theorem take_all (wtb:Nat) (retain:Int) (rm:Value) (no:Option Addr) (ncap:Nat) (K:List Key) (ea:Option Addr) (ecap:Nat) (pv:Value) (C:List EvC) (E:List Pe) (time:Int) (ao:Option Addr) (A:List ByteArray) (cap:Nat) (w:World)
  (hw:w.heap[wtb]? = some (.cells #[.int .i64 retain,rm,.slice no K.length ncap,.slice ea C.length ecap,pv] 153 (0,0))) (hE:EvsAt w (.slice ea C.length ecap) C) (hlen:C.length=E.length) (hIn:∀ (i:Nat) c e,C[i]? = some c->E[i]? = some e->EvIn w c e) (hT:∀ c∈C,EvT w c) (hn:C.length<=1000) (ht:0<=time/\time<=1000000000000) (hr:0<=retain/\retain<=1000000000) (k:Nat) (hold:oldF (time-retain) C=k)
  (hnum:∀ c,C.getLast? = some c->0<=c.number/\c.number<=1000000000000) (h:StrsIn w ao A) (hA:A.length<=1000) (hcap:A.length<=cap) (hs:∀ j,j<A.length->(A.getD j ByteArray.empty).size<=1000)
  (hK:K.length<=1000) (hnc:K.length<=ncap) (hN:NodesIn w no K) (hNt:∀ a,no=some a->∃ cs m,w.heap[a.block]? = some (.cells cs 226 m)) (hop:∀ k∈K,CoreOp k.op) (hAh:Ahead K) (hrow:∀ e∈E,e.so.length=K.length+1) :
  Calls Tryz.prog 87 #[.pointer (some ⟨wtb,0,none⟩),.int .i64 time,.slice ao A.length cap] w (TakeD wtb retain rm no ncap K ea ecap pv C (C.drop k) (E.drop k) time A w):=by
 by_cases hk:k=0
 ·subst hk
  exact take_any wtb retain rm no ncap K ea ecap pv C E time ao A cap w hw hE hlen hIn hT hn ht hr hold hnum h hA hcap hs hK hnc hN hNt hop hAh hrow
 ·exact take_drop wtb retain rm no ncap K ea ecap pv C E time ao A cap w hw hE hlen hIn hT hn ht hr k hold (by omega) (by rw [<- hold];exact oldF_le _ _) hnum h hA hcap hs hK hnc hN hNt hop hAh hrow
def EvDoneD (w:World) (wtb:Nat) (retain room:Int) (no:Option Addr) (ncap:Nat) (K:List Key) (ea:Option Addr) (C D:List EvC) (F:List Pe) (pa:Option Addr) (pcap:Nat) (ps:List Pol) (ss:List Strm) (time:Int) (A:List ByteArray) (W':World):Prop :=
 ∃ (c:EvC) (ea':Option Addr) (ecap':Nat) (ss':List Strm),WatchAt W' wtb retain room no ncap K ea' ecap' (D++[c]) (F++[workF F.reverse K (⟨nextN C,time,A,[]⟩:Pe).bare]) pa pcap ps ss'/\c.time=time/\c.number=nextN C/\SpareR (Own46 wtb ea ss) w W'/\(∀ a,ea'=some a->(∃ a0,ea=some a0/\a0.block=a.block)\/w.heap.size<=a.block)/\
  (∀ (i:Nat) (s:Strm) (p:Pol),ss[i]? = some s->ps[i]? = some p->∃ t,ss'[i]? = some t/\t.stb=s.stb/\t.n=s.n+1/\t.xs=s.xs++verCells (nextN C) time p.ver ((workF F.reverse K (⟨nextN C,time,A,[]⟩:Pe).bare).at (p.node:Int))/\(t.sv.ownBlock=s.sv.ownBlock\/∃ g,t.sv.ownBlock=some g/\w.heap.size<=g))
def TakeMidD (wtb:Nat) (retain room:Int) (no:Option Addr) (ncap:Nat) (K:List Key) (ea:Option Addr) (ecap:Nat) (C D:List EvC) (F:List Pe) (pa:Option Addr) (pcap:Nat) (ps:List Pol) (time:Int) (A:List ByteArray) (w1:World) (c:EvC) (evb:Nat) (w2:World):Prop :=
 ∃ (ev':Value) (sb:Nat) (cur:Array Value),c.so=some ⟨sb,0,none⟩/\w1.heap.size<=sb/\w2.heap[sb]? = some (.cells cur 4 (0,0))/\w2.heap[wtb]? = some (.cells #[.int .i64 retain,.int .i64 room,.slice no K.length ncap,ev',.slice pa ps.length pcap] 153 (0,0))/\EvsAt w2 ev' (D++[c])/\
  EvIn w2 c (workF F.reverse K (⟨nextN C,time,A,[]⟩:Pe).bare)/\EvT w2 c/\SpareR (fun b=>b=wtb\/(Value.slice ea C.length ecap).ownBlock=some b) w1 w2/\(∀ b,ev'.ownBlock=some b->(Value.slice ea C.length ecap).ownBlock=some b\/w1.heap.size<=b)/\w2.heap[evb]? = some (.cells #[.int .i64 c.number,.int .i64 c.time,c.av,c.sv] 159 (0,0))
theorem TakeMidD.tapeR {wtb:Nat} {retain room:Int} {no:Option Addr} {ncap:Nat} {K:List Key} {ea:Option Addr} {ecap:Nat} {C D:List EvC} {F:List Pe} {pa:Option Addr} {pcap:Nat} {ps:List Pol} {time:Int} {A:List ByteArray} {w1:World} {c:EvC} {evb:Nat} {w2:World} (h:TakeMidD wtb retain room no ncap K ea ecap C D F pa pcap ps time A w1 c evb w2) (τ:Tape) (d:Nat):TakeMidD wtb retain room no ncap K ea ecap C D F pa pcap ps time A w1 c evb (re w2 τ d):=by
 obtain ⟨ev',sb,cur,t1,t2,t3,t4,t5,t6,t7,t8,t9,t10⟩:=h
 exact ⟨ev',sb,cur,t1,t2,t3,t4,t5,t6.tapeR τ d,⟨t7.so,t7.ao⟩,t8.tapeR τ d,t9,t10⟩
set_option maxRecDepth 100000 in
set_option maxHeartbeats 4000000 in
theorem event_drop {w:World} {wtb:Nat} {retain room:Int} {no:Option Addr} {ncap:Nat} {K:List Key} {ea:Option Addr} {ecap:Nat} {C:List EvC} {E:List Pe} {pa:Option Addr} {pcap:Nat} {ps:List Pol} {ss:List Strm} (h:WatchAt w wtb retain room no ncap K ea ecap C E pa pcap ps ss) (time:Int) (ao:Option Addr) (A:List ByteArray) (cap:Nat)
  (ht:0<=time/\time<=1000000000000) (hl:∀ e,C.getLast? = some e->e.time<time) (k:Nat) (hold:oldF (time-retain) C=k) (hroom:(C.length:Int)-(k:Int)+1<=room) (hA:StrsIn w ao A) (hA10:A.length<=10) (hcap:A.length<=cap) (hN:∀ j,j<A.length->NameOK (A.getD j ByteArray.empty)) (hD:∀ j,j<A.length->Lib.containsS (A.take j) (A.getD j ByteArray.empty)=false)
  (hfew:C.length+1<=1000) (hnx:0<=nextN C/\nextN C<=1000000000) (hfull:∀ s∈ss,s.n<30) :
  HCalls Tryz.prog 46 #[.pointer (some ⟨wtb,0,none⟩),.int .i64 time,.slice ao A.length cap] w fun e W'=>e=.returned .nilIface/\EvDoneD w wtb retain room no ncap K ea C (C.drop k) (E.drop k) pa pcap ps ss time A W':=by
 have hP:=plain_prog
 obtain ⟨D,hDe⟩:∃ D,D=C.drop k:=⟨_,rfl⟩
 obtain ⟨F,hFe⟩:∃ F,F=E.drop k:=⟨_,rfl⟩
 have hDF:D.length=F.length:=by rw [hDe,hFe,List.length_drop,List.length_drop,h.len]
 have hfewD:D.length+1<=1000:=by rw [hDe,List.length_drop];omega
 have hrowF:∀ e∈F,e.so.length=K.length+1:=fun e he=>h.rows e (by rw [hFe] at he;exact List.mem_of_mem_drop he)
 rw [<- hDe,<- hFe]
 replace hDe:Hid _:=hDe
 replace hFe:Hid _:=hFe
 have hi0:∀ it∈([]:List Item),okItem it:=by simp
 have hi1:∀ (c:Code),∀ it∈[Item.code c],okItem it:=fun c=>okItems_cons trivial (by simp)
 have hi2:∀ (c d:Code),∀ it∈[Item.code c,Item.code d],okItem it:=fun c d=>okItems_cons trivial (okItems_cons trivial (by simp))
 have hroomy:Roomy w ps:=fun i p hp=>by
  have hi:i<ss.length:=by rw [h.plen];exact (List.getElem?_eq_some_iff.1 hp).1
  have hsm:ss[i]∈ss:=List.getElem_mem hi
  have hso:=h.sok _ hsm
  obtain ⟨o,n,cp,hsv,hn⟩:∃ o n cp,ss[i].sv=.slice o n cp/\n<30:=by
   have hf:=hfull _ hsm
   rcases hso.2.2 with ⟨e,e2⟩ | ⟨g,cp,cur,e,_⟩
   ·exact ⟨_,_,_,e,by omega⟩
   ·exact ⟨_,_,_,e,hf⟩
  exact ⟨ss[i].stb,o,n,cp,h.pstr i _ p (List.getElem?_eq_getElem hi) hp,by rw [<- hsv];exact hso.1,hn⟩
 have hsz8:∀ j,j<A.length->(A.getD j ByteArray.empty).size<=1000:=fun j hj=>by have:=(hN j hj).high;omega
 have hCk:Hid (∀ τ d,Calls Tryz.prog 86 #[.pointer (some ⟨wtb,0,none⟩),.int .i64 time,.slice ao A.length cap] (re w τ d) fun e w'=>e=.returned .nilIface/\Below (re w τ d).heap.size (re w τ d) w'):=fun τ d=>by
  have hh:=h.tapeR τ d
  have hlo:=h.few
  have hp:=h.pfew
  exact checkEvent_ok wtb retain room _ _ pa pcap ps C time ao A cap (re w τ d) hh.cell hh.evs (by omega) ht hh.ret hl (by rw [hold];exact hroom) hA hA10 hcap hN hD hh.pols (by omega) hh.pcp hroomy
 refine HCalls.of_lead Tryz.func46 rfl (fun cs hcs=>?_)
 simp only [Tryz.ntmps46,List.size_toArray,List.length_cons,List.length_nil,Nat.reduceAdd,Nat.reduceSub,Array.replicate_succ,Array.replicate_zero,List.push_toArray,List.append_toArray,List.nil_append,List.cons_append]
 refine LeadsR.seq hP hi0 hcs ?_
 refine LeadsR.piece hP (fun a' w'=>a'=⟨#[.pointer (some ⟨wtb,0,none⟩),.int .i64 time,.slice ao A.length cap,undef,undef,undef,.nilIface,undef,undef,undef,undef,undef,undef,undef,undef,undef,undef,undef,undef,undef,undef,undef,undef,undef,undef,undef,undef,undef,undef,undef,undef,undef,undef,undef,undef,undef,undef,undef,undef,undef,undef],[]⟩/\∃ τ d,w'=re w τ d) (fun a w τ d x=>⟨x.1,by obtain ⟨_,τ',d',rfl⟩:=x;exact ⟨τ,d,rfl⟩⟩) (hi1 _) hcs (fun τ d=>?_) ?_
 ·go_wp2_with fail
  exact ⟨τ,d,rfl⟩
 rintro a' w' ⟨rfl,τ,d,rfl⟩
 refine LeadsR.other ?_ τ d
 dsimp only
 refine LeadsR.seq hP hi0 hcs ?_
 refine LeadsR.piece hP (fun a' w'=>a'=⟨#[.pointer (some ⟨wtb,0,none⟩),.int .i64 time,.slice ao A.length cap,undef,undef,undef,.nilIface,.nilIface,undef,undef,.pointer (some ⟨wtb,0,none⟩),.int .i64 time,.slice ao A.length cap,.nilIface,.nilIface,.bool false,undef,undef,undef,undef,undef,undef,undef,undef,undef,undef,undef,undef,undef,undef,undef,undef,undef,undef,undef,undef,undef,undef,undef,undef,undef],[]⟩/\SpareR (fun _=>False) w w') (fun a w τ d x=>⟨x.1,x.2.tapeR τ d⟩) (hi1 _) hcs (fun τ d=>?_) ?_
 ·have hc:=hCk.out τ d
  clear hCk
  go_wp2_with fail
  refine hc.mono ?_
  rintro e w1 ⟨rfl,hb1⟩
  go_wp2_with fail
  exact (SpareR.of_below hb1).tape0
 rintro a' w1 ⟨rfl,hs1⟩
 dsimp only
 have h1w:=h.move hs1 (Kinds.none _ _)
 have hA1:=hA.move hs1
 have hTk:Hid (∀ τ d,Calls Tryz.prog 87 #[.pointer (some ⟨wtb,0,none⟩),.int .i64 time,.slice ao A.length cap] (re w1 τ d) (TakeD wtb retain (.int .i64 room) no ncap K ea ecap (.slice pa ps.length pcap) C D F time A (re w1 τ d))):=fun τ d=>by
  have hh:=h1w.tapeR τ d
  rw [hDe.out,hFe.out]
  exact take_all wtb retain (.int .i64 room) no ncap K ea ecap _ C E time ao A cap (re w1 τ d) hh.cell hh.evs hh.len hh.ins hh.typed hh.few ht hh.ret k hold (fun c hc=>by have:=hh.nums c hc;omega) hA1 (by omega) hcap hsz8 hh.nfew hh.ncp hh.nodes hh.ntyped hh.core hh.ahead hh.rows
 refine LeadsR.seq hP hi0 hcs ?_
 refine LeadsR.piece hP (fun a' w2=>∃ c evb,a'=⟨#[.pointer (some ⟨wtb,0,none⟩),.int .i64 time,.slice ao A.length cap,undef,undef,undef,.nilIface,.nilIface,.pointer (some ⟨evb,0,none⟩),undef,.pointer (some ⟨wtb,0,none⟩),.int .i64 time,.slice ao A.length cap,.nilIface,.nilIface,.bool false,undef,undef,undef,undef,undef,.pointer (some ⟨wtb,0,none⟩),.pointer (some ⟨wtb,0,none⟩),.pointer (some ⟨wtb,0,none⟩),.int .i64 time,.slice ao A.length cap,evVal c,undef,undef,undef,undef,undef,undef,undef,undef,undef,undef,undef,undef,undef,undef],[]⟩/\TakeMidD wtb retain room no ncap K ea ecap C D F pa pcap ps time A w1 c evb w2) (fun a w τ d x=>by obtain ⟨c,evb,x1,x2⟩:=x;exact ⟨c,evb,x1,x2.tapeR τ d⟩) (hi1 _) hcs (fun τ d=>?_) ?_
 ·have hc:=hTk.out τ d
  clear hCk hTk
  go_wp2_with fail
  refine hc.mono ?_
  rintro e w2 ⟨c,ev',sb,cur,rfl,t1,t2,t3,t4,t5,t6,t7,t8,t9⟩
  have hmid:TakeMidD wtb retain room no ncap K ea ecap C D F pa pcap ps time A w1 c w2.heap.size (w2.alloc (.cells #[.int .i64 c.number,.int .i64 c.time,.slice c.ao c.al c.ac,.slice c.so c.sl c.sc] 159)):=by
   have hsp:SpareR (fun _=>False) w2 (w2.alloc (.cells #[.int .i64 c.number,.int .i64 c.time,.slice c.ao c.al c.ac,.slice c.so c.sl c.sc] 159)):=SpareR.of_below ((Below.refl _ _).al _)
   exact ⟨ev',sb,cur,t1,t2,hsp.get t3 (fun x=>x),hsp.get t4 (fun x=>x),t5.move hsp (Kinds.none _ _),t6.move t7 hsp (Kinds.none _ _),t7.move hsp (Kinds.none _ _),(SpareR.of_spare t8).tape0.trans (hsp.mono fun _ _ x=>x.elim),t9,heap_new _ _ _ rfl⟩
  clear t1 t2 t3 t4 t5 t6 t7 t8 t9
  simp only [evVal]
  go_wp2_with fail
  refine ⟨c,w2.heap.size,?_,hmid⟩
  simp [evVal]
 rintro a' w2 ⟨c,evb,rfl,ev',sb,cur,t1,t2,t3,t4,t5,t6,t7,t8,t9,t10⟩
 clear hCk hTk
 dsimp only
 refine LeadsR.seq hP hi0 hcs ?_
 obtain ⟨q1,q2,q3,q4,_⟩:=workF_same F.reverse K (⟨nextN C,time,A,[]⟩:Pe).bare
 generalize hpe:workF F.reverse K (⟨nextN C,time,A,[]⟩:Pe).bare=pe at *
 have hnum:c.number=nextN C:=t6.number.trans q1
 have htime:c.time=time:=t6.time.trans q2
 have hpl:pe.so.length=K.length+1:=by rw [q4];simp [Pe.bare];omega
 have hkt:Kinds w1 (fun b=>b=wtb\/(Value.slice ea C.length ecap).ownBlock=some b) [4,9,226,183,177,59]:=fun b cs t m hb ht hp=>by
  rcases hp with rfl | hp
  ·rw [h1w.cell] at hb;injection hb with hb;injection hb with _ hb _;subst hb;simp at ht
  ·obtain ⟨cur',hc⟩:=own_tag h1w.evs hp
   rw [hc] at hb;injection hb with hb;injection hb with _ hb _;subst hb;simp at ht
 have hok2:∀ s∈ss,StrOK w2 s:=fun s hs=>StrOK.move (h1w.sok s hs) t8 (hkt.less (by simp))
 have hpo2:=PolsIn.move h1w.pols t8 (hkt.less (by simp))
 have hso2:SoIn w2 c.sv (ps.map fun p=>{ p with v:=pe.at (p.node:Int) }):=by
  obtain ⟨sb',s1,s2,s3⟩:=t6.so
  have hse:sb'=sb:=by rw [t1] at s1;simp at s1;exact s1.symm
  subst hse
  refine ⟨sb',0,c.sl,c.sc,cur,(0,0),by simp [EvC.sv,t1],t3,fun p hp=>?_⟩
  simp at hp
  obtain ⟨q,hq,rfl⟩:=hp
  have hqn:=h.pnode q hq
  have hql:q.node<pe.so.length:=by omega
  have hbit:=EvIn.bit s3 hql
  refine ⟨?_,by rw [t6.sl];exact hql⟩
  simp only [Nat.zero_add]
  simpa [World.cell?,t3] using hbit
 refine LeadsR.mono (rest_any (w:=w2) wtb evb pa pcap c.number c.time c.av c.sv ss (ps.map fun p=>{ p with v:=pe.at (p.node:Int) }) (polsIn_says _ hpo2) hso2 (fun s hs=>by have:=hfull s hs;omega) (by have:=h.pfew;simp;omega) (by simp [h.plen]) (fun i s p h1 h2=>by simp at h2;obtain ⟨q,hq,rfl⟩:=h2;exact h.pstr i s q h1 hq) hok2 h.apart _ _ _ _ _ _ _ _ _ _ _ _ _ _ _ _ _ _ _ _ _ _ _ _ _ _ _ _ _ _ cs hcs _ _ _ _ _ _ _ _ _ _ _ _ _ (by rw [List.length_map];exact t4) t10) ?_
 rintro g' W' ⟨e,fr,r1,r2,⟨rfl,p1,p2,p3,p4,S,now,p5,p6⟩,r4,r5⟩
 refine ⟨_,fr,r1,r2,⟨rfl,?_⟩,r4,r5⟩
 subst hpe
 have hsp3:SpareR (Ms ss) w2 W':=⟨p1,p2,p3,p4⟩
 have hkm:Kinds w2 (Ms ss) [4,9,226,183,159,153]:=fun b cs t m hb ht=>by
  refine Ms.not hok2 hb ?_ ?_<;>(rintro rfl;simp at ht)
 obtain ⟨ea',ecap',rfl,f1,f2,f3⟩:=t5.form
 have hin2:∀ (i:Nat) c' e,D[i]? = some c'->F[i]? = some e->EvIn w2 c' e:=fun i c' e h1 h2=>(h1w.ins (k+i) c' e (by rw [<- List.getElem?_drop,<- hDe.out];exact h1) (by rw [<- List.getElem?_drop,<- hFe.out];exact h2)).move (h1w.typed c' (List.mem_of_mem_drop (hDe.out▸List.mem_of_getElem? h1))) t8 (hkt.less (by simp))
 have hty2:∀ c'∈D,EvT w2 c':=fun c' hc'=>(h1w.typed c' (List.mem_of_mem_drop (hDe.out▸hc'))).move t8 (hkt.less (by simp))
 have hap:=h.plen
 refine ⟨c,ea',ecap',now,?_,htime,hnum,?_,?_,?_⟩
 ·refine ⟨hsp3.get t4 (hkm _ _ _ _ t4 (by simp)),t5.move hsp3 (hkm.less (by simp)),by simp [hDF],fun i c' e h1 h2=>?_,fun c' hc'=>?_,by simpa using hfewD,h.ret,fun c' hc'=>?_,h.nfew,h.ncp,?_,?_,h.core,h.ahead,fun e he=>?_,PolsIn.move hpo2 hsp3 (hkm.less (by simp)),h.pfew,h.pcp,by rw [p6.len];exact h.plen,fun i s p h1 h2=>?_,p6.ok,p6.apart,h.pnode⟩
  ·rcases Nat.lt_or_ge i D.length with hi | hi
   ·rw [List.getElem?_append_left hi] at h1
    rw [List.getElem?_append_left (by rw [<- hDF];exact hi)] at h2
    exact (hin2 i c' e h1 h2).move (hty2 c' (List.mem_of_getElem? h1)) hsp3 (hkm.less (by simp))
   ·have hi':i=D.length:=by have:=(List.getElem?_eq_some_iff.1 h1).1;simp at this;omega
    subst hi'
    rw [hDF] at h2
    simp at h1 h2
    subst h1;subst h2
    exact t6.move t7 hsp3 (hkm.less (by simp))
  ·rcases List.mem_append.1 hc' with hc' | hc'
   ·exact (hty2 c' hc').move hsp3 (hkm.less (by simp))
   ·simp at hc';subst hc';exact t7.move hsp3 (hkm.less (by simp))
  ·simp at hc';subst hc';rw [hnum];exact hnx
  ·exact (h1w.nodes.move h1w.ntyped t8 (hkt.less (by simp))).move (typed.move h1w.ntyped t8 (hkt.less (by simp))) hsp3 (hkm.less (by simp))
  ·exact typed.move (typed.move h1w.ntyped t8 (hkt.less (by simp))) hsp3 (hkm.less (by simp))
  ·rcases List.mem_append.1 he with he | he
   ·exact hrowF e he
   ·simp at he;subst he;exact hpl
  ·have hi:i<ss.length:=by rw [<- p6.len];exact (List.getElem?_eq_some_iff.1 h1).1
   obtain ⟨t,k1,k2,_⟩:=p6.done i ss[i] _ (by simp;rw [<- h.plen];exact hi) (List.getElem?_eq_getElem hi) (by rw [List.getElem?_map,h2];rfl)
   rw [h1] at k1;cases k1
   rw [k2]
   exact h.pstr i ss[i] p (List.getElem?_eq_getElem hi) h2
 ·have s1:SpareR (Own46 wtb ea ss) w w1:=hs1.mono fun _ _ x=>x.elim
  have s2:SpareR (Own46 wtb ea ss) w1 w2:=t8.mono fun b _ hb=>by
   rcases hb with hb | hb
   ·exact .inl hb
   ·cases ea with
    | none=>cases hb
    | some a=>exact .inr (.inl ⟨a,rfl,by cases hb;rfl⟩)
  exact (s1.trans s2).trans (hsp3.mono fun _ _ x=>.inr (.inr x))
 ·intro a ha
  subst ha
  rcases t9 a.block rfl with hb | hb
  ·cases ea with
   | none=>cases hb
   | some a0=>exact .inl ⟨a0,rfl,by simpa [Value.ownBlock] using hb⟩
  ·exact .inr (by have:=hs1.size;omega)
 ·intro i s p h1 h2
  obtain ⟨t,k1,k2,k3,k4,k5⟩:=p6.done i s { p with v:=(workF F.reverse K (⟨nextN C,time,A,[]⟩:Pe).bare).at (p.node:Int) } (by simp;exact (List.getElem?_eq_some_iff.1 h2).1) h1 (by rw [List.getElem?_map,h2];rfl)
  refine ⟨t,k1,k2,k3,?_,k5.imp id fun ⟨g,g1,g2⟩=>⟨g,g1,by have:=p5 g g2;have:=t8.size;have:=hs1.size;omega⟩⟩
  rw [k4,hnum,htime]
end Go.Proofs.YtpbbmagjhkakgaaGreatDoor.Ev
namespace Go.Proofs.YtpbbmagjhkakgaaGreatDoor.Ev
open Go.RowKit Go.Deep Go.Maps Go.Proofs.YtpbbmagjhkakgaaGreatDoor.Lf
theorem oldF_lt (t:Int):∀ (C:List EvC) (j:Nat) (c:EvC),C[j]? = some c->j<oldF t C->c.time<t
 | [],j,c,h,_=>by simp at h
 | d::C,j,c,h,hj=>by
  simp only [oldF] at hj
  split at hj
  ·omega
  ·rename_i hd
   cases j with
   | zero=>simp at h;subst h;omega
   | succ j=>exact oldF_lt t C j c (by simpa using h) (by omega)
theorem step_drop {x:BT Pay} {name:ByteArray} {L:List (Int×Int)} {B0 mb wtb:Nat} {retain:Int} {i:Nat} {w:World} (h:WInv x name L B0 mb wtb retain i w) (hg:Good x) (hreach:reachT (coreT x)<=retain) (hi:i<25) (ao:Option Addr) (cap:Nat)
  (hA:StrsIn w ao (atomsAt L i)) (hcap:(atomsAt L i).length<=cap) :
  HCalls Tryz.prog 24 #[.pointer (some ⟨mb,0,none⟩),.int .i64 (timeZ L (i+1)),.slice ao (atomsAt L i).length cap] w fun e W'=>e=.returned (.int .i64 0)/\WInv x name L B0 mb wtb retain (i+1) W'/\SpareR (fun b=>B0<=b) w W':=by
 obtain ⟨⟨no,ncap,ea,ecap,C,E,pa,pcap,sp,s,dr,h1,h2,h3,h4,h5,h6,h7,h8,h9,h10,h11,h12⟩,hm,hwt⟩:=h
 have hT:=timeZ_range L (i+1)
 have hTs:=timeZ_step L i
 have hpk:=pickZ_range (L.getD i (0,0)).2 8 (by decide)
 have hnx:nextN C=(i:Int)+1:=by
  unfold nextN
  cases hc:C.getLast? with
  | none=>have:=h5 (List.getLast?_eq_none_iff.1 hc);simp [this]
  | some c=>simp [(h6 c hc).1]
 obtain ⟨k,hk⟩:∃ k,oldF (timeZ L (i+1)-retain) C=k:=⟨_,rfl⟩
 have hkn:k<=C.length:=by rw [<- hk];exact oldF_le _ _
 have hdr:∀ d∈(E.take k).reverse.map Pe.hap++dr,d.1<timeZ L (i+1)-retain:=by
  intro d hd
  rcases List.mem_append.1 hd with hd | hd
  ·obtain ⟨e,he,rfl⟩:=List.mem_map.1 hd
   obtain ⟨j,hj⟩:=List.mem_iff_getElem?.1 (List.mem_reverse.1 he)
   rw [List.getElem?_take] at hj
   split at hj
   ·rename_i hjk
    have hjc:j<C.length:=by omega
    have hin:=h1.ins j C[j] e (List.getElem?_eq_getElem hjc) hj
    have hlt:=oldF_lt (timeZ L (i+1)-retain) C j C[j] (List.getElem?_eq_getElem hjc) (by omega)
    show e.time<_
    rw [<- hin.time]
    exact hlt
   ·cases hj
  ·have:=h3 d hd;omega
 have hev:=event_drop h1 (timeZ L (i+1)) ao (atomsAt L i) cap (by omega) (fun c hc=>by rw [(h6 c hc).2];omega) k hk (by omega) hA
  (Nat.le_trans (atomsTo_len _ 3) (by decide)) hcap (atoms_names _) (atoms_once _ (by omega)) (by omega) (by omega) (fun t ht=>by simp at ht;subst ht;omega)
 have hnd:NumT (KAt (fun _=>x) 1) (coreT x) (nAt (fun _=>x) 0):=(putK_num (coreT x) [] (fun i k hk=>by simp at hk)).2
 refine (monEvent hm (D:=fun W'=>WInv x name L B0 mb wtb retain (i+1) W'/\SpareR (fun b=>B0<=b) w W') (fun w τ d x=>⟨x.1.tapeR τ d,x.2.tapeR τ d⟩) (hev.mono ?_))
 rintro e W' ⟨rfl,c,ea',ecap',ss',k1,k2,k3,k4,k5,k6⟩
 refine ⟨rfl,?_⟩
 obtain ⟨t,ht,t1,t2,t3,t4⟩:=k6 0 s _ rfl rfl
 have hlen:=k1.plen
 have hss:ss'=[t]:=by
  cases ss' with
  | nil=>simp at ht
  | cons a l =>
   cases l with
   | nil=>simp at ht;rw [ht]
   | cons b l=>simp at hlen
 subst hss
 have hown:∀ b,Own46 wtb ea [s] b->B0<=b:=by
  rintro b (rfl | ⟨a,e1,rfl⟩ | ⟨s',hs',e1 | e1⟩)
  ·exact hwt
  ·exact h10 a e1
  ·simp at hs';subst hs';rw [e1];exact h11
  ·simp at hs';subst hs';exact h12 b e1
 have hsr:SpareR (fun b=>B0<=b) w W':=k4.mono fun b _ hb=>hown b hb
 have hnode:((polOf name sp s.stb x).node:Int)=nAt (fun _=>x) 0:=Int.toNat_of_nonneg (nAt_nonneg _ _)
 refine ⟨⟨⟨no,ncap,ea',ecap',C.drop k++[c],_,pa,pcap,sp,t,(E.take k).reverse.map Pe.hap++dr,?_,(h2.drop k).next (nextN C),?_,?_,?_,?_,?_,?_,?_,?_,?_,?_⟩,?_,hwt⟩,hsr⟩
 ·rw [t1];exact k1
 ·exact hdr
 ·simp;omega
 ·intro e;simp at e
 ·intro c' hc'
  simp at hc'
  subst hc'
  exact ⟨by rw [k3,hnx];simp,k2⟩
 ·intro c' hc'
  rcases List.mem_append.1 hc' with h | h
  ·exact h7 c' (List.mem_of_mem_drop h)
  ·simp at h;subst h;omega
 ·rw [t2,h8]
 ·rw [t3,h9,hnode,(h2.drop k).says (nextN C) hg hnd (fun d hd=>by have:=hdr d hd;omega),hnx]
  rfl
 ·intro a ha
  rcases k5 a ha with ⟨a0,e1,e2⟩ | e
  ·rw [<- e2];exact h10 a0 e1
  ·have:=heap_lt h1.cell;omega
 ·rw [t1];exact h11
 ·intro g hg
  rcases t4 with e | ⟨g',e1,e2⟩
  ·exact h12 g (e▸hg)
  ·rw [e1] at hg;cases hg;have:=heap_lt h1.cell;omega
 ·refine (k4.block mb (heap_lt hm) ?_).trans hm
  rintro (e | ⟨a,e1,e2⟩ | hM)
  ·subst e;rw [h1.cell] at hm;cases hm
  ·have hb:(Value.slice ea C.length ecap).ownBlock=some mb:=by rw [e1];rw [<- e2];rfl
   obtain ⟨cs,hcs⟩:=own_tag h1.evs hb
   rw [hm] at hcs;cases hcs
  ·obtain ⟨cs,t',ht',e | e⟩:=Ms.tag h1.sok hM
   ·rw [hm] at ht';cases ht';cases e
   ·rw [hm] at ht';cases ht';cases e
end Go.Proofs.YtpbbmagjhkakgaaGreatDoor.Ev
namespace Go.Proofs.YtpbbmagjhkakgaaGreatDoor.Ev
open Go.RowKit Go.Deep Go.Maps Go.Proofs.YtpbbmagjhkakgaaGreatDoor.Lf Go.Conc
set_option maxRecDepth 100000 in
set_option maxHeartbeats 4000000 in
theorem event21_drop (text:ByteArray) (x:BT Pay) (L:List (Int×Int)) (retain:Int) (eo:Option Addr) (cap mb wtb:Nat) (w0:World) (i:Nat) (a:Act) (w:World) (hLm:L.length<=9223372036854775807) (hL:∀ p∈L,I64 p.1/\I64 p.2) (hC:ComesAt w0 eo L) (hgx:Good x) (hR:reachT x<=retain) (h:StW text x L retain eo cap mb wtb w0 (timeZ L (i+1)) i i a w) (h1:i<25) (h2:i<L.length):HWp Tryz.prog event21 (fun e a' w'=>e=.normal/\StX text x L retain eo cap mb wtb w0 (timeZ L (i+1)) i (i+1) a' w') a w:=by
 have hP:=plain_prog
 obtain ⟨hA,hW,hs⟩:=h
 obtain ⟨u,rfl⟩:=hA.open
 obtain ⟨b,off,rfl,hbl,hcells⟩:=(hC.move hs) (by intro e;rw [e] at h2;simp at h2)
 have c2:∀ τ d,(re w τ d).cell? ⟨b,off+i*2+1,none⟩=some (.int .i64 (L.getD i (0,0)).2):=fun τ d=>(hcells i h2).2
 have hmem:L.getD i (0,0)∈L:=by rw [List.getD_eq_getElem?_getD,List.getElem?_eq_getElem h2];exact List.getElem_mem h2
 have hat:=atoms_H (L.getD i (0,0)).2 w (hL _ hmem).2
 have hAe:atomsL (pickZ (L.getD i (0,0)).2 8).toNat=atomsAt L i:=rfl
 rw [hAe] at hat
 have HI:Hid (WInv x ⟨#[112]⟩ L w0.heap.size mb wtb retain i w/\SpareR (fun _=>False) w0 w):=⟨hW,hs⟩
 have HL:Hid (L.length<=9223372036854775807):=hLm
 clear hcells hA hW hs hAe hC hL hmem
 refine HWp.of_lead fun b' k cs hi0 hcs=>?_
 simp only [event21,loop21,body21,Tryz.f21,Option.getD_some]
 refine LeadsR.region hP hi0 hcs ?_
 simp only [List.size_toArray,List.length_cons,List.length_nil,Nat.reduceAdd,Nat.zero_add,List.range,List.range.loop]
 generalize hl:L.length=ln at *
 generalize (L.getD i (0,0)).2=ac at *
 generalize hz:timeZ L (i+1)=tz at *
 refine LeadsR.val hP (w':=w) (v:=?v0) rfl (by rfl) (fun τ d=>run_eq_of ?r0) hi0 hcs ?_
 case r0=>intro K hK;have:=c2 τ d;go_simp;exact hK
 try walk_nrm
 refine LeadsR.val hP (w':=w) (v:=?v1) rfl (by rfl) (fun τ d=>run_eq_of ?r1) hi0 hcs ?_
 case r1=>intro K hK;have:=c2 τ d;go_simp;exact hK
 try walk_nrm
 refine LeadsR.val hP (w':=w) (v:=?v2) rfl (by rfl) (fun τ d=>run_eq_of ?r2) hi0 hcs ?_
 case r2=>intro K hK;have:=c2 τ d;go_simp;exact hK
 try walk_nrm
 refine LeadsR.val hP (w':=w) (v:=?v3) rfl (by rfl) (fun τ d=>run_eq_of ?r3) hi0 hcs ?_
 case r3=>intro K hK;have:=c2 τ d;go_simp;exact hK
 try walk_nrm
 refine LeadsR.val hP (w':=w) (v:=?v4) rfl (by rfl) (fun τ d=>run_eq_of ?r4) hi0 hcs ?_
 case r4=>intro K hK;have:=c2 τ d;go_simp;exact hK
 try walk_nrm
 refine LeadsR.val hP (w':=w) (v:=?v5) rfl (by rfl) (fun τ d=>run_eq_of ?r5) hi0 hcs ?_
 case r5=>intro K hK;have:=c2 τ d;go_simp;exact hK
 try walk_nrm
 refine LeadsR.val hP (w':=w) (v:=?v6) rfl (by rfl) (fun τ d=>run_eq_of ?r6) hi0 hcs ?_
 case r6=>intro K hK;have:=c2 τ d;go_simp;exact hK
 try walk_nrm
 refine LeadsR.call hP (f:=25) (args:=#[.int .i64 ac]) rfl (by rfl) (fun τ d=>?c7) hi0 hcs hat (fun e w' x=>by obtain ⟨ao,cp,x1,_⟩:=x;exact ⟨_,x1⟩) ?_
 case c7=>rw [run_call_body (f:=25) (args:=#[.tmp 63]) (ats:=#[3]) rfl Tryz.func25 (by decide) rfl];simp only [List.map_toArray,List.map_cons,List.map_nil];rfl
 rintro v w1 ⟨ao,acap,hv,hcp,hst,hs1⟩
 cases hv
 try walk_nrm
 have hev:=step_drop (HI.out.1.move hs1) hgx (Int.le_trans (reach_core hgx) hR) h1 ao acap hst hcp
 rw [hz] at hev
 refine LeadsR.call hP (f:=24) (args:=#[.pointer (some ⟨mb,0,none⟩),.int .i64 tz,.slice ao (atomsAt L i).length acap]) rfl (by rfl) (fun τ d=>?c8) hi0 hcs hev (fun e w' x=>⟨_,x.1⟩) ?_
 case c8=>rw [run_call_body (f:=24) (args:=#[.tmp 57,.tmp 58,.tmp 64]) (ats:=#[47,3,31]) rfl Tryz.func24 (by decide) rfl];simp only [List.map_toArray,List.map_cons,List.map_nil];rfl
 rintro v w2 ⟨hv,hW2,hs2⟩
 cases hv
 try walk_nrm
 refine LeadsR.val hP (w':=w2) (v:=?v9) rfl (by rfl) (fun τ d=>run_eq_of ?r9) hi0 hcs ?_
 case r9=>intro K hK;go_simp;exact hK
 try walk_nrm
 refine LeadsR.nil hP hi0 hcs ?_
 subst hl
 subst hz
 exact LeadsR.here fun τ d=>⟨_,⟨⟨rfl,rfl,rfl,rfl,rfl,rfl,rfl,rfl,rfl,rfl⟩,hW2.tapeR τ d,(spare_out (HI.out.2.trans hs1) hs2).tapeR τ d⟩,rfl⟩
theorem round21_drop (text:ByteArray) (x:BT Pay) (L:List (Int×Int)) (retain:Int) (eo:Option Addr) (cap mb wtb:Nat) (w0:World) (i:Nat) (a:Act) (w:World) (hLm:L.length<=9223372036854775807) (hL:∀ p∈L,I64 p.1/\I64 p.2) (hC:ComesAt w0 eo L) (hgx:Good x) (hR:reachT x<=retain) (h:StW text x L retain eo cap mb wtb w0 (timeZ L i) i i a w) (h1:i<=25) (h2:i<=L.length) :
  HWp Tryz.prog loop21 (fun e a' w'=>(e=.normal/\i<25/\i<L.length/\StW text x L retain eo cap mb wtb w0 (timeZ L (i+1)) ((i+1:Nat):Int) (i+1) a' w')\/(e=.exit 0/\(i=25\/i=L.length)/\StW text x L retain eo cap mb wtb w0 (timeZ L i) i i a' w')) a w:=by
 have hP:=plain_prog
 have e0:loop21=.seq head21 (.seq (.block 1 (.seq later21 (.seq event21 ok21))) next21):=rfl
 rw [e0]
 by_cases hin:i<25/\i<L.length
 ·obtain ⟨h3,h4⟩:=hin
  refine HWp.seqL hP (StW text x L retain eo cap mb wtb w0 (timeZ L i) i i) (fun _ _ τ d x=>x.tapeR τ d) (fun τ d=>head21_go text x L retain eo cap mb wtb w0 i a _ hLm (h.tapeR τ d) h3 h4) fun a w h=>?_
  refine HWp.seqH hP (StW text x L retain eo cap mb wtb w0 (timeZ L (i+1)) i (i+1)) (HWp.blockN hP (fun _ _ τ d x=>x.tapeR τ d) ?_) fun a w h=>?_
  ·refine HWp.seqL hP (StW text x L retain eo cap mb wtb w0 (timeZ L (i+1)) i i) (fun _ _ τ d x=>x.tapeR τ d) (fun τ d=>later21_go text x L retain eo cap mb wtb w0 i a _ hLm hL hC (h.tapeR τ d) h3 h4) fun a w h=>?_
   refine HWp.seqH hP (StX text x L retain eo cap mb wtb w0 (timeZ L (i+1)) i (i+1)) (event21_drop text x L retain eo cap mb wtb w0 i a w hLm hL hC hgx hR h h3 h4) fun a w h=>?_
   exact HWp.loneN hP (fun _ _ τ d x=>x.tapeR τ d) fun τ d=>ok21_go text x L retain eo cap mb wtb w0 _ _ (i+1) a _ (h.tapeR τ d)
  ·refine (HWp.loneN hP (J:=StW text x L retain eo cap mb wtb w0 (timeZ L (i+1)) ((i+1:Nat):Int) (i+1)) (fun _ _ τ d x=>x.tapeR τ d) fun τ d=>next21_go text x L retain eo cap mb wtb w0 i a _ h3 (h.tapeR τ d)).mono ?_
   rintro e a w ⟨rfl,h⟩
   exact .inl ⟨rfl,h3,h4,h⟩
 ·have h3:i=25\/i=L.length:=by omega
  refine HWp.seq hP ((HWp.of_wp hP (Q:=fun e a' w'=>e=.exit 0/\StW text x L retain eo cap mb wtb w0 (timeZ L i) i i a' w') (fun _ _ _ τ d x=>⟨x.1,x.2.tapeR τ d⟩) (fun _ _ x=>by cases x.1) (fun τ d=>head21_end text x L retain eo cap mb wtb w0 i a _ hLm (h.tapeR τ d) h1 h2 h3)).mono ?_)
  rintro e a w ⟨rfl,h⟩
  exact .inr ⟨rfl,h3,h⟩
theorem watched_any (text:ByteArray) (x:BT Pay) (L:List (Int×Int)) (retain:Int) (eo:Option Addr) (cap:Nat) (w:World) (hg:Glob w) (hw7:14<=w.heap.size) (hm:text.size<=maxLen) (hr:readF text=(some x,0)) (hR:reachT x<=retain) (hK:(KAt (fun _=>x) 1).length<=40) (hX:nodesT (coreT x)<=1000000) (hret:0<=retain/\retain<=100000)
  (hLm:L.length<=9223372036854775807) (hL:∀ p∈L,I64 p.1/\I64 p.2) (hC:ComesAt w eo L) :
  HCalls Tryz.prog 21 #[.string text,.int .i64 retain,.slice eo L.length cap] w (WatchedPost x L w):=by
 have hP:=plain_prog
 have hgx:Good x:=(readF_sound hr).1
 have hi0:∀ it∈([]:List Item),okItem it:=by simp
 have hi1:∀ (c:Code),∀ it∈[Item.code c],okItem it:=fun c=>okItems_cons trivial (by simp)
 have hi2:∀ (c d:Code),∀ it∈[Item.code c,Item.code d],okItem it:=fun c d=>okItems_cons trivial (hi1 d)
 have hb:Tryz.f21.body=some body21:=rfl
 have e0:body21=unseq pre21 (.seq (.seq zero21 (.block 0 (.loop loop21))) rest21):=rfl
 refine HCalls.of_lead Tryz.func21 hb fun cs hcs=>?_
 rw [e0]
 refine LeadsR.pieces hP pre21 (PreOK text x L retain eo cap w) ?_ hi0 hcs (fun τ d=>?_) ?_
 ·rintro a w' τ d ⟨mb,wtb,h1,h2,h3⟩
  exact ⟨mb,wtb,h1,h2.tapeR τ d,h3.tapeR τ d⟩
 ·exact pre21_go text x L retain eo cap w (re w τ d) ((SpareR.refl _ w).tapeR τ d) rfl (glob_tape hg τ d) hw7 hm hr hR hK hX hret
 rintro a w1 ⟨mb,wtb,hA,hW,hs⟩
 refine LeadsR.seq hP hi0 hcs (LeadsR.seq hP (hi1 _) hcs ?_)
 refine LeadsR.piece hP (StW text x L retain eo cap mb wtb w (timeZ L 0) (0:Nat) 0) (fun _ _ τ d x=>x.tapeR τ d) (hi2 _ _) hcs (fun τ d=>zero21_go text x L retain eo cap mb wtb w a _ hA (hW.tapeR τ d) (hs.tapeR τ d)) fun a w1 h0=>?_
 refine LeadsR.hpiece (StW text x L retain eo cap mb wtb w (timeZ L (min L.length 25)) (min L.length 25:Nat) (min L.length 25)) (hi1 _) hcs (HWp.blockLoop hP (fun n a w'=>∃ i:Nat,n=25-i/\i<=25/\i<=L.length/\StW text x L retain eo cap mb wtb w (timeZ L i) i i a w') _ (fun _ _ τ d x=>x.tapeR τ d) 25 ⟨0,rfl,by omega,by omega,h0⟩ ?_) fun a w2 h2=>?_
 ·rintro n a w2 ⟨i,rfl,h1,h2,h3⟩
  refine (round21_drop text x L retain eo cap mb wtb w i a w2 hLm hL hC hgx hR h3 h1 h2).mono ?_
  rintro e a w3 (⟨rfl,h4,h5,h6⟩ | ⟨rfl,h4,h6⟩)
  ·exact .inl ⟨rfl,25-(i+1),by omega,i+1,rfl,by omega,by omega,h6⟩
  ·have e1:i=min L.length 25:=by omega
   subst e1
   exact .inr ⟨rfl,h6⟩
 ·refine LeadsR.last hP hcs Tryz.func21 ?_ ?_ fun τ d=>rest21_go text x L retain eo cap mb wtb w _ a _ (h2.tapeR τ d)
  ·rintro e w' τ d ⟨h1,h2⟩
   exact ⟨h1,h2.tapeR τ d⟩
  ·rintro w' ⟨h1,_⟩
   cases h1
end Go.Proofs.YtpbbmagjhkakgaaGreatDoor.Ev
