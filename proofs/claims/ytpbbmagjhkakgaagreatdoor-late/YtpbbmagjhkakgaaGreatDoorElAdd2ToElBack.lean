import Derived.Test.YtpbbmagjhkakgaaGreatDoorRowSame0ToElAdd
import Derived.Test.YtpbbmagjhkakgaaGreatDoorEvCheckToEvNew
import Derived.Test.YtpbbmagjhkakgaaGreatDoorEvAdd2ToSnAtoms
namespace Go.Proofs.YtpbbmagjhkakgaaGreatDoor.Ev
open Go.RowKit Go.Deep Go.Maps Go.Proofs.YtpbbmagjhkakgaaGreatDoor.Lf
def JudgedAt (wtb:Nat) (retain room:Int) (ea:Option Addr) (ecap:Nat) (C:List EvC) (E:List Pe) (K:List Key) (V:World) (nn:Value) (w':World):Prop :=
 ∃ (no:Option Addr) (ncap:Nat) (pv:Value) (Cs:List EvC),nn=.slice no K.length ncap/\K.length<=ncap/\NodesIn w' no K/\(∀ a,no=some a->∃ cs m,w'.heap[a.block]? = some (.cells cs 226 m))/\(∃ nv,V.heap[wtb]? = some (.cells #[.int .i64 retain,.int .i64 room,nv,.slice ea C.length ecap,pv] 153 (0,0)))/\
  w'.heap[wtb]? = some (.cells #[.int .i64 retain,.int .i64 room,nn,.slice ea C.length ecap,pv] 153 (0,0))/\EvsAt w' (.slice ea C.length ecap) Cs/\Cs.length=C.length/\(∀ (i:Nat) c c0,Cs[i]? = some c->C[i]? = some c0->c.number=c0.number/\c.time=c0.time)/\
  (∀ (i:Nat) c e,Cs[i]? = some c->(judL K E C.length)[i]? = some e->EvIn w' c e)/\(∀ c∈Cs,EvT w' c)/\Spare (fun b=>b=wtb\/∃ a,ea=some a/\a.block=b) V w'
theorem judged (wtb:Nat) (retain room:Int) (ea:Option Addr) (ecap:Nat) (C:List EvC) (E:List Pe) (x:BT Pay) (hg:Good x) (hK:(KAt (fun _=>x) 1).length<=40) (w:World) (h:WatchAt w wtb retain room none 0 [] ea ecap C E none 0 [] []) (V:World) (nn pv:Value) (hrow:V.ownsRow w.heap.size 226 6 nn (KAt (fun _=>x) 1).length (flatK (KAt (fun _=>x) 1))) (hV:V.heap[wtb]? = some (.cells #[.int .i64 retain,.int .i64 room,.slice none 0 0,.slice ea C.length ecap,pv] 153 (0,0))) (hs:Spare (fun b=>b=wtb) w V) :
  Calls Tryz.prog 142 #[.pointer (some ⟨wtb,0,none⟩),nn] V fun e w'=>e=.returned (.tuple #[])/\JudgedAt wtb retain room ea ecap C E (KAt (fun _=>x) 1) V nn w':=by
 obtain ⟨no,ncap,rfl,n1,n2,n3⟩:=nodes_of_row hrow
 have hA0:Ahead []:=fun i k hk=>by simp at hk
 obtain ⟨p1,_⟩:=putK_num (coreT x) [] hA0
 have hcore:=cored_ops (coreT x) [] (cored_core hg) (.inl (good_core hg)) (fun k hk=>by simp at hk)
 have hkd:∀ ts,(153:TypeId) ∉ ts->Kinds w (fun b=>b=wtb) ts:=fun ts h1 b cs t m h2 h3 e=>by
  subst e
  rw [h.cell] at h2
  cases h2
  exact h1 h3
 have hsr:SpareR (fun b=>b=wtb) w V:=SpareR.of_spare hs
 have hEV:EvsAt V (.slice ea C.length ecap) C:=h.evs.move hsr (hkd _ (by decide))
 rcases hEV.cases with ⟨e1,e2⟩ | ⟨g,cp,e1,e2,_,hgl⟩
 ·subst e2
  cases e1
  refine (judge0_any wtb (.int .i64 retain) (.int .i64 room) (.slice none 0 0) pv (.slice no (KAt (fun _=>x) 1).length ncap) no _ ncap rfl V hV).mono ?_
  rintro e w' ⟨rfl,k1,k2⟩
  have hsp:Spare (fun b=>b=wtb\/∃ a,(none:Option Addr)=some a/\a.block=b) V w':=Spare.of_only k2 (fun x hx=>.inl hx)
  have hnw:∀ a,no=some a->¬ (a.block=wtb\/∃ a',(none:Option Addr)=some a'/\a'.block=a.block):=by
   rintro a ha (e | ⟨_,e,_⟩)
   ·obtain ⟨_,cs,m,k⟩:=n3 a ha;rw [e,hV] at k;cases k
   ·cases e
  refine ⟨rfl,no,ncap,pv,[],rfl,n1,n2.spare hsp hnw,fun a ha=>?_,⟨_,hV⟩,k1,World.ownsRow_nil _ _ _ _,rfl,by simp,by simp,by simp,hsp⟩
  obtain ⟨_,cs,m,k⟩:=n3 a ha
  exact ⟨cs,m,(hsp.block _ (heap_lt k) (hnw a ha)).trans k⟩
 ·cases e1
  refine (judge_any wtb (.int .i64 retain) (.int .i64 room) (.slice none 0 0) pv no ncap (KAt (fun _=>x) 1) g ecap C E V hV hEV h.len (fun i c e hc he=>(h.ins i c e hc he).move (h.typed c (List.mem_of_getElem? hc)) hsr (hkd _ (by decide))) (fun c hc=>(h.typed c hc).move hsr (hkd _ (by decide))) h.few (by omega) n1 n2 (fun a ha=>(n3 a ha).2) hcore p1).mono ?_
  rintro e w' ⟨rfl,Cs,hI⟩
  have hsp:Spare (fun b=>b=wtb\/∃ a,(some ⟨g,0,none⟩:Option Addr)=some a/\a.block=b) V w':=hI.sp.mono (fun b _ hb=>by rcases hb with e | e;exact .inl e;exact .inr ⟨_,rfl,e.symm⟩)
  obtain ⟨cg0,hg0⟩:=own_tag hEV (g:=g) rfl
  have hnw:∀ a,no=some a->¬ (a.block=wtb\/a.block=g):=by
   rintro a ha (e | e)
   ·obtain ⟨_,cs,m,k⟩:=n3 a ha;rw [e,hV] at k;cases k
   ·obtain ⟨_,cs,m,k⟩:=n3 a ha;rw [e,hg0] at k;cases k
  refine ⟨rfl,no,ncap,pv,Cs,rfl,n1,n2.spare hI.sp hnw,fun a ha=>?_,⟨_,hV⟩,hI.hw,hI.evs,hI.len,fun i c c0 h1 h2=>⟨(hI.same i c c0 h1 h2).1,(hI.same i c c0 h1 h2).2.1⟩,fun i c e h1 h2=>hI.done i c e ?_ h1 h2,hI.typed,hsp⟩
  ·obtain ⟨_,cs,m,k⟩:=n3 a ha
   exact ⟨cs,m,(hI.sp.block _ (heap_lt k) (hnw a ha)).trans k⟩
  ·have:=(List.getElem?_eq_some_iff.1 h1).1
   rw [hI.len] at this
   exact this
def AddedAt (wtb:Nat) (retain room:Int) (ea:Option Addr) (ecap:Nat) (C:List EvC) (E:List Pe) (name:ByteArray) (x:BT Pay) (w w':World):Prop :=
 ∃ (no:Option Addr) (ncap:Nat) (Cs:List EvC) (pb pcap:Nat) (arr:Array Value) (sp:Option Addr) (stb:Nat),WatchAt w' wtb retain room no ncap (KAt (fun _=>x) 1) ea ecap Cs (judL (KAt (fun _=>x) 1) E C.length) (some ⟨pb,0,none⟩) pcap [polOf name sp stb x] [⟨stb,.slice none 0 0,0,[]⟩]/\w'.heap[pb]? = some (.cells arr 183 (0,0))/\PolsAt arr 0 [polOf name sp stb x]/\SentAt 143 0 w' x (.pointer sp)/\w.heap.size<=stb/\Cs.length=C.length/\(∀ (i:Nat) c c0,Cs[i]? = some c->C[i]? = some c0->c.number=c0.number/\c.time=c0.time)/\Spare (fun b=>b=wtb\/∃ a,ea=some a/\a.block=b) w w'
theorem addW_ok (wtb:Nat) (retain room:Int) (ea:Option Addr) (ecap:Nat) (C:List EvC) (E:List Pe) (name s:ByteArray) (x:BT Pay) (w:World) (h:WatchAt w wtb retain room none 0 [] ea ecap C E none 0 [] []) (hN:NameOK name) (hNs:name.size<=1000) (hm:s.size<=maxLen) (hg:Glob w) (hw7:14<=w.heap.size) (hr:readF s=(some x,0)) (hR:reachT x<=retain) (hK:(KAt (fun _=>x) 1).length<=40) (hX:nodesT (coreT x)<=1000000) :
  Calls Tryz.prog 91 #[.pointer (some ⟨wtb,0,none⟩),.string name,.string s] w fun e w'=>e=.returned (.tuple #[.int .i64 0,.nilIface])/\AddedAt wtb retain room ea ecap C E name x w w':=by
 have hgx:Good x:=(readF_sound hr).1
 refine (addE_ok wtb retain (.int .i64 room) (.slice ea C.length ecap) none 0 0 name s x w (JudgedAt wtb retain room ea ecap C E (KAt (fun _=>x) 1)) h.cell hN hNs hm hg hw7 hr hR hK hX (fun V nn pv h1 h2 h3=>judged wtb retain room ea ecap C E x hgx hK w h V nn pv h1 h2 h3)).mono ?_
 rintro e w' ⟨rfl,V,nn,pb,pcap,stb,sp,arr,a1,a2,a3,a4,a5,a6,a7,a8,a9,a10,no,ncap,pv,Cs,rfl,j1,j2,j3,⟨nv,j4⟩,j5,j6,j7,j8,j9,j10,j11⟩
 refine ⟨rfl,?_⟩
 have hpv:pv=.slice (some ⟨pb,0,none⟩) 1 pcap:=by
  rw [a1] at j4
  injection j4 with j4
  injection j4 with j4 _ _
  injection j4 with j4
  simp at j4
  exact j4.2.symm
 subst hpv
 have hA0:Ahead []:=fun i k hk=>by simp at hk
 obtain ⟨p1,p2⟩:=putK_num (coreT x) [] hA0
 have hp3:=NumT.le p2
 have hcore:=cored_ops (coreT x) [] (cored_core hgx) (.inl (good_core hgx)) (fun k hk=>by simp at hk)
 have heal:∀ a,ea=some a->a.block<w.heap.size:=fun a ha=>by
  subst ha
  rcases h.evs.cases with ⟨e1,_⟩ | ⟨g,cp,e1,_,_,hgl⟩
  ·cases e1
  ·cases e1;exact hgl
 have hwl:=heap_lt h.cell
 have hnew:∀ b,w.heap.size<=b->¬ (b=wtb\/∃ a,ea=some a/\a.block=b):=by
  rintro b hb (e | ⟨a,ha,e⟩)
  ·omega
  ·have:=heal a ha;omega
 have hps:polsN (fun _=>x) [⟨name,sp,some ⟨stb,0,none⟩,0,1,false⟩]=[polOf name sp stb x]:=rfl
 rw [hps] at a5
 have hpb:w'.heap[pb]? = some (.cells arr 183 (0,0)):=(j11.block pb (heap_lt a4) (hnew pb a3)).trans a4
 have hst:w'.heap[stb]? = some (.cells #[.slice none 0 0] 177 (0,0)):=(j11.block stb (heap_lt a8) (hnew stb a7)).trans a8
 have hlenE:C.length=E.length:=h.len
 refine ⟨no,ncap,Cs,pb,pcap,arr,sp,stb,?_,hpb,a5,?_,a7,j7,j8,?_⟩
 ·exact {
   cell:=by rw [j7];exact j5
   evs:=by rw [j7];exact j6
   len:=by rw [judL_len,j7]
   ins:=j9
   typed:=j10
   few:=by rw [j7];exact h.few
   ret:=h.ret
   nums:=fun c hc=>by
    have hc':Cs[Cs.length-1]? = some c:=by rw [<- List.getLast?_eq_getElem?];exact hc
    have hl:=(List.getElem?_eq_some_iff.1 hc').1
    have hl2:Cs.length-1<C.length:=by omega
    have h0:C[Cs.length-1]? = some C[Cs.length-1]:=List.getElem?_eq_getElem hl2
    have:=(j8 _ c _ hc' h0).1
    rw [this]
    exact h.nums _ (by rw [List.getLast?_eq_getElem?,<- j7];exact h0)
   nfew:=by omega
   ncp:=j1
   nodes:=j2
   ntyped:=j3
   core:=hcore
   ahead:=p1
   rows:=judL_row _ E _
   pols:=.inr ⟨pb,0,arr,(0,0),rfl,hpb,a5⟩
   pfew:=by simp
   pcp:=a2
   plen:=rfl
   pstr:=fun i s p hs hp=>by
    rcases i with _ | i
    ·cases hs;cases hp;rfl
    ·simp at hs
   sok:=fun s hs=>by
    simp at hs
    subst hs
    exact ⟨hst,World.ownsRow_nil _ _ _ _⟩
   apart:=fun i j s t hs ht hij=>by
    rcases i with _ | i
    ·rcases j with _ | j
     ·exact absurd rfl hij
     ·simp at ht
    ·simp at hs
   pnode:=fun p hp=>by
    simp at hp
    subst hp
    have:(nAt (fun _=>x) 0)<=((KAt (fun _=>x) 1).length:Int):=hp3.2
    show (nAt (fun _=>x) 0).toNat<=_
    omega }
 ·refine sent_tagged (fun k cs hk=>?_) a9
  refine (j11.block k (heap_lt hk) ?_).trans hk
  rintro (e | ⟨a,ha,e⟩)
  ·subst e;rw [a1] at hk;cases hk
  ·subst ha
   have hEV:EvsAt V (.slice (some a) C.length ecap) C:=h.evs.move (SpareR.of_spare a10) (fun b cs t m h2 h3 e=>by subst e;rw [h.cell] at h2;cases h2;simp at h3)
   obtain ⟨cg,hcg⟩:=own_tag hEV (g:=a.block) rfl
   rw [e,hk] at hcg
   cases hcg
 ·exact (a10.mono (fun b _ e=>.inl e)).trans j11
end Go.Proofs.YtpbbmagjhkakgaaGreatDoor.Ev
namespace Go.Proofs.YtpbbmagjhkakgaaGreatDoor.Ev
open Go.RowKit Go.Deep
def knownF (reach:Int):List EvC->List EvC
 | []=>[]
 | c::C=>if c.number=1 then c::C else (c::C).filter fun d=>decide (d.time-reach>=c.time)
theorem evOnes (C:List EvC):∀ u∈flatE C,u.oneCell'=true:=by
 intro u hu
 obtain ⟨c,_,hc⟩:=List.mem_flatMap.1 hu
 simp [evCells] at hc
 rcases hc with rfl | rfl | rfl | rfl<;>rfl
theorem flatE_length (C:List EvC):(flatE C).length=C.length*4:=flat_len evCells 4 (fun _=>rfl) C
set_option maxRecDepth 100000 in
set_option maxHeartbeats 4000000 in
theorem known_any (wtb:Nat) (rt rm nv pv:Value) (ea:Option Addr) (cap:Nat) (C:List EvC) (reach:Int) (w:World) (hw:w.heap[wtb]? = some (.cells #[rt,rm,nv,.slice ea C.length cap,pv] 153 (0,0))) (hE:EvsAt w (.slice ea C.length cap) C) (hn:C.length<=1000) (hr:0<=reach/\reach<=1000000000) (hT:∀ c∈C,0<=c.time/\c.time<=1000000000000) :
  Calls Tryz.prog 138 #[.pointer (some ⟨wtb,0,none⟩),.int .i64 reach] w fun e w'=>∃ v',e=.returned v'/\w'.ownsRow w.heap.size 159 4 v' (knownF reach C).length (flatE (knownF reach C))/\Below w.heap.size w w':=by
 have hlt:=heap_lt hw
 have c3:w.cell? ⟨wtb,3,none⟩=some (.slice ea C.length cap):=cell_at hw rfl
 obtain ⟨ea',cap',hfm,hcap,hcm,hea⟩:=hE.form
 cases hfm
 have hclone:Calls Tryz.prog 175 #[.slice ea C.length cap] w fun e w'=>∃ v',e=.returned v'/\w'.ownsRow w.heap.size 159 4 v' C.length (flatE C)/\Below w.heap.size w w':=by
  cases ea with
  | none =>
   refine (cloneEv_nil _ _ w).mono ?_
   rintro e w' ⟨rfl,rfl⟩
   have:C=[]:=by
    cases C with
    | nil=>rfl
    | cons c C=>obtain ⟨g,h,_⟩:=hea (by simp);cases h
   subst this
   exact ⟨_,rfl,World.ownsRow_nil _ _ _ _,Below.refl _ _⟩
  | some a =>
   have hE':w.ownsRow 0 159 4 (.slice (some a) C.length cap) C.length (flatE C):=hE
   obtain ⟨_,⟨h,_⟩ | ⟨g,cp,cur,h,_⟩⟩:=hE'
   ·cases h
   ·cases h
    refine cloneEv_some g 0 C.length cap (flatE C) w (flatE_length C) (by omega) (fun j u hj=>?_) (evOnes C)
    rw [Nat.zero_add]
    exact row_cell hE rfl hj
 cases C with
 | nil =>
  go_enter Tryz.func138,Tryz.ntmps138
  go_wp2_with fail
  refine hclone.mono ?_
  rintro e w1 ⟨v,rfl,h1,h2⟩
  go_wp2_with fail
  go_ret
  exact ⟨v,rfl,h1,h2⟩
 | cons c C =>
  obtain ⟨g,rfl,hg⟩:=hea (by simp)
  have p0:w.cell? ⟨g,0,none⟩=some (.int .i64 c.number):=hE.cell (i:=0) (k:=0) rfl rfl
  have p1:w.cell? ⟨g,1,none⟩=some (.int .i64 c.time):=hE.cell (i:=0) (k:=1) rfl rfl
  have Hlen:Hid ((c::C).length=C.length+1):=rfl
  have HE:Hid _:=hE
  have Hcl:Hid _:=hclone
  have HT:Hid _:=hT
  have hTc:=hT c (by simp)
  have hl1:1<=(c::C).length:=by simp
  generalize hn0:(c::C).length=n at *
  clear hE hclone hT hw hcm hea
  by_cases h1:c.number=1
  ·have hk:knownF reach (c::C)=c::C:=by simp [knownF,h1]
   rw [hk]
   clear hk
   go_enter Tryz.func138,Tryz.ntmps138
   go_wp2_with fail
   refine Calls.mono Hcl.out ?_
   rintro e w1 ⟨v,rfl,q1,q2⟩
   rw [<- hn0] at q1
   have Hq:Hid _:=q1
   clear q1
   go_wp2_with fail
   go_ret
   exact ⟨v,rfl,Hq.out,q2⟩
  ·have hk:knownF reach (c::C)=(c::C).filter fun d=>decide (d.time-reach>=c.time):=by simp [knownF,h1]
   rw [hk]
   clear hk
   obtain ⟨i0,hi,hz0,hz1,hz2⟩:=info_parts infoEvent
   generalize hD:(c::C)=D at *
   have HD:Hid (c::C=D):=hD
   clear hD
   generalize c.time=ct at *
   generalize hF:(fun j=>(D.take j).filter fun d=>decide (d.time-reach>=ct))=F
   have F0:Hid (F 0=[]):=by subst hF;rfl
   have FN:Hid (F n=D.filter fun d=>decide (d.time-reach>=ct)):=by subst hF;show List.filter _ _=_;rw [List.take_of_length_le (by omega)]
   have FS:Hid (∀ j d,D[j]? = some d->F (j+1)=if d.time-reach>=ct then F j++[d] else F j):=by
    intro j d hd
    subst hF
    show List.filter _ _=_
    rw [List.take_add_one,hd,List.filter_append]
    by_cases hx:d.time-reach>=ct
    ·simp [hx]
    ·simp [hx]
   have FL:Hid (∀ j,(F j).length<=j):=fun j=>by subst hF;exact Nat.le_trans (List.length_filter_le _ _) (by rw [List.length_take];omega)
   rw [<- FN.out]
   clear hF
   go_enter Tryz.func138,Tryz.ntmps138
   go_wp2_with fail
   ·exfalso
    rcases ‹((n:Int)==0)=true\/(c.number==1)=true› with hq | hq
    ·have:=eq_of_beq hq;omega
    ·exact h1 (eq_of_beq hq)
   go_loopw [34,5] (fun iv v wr=>∃ i:Nat,iv=.int .i64 i/\i<=n/\wr.ownsRow w.heap.size 159 4 v (F i).length (flatE (F i))/\Below w.heap.size w wr) (fun iv _ _=>n-(intOf iv).toNat)
   case atStart=>exact ⟨0,rfl,Nat.zero_le _,by rw [F0.out];exact World.ownsRow_nil _ _ _ _,Below.refl _ _⟩
   case round =>
    obtain ⟨i,rfl,hin,hown,hbw⟩:=hrel
    have hd3:wr.cell? ⟨wtb,3,none⟩=some (.slice (some ⟨g,0,none⟩) n cap):=by rw [hbw.cell (p:=⟨wtb,3,none⟩) hlt];exact c3
    by_cases hil:i<n
    ·have hie:i<D.length:=by omega
     have hget:D[i]? = some D[i]:=List.getElem?_eq_getElem hie
     have hTx:=HT.out D[i] (List.getElem_mem hie)
     have HFS:Hid _:=FS.out i _ hget
     have hE':EvsAt w (.slice (some ⟨g,0,none⟩) D.length cap) D:=by show w.ownsRow 0 159 4 _ _ _;rw [hn0];exact HE.out
     generalize D[i]=x at *
     have q0:wr.cell? ⟨g,i*4,none⟩=some (.int .i64 x.number):=by rw [hbw.cell (p:=⟨g,i*4,none⟩) hg];exact hE'.cell (k:=0) hget rfl
     have q1:wr.cell? ⟨g,i*4+1,none⟩=some (.int .i64 x.time):=by rw [hbw.cell (p:=⟨g,i*4+1,none⟩) hg];exact hE'.cell (k:=1) hget rfl
     have q2:wr.cell? ⟨g,i*4+2,none⟩=some (.slice x.ao x.al x.ac):=by rw [hbw.cell (p:=⟨g,i*4+2,none⟩) hg];exact hE'.cell (k:=2) hget rfl
     have q3:wr.cell? ⟨g,i*4+3,none⟩=some (.slice x.so x.sl x.sc):=by rw [hbw.cell (p:=⟨g,i*4+3,none⟩) hg];exact hE'.cell (k:=3) hget rfl
     clear hE' hget
     go_wp2_with fail
     have hb2:Below w.heap.size w (wr.alloc (.cells #[.int .i64 x.number,.int .i64 x.time,.slice x.ao x.al x.ac,.slice x.so x.sl x.sc] 159)):=hbw.al _
     have hown2:=hown.alloc (.cells #[.int .i64 x.number,.int .i64 x.time,.slice x.ao x.al x.ac,.slice x.so x.sl x.sc] 159)
     have z3:(wr.alloc (.cells #[.int .i64 x.number,.int .i64 x.time,.slice x.ao x.al x.ac,.slice x.so x.sl x.sc] 159)).cell? ⟨wtb,3,none⟩=some (.slice (some ⟨g,0,none⟩) n cap):=by rw [hb2.cell (p:=⟨wtb,3,none⟩) hlt];exact c3
     have z4:(wr.alloc (.cells #[.int .i64 x.number,.int .i64 x.time,.slice x.ao x.al x.ac,.slice x.so x.sl x.sc] 159)).cell? ⟨g,1,none⟩=some (.int .i64 ct):=by rw [hb2.cell (p:=⟨g,1,none⟩) hg];exact p1
     have y0:(wr.alloc (.cells #[.int .i64 x.number,.int .i64 x.time,.slice x.ao x.al x.ac,.slice x.so x.sl x.sc] 159)).cell? ⟨wr.heap.size,0,none⟩=some (.int .i64 x.number):=cell_at (heap_new _ _ _ rfl) rfl
     have y1:(wr.alloc (.cells #[.int .i64 x.number,.int .i64 x.time,.slice x.ao x.al x.ac,.slice x.so x.sl x.sc] 159)).cell? ⟨wr.heap.size,1,none⟩=some (.int .i64 x.time):=cell_at (heap_new _ _ _ rfl) rfl
     have y2:(wr.alloc (.cells #[.int .i64 x.number,.int .i64 x.time,.slice x.ao x.al x.ac,.slice x.so x.sl x.sc] 159)).cell? ⟨wr.heap.size,2,none⟩=some (.slice x.ao x.al x.ac):=cell_at (heap_new _ _ _ rfl) rfl
     have y3:(wr.alloc (.cells #[.int .i64 x.number,.int .i64 x.time,.slice x.ao x.al x.ac,.slice x.so x.sl x.sc] 159)).cell? ⟨wr.heap.size,3,none⟩=some (.slice x.so x.sl x.sc):=cell_at (heap_new _ _ _ rfl) rfl
     generalize (wr.alloc (.cells #[.int .i64 x.number,.int .i64 x.time,.slice x.ao x.al x.ac,.slice x.so x.sl x.sc] 159))=w2 at hb2 hown2 z3 z4 y0 y1 y2 y3 ⊢
     go_region
     by_cases hx:x.time-reach>=ct
     ·go_wp2_with (at_builtin;refine wpList_append_own _ rfl _ _ 146 rfl w.heap.size 159 i0 (.agg #[.int .i64 0,.int .i64 0,.slice none 0 0,.slice none 0 0]) 4 64 Tryz.underlying146 hi hz0 hz1 hz2 rfl (by decide) _ _ _ rfl (hown2.alloc _) ⟨w2.heap.size,0,none⟩ 1 1 (evCells x) rfl rfl ?c1 ?c2 ?c3 ?c4 ?c5 ?_)
      case c1 =>
       exact fun j u hj=>cells_four_new w2 x 159 j u hj
      case c2=>exact fun u hu=>evOnes [x] u (by simpa [flatE] using hu)
      case c3=>have:=FL.out i;unfold maxLen;omega
      case c4=>have:=FL.out i;omega
      case c5=>have:=hb2.size;simp;omega
      intro v' w3 hown' hgrow _
      have hb3:Below w.heap.size w w3:=((hb2.al _).drew).grown hgrow (Nat.le_trans hb2.size (by simp)) (fun k e=>(hown2.lt k e).1)
      go_wp2_with fail
      go_roundw
      case rel=>exact ⟨i+1,by go_num,by omega,by rw [HFS.out,if_pos hx,flatE_snoc,List.length_append];exact hown',hb3⟩
      case measure=>simp only [intOf];omega
     ·go_wp2_with fail
      go_roundw
      case rel=>exact ⟨i+1,by go_num,by omega,by rw [HFS.out,if_neg hx];first | exact hown2 | exact own_heap hown2 (fun _ _=>rfl),by first | exact hb2 | exact hb2.drew⟩
      case measure=>simp only [intOf];omega
    ·obtain rfl:i=n:=by omega
     go_wp2_with fail
     go_ret
     exact ⟨_,rfl,hown,hbw⟩
end Go.Proofs.YtpbbmagjhkakgaaGreatDoor.Ev
namespace Go.Proofs.YtpbbmagjhkakgaaGreatDoor.Ev
open Go.RowKit Go.Deep Go.Maps Go.Proofs.YtpbbmagjhkakgaaGreatDoor.Lf
set_option maxHeartbeats 1000000 in
theorem says170 (num time at_:Value) (sb so n cap i:Nat) (v:Bool) (w:World) (hsb:sb<w.heap.size) (hv:w.cell? ⟨sb,so+i,none⟩=some (.bool v)) (hi:i<n) :
  Calls Tryz.prog 170 #[.agg #[num,time,at_,.slice (some ⟨sb,so,none⟩) n cap],.int .i64 i] w fun e w'=>e=.returned (.bool v)/\Below w.heap.size w w':=by
 go_enter Tryz.func170,Tryz.ntmps170
 go_wp2_with fail
 have hb:Below w.heap.size w (w.alloc (.cells #[num,time,at_,.slice (some ⟨sb,so,none⟩) n cap] 159)):=(Below.refl _ _).al _
 have y3:(w.alloc (.cells #[num,time,at_,.slice (some ⟨sb,so,none⟩) n cap] 159)).cell? ⟨w.heap.size,3,none⟩=some (.slice (some ⟨sb,so,none⟩) n cap):=cell_at (heap_new _ _ _ rfl) rfl
 have yv:(w.alloc (.cells #[num,time,at_,.slice (some ⟨sb,so,none⟩) n cap] 159)).cell? ⟨sb,so+i,none⟩=some (.bool v):=by rw [hb.cell (p:=⟨sb,so+i,none⟩) hsb];exact hv
 generalize (w.alloc (.cells #[num,time,at_,.slice (some ⟨sb,so,none⟩) n cap] 159))=W at *
 go_wp2_with fail
 go_ret
 exact ⟨rfl,hb⟩
set_option maxRecDepth 100000 in
set_option maxHeartbeats 4000000 in
theorem verdict_any (name sent strm:Value) (ao:Option Addr) (al ac:Nat) (ver num time:Int) (sb so n cap node:Nat) (v:Bool) (w:World) (hsb:sb<w.heap.size) (hv:w.cell? ⟨sb,so+node,none⟩=some (.bool v)) (hi:node<n) :
  Calls Tryz.prog 134 #[.agg #[name,sent,.int .i64 node,.int .i64 ver,strm],.agg #[.int .i64 num,.int .i64 time,.slice ao al ac,.slice (some ⟨sb,so,none⟩) n cap]] w fun e w'=>e=.returned (.agg #[.int .i64 num,.int .i64 time,.int .i64 ver,.bool v])/\Below w.heap.size w w':=by
 have Hv:Hid (w.cell? ⟨sb,so+node,none⟩=some (.bool v)):=hv
 clear hv
 go_enter Tryz.func134,Tryz.ntmps134
 go_wp2_with fail
 have hbW:Below w.heap.size w (((w.alloc (.cells #[name,sent,.int .i64 node,.int .i64 ver,strm] 183)).alloc (.cells #[.int .i64 num,.int .i64 time,.slice ao al ac,.slice (some ⟨sb,so,none⟩) n cap] 159)).alloc (.cells #[.int .i64 0,.int .i64 0,.int .i64 0,.bool false] 59)):=(((Below.refl _ w).al _).al _).al _
 have h1:(((w.alloc (.cells #[name,sent,.int .i64 node,.int .i64 ver,strm] 183)).alloc (.cells #[.int .i64 num,.int .i64 time,.slice ao al ac,.slice (some ⟨sb,so,none⟩) n cap] 159)).alloc (.cells #[.int .i64 0,.int .i64 0,.int .i64 0,.bool false] 59)).heap[w.heap.size]? = some (.cells #[name,sent,.int .i64 node,.int .i64 ver,strm] 183 (0,0)):=(Below.heap_alloc _ _ _ (by simp;omega)).trans ((Below.heap_alloc _ _ _ (by simp)).trans (heap_new _ _ _ rfl))
 have h2:(((w.alloc (.cells #[name,sent,.int .i64 node,.int .i64 ver,strm] 183)).alloc (.cells #[.int .i64 num,.int .i64 time,.slice ao al ac,.slice (some ⟨sb,so,none⟩) n cap] 159)).alloc (.cells #[.int .i64 0,.int .i64 0,.int .i64 0,.bool false] 59)).heap[w.heap.size+1]? = some (.cells #[.int .i64 num,.int .i64 time,.slice ao al ac,.slice (some ⟨sb,so,none⟩) n cap] 159 (0,0)):=(Below.heap_alloc _ _ _ (by simp)).trans (heap_new _ _ _ (by simp))
 have h3:(((w.alloc (.cells #[name,sent,.int .i64 node,.int .i64 ver,strm] 183)).alloc (.cells #[.int .i64 num,.int .i64 time,.slice ao al ac,.slice (some ⟨sb,so,none⟩) n cap] 159)).alloc (.cells #[.int .i64 0,.int .i64 0,.int .i64 0,.bool false] 59)).heap[w.heap.size+1+1]? = some (.cells #[.int .i64 0,.int .i64 0,.int .i64 0,.bool false] 59 (0,0)):=heap_new _ _ _ (by simp)
 generalize (((w.alloc (.cells #[name,sent,.int .i64 node,.int .i64 ver,strm] 183)).alloc (.cells #[.int .i64 num,.int .i64 time,.slice ao al ac,.slice (some ⟨sb,so,none⟩) n cap] 159)).alloc (.cells #[.int .i64 0,.int .i64 0,.int .i64 0,.bool false] 59))=W at *
 have hws:w.heap.size+1+1<W.heap.size:=heap_lt h3
 generalize hB1:w.heap.size=b1 at *
 generalize hB2:b1+1=b2 at *
 generalize hB3:b2+1=b3 at *
 have Hst:Hid (∀ w',Below W.heap.size W w'->(fun w'=>w'.cell? ⟨b1,2,none⟩=some (.int .i64 node)/\w'.cell? ⟨b1,3,none⟩=some (.int .i64 ver)/\w'.cell? ⟨b2,0,none⟩=some (.int .i64 num)/\w'.cell? ⟨b2,1,none⟩=some (.int .i64 time)/\w'.cell? ⟨b2,2,none⟩=some (.slice ao al ac)/\w'.cell? ⟨b2,3,none⟩=some (.slice (some ⟨sb,so,none⟩) n cap)) w'):=fun w' hb=>⟨cell_at (hb.heapOf h1) rfl,cell_at (hb.heapOf h1) rfl,cell_at (hb.heapOf h2) rfl,cell_at (hb.heapOf h2) rfl,cell_at (hb.heapOf h2) rfl,cell_at (hb.heapOf h2) rfl⟩
 have hS0:(fun w'=>w'.cell? ⟨b1,2,none⟩=some (.int .i64 node)/\w'.cell? ⟨b1,3,none⟩=some (.int .i64 ver)/\w'.cell? ⟨b2,0,none⟩=some (.int .i64 num)/\w'.cell? ⟨b2,1,none⟩=some (.int .i64 time)/\w'.cell? ⟨b2,2,none⟩=some (.slice ao al ac)/\w'.cell? ⟨b2,3,none⟩=some (.slice (some ⟨sb,so,none⟩) n cap)) W.drew:=Hst.out _ (Below.refl _ W).drew
 refine AnyG.begin (S:=(fun w'=>w'.cell? ⟨b1,2,none⟩=some (.int .i64 node)/\w'.cell? ⟨b1,3,none⟩=some (.int .i64 ver)/\w'.cell? ⟨b2,0,none⟩=some (.int .i64 num)/\w'.cell? ⟨b2,1,none⟩=some (.int .i64 time)/\w'.cell? ⟨b2,2,none⟩=some (.slice ao al ac)/\w'.cell? ⟨b2,3,none⟩=some (.slice (some ⟨sb,so,none⟩) n cap))) (fin:=11) (by kernel_rfl) ?_
 simp only [List.size_toArray,List.length_cons,List.length_nil,Nat.reduceAdd,Nat.zero_add]
 refine AnyG.take 0 (v:=?vq0) rfl (by decide +kernel) (by decide +kernel) (by decide +kernel) (by decide +kernel) (fun c a w h=>h) (by rfl) (fun w' hS=>Go.Conc.run_eq_of ?rq0) hS0 ?_
 case rq0 =>
  intro K' hK'
  clear hS
  go_simp
  exact hK'
 try walk_nrm
 refine AnyG.take 1 (v:=?vq1) rfl (by decide +kernel) (by decide +kernel) (by decide +kernel) (by decide +kernel) (fun c a w h=>h) (by rfl) (fun w' hS=>Go.Conc.run_eq_of ?rq1) hS0 ?_
 case rq1 =>
  intro K' hK'
  obtain ⟨y1,y2,y3,y4,y5,y6⟩:=hS
  go_simp
  exact hK'
 try walk_nrm
 refine AnyG.take 2 (v:=?vq2) rfl (by decide +kernel) (by decide +kernel) (by decide +kernel) (by decide +kernel) (fun c a w h=>h) (by rfl) (fun w' hS=>Go.Conc.run_eq_of ?rq2) hS0 ?_
 case rq2 =>
  intro K' hK'
  clear hS
  go_simp
  exact hK'
 try walk_nrm
 refine AnyG.take 3 (v:=?vq3) rfl (by decide +kernel) (by decide +kernel) (by decide +kernel) (by decide +kernel) (fun c a w h=>h) (by rfl) (fun w' hS=>Go.Conc.run_eq_of ?rq3) hS0 ?_
 case rq3 =>
  intro K' hK'
  obtain ⟨y1,y2,y3,y4,y5,y6⟩:=hS
  go_simp
  exact hK'
 try walk_nrm
 refine AnyG.take 4 (v:=?vq4) rfl (by decide +kernel) (by decide +kernel) (by decide +kernel) (by decide +kernel) (fun c a w h=>h) (by rfl) (fun w' hS=>Go.Conc.run_eq_of ?rq4) hS0 ?_
 case rq4 =>
  intro K' hK'
  clear hS
  go_simp
  exact hK'
 try walk_nrm
 refine AnyG.take 5 (v:=?vq5) rfl (by decide +kernel) (by decide +kernel) (by decide +kernel) (by decide +kernel) (fun c a w h=>h) (by rfl) (fun w' hS=>Go.Conc.run_eq_of ?rq5) hS0 ?_
 case rq5 =>
  intro K' hK'
  obtain ⟨y1,y2,y3,y4,y5,y6⟩:=hS
  go_simp
  exact hK'
 try walk_nrm
 refine AnyG.take 6 (v:=?vq6) rfl (by decide +kernel) (by decide +kernel) (by decide +kernel) (by decide +kernel) (fun c a w h=>h) (by rfl) (fun w' hS=>Go.Conc.run_eq_of ?rq6) hS0 ?_
 case rq6 =>
  intro K' hK'
  obtain ⟨y1,y2,y3,y4,y5,y6⟩:=hS
  go_simp
  exact hK'
 try walk_nrm
 refine AnyG.take 7 (v:=?vq7) rfl (by decide +kernel) (by decide +kernel) (by decide +kernel) (by decide +kernel) (fun c a w h=>h) (by rfl) (fun w' hS=>Go.Conc.run_eq_of ?rq7) hS0 ?_
 case rq7 =>
  intro K' hK'
  clear hS
  go_simp
  exact hK'
 try walk_nrm
 refine AnyG.take 8 (v:=?vq8) rfl (by decide +kernel) (by decide +kernel) (by decide +kernel) (by decide +kernel) (fun c a w h=>h) (by rfl) (fun w' hS=>Go.Conc.run_eq_of ?rq8) hS0 ?_
 case rq8 =>
  intro K' hK'
  obtain ⟨y1,y2,y3,y4,y5,y6⟩:=hS
  go_simp
  exact hK'
 try walk_nrm
 have hb0:Below W.heap.size W W.drew:=(Below.refl _ W).drew
 refine AnyG.one (i:=9) (by decide +kernel) rfl (by rfl) ?_
 unfold Oper.wp
 rw [Go.Conc.run_call_body (f:=170) (args:=#[.tmp 11,.tmp 13]) (ats:=#[159,3]) rfl Tryz.func170 (by decide) rfl]
 simp only [Oper.upon,List.map_toArray,List.map_cons,List.map_nil]
 change Calls Tryz.prog 170 #[.agg #[.int .i64 num,.int .i64 time,.slice ao al ac,.slice (some ⟨sb,so,none⟩) n cap],.int .i64 node] W.drew _
 refine (says170 (.int .i64 num) (.int .i64 time) (.slice ao al ac) sb so n cap node v W.drew (by have:=hbW.size;show sb<W.heap.size;omega) ?hcv hi).mono ?_
 case hcv=>rw [(hbW.drew).cell (p:=⟨sb,so+node,none⟩) hsb];exact Hv.out
 rintro e V1 ⟨rfl,hbI⟩
 have hbV1:Below W.heap.size W V1:=hb0.tr hbI
 have hV3:V1.heap[b3]? = some (.cells #[.int .i64 0,.int .i64 0,.int .i64 0,.bool false] 59 (0,0)):=hbV1.heapOf h3
 have hwV:Below b1 w V1:=hbW.trans (hbV1.mono (by omega))
 refine ⟨fun _=>Hst.out _ hbV1,?_⟩
 try walk_nrm
 refine AnyG.op (i:=10) (by decide +kernel) rfl (by rfl) (fun K' hK'=>?_)
 unfold Oper.wp
 go_simp
 refine hK' _ _ ⟨fun _=>Hst.out _ hbV1,?_⟩
 clear hK' K'
 try walk_nrm
 refine AnyG.op (i:=11) (by decide +kernel) rfl (by rfl) (fun K' hK'=>?_)
 unfold Oper.wp
 have k1:=set_heap (i:=0) (v:=.int .i64 num) hV3
 have k2:=set_heap (i:=1) (v:=.int .i64 time) k1
 have k3:=set_heap (i:=2) (v:=.int .i64 ver) k2
 have k4:=set_heap (i:=3) (v:=.bool v) k3
 have hwU:Below b1 w ((((V1.setCell ⟨b3,0,none⟩ (.int .i64 num)).setCell ⟨b3,1,none⟩ (.int .i64 time)).setCell ⟨b3,2,none⟩ (.int .i64 ver)).setCell ⟨b3,3,none⟩ (.bool v)):=(((hwV.setCell (p:=⟨b3,0,none⟩) (by show b1<=b3;omega) _).setCell (p:=⟨b3,1,none⟩) (by show b1<=b3;omega) _).setCell (p:=⟨b3,2,none⟩) (by show b1<=b3;omega) _).setCell (p:=⟨b3,3,none⟩) (by show b1<=b3;omega) _
 have c0:=cell_at (i:=0) hV3 rfl
 have c1:=cell_at (i:=1) k1 rfl
 have c2:=cell_at (i:=2) k2 rfl
 have c3:=cell_at (i:=3) k3 rfl
 have f0:V1.frozen? ⟨b3,0,none⟩=false:=Lib.frozen_of_heap hV3 0
 have f1:=Lib.frozen_of_heap k1 1
 have f2:=Lib.frozen_of_heap k2 2
 have f3:=Lib.frozen_of_heap k3 3
 have d0:=cell_at (i:=0) k4 rfl
 have d1:=cell_at (i:=1) k4 rfl
 have d2:=cell_at (i:=2) k4 rfl
 have d3:=cell_at (i:=3) k4 rfl
 go_simp
 refine hK' _ _ ⟨fun h=>absurd h (by decide),?_⟩
 clear hK' K'
 refine AnyG.done (by decide +kernel) ?_ _
 try walk_nrm
 clear c0 c1 c2 c3 f0 f1 f2 f3 k1 k2 k3 k4
 generalize ((((V1.setCell ⟨b3,0,none⟩ (.int .i64 num)).setCell ⟨b3,1,none⟩ (.int .i64 time)).setCell ⟨b3,2,none⟩ (.int .i64 ver)).setCell ⟨b3,3,none⟩ (.bool v))=U at *
 go_wp2_with fail
 refine bodyPost_ret (v:=.agg #[.int .i64 num,.int .i64 time,.int .i64 ver,.bool v]) (by simp [results,Tryz.results134,go_sem,d0,d1,d2,d3]) rfl ⟨rfl,hwU⟩
def backV (hold:EvC->Bool) (ver:Int) (D:List EvC):List Value:=D.flatMap fun c=>verCells c.number c.time ver (hold c)
theorem knownF_sub {reach:Int} {C:List EvC} {d:EvC} (h:d∈knownF reach C):d∈C:=by
 cases C with
 | nil=>simp [knownF] at h
 | cons c C =>
  simp only [knownF] at h
  split at h
  ·exact h
  ·exact (List.mem_filter.1 h).1
theorem knownF_len (reach:Int) (C:List EvC):(knownF reach C).length<=C.length:=by
 cases C with
 | nil=>exact Nat.le_refl _
 | cons c C =>
  simp only [knownF]
  split
  ·exact Nat.le_refl _
  ·exact List.length_filter_le _ _
theorem backV_take {hold:EvC->Bool} {ver:Int} {D:List EvC} {i:Nat} {d:EvC} (h:D[i]? = some d):backV hold ver (D.take (i+1))=backV hold ver (D.take i)++verCells d.number d.time ver (hold d):=by
 rw [List.take_add_one,h]
 simp [backV]
theorem ver_four_new (w:World) (a b c:Int) (v:Bool) (t:TypeId):∀ j u,(verCells a b c v)[j]? = some u->(w.alloc (.cells #[.int .i64 a,.int .i64 b,.int .i64 c,.bool v] t)).cell? ((⟨w.heap.size,0,none⟩:Addr).add j)=some u:=by
 intro j u hj
 have hh:=heap_new w (.cells #[.int .i64 a,.int .i64 b,.int .i64 c,.bool v] t (0,0)) _ rfl
 rw [Addr.add_lit,Nat.zero_add]
 refine cell_at hh ?_
 rcases j with _ | _ | _ | _ | j
 ·exact hj
 ·exact hj
 ·exact hj
 ·exact hj
 ·simp [verCells] at hj
set_option maxRecDepth 100000 in
set_option maxHeartbeats 4000000 in
theorem backfill_any (wtb:Nat) (rt rm nv:Value) (ea:Option Addr) (ecap:Nat) (C:List EvC) (pb cap:Nat) (arr:Array Value) (p:Pol) (x:BT Pay) (hold:EvC->Bool) (w:World) (hw:w.heap[wtb]? = some (.cells #[rt,rm,nv,.slice ea C.length ecap,.slice (some ⟨pb,0,none⟩) 1 cap] 153 (0,0))) (hp:w.heap[pb]? = some (.cells arr 183 (0,0))) (hP:PolsAt arr 0 [p]) (hx:SentAt 143 0 w x (.pointer p.sent)) (hgd:Good x) (hd:depthT x<=400)
  (hE:EvsAt w (.slice ea C.length ecap) C) (hn:C.length<=1000) (hr:0<=reachT x/\reachT x<=1000000000) (hT:∀ c∈C,0<=c.time/\c.time<=1000000000000) (hH:∀ c∈C,∃ sb so,c.so=some ⟨sb,so,none⟩/\sb<w.heap.size/\p.node<c.sl/\w.cell? ⟨sb,so+p.node,none⟩=some (.bool (hold c))) :
  Calls Tryz.prog 92 #[.pointer (some ⟨wtb,0,none⟩),.int .i64 0] w fun e w'=>∃ v',e=.returned v'/\w'.ownsRow w.heap.size 59 4 v' (knownF (reachT x) C).length (backV hold p.ver (knownF (reachT x) C))/\Below w.heap.size w w':=by
 obtain ⟨a0,a1,a2,a3,a4⟩:=hP 0 p rfl
 simp only [Nat.zero_mul,Nat.add_zero] at a0 a1 a2 a3 a4
 have c4:=cell_at (i:=4) hw rfl
 have y0:=cell_at hp a0
 have y1:=cell_at hp a1
 have y2:=cell_at hp a2
 have y3:=cell_at hp a3
 have y4:=cell_at hp a4
 have hwin:=hgd.win
 have Hw:Hid (w.heap[wtb]? = some (.cells #[rt,rm,nv,.slice ea C.length ecap,.slice (some ⟨pb,0,none⟩) 1 cap] 153 (0,0))):=hw
 have Hx:Hid (SentAt 143 0 w x (.pointer p.sent)):=hx
 have HE:Hid _:=hE
 have HT:Hid _:=hT
 have HH:Hid _:=hH
 have hkl:=knownF_len (reachT x) C
 clear hw hp hP a0 a1 a2 a3 a4 hx hE hT hH
 go_enter Tryz.func92,Tryz.ntmps92
 go_wp2_with fail
 have hbN:Below w.heap.size w (w.alloc (.cells #[.string p.name,.pointer p.sent,.int .i64 p.node,.int .i64 p.ver,.pointer p.strm] 183)):=(Below.refl _ _).al _
 have hN:(w.alloc (.cells #[.string p.name,.pointer p.sent,.int .i64 p.node,.int .i64 p.ver,.pointer p.strm] 183)).heap[w.heap.size]? = some (.cells #[.string p.name,.pointer p.sent,.int .i64 p.node,.int .i64 p.ver,.pointer p.strm] 183 (0,0)):=heap_new _ _ _ rfl
 generalize hB1:w.heap.size=b1 at *
 generalize (w.alloc (.cells #[.string p.name,.pointer p.sent,.int .i64 p.node,.int .i64 p.ver,.pointer p.strm] 183))=W at *
 clear c4 y0 y1 y2 y3 y4
 have hS0:(fun w':World=>w'.cell? ⟨b1,1,none⟩=some (.pointer p.sent)) W.drew:=cell_at ((Below.refl _ W).drew.heapOf hN) rfl
 refine AnyG.begin (S:=(fun w':World=>w'.cell? ⟨b1,1,none⟩=some (.pointer p.sent))) (fin:=9) (by kernel_rfl) ?_
 simp only [List.size_toArray,List.length_cons,List.length_nil,Nat.reduceAdd,Nat.zero_add]
 refine AnyG.take 0 (v:=?vq0) rfl (by decide +kernel) (by decide +kernel) (by decide +kernel) (by decide +kernel) (fun c a w h=>h) (by rfl) (fun w' hS=>Go.Conc.run_eq_of ?rq0) hS0 ?_
 case rq0 =>
  intro K' hK'
  clear hS
  go_simp
  exact hK'
 try walk_nrm
 refine AnyG.take 1 (v:=?vq1) rfl (by decide +kernel) (by decide +kernel) (by decide +kernel) (by decide +kernel) (fun c a w h=>h) (by rfl) (fun w' hS=>Go.Conc.run_eq_of ?rq1) hS0 ?_
 case rq1 =>
  intro K' hK'
  clear hS
  go_simp
  exact hK'
 try walk_nrm
 refine AnyG.take 2 (v:=?vq2) rfl (by decide +kernel) (by decide +kernel) (by decide +kernel) (by decide +kernel) (fun c a w h=>h) (by rfl) (fun w' hS=>Go.Conc.run_eq_of ?rq2) hS0 ?_
 case rq2 =>
  intro K' hK'
  clear hS
  go_simp
  exact hK'
 try walk_nrm
 refine AnyG.take 3 (v:=?vq3) rfl (by decide +kernel) (by decide +kernel) (by decide +kernel) (by decide +kernel) (fun c a w h=>h) (by rfl) (fun w' hS=>Go.Conc.run_eq_of ?rq3) hS0 ?_
 case rq3 =>
  intro K' hK'
  clear hS
  go_simp
  exact hK'
 try walk_nrm
 refine AnyG.take 4 (v:=?vq4) rfl (by decide +kernel) (by decide +kernel) (by decide +kernel) (by decide +kernel) (fun c a w h=>h) (by rfl) (fun w' hS=>Go.Conc.run_eq_of ?rq4) hS0 ?_
 case rq4 =>
  intro K' hK'
  have hS:w'.cell? ⟨b1,1,none⟩=some (.pointer p.sent):=hS
  go_simp
  exact hK'
 try walk_nrm
 refine AnyG.take 8 (v:=?vq8) rfl (by decide +kernel) (by decide +kernel) (by decide +kernel) (by decide +kernel) (fun c a w h=>h) (by rfl) (fun w' hS=>Go.Conc.run_eq_of ?rq8) hS0 ?_
 case rq8 =>
  intro K' hK'
  clear hS
  go_simp
  exact hK'
 try walk_nrm
 have hb0:Below W.heap.size W W.drew:=(Below.refl _ W).drew
 have hWs:b1<W.heap.size:=heap_lt hN
 refine AnyG.one (i:=5) (by decide +kernel) rfl (by rfl) ?_
 unfold Oper.wp
 rw [Go.Conc.run_call_body (f:=42) (args:=#[.tmp 20]) (ats:=#[87]) rfl Tryz.func42 (by decide) rfl]
 simp only [Oper.upon,List.map_toArray,List.map_cons,List.map_nil]
 change Calls Tryz.prog 42 #[.pointer p.sent] W.drew _
 refine (reach_any x _ 0 W.drew ?hsx hd hwin).mono ?_
 case hsx=>exact sent_tagged (fun k cs hk=>by rw [hbN.drew.block k (by rw [<- hB1];exact heap_lt hk)];exact hk) Hx.out
 rintro e V0 ⟨rfl,q,rfl⟩
 have hbV0:Below W.heap.size W (W.drew.drewN q):=hb0.tr (below_drewN _ _)
 have hwV0:Below b1 w (W.drew.drewN q):=hbN.trans (hbV0.mono (by omega))
 generalize W.drew.drewN q=V0 at *
 refine ⟨fun _=>cell_at (hbV0.heapOf hN) rfl,?_⟩
 try walk_nrm
 refine AnyG.one (i:=6) (by decide +kernel) rfl (by rfl) ?_
 unfold Oper.wp
 rw [Go.Conc.run_call_body (f:=138) (args:=#[.tmp 18,.tmp 21]) (ats:=#[148,3]) rfl Tryz.func138 (by decide) rfl]
 simp only [Oper.upon,List.map_toArray,List.map_cons,List.map_nil]
 change Calls Tryz.prog 138 #[.pointer (some ⟨wtb,0,none⟩),.int .i64 (reachT x)] V0 _
 refine (known_any wtb rt rm nv (.slice (some ⟨pb,0,none⟩) 1 cap) ea ecap C (reachT x) V0 ?kw ?kE hn hr HT.out).mono ?_
 case kw=>exact (hwV0.block wtb (by rw [<- hB1];exact heap_lt Hw.out)).trans Hw.out
 case kE=>exact own_heap HE.out (fun k hk=>hwV0.block k (by rw [<- hB1];exact (HE.out.lt k hk).2))
 rintro e V1 ⟨kv,rfl,hrow,hbI⟩
 have hbV1:Below W.heap.size W V1:=hbV0.tr hbI
 have hwV1:Below b1 w V1:=hwV0.trans (hbI.mono (by have:=hwV0.size;omega))
 refine ⟨fun _=>cell_at (hbV1.heapOf hN) rfl,?_⟩
 obtain ⟨ka,kcap,rfl,hkc,hkm,hka⟩:∃ (a:Option Addr) (c:Nat),kv=.slice a (knownF (reachT x) C).length c/\(knownF (reachT x) C).length<=c/\True/\(∀ j d,(knownF (reachT x) C)[j]? = some d->∃ g,a=some ⟨g,0,none⟩/\g<V1.heap.size/\∀ k u,(evCells d)[k]? = some u->V1.cell? ⟨g,j*4+k,none⟩=some u):=by
  have hrow':=hrow
  obtain ⟨h1,⟨rfl,h2⟩ | ⟨g,cp,cur,rfl,h3,h4,h5,h6,h7,h8⟩⟩:=hrow
  ·exact ⟨none,0,by rw [h2],by omega,trivial,fun j d hj=>by have:=(List.getElem?_eq_some_iff.1 hj).1;omega⟩
  ·refine ⟨some ⟨g,0,none⟩,cp,rfl,h5,trivial,fun j d hj=>⟨g,rfl,heap_lt h4,fun k u hk=>row_cell hrow' rfl (flat_get evCells 4 (fun _=>rfl) _ j k d u hj hk)⟩⟩
 try walk_nrm
 refine AnyG.op (i:=7) (by decide +kernel) rfl (by rfl) (fun K' hK'=>?_)
 unfold Oper.wp
 go_simp
 refine hK' _ _ ⟨fun _=>cell_at (hbV1.heapOf hN) rfl,?_⟩
 clear hK' K'
 try walk_nrm
 refine AnyG.done (by decide +kernel) ?_ _
 try walk_nrm
 go_wp2_with fail
 clear hS0 hr hwin hrow
 generalize hD:knownF (reachT x) C=D at *
 have HD:Hid (∀ d∈D,d∈C):=fun d hd=>knownF_sub (hD▸hd)
 have HDe:Hid (knownF (reachT x) C=D):=hD
 have HKA:Hid _:=hka
 clear hD hka hkm
 generalize hnD:D.length=n at *
 obtain ⟨i0,hi,hz0,hz1,hz2⟩:=info_parts Go.Proofs.YtpbbmagjhkakgaaGreatDoor.Lf.infoVerdict
 have hb1V:b1<=V1.heap.size:=by have:=hwV1.size;omega
 go_loopw [24,6] (fun iv v wr=>∃ i:Nat,iv=.int .i64 i/\i<=n/\wr.ownsRow V1.heap.size 59 4 v i (backV hold p.ver (D.take i))/\Below V1.heap.size V1 wr) (fun iv _ _=>n-(intOf iv).toNat)
 case atStart=>exact ⟨0,rfl,Nat.zero_le _,World.ownsRow_nil _ _ _ _,Below.refl _ _⟩
 case round =>
  obtain ⟨i,rfl,hin,hown,hbw⟩:=hrel
  by_cases hil:i<n
  ·have hget:D[i]? = some D[i]:=List.getElem?_eq_getElem (by omega)
   have HT2:Hid _:=backV_take (hold:=hold) (ver:=p.ver) hget
   obtain ⟨g,rfl,hg,hcl⟩:=HKA.out i _ hget
   obtain ⟨sb,so,e1,e2,e3,e4⟩:=HH.out _ (HD.out _ (List.mem_of_getElem? hget))
   generalize D[i]=d at *
   have q0:wr.cell? ⟨g,i*4,none⟩=some (.int .i64 d.number):=by rw [hbw.cell (p:=⟨g,i*4,none⟩) hg];exact hcl 0 _ rfl
   have q1:wr.cell? ⟨g,i*4+1,none⟩=some (.int .i64 d.time):=by rw [hbw.cell (p:=⟨g,i*4+1,none⟩) hg];exact hcl 1 _ rfl
   have q2:wr.cell? ⟨g,i*4+2,none⟩=some (.slice d.ao d.al d.ac):=by rw [hbw.cell (p:=⟨g,i*4+2,none⟩) hg];exact hcl 2 _ rfl
   have q3:wr.cell? ⟨g,i*4+3,none⟩=some (.slice (some ⟨sb,so,none⟩) d.sl d.sc):=by rw [hbw.cell (p:=⟨g,i*4+3,none⟩) hg,<- e1];exact hcl 3 _ rfl
   have hNr:wr.heap[b1]? = some (.cells #[.string p.name,.pointer p.sent,.int .i64 p.node,.int .i64 p.ver,.pointer p.strm] 183 (0,0)):=hbw.heapOf (hbV1.heapOf hN)
   have hvr:wr.cell? ⟨sb,so+p.node,none⟩=some (.bool (hold d)):=by
    rw [hbw.cell (p:=⟨sb,so+p.node,none⟩) (Nat.lt_of_lt_of_le e2 hb1V),hwV1.cell (p:=⟨sb,so+p.node,none⟩) e2];exact e4
   have hsbr:sb<wr.heap.size:=Nat.lt_of_lt_of_le e2 (Nat.le_trans hb1V hbw.size)
   clear hget hcl e1 e4
   have hba:Below wr.heap.size wr (wr.alloc (.cells #[.int .i64 d.number,.int .i64 d.time,.slice d.ao d.al d.ac,.slice (some ⟨sb,so,none⟩) d.sl d.sc] 159)):=(Below.refl _ _).al _
   have r0:(wr.alloc (.cells #[.int .i64 d.number,.int .i64 d.time,.slice d.ao d.al d.ac,.slice (some ⟨sb,so,none⟩) d.sl d.sc] 159)).cell? ⟨b1,0,none⟩=some (.string p.name):=cell_at (hba.heapOf hNr) rfl
   have r1:(wr.alloc (.cells #[.int .i64 d.number,.int .i64 d.time,.slice d.ao d.al d.ac,.slice (some ⟨sb,so,none⟩) d.sl d.sc] 159)).cell? ⟨b1,1,none⟩=some (.pointer p.sent):=cell_at (hba.heapOf hNr) rfl
   have r2:(wr.alloc (.cells #[.int .i64 d.number,.int .i64 d.time,.slice d.ao d.al d.ac,.slice (some ⟨sb,so,none⟩) d.sl d.sc] 159)).cell? ⟨b1,2,none⟩=some (.int .i64 p.node):=cell_at (hba.heapOf hNr) rfl
   have r3:(wr.alloc (.cells #[.int .i64 d.number,.int .i64 d.time,.slice d.ao d.al d.ac,.slice (some ⟨sb,so,none⟩) d.sl d.sc] 159)).cell? ⟨b1,3,none⟩=some (.int .i64 p.ver):=cell_at (hba.heapOf hNr) rfl
   have r4:(wr.alloc (.cells #[.int .i64 d.number,.int .i64 d.time,.slice d.ao d.al d.ac,.slice (some ⟨sb,so,none⟩) d.sl d.sc] 159)).cell? ⟨b1,4,none⟩=some (.pointer p.strm):=cell_at (hba.heapOf hNr) rfl
   have s0:(wr.alloc (.cells #[.int .i64 d.number,.int .i64 d.time,.slice d.ao d.al d.ac,.slice (some ⟨sb,so,none⟩) d.sl d.sc] 159)).cell? ⟨wr.heap.size,0,none⟩=some (.int .i64 d.number):=cell_at (heap_new _ _ _ rfl) rfl
   have s1:(wr.alloc (.cells #[.int .i64 d.number,.int .i64 d.time,.slice d.ao d.al d.ac,.slice (some ⟨sb,so,none⟩) d.sl d.sc] 159)).cell? ⟨wr.heap.size,1,none⟩=some (.int .i64 d.time):=cell_at (heap_new _ _ _ rfl) rfl
   have s2:(wr.alloc (.cells #[.int .i64 d.number,.int .i64 d.time,.slice d.ao d.al d.ac,.slice (some ⟨sb,so,none⟩) d.sl d.sc] 159)).cell? ⟨wr.heap.size,2,none⟩=some (.slice d.ao d.al d.ac):=cell_at (heap_new _ _ _ rfl) rfl
   have s3:(wr.alloc (.cells #[.int .i64 d.number,.int .i64 d.time,.slice d.ao d.al d.ac,.slice (some ⟨sb,so,none⟩) d.sl d.sc] 159)).cell? ⟨wr.heap.size,3,none⟩=some (.slice (some ⟨sb,so,none⟩) d.sl d.sc):=cell_at (heap_new _ _ _ rfl) rfl
   have hvA:(wr.alloc (.cells #[.int .i64 d.number,.int .i64 d.time,.slice d.ao d.al d.ac,.slice (some ⟨sb,so,none⟩) d.sl d.sc] 159)).cell? ⟨sb,so+p.node,none⟩=some (.bool (hold d)):=by rw [hba.cell (p:=⟨sb,so+p.node,none⟩) hsbr];exact hvr
   have hown1:=hown.alloc (.cells #[.int .i64 d.number,.int .i64 d.time,.slice d.ao d.al d.ac,.slice (some ⟨sb,so,none⟩) d.sl d.sc] 159)
   have hbw1:Below V1.heap.size V1 (wr.alloc (.cells #[.int .i64 d.number,.int .i64 d.time,.slice d.ao d.al d.ac,.slice (some ⟨sb,so,none⟩) d.sl d.sc] 159)):=hbw.al _
   have hvd:Hid (Calls Tryz.prog 134 #[.agg #[.string p.name,.pointer p.sent,.int .i64 p.node,.int .i64 p.ver,.pointer p.strm],.agg #[.int .i64 d.number,.int .i64 d.time,.slice d.ao d.al d.ac,.slice (some ⟨sb,so,none⟩) d.sl d.sc]] (wr.alloc (.cells #[.int .i64 d.number,.int .i64 d.time,.slice d.ao d.al d.ac,.slice (some ⟨sb,so,none⟩) d.sl d.sc] 159)) fun e w'=>e=.returned (.agg #[.int .i64 d.number,.int .i64 d.time,.int .i64 p.ver,.bool (hold d)])/\Below (wr.alloc (.cells #[.int .i64 d.number,.int .i64 d.time,.slice d.ao d.al d.ac,.slice (some ⟨sb,so,none⟩) d.sl d.sc] 159)).heap.size (wr.alloc (.cells #[.int .i64 d.number,.int .i64 d.time,.slice d.ao d.al d.ac,.slice (some ⟨sb,so,none⟩) d.sl d.sc] 159)) w'):=verdict_any _ _ _ d.ao d.al d.ac p.ver d.number d.time sb so d.sl d.sc p.node (hold d) _ (Nat.lt_of_lt_of_le hsbr hba.size) hvA e3
   clear hvA hvr hNr
   go_wp2_with fail
   refine Calls.mono hvd.out ?_
   rintro e w1 ⟨rfl,hb1⟩
   have hown2:=own_heap hown1 (w':=w1) fun k hk=>hb1.block k (hown1.lt k hk).2
   have hbw2:Below V1.heap.size V1 w1:=hbw1.tr hb1
   have hws:=hbw2.size
   generalize hold d=hv at *
   go_wp2_with (at_builtin;refine wpList_append_own _ rfl _ _ 54 rfl V1.heap.size 59 i0 (.agg #[.int .i64 0,.int .i64 0,.int .i64 0,.bool false]) 4 32 Tryz.underlying54 hi hz0 hz1 hz2 rfl (by decide) _ _ _ rfl (hown2.alloc _) ⟨w1.heap.size,0,none⟩ 1 1 (verCells d.number d.time p.ver hv) rfl rfl ?c1 ?c2 ?c3 ?c4 ?c5 ?_)
   case c1=>exact fun j u hj=>ver_four_new w1 _ _ _ _ 59 j u hj
   case c2 =>
    intro u hu
    simp [verCells] at hu
    rcases hu with rfl | rfl | rfl | rfl<;>rfl
   case c3=>unfold maxLen;omega
   case c4=>omega
   case c5=>simp;omega
   intro v' w2 hown' hgrow _
   have hb2:Below V1.heap.size V1 w2:=(hbw2.al _).grown hgrow (Nat.le_trans hbw2.size (by simp)) (fun k e=>(hown2.lt k e).1)
   go_wp2_with fail
   go_roundw
   case rel=>exact ⟨i+1,by go_num,by omega,by rw [HT2.out];exact hown',hb2⟩
   case measure=>simp only [intOf];omega
  ·obtain rfl:i=n:=by omega
   rw [List.take_of_length_le (by omega)] at hown
   go_wp2_with fail
   go_ret
   exact ⟨_,rfl,by rw [hB1,HDe.out,hnD];exact row_mono hown hb1V,by rw [hB1];exact hwV1.trans (hbw.mono hb1V)⟩
end Go.Proofs.YtpbbmagjhkakgaaGreatDoor.Ev
