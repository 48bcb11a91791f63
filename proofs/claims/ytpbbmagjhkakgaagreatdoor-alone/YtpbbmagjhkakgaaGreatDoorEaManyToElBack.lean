import Derived.Test.YtpbbmagjhkakgaaGreatDoorEvJudge0ToEvAdd
import Derived.Test.YtpbbmagjhkakgaaGreatDoorEeIsToEaRem
import Derived.Test.YtpbbmagjhkakgaaGreatDoorEvAdd2ToEaDel
namespace Go.Proofs.YtpbbmagjhkakgaaGreatDoor
namespace Ev
open Go.RowKit Go.Deep Go.Maps Lf
set_option maxRecDepth 100000 in
set_option maxHeartbeats 4000000 in
theorem settle_many (aj pb cap:Nat) (rt rm nv ev:Value) (po:Option Addr) (pn pc:Nat) (arr:Array Value) (ps:List bC) (X:Nat->BT aO) (w:World)
  (hw:w.heap[aj]? = some (.cells #[rt,rm,nv,ev,.slice po pn pc] 153 (0,0))) (hp:w.heap[pb]? = some (.cells arr 183 (0,0))) (hP:b5 arr 0 ps) (hn:ps.length<=1000) (cW:ps.length<=cap)
  (hS:∀ (j:Nat) (p:bC),ps[j]? = some p->aC 143 0 w (X j) (.pointer p.bV)/\Good (X j)/\aV (ak (X j))<=1000000) (hK:40<(dN X ps.length).length) (hKb:(dN X ps.length).length<=1000000000) :
  Calls Tryz.prog 98 #[.pointer (some ⟨aj,0,none⟩),.slice (some ⟨pb,0,none⟩) ps.length cap] w fun e w'=>∃ tb k,e=.returned (.iface 132 (.pointer (some ⟨tb,0,none⟩)))/\w.heap.size<=tb/\w'.heap[tb]? = some (.cells #[.int .i64 k] 245 (0,0))/\aY (fun b=>b=pb) w w':=by
 have hne:aj≠pb:=by rintro rfl;rw [hw] at hp;cases hp
 have hwl:=aw hw
 have hpl:=aw hp
 have Hp:Hid (w.heap[pb]? = some (.cells arr 183 (0,0))/\b5 arr 0 ps):=⟨hp,hP⟩
 have Hw:Hid (w.heap[aj]? = some (.cells #[rt,rm,nv,ev,.slice po pn pc] 153 (0,0))):=hw
 have HS:Hid (∀ (j:Nat) (p:bC),ps[j]? = some p->aC 143 0 w (X j) (.pointer p.bV)/\Good (X j)/\aV (ak (X j))<=1000000):=hS
 have HK:Hid ((dN X ps.length).length<=1000000000):=hKb
 have HK2:Hid (40<(dN X ps.length).length):=hK
 clear hp hP hw hS hK hKb
 generalize hlen:ps.length=n at *
 have Hlen:Hid (ps.length=n):=hlen
 clear hlen
 go_enter Tryz.func98,Tryz.ntmps98
 go_wp2_with fail
 go_loopw [10] (fun iv wr=>∃ (i:Nat),iv=.int .i64 i/\i<=n/\sC w.heap.size w.heap.size wr (dN X i)/\aY (fun b=>b=pb) w wr/\w.heap.size<wr.heap.size/\∃ gV,wr.heap[pb]? = some (.cells gV 183 (0,0))/\iX X gV ps i) (fun iv _=>n-(intOf iv).toNat)
 case atStart =>
  exact ⟨0,rfl,Nat.zero_le _,sC.new _ w (Nat.le_refl _),aY.aL ((Below.refl _ _).al _),by simp,arr,(Below.heap_alloc _ _ _ hpl).trans Hp.out.1,iX.start Hp.out.2⟩
 case round =>
  obtain ⟨i,rfl,tP,hT,kT,oK,gV,um,hPT⟩:=hrel
  by_cases hi:i<n
  ·obtain ⟨p,hpi⟩:∃ p,ps[i]? = some p:=⟨_,List.getElem?_eq_getElem (by rw [Hlen.out];exact hi)⟩
   obtain ⟨a0,a1,_,a3,a4⟩:=hPT i p hpi
   obtain ⟨s1,s2,s3⟩:=HS.out i p hpi
   have s1':aC 143 0 wr (X i) (.pointer p.bV):=cU (fun k cs hk=>by
    rw [kT.block k (aw hk) (by rintro rfl;rw [Hp.out.1] at hk;cases hk)];exact hk) s1
   have c1:wr.cell? ⟨pb,i*5+1,none⟩=some (.pointer p.bV):=ae um a1
   have a_:=KAt_mono X i (n-i)
   have cB:i+(n-i)=n:=by omega
   rw [cB] at a_
   have hKn:=HK.out
   have tQ:=putTop0 (X i) (.pointer p.bV) w.heap.size w.heap.size (dN X i) wr s1' s2 hT (by omega)
   obtain ⟨a2,e2⟩:∃ v,gV[i*5+2]? = some v:=⟨_,Array.getElem?_eq_getElem (by have:=(Array.getElem?_eq_some_iff.1 a3).1;omega)⟩
   have hset:=hPT.set (by rw [Hlen.out];exact hi)
   have hnn:=mQ X i
   have hput2:Calls Tryz.prog 43 #[.pointer (some ⟨w.heap.size,0,none⟩),.pointer p.bV] wr fun e w'=>e=.returned (.int .i64 (nAt X i))/\sC w.heap.size w.heap.size w' (dN X (i+1))/\Below w.heap.size wr w':=tQ
   clear tQ s1 s1' s2 s3 a0 a1 a3 a4 hT a_ cB hKn
   have Hs:Hid (iX X (gV.setIfInBounds (i*5+2) (.int .i64 (nAt X i))) ps (i+1)):=hset
   clear hset hPT
   generalize nAt X i=nd at *
   go_wp2_with fail
   refine hput2.mono ?_
   rintro e w1 ⟨rfl,hT1,a_⟩
   have hpb1:w1.heap[pb]? = some (.cells gV 183 (0,0)):=(a_.block pb hpl).trans um
   have hf:w1.frozen? ⟨pb,i*5+2,none⟩=false:=Lib.frozen_of_heap hpb1 _
   have c2:w1.cell? ⟨pb,i*5+2,none⟩=some a2:=ae hpb1 e2
   clear hput2
   go_wp2_with fail
   go_roundw
   case rel =>
    have ho:Only pb w1 (w1.setCell ⟨pb,i*5+2,none⟩ (.int .i64 nd)):=(Only.refl pb w1).setCell (p:=⟨pb,i*5+2,none⟩) (.inl rfl) _
    refine ⟨i+1,by go_num,by omega,?_,?_,?_,_,b7 hpb1,Hs.out⟩
    ·rcases hT1 with ⟨t1,t2,t3⟩ | ⟨mb,nv1,t2⟩
     ·exact .inl ⟨ho.heap t1 (by omega),t2,t3⟩
     ·refine .inr ⟨mb,nv1,t2.heap (fun k hk hf=>ho.block k hk ?_)⟩
      exact fun e=>hf (e▸t2.free hpb1 (by decide) (by decide))
    ·have hsp1:aY (fun b=>b=pb) w w1:=⟨a_.os.trans kT.os,a_.tape.trans kT.tape,a_.output.trans kT.output,Nat.le_trans kT.size a_.size,fun x hx hp=>(a_.block x hx).trans (kT.block x hx hp)⟩
     exact hsp1.trans (aY.kg ho fun x hx=>hx)
    ·have:=a_.size;have:=ho.size;omega
   case measure=>simp only [intOf];omega
  ·obtain rfl:i=n:=by omega
   have hC:=count_any w.heap.size w.heap.size (dN X i) wr hT
   have hKn:40<((dN X i).length:Int):=by have:=HK2.out;omega
   have HT:Hid (aY (fun b=>b=pb) w wr/\w.heap.size<wr.heap.size):=⟨kT,oK⟩
   clear hT kT um hPT oK
   go_wp2_with fail
   refine hC.mono ?_
   rintro e w1 ⟨rfl,rfl⟩
   clear hC
   generalize (dN X i).length=kl at *
   go_wp2_with fail
   go_ret
   obtain ⟨h1,h2⟩:=HT.out
   exact ⟨_,_,rfl,Nat.le_of_lt h2,aB _ _ _ rfl,h1.trans (aY.aL ((Below.refl _ _).al _))⟩
def ld (sp:Option Addr) (p:bC):bC:={ p with bV:=sp,cu:=p.cu+1 }
theorem polsAt_amend {cur:Array Value} {ps:List bC} {i:Nat} {p:bC} (sp:Option Addr) (hP:b5 cur 0 ps) (hi:ps[i]? = some p):b5 ((cur.setIfInBounds (i*5+1) (.pointer sp)).setIfInBounds (i*5+3) (.int .i64 (p.cu+1))) 0 (ps.set i (ld sp p)):=by
 intro j q hq
 have qo:=(List.getElem?_eq_some_iff.1 hi).1
 obtain ⟨b0,b1,b2,b3,b4⟩:=hP i p hi
 simp only [Nat.zero_add] at b0 b1 b2 b3 b4 ⊢
 have s4:i*5+4<cur.size:=(Array.getElem?_eq_some_iff.1 b4).1
 by_cases mO:j=i
 ·subst mO
  rw [List.getElem?_set_self qo] at hq
  cases hq
  refine ⟨?_,?_,?_,?_,?_⟩
  ·rw [Array.getElem?_setIfInBounds_ne (by omega),Array.getElem?_setIfInBounds_ne (by omega)];exact b0
  ·rw [Array.getElem?_setIfInBounds_ne (by omega),Array.getElem?_setIfInBounds_self_of_lt (by omega)];rfl
  ·rw [Array.getElem?_setIfInBounds_ne (by omega),Array.getElem?_setIfInBounds_ne (by omega)];exact b2
  ·rw [Array.getElem?_setIfInBounds_self_of_lt (by simp;omega)];rfl
  ·rw [Array.getElem?_setIfInBounds_ne (by omega),Array.getElem?_setIfInBounds_ne (by omega)];exact b4
 ·rw [List.getElem?_set_ne (Ne.symm mO)] at hq
  obtain ⟨a0,a1,a2,a3,a4⟩:=hP j q hq
  simp only [Nat.zero_add] at a0 a1 a2 a3 a4
  refine ⟨?_,?_,?_,?_,?_⟩<;>rw [Array.getElem?_setIfInBounds_ne (by omega),Array.getElem?_setIfInBounds_ne (by omega)]<;>assumption
theorem amend_walk (name s:ByteArray) (x:BT aO) {aj:Nat} {ai room:Int} {no:Option Addr} {aI:Nat} {K:List Key} {ea:Option Addr} {az:Nat} {C:List bx} {E:List Pe} {pa:Option Addr} {aM:Nat} {ps:List bC} {ss:List bt} {w:World} (h:bj w aj ai room no aI K ea az C E pa aM ps ss) (jh:bL ps) (hver:∀ p∈ps,0<=p.cu/\p.cu<=1000000) (hN:eR name) (hm:s.size<=maxLen) (hg:eF w) (l9:14<=w.heap.size) (hr:cI s=(some x,0)) (hR:ax x<=ai) (i:Nat) (hi:bq name ps=i) (p:bC) (hp:ps[i]? = some p) (gQ:b8 name ps=true) (Q:Value->World->Prop)
  (hset:∀ (sp:Option Addr) (g gc:Nat) (cur:Array Value) (W:World),Below w.heap.size w W->w.heap.size<=g->W.heap[g]? = some (.cells cur 183 (0,0))->b5 cur 0 (ps.set i (ld sp p))->ps.length<=gc->aC 143 0 W x (.pointer sp)->Calls Tryz.prog 98 #[.pointer (some ⟨aj,0,none⟩),.slice (some ⟨g,0,none⟩) ps.length gc] W fun e w'=>∃ v,e=.returned v/\Q v w') :
  Calls Tryz.prog 96 #[.pointer (some ⟨aj,0,none⟩),.string name,.string s] w fun e w'=>∃ v,e=.returned (.tuple #[.int .i64 (i:Int),v])/\Q v w':=by
 have hpf:=h.tW
 have hRd:=p_ aj ai (.int .i64 room) _ _ _ name s x w h.cell hN hm hg l9 hr hR
 have hf:Hid (∀ W,Below w.heap.size w W->Calls Tryz.prog 97 #[.pointer (some ⟨aj,0,none⟩),.string name] W fun e w'=>e=.returned (.tuple #[.int .i64 (i:Int),.bool true])/\Below W.heap.size W w'):=fun W hb=>by
  have:=mC aj (.int .i64 ai) (.int .i64 room) _ _ pa aM ps name W (hb.aE h.cell) (fg.move h.oX (au.aL (P:=fun _=>False) hb) (dn.none _ _)) jh (by omega)
  rw [hi,gQ] at this
  exact this
 have qo:i<ps.length:=(List.getElem?_eq_some_iff.1 hp).1
 have om:Hid (∀ W,Below w.heap.size w W->Calls Tryz.prog 100 #[.slice pa ps.length aM] W fun e w'=>∃ v',e=.returned v'/\w'.ownsRow W.heap.size 183 5 v' ps.length (du ps)/\Below W.heap.size W w'):=fun W hb=>nS W pa aM ps (fg.move h.oX (au.aL (P:=fun _=>False) hb) (dn.none _ _)) (by omega)
 have Hc:Hid (∀ W,Below w.heap.size w W->W.cell? ⟨aj,4,none⟩=some (.slice pa ps.length aM)):=fun W hb=>ae (hb.aE h.cell) rfl
 have hv:=hver p (List.mem_of_getElem? hp)
 have Hset:Hid _:=hset
 have Hrow:Hid (∀ (W:World) (B g gc:Nat),W.ownsRow B 183 5 (.slice (some ⟨g,0,none⟩) ps.length gc) ps.length (du ps)->∃ cur:Array Value,B<=g/\W.heap[g]? = some (.cells cur 183 (0,0))/\ps.length<=gc/\b5 cur 0 ps):=fun W B g gc bT=>by
  obtain ⟨cur,q1,q2,q3,q4,_⟩:=row_pols bT
  exact ⟨cur,q1,q2,q3,q4⟩
 have Hp:Hid (ps[i]? = some p):=hp
 generalize du ps=fp at *
 clear h jh hi gQ hver hp hset hg hr hR hN
 generalize hnl:ps.length=n at *
 go_enter Tryz.func96,Tryz.ntmps96
 go_wp2_with fail
 refine hRd.mono ?_
 rintro e w1 ⟨sp,rfl,hsx,a_⟩
 have hsx:Hid (aC 143 0 w1 x (.pointer sp)):=hsx
 go_wp2_with fail
 refine (hf.out w1 a_).mono ?_
 rintro e w2 ⟨rfl,cB⟩
 have qv:=a_.tr cB
 have c4:=Hc.out w2 qv
 go_wp2_with fail
 refine (om.out w2 qv).mono ?_
 rintro e w3 ⟨v',rfl,bT,pU⟩
 have hb13:=qv.tr pU
 obtain ⟨r1,⟨_,r2⟩ | ⟨g,gc,cur0,rfl,r3,_⟩⟩:=id bT
 ·omega
 obtain ⟨cur,q1,q2,q3,q4⟩:=Hrow.out w3 _ g gc bT
 obtain ⟨b0,b1,b2,b3,b4⟩:=q4 i p Hp.out
 simp only [Nat.zero_add] at b0 b1 b2 b3 b4
 have hw2s:=qv.size
 have d1:=ae q2 b1
 have d3:=ae q2 b3
 have f1:w3.frozen? ⟨g,i*5+1,none⟩=false:=Lib.frozen_of_heap q2 _
 have g1:=b7 (i:=i*5+1) (v:=.pointer sp) q2
 have d3':(w3.setCell ⟨g,i*5+1,none⟩ (.pointer sp)).cell? ⟨g,i*5+3,none⟩=some (.int .i64 p.cu):=ae g1 (by rw [Array.getElem?_setIfInBounds_ne (by omega)];exact b3)
 have f3:(w3.setCell ⟨g,i*5+1,none⟩ (.pointer sp)).frozen? ⟨g,i*5+3,none⟩=false:=Lib.frozen_of_heap g1 _
 have g3:=b7 (i:=i*5+3) (v:=.int .i64 (p.cu+1)) g1
 have ho:Only g w3 ((w3.setCell ⟨g,i*5+1,none⟩ (.pointer sp)).setCell ⟨g,i*5+3,none⟩ (.int .i64 (p.cu+1))):=((Only.refl g w3).setCell (p:=⟨g,i*5+1,none⟩) (.inl rfl) _).setCell (p:=⟨g,i*5+3,none⟩) (.inl rfl) _
 have hb4:Below w.heap.size w ((w3.setCell ⟨g,i*5+1,none⟩ (.pointer sp)).setCell ⟨g,i*5+3,none⟩ (.int .i64 (p.cu+1))):=hb13.trans ⟨ho.os,ho.tape,ho.output,ho.size,fun k hk=>ho.block k (by have:=hb13.size;omega) (by omega)⟩
 have df:=Hset.out sp g gc _ _ hb4 (by omega) g3 (polsAt_amend sp q4 Hp.out) q3 (cU (fun k cs hk=>by
  rw [ho.block k (Nat.lt_of_lt_of_le (aw hk) (Nat.le_trans cB.size pU.size)) (by have:=aw hk;have:=cB.size;omega)]
  exact (cB.tr pU).aE hk) hsx.out)
 clear Hset bT q4 g3 g1 hb4
 go_wp2_with fail
 refine df.mono ?_
 rintro e w4 ⟨v,rfl,hq⟩
 replace hq:Hid _:=hq
 go_wp2_with fail
 go_ret2
 exact ⟨v,rfl,hq.out⟩
end Ev
namespace Ev
open Go.RowKit Go.Deep
def fu (reach:Int):List bx->List bx
 | []=>[]
 | c::C=>if c.number=1 then c::C else (c::C).filter fun d=>decide (d.time-reach>=c.time)
theorem evOnes (C:List bx):∀ u∈dk C,u.oneCell'=true:=by
 intro u hu
 obtain ⟨c,_,hc⟩:=List.mem_flatMap.1 hu
 simp [bf] at hc
 rcases hc with rfl | rfl | rfl | rfl<;>rfl
theorem flatE_length (C:List bx):(dk C).length=C.length*4:=ft bf 4 (fun _=>rfl) C
set_option maxRecDepth 100000 in
set_option maxHeartbeats 4000000 in
theorem known_any (aj:Nat) (rt rm nv pv:Value) (ea:Option Addr) (cap:Nat) (C:List bx) (reach:Int) (w:World) (hw:w.heap[aj]? = some (.cells #[rt,rm,nv,.slice ea C.length cap,pv] 153 (0,0))) (hE:bY w (.slice ea C.length cap) C) (hn:C.length<=1000) (hr:0<=reach/\reach<=1000000000) (hT:∀ c∈C,0<=c.time/\c.time<=1000000000000) :
  Calls Tryz.prog 138 #[.pointer (some ⟨aj,0,none⟩),.int .i64 reach] w fun e w'=>∃ v',e=.returned v'/\w'.ownsRow w.heap.size 159 4 v' (fu reach C).length (dk (fu reach C))/\Below w.heap.size w w':=by
 have cz:=aw hw
 have c3:w.cell? ⟨aj,3,none⟩=some (.slice ea C.length cap):=ae hw rfl
 obtain ⟨ea',mq,hfm,cW,sa,hea⟩:=hE.form
 cases hfm
 have hclone:Calls Tryz.prog 175 #[.slice ea C.length cap] w fun e w'=>∃ v',e=.returned v'/\w'.ownsRow w.heap.size 159 4 v' C.length (dk C)/\Below w.heap.size w w':=by
  cases ea with
  | none =>
   refine (cloneEv_nil _ _ w).mono ?_
   rintro e w' ⟨rfl,rfl⟩
   have:C=[]:=by
    cases C with
    | nil=>rfl
    | cons c C=>obtain ⟨g,h,_⟩:=hea (by simp);cases h
   subst this
   exact ⟨_,rfl,World.ownsRow_nil _ _ _ _,Below.refl _ _⟩
  | some a =>
   have hE':w.ownsRow 0 159 4 (.slice (some a) C.length cap) C.length (dk C):=hE
   obtain ⟨_,⟨h,_⟩ | ⟨g,cp,cur,h,_⟩⟩:=hE'
   ·cases h
   ·cases h
    refine cloneEv_some g 0 C.length cap (dk C) w (flatE_length C) (by omega) (fun j u hj=>?_) (evOnes C)
    rw [Nat.zero_add]
    exact gH hE rfl hj
 cases C with
 | nil =>
  go_enter Tryz.func138,Tryz.ntmps138
  go_wp2_with fail
  refine hclone.mono ?_
  rintro e w1 ⟨v,rfl,h1,h2⟩
  go_wp2_with fail
  go_ret
  exact ⟨v,rfl,h1,h2⟩
 | cons c C =>
  obtain ⟨g,rfl,hg⟩:=hea (by simp)
  have p0:w.cell? ⟨g,0,none⟩=some (.int .i64 c.number):=hE.cell (i:=0) (k:=0) rfl rfl
  have p1:w.cell? ⟨g,1,none⟩=some (.int .i64 c.time):=hE.cell (i:=0) (k:=1) rfl rfl
  have Hlen:Hid ((c::C).length=C.length+1):=rfl
  have HE:Hid _:=hE
  have Hcl:Hid _:=hclone
  have HT:Hid _:=hT
  have hTc:=hT c (by simp)
  have hl1:1<=(c::C).length:=by simp
  generalize hn0:(c::C).length=n at *
  clear hE hclone hT hw sa hea
  by_cases h1:c.number=1
  ·have hk:fu reach (c::C)=c::C:=by simp [fu,h1]
   rw [hk]
   clear hk
   go_enter Tryz.func138,Tryz.ntmps138
   go_wp2_with fail
   refine Calls.mono Hcl.out ?_
   rintro e w1 ⟨v,rfl,q1,q2⟩
   rw [<- hn0] at q1
   have Hq:Hid _:=q1
   clear q1
   go_wp2_with fail
   go_ret
   exact ⟨v,rfl,Hq.out,q2⟩
  ·have hk:fu reach (c::C)=(c::C).filter fun d=>decide (d.time-reach>=c.time):=by simp [fu,h1]
   rw [hk]
   clear hk
   obtain ⟨i0,hi,lr,iU,lu⟩:=info_parts oM
   generalize hD:(c::C)=D at *
   have HD:Hid (c::C=D):=hD
   clear hD
   generalize c.time=ct at *
   generalize hF:(fun j=>(D.take j).filter fun d=>decide (d.time-reach>=ct))=F
   have F0:Hid (F 0=[]):=by subst hF;rfl
   have FN:Hid (F n=D.filter fun d=>decide (d.time-reach>=ct)):=by subst hF;show List.filter _ _=_;rw [List.take_of_length_le (by omega)]
   have FS:Hid (∀ j d,D[j]? = some d->F (j+1)=if d.time-reach>=ct then F j++[d] else F j):=by
    intro j d hd
    subst hF
    show List.filter _ _=_
    rw [List.take_add_one,hd,List.filter_append]
    by_cases hx:d.time-reach>=ct
    ·simp [hx]
    ·simp [hx]
   have FL:Hid (∀ j,(F j).length<=j):=fun j=>by subst hF;exact Nat.le_trans (List.length_filter_le _ _) (by rw [List.length_take];omega)
   rw [<- FN.out]
   clear hF
   go_enter Tryz.func138,Tryz.ntmps138
   go_wp2_with fail
   ·exfalso
    rcases ‹((n:Int)==0)=true\/(c.number==1)=true› with hq | hq
    ·have:=eq_of_beq hq;omega
    ·exact h1 (eq_of_beq hq)
   go_loopw [34,5] (fun iv v wr=>∃ i:Nat,iv=.int .i64 i/\i<=n/\wr.ownsRow w.heap.size 159 4 v (F i).length (dk (F i))/\Below w.heap.size w wr) (fun iv _ _=>n-(intOf iv).toNat)
   case atStart=>exact ⟨0,rfl,Nat.zero_le _,by rw [F0.out];exact World.ownsRow_nil _ _ _ _,Below.refl _ _⟩
   case round =>
    obtain ⟨i,rfl,tP,cE,h_⟩:=hrel
    have hd3:wr.cell? ⟨aj,3,none⟩=some (.slice (some ⟨g,0,none⟩) n cap):=by rw [h_.cell (p:=⟨aj,3,none⟩) cz];exact c3
    by_cases qo:i<n
    ·have hie:i<D.length:=by omega
     have fD:D[i]? = some D[i]:=List.getElem?_eq_getElem hie
     have hTx:=HT.out D[i] (List.getElem_mem hie)
     have HFS:Hid _:=FS.out i _ fD
     have hE':bY w (.slice (some ⟨g,0,none⟩) D.length cap) D:=by show w.ownsRow 0 159 4 _ _ _;rw [hn0];exact HE.out
     generalize D[i]=x at *
     have q0:wr.cell? ⟨g,i*4,none⟩=some (.int .i64 x.number):=by rw [h_.cell (p:=⟨g,i*4,none⟩) hg];exact hE'.cell (k:=0) fD rfl
     have q1:wr.cell? ⟨g,i*4+1,none⟩=some (.int .i64 x.time):=by rw [h_.cell (p:=⟨g,i*4+1,none⟩) hg];exact hE'.cell (k:=1) fD rfl
     have q2:wr.cell? ⟨g,i*4+2,none⟩=some (.slice x.ao x.al x.ac):=by rw [h_.cell (p:=⟨g,i*4+2,none⟩) hg];exact hE'.cell (k:=2) fD rfl
     have q3:wr.cell? ⟨g,i*4+3,none⟩=some (.slice x.so x.sl x.sc):=by rw [h_.cell (p:=⟨g,i*4+3,none⟩) hg];exact hE'.cell (k:=3) fD rfl
     clear hE' fD
     go_wp2_with fail
     have cB:Below w.heap.size w (wr.alloc (.cells #[.int .i64 x.number,.int .i64 x.time,.slice x.ao x.al x.ac,.slice x.so x.sl x.sc] 159)):=h_.al _
     have gi:=cE.alloc (.cells #[.int .i64 x.number,.int .i64 x.time,.slice x.ao x.al x.ac,.slice x.so x.sl x.sc] 159)
     have z3:(wr.alloc (.cells #[.int .i64 x.number,.int .i64 x.time,.slice x.ao x.al x.ac,.slice x.so x.sl x.sc] 159)).cell? ⟨aj,3,none⟩=some (.slice (some ⟨g,0,none⟩) n cap):=by rw [cB.cell (p:=⟨aj,3,none⟩) cz];exact c3
     have z4:(wr.alloc (.cells #[.int .i64 x.number,.int .i64 x.time,.slice x.ao x.al x.ac,.slice x.so x.sl x.sc] 159)).cell? ⟨g,1,none⟩=some (.int .i64 ct):=by rw [cB.cell (p:=⟨g,1,none⟩) hg];exact p1
     have y0:(wr.alloc (.cells #[.int .i64 x.number,.int .i64 x.time,.slice x.ao x.al x.ac,.slice x.so x.sl x.sc] 159)).cell? ⟨wr.heap.size,0,none⟩=some (.int .i64 x.number):=ae (aB _ _ _ rfl) rfl
     have y1:(wr.alloc (.cells #[.int .i64 x.number,.int .i64 x.time,.slice x.ao x.al x.ac,.slice x.so x.sl x.sc] 159)).cell? ⟨wr.heap.size,1,none⟩=some (.int .i64 x.time):=ae (aB _ _ _ rfl) rfl
     have y2:(wr.alloc (.cells #[.int .i64 x.number,.int .i64 x.time,.slice x.ao x.al x.ac,.slice x.so x.sl x.sc] 159)).cell? ⟨wr.heap.size,2,none⟩=some (.slice x.ao x.al x.ac):=ae (aB _ _ _ rfl) rfl
     have y3:(wr.alloc (.cells #[.int .i64 x.number,.int .i64 x.time,.slice x.ao x.al x.ac,.slice x.so x.sl x.sc] 159)).cell? ⟨wr.heap.size,3,none⟩=some (.slice x.so x.sl x.sc):=ae (aB _ _ _ rfl) rfl
     generalize (wr.alloc (.cells #[.int .i64 x.number,.int .i64 x.time,.slice x.ao x.al x.ac,.slice x.so x.sl x.sc] 159))=w2 at cB gi z3 z4 y0 y1 y2 y3 ⊢
     go_region
     by_cases hx:x.time-reach>=ct
     ·go_wp2_with (at_builtin;refine wpList_append_own _ rfl _ _ 146 rfl w.heap.size 159 i0 (.agg #[.int .i64 0,.int .i64 0,.slice none 0 0,.slice none 0 0]) 4 64 Tryz.underlying146 hi lr iU lu rfl (by decide) _ _ _ rfl (gi.alloc _) ⟨w2.heap.size,0,none⟩ 1 1 (bf x) rfl rfl ?c1 ?c2 ?c3 ?c4 ?c5 ?_)
      case c1 =>
       exact fun j u hj=>ei w2 x 159 j u hj
      case c2=>exact fun u hu=>evOnes [x] u (by simpa [dk] using hu)
      case c3=>have:=FL.out i;unfold maxLen;omega
      case c4=>have:=FL.out i;omega
      case c5=>have:=cB.size;simp;omega
      intro v' w3 dm bz _
      have pU:Below w.heap.size w w3:=((cB.al _).drew).grown bz (Nat.le_trans cB.size (by simp)) (fun k e=>(gi.lt k e).1)
      go_wp2_with fail
      go_roundw
      case rel=>exact ⟨i+1,by go_num,by omega,by rw [HFS.out,if_pos hx,mL,List.length_append];exact dm,pU⟩
      case measure=>simp only [intOf];omega
     ·go_wp2_with fail
      go_roundw
      case rel=>exact ⟨i+1,by go_num,by omega,by rw [HFS.out,if_neg hx];first | exact gi | exact dw gi (fun _ _=>rfl),by first | exact cB | exact cB.drew⟩
      case measure=>simp only [intOf];omega
    ·obtain rfl:i=n:=by omega
     go_wp2_with fail
     go_ret
     exact ⟨_,rfl,cE,h_⟩
end Ev
namespace Ev
open Go.RowKit Go.Deep Go.Maps Lf
set_option maxHeartbeats 1000000 in
theorem says170 (num time at_:Value) (sb so n cap i:Nat) (v:Bool) (w:World) (hsb:sb<w.heap.size) (hv:w.cell? ⟨sb,so+i,none⟩=some (.bool v)) (hi:i<n) :
  Calls Tryz.prog 170 #[.agg #[num,time,at_,.slice (some ⟨sb,so,none⟩) n cap],.int .i64 i] w fun e w'=>e=.returned (.bool v)/\Below w.heap.size w w':=by
 go_enter Tryz.func170,Tryz.ntmps170
 go_wp2_with fail
 have hb:Below w.heap.size w (w.alloc (.cells #[num,time,at_,.slice (some ⟨sb,so,none⟩) n cap] 159)):=(Below.refl _ _).al _
 have y3:(w.alloc (.cells #[num,time,at_,.slice (some ⟨sb,so,none⟩) n cap] 159)).cell? ⟨w.heap.size,3,none⟩=some (.slice (some ⟨sb,so,none⟩) n cap):=ae (aB _ _ _ rfl) rfl
 have yv:(w.alloc (.cells #[num,time,at_,.slice (some ⟨sb,so,none⟩) n cap] 159)).cell? ⟨sb,so+i,none⟩=some (.bool v):=by rw [hb.cell (p:=⟨sb,so+i,none⟩) hsb];exact hv
 generalize (w.alloc (.cells #[num,time,at_,.slice (some ⟨sb,so,none⟩) n cap] 159))=W at *
 go_wp2_with fail
 go_ret
 exact ⟨rfl,hb⟩
set_option maxRecDepth 100000 in
set_option maxHeartbeats 4000000 in
theorem verdict_any (name bV cG:Value) (ao:Option Addr) (al ac:Nat) (cu num time:Int) (sb so n cap node:Nat) (v:Bool) (w:World) (hsb:sb<w.heap.size) (hv:w.cell? ⟨sb,so+node,none⟩=some (.bool v)) (hi:node<n) :
  Calls Tryz.prog 134 #[.agg #[name,bV,.int .i64 node,.int .i64 cu,cG],.agg #[.int .i64 num,.int .i64 time,.slice ao al ac,.slice (some ⟨sb,so,none⟩) n cap]] w fun e w'=>e=.returned (.agg #[.int .i64 num,.int .i64 time,.int .i64 cu,.bool v])/\Below w.heap.size w w':=by
 have Hv:Hid (w.cell? ⟨sb,so+node,none⟩=some (.bool v)):=hv
 clear hv
 go_enter Tryz.func134,Tryz.ntmps134
 go_wp2_with fail
 have hbW:Below w.heap.size w (((w.alloc (.cells #[name,bV,.int .i64 node,.int .i64 cu,cG] 183)).alloc (.cells #[.int .i64 num,.int .i64 time,.slice ao al ac,.slice (some ⟨sb,so,none⟩) n cap] 159)).alloc (.cells #[.int .i64 0,.int .i64 0,.int .i64 0,.bool false] 59)):=(((Below.refl _ w).al _).al _).al _
 have h1:(((w.alloc (.cells #[name,bV,.int .i64 node,.int .i64 cu,cG] 183)).alloc (.cells #[.int .i64 num,.int .i64 time,.slice ao al ac,.slice (some ⟨sb,so,none⟩) n cap] 159)).alloc (.cells #[.int .i64 0,.int .i64 0,.int .i64 0,.bool false] 59)).heap[w.heap.size]? = some (.cells #[name,bV,.int .i64 node,.int .i64 cu,cG] 183 (0,0)):=(Below.heap_alloc _ _ _ (by simp;omega)).trans ((Below.heap_alloc _ _ _ (by simp)).trans (aB _ _ _ rfl))
 have h2:(((w.alloc (.cells #[name,bV,.int .i64 node,.int .i64 cu,cG] 183)).alloc (.cells #[.int .i64 num,.int .i64 time,.slice ao al ac,.slice (some ⟨sb,so,none⟩) n cap] 159)).alloc (.cells #[.int .i64 0,.int .i64 0,.int .i64 0,.bool false] 59)).heap[w.heap.size+1]? = some (.cells #[.int .i64 num,.int .i64 time,.slice ao al ac,.slice (some ⟨sb,so,none⟩) n cap] 159 (0,0)):=(Below.heap_alloc _ _ _ (by simp)).trans (aB _ _ _ (by simp))
 have h3:(((w.alloc (.cells #[name,bV,.int .i64 node,.int .i64 cu,cG] 183)).alloc (.cells #[.int .i64 num,.int .i64 time,.slice ao al ac,.slice (some ⟨sb,so,none⟩) n cap] 159)).alloc (.cells #[.int .i64 0,.int .i64 0,.int .i64 0,.bool false] 59)).heap[w.heap.size+1+1]? = some (.cells #[.int .i64 0,.int .i64 0,.int .i64 0,.bool false] 59 (0,0)):=aB _ _ _ (by simp)
 generalize (((w.alloc (.cells #[name,bV,.int .i64 node,.int .i64 cu,cG] 183)).alloc (.cells #[.int .i64 num,.int .i64 time,.slice ao al ac,.slice (some ⟨sb,so,none⟩) n cap] 159)).alloc (.cells #[.int .i64 0,.int .i64 0,.int .i64 0,.bool false] 59))=W at *
 have hws:w.heap.size+1+1<W.heap.size:=aw h3
 generalize nY:w.heap.size=b1 at *
 generalize hB2:b1+1=b2 at *
 generalize hB3:b2+1=b3 at *
 have kj:Hid (∀ w',Below W.heap.size W w'->(fun w'=>w'.cell? ⟨b1,2,none⟩=some (.int .i64 node)/\w'.cell? ⟨b1,3,none⟩=some (.int .i64 cu)/\w'.cell? ⟨b2,0,none⟩=some (.int .i64 num)/\w'.cell? ⟨b2,1,none⟩=some (.int .i64 time)/\w'.cell? ⟨b2,2,none⟩=some (.slice ao al ac)/\w'.cell? ⟨b2,3,none⟩=some (.slice (some ⟨sb,so,none⟩) n cap)) w'):=fun w' hb=>⟨ae (hb.aE h1) rfl,ae (hb.aE h1) rfl,ae (hb.aE h2) rfl,ae (hb.aE h2) rfl,ae (hb.aE h2) rfl,ae (hb.aE h2) rfl⟩
 have hZ:(fun w'=>w'.cell? ⟨b1,2,none⟩=some (.int .i64 node)/\w'.cell? ⟨b1,3,none⟩=some (.int .i64 cu)/\w'.cell? ⟨b2,0,none⟩=some (.int .i64 num)/\w'.cell? ⟨b2,1,none⟩=some (.int .i64 time)/\w'.cell? ⟨b2,2,none⟩=some (.slice ao al ac)/\w'.cell? ⟨b2,3,none⟩=some (.slice (some ⟨sb,so,none⟩) n cap)) W.drew:=kj.out _ (Below.refl _ W).drew
 refine bJ.begin (S:=(fun w'=>w'.cell? ⟨b1,2,none⟩=some (.int .i64 node)/\w'.cell? ⟨b1,3,none⟩=some (.int .i64 cu)/\w'.cell? ⟨b2,0,none⟩=some (.int .i64 num)/\w'.cell? ⟨b2,1,none⟩=some (.int .i64 time)/\w'.cell? ⟨b2,2,none⟩=some (.slice ao al ac)/\w'.cell? ⟨b2,3,none⟩=some (.slice (some ⟨sb,so,none⟩) n cap))) (fin:=11) (by kernel_rfl) ?_
 simp only [List.size_toArray,List.length_cons,List.length_nil,Nat.reduceAdd,Nat.zero_add]
 refine bJ.take 0 (v:=?vq0) rfl (by decide +kernel) (by decide +kernel) (by decide +kernel) (by decide +kernel) (fun c a w h=>h) (by rfl) (fun w' hS=>Go.Conc.run_eq_of ?rq0) hZ ?_
 case rq0 =>
  intro K' hK'
  clear hS
  go_simp
  exact hK'
 try walk_nrm
 refine bJ.take 1 (v:=?vq1) rfl (by decide +kernel) (by decide +kernel) (by decide +kernel) (by decide +kernel) (fun c a w h=>h) (by rfl) (fun w' hS=>Go.Conc.run_eq_of ?rq1) hZ ?_
 case rq1 =>
  intro K' hK'
  obtain ⟨y1,y2,y3,y4,y5,y6⟩:=hS
  go_simp
  exact hK'
 try walk_nrm
 refine bJ.take 2 (v:=?vq2) rfl (by decide +kernel) (by decide +kernel) (by decide +kernel) (by decide +kernel) (fun c a w h=>h) (by rfl) (fun w' hS=>Go.Conc.run_eq_of ?rq2) hZ ?_
 case rq2 =>
  intro K' hK'
  clear hS
  go_simp
  exact hK'
 try walk_nrm
 refine bJ.take 3 (v:=?vq3) rfl (by decide +kernel) (by decide +kernel) (by decide +kernel) (by decide +kernel) (fun c a w h=>h) (by rfl) (fun w' hS=>Go.Conc.run_eq_of ?rq3) hZ ?_
 case rq3 =>
  intro K' hK'
  obtain ⟨y1,y2,y3,y4,y5,y6⟩:=hS
  go_simp
  exact hK'
 try walk_nrm
 refine bJ.take 4 (v:=?vq4) rfl (by decide +kernel) (by decide +kernel) (by decide +kernel) (by decide +kernel) (fun c a w h=>h) (by rfl) (fun w' hS=>Go.Conc.run_eq_of ?rq4) hZ ?_
 case rq4 =>
  intro K' hK'
  clear hS
  go_simp
  exact hK'
 try walk_nrm
 refine bJ.take 5 (v:=?vq5) rfl (by decide +kernel) (by decide +kernel) (by decide +kernel) (by decide +kernel) (fun c a w h=>h) (by rfl) (fun w' hS=>Go.Conc.run_eq_of ?rq5) hZ ?_
 case rq5 =>
  intro K' hK'
  obtain ⟨y1,y2,y3,y4,y5,y6⟩:=hS
  go_simp
  exact hK'
 try walk_nrm
 refine bJ.take 6 (v:=?vq6) rfl (by decide +kernel) (by decide +kernel) (by decide +kernel) (by decide +kernel) (fun c a w h=>h) (by rfl) (fun w' hS=>Go.Conc.run_eq_of ?rq6) hZ ?_
 case rq6 =>
  intro K' hK'
  obtain ⟨y1,y2,y3,y4,y5,y6⟩:=hS
  go_simp
  exact hK'
 try walk_nrm
 refine bJ.take 7 (v:=?vq7) rfl (by decide +kernel) (by decide +kernel) (by decide +kernel) (by decide +kernel) (fun c a w h=>h) (by rfl) (fun w' hS=>Go.Conc.run_eq_of ?rq7) hZ ?_
 case rq7 =>
  intro K' hK'
  clear hS
  go_simp
  exact hK'
 try walk_nrm
 refine bJ.take 8 (v:=?vq8) rfl (by decide +kernel) (by decide +kernel) (by decide +kernel) (by decide +kernel) (fun c a w h=>h) (by rfl) (fun w' hS=>Go.Conc.run_eq_of ?rq8) hZ ?_
 case rq8 =>
  intro K' hK'
  obtain ⟨y1,y2,y3,y4,y5,y6⟩:=hS
  go_simp
  exact hK'
 try walk_nrm
 have hb0:Below W.heap.size W W.drew:=(Below.refl _ W).drew
 refine bJ.one (i:=9) (by decide +kernel) rfl (by rfl) ?_
 unfold Oper.wp
 rw [Go.Conc.run_call_body (f:=170) (args:=#[.tmp 11,.tmp 13]) (ats:=#[159,3]) rfl Tryz.func170 (by decide) rfl]
 simp only [Oper.upon,List.map_toArray,List.map_cons,List.map_nil]
 change Calls Tryz.prog 170 #[.agg #[.int .i64 num,.int .i64 time,.slice ao al ac,.slice (some ⟨sb,so,none⟩) n cap],.int .i64 node] W.drew _
 refine (says170 (.int .i64 num) (.int .i64 time) (.slice ao al ac) sb so n cap node v W.drew (by have:=hbW.size;show sb<W.heap.size;omega) ?hcv hi).mono ?_
 case hcv=>rw [(hbW.drew).cell (p:=⟨sb,so+node,none⟩) hsb];exact Hv.out
 rintro e V1 ⟨rfl,hbI⟩
 have qw:Below W.heap.size W V1:=hb0.tr hbI
 have hV3:V1.heap[b3]? = some (.cells #[.int .i64 0,.int .i64 0,.int .i64 0,.bool false] 59 (0,0)):=qw.aE h3
 have hwV:Below b1 w V1:=hbW.trans (qw.mono (by omega))
 refine ⟨fun _=>kj.out _ qw,?_⟩
 try walk_nrm
 refine bJ.op (i:=10) (by decide +kernel) rfl (by rfl) (fun K' hK'=>?_)
 unfold Oper.wp
 go_simp
 refine hK' _ _ ⟨fun _=>kj.out _ qw,?_⟩
 clear hK' K'
 try walk_nrm
 refine bJ.op (i:=11) (by decide +kernel) rfl (by rfl) (fun K' hK'=>?_)
 unfold Oper.wp
 have k1:=b7 (i:=0) (v:=.int .i64 num) hV3
 have k2:=b7 (i:=1) (v:=.int .i64 time) k1
 have k3:=b7 (i:=2) (v:=.int .i64 cu) k2
 have k4:=b7 (i:=3) (v:=.bool v) k3
 have hwU:Below b1 w ((((V1.setCell ⟨b3,0,none⟩ (.int .i64 num)).setCell ⟨b3,1,none⟩ (.int .i64 time)).setCell ⟨b3,2,none⟩ (.int .i64 cu)).setCell ⟨b3,3,none⟩ (.bool v)):=(((hwV.setCell (p:=⟨b3,0,none⟩) (by show b1<=b3;omega) _).setCell (p:=⟨b3,1,none⟩) (by show b1<=b3;omega) _).setCell (p:=⟨b3,2,none⟩) (by show b1<=b3;omega) _).setCell (p:=⟨b3,3,none⟩) (by show b1<=b3;omega) _
 have c0:=ae (i:=0) hV3 rfl
 have c1:=ae (i:=1) k1 rfl
 have c2:=ae (i:=2) k2 rfl
 have c3:=ae (i:=3) k3 rfl
 have f0:V1.frozen? ⟨b3,0,none⟩=false:=Lib.frozen_of_heap hV3 0
 have f1:=Lib.frozen_of_heap k1 1
 have f2:=Lib.frozen_of_heap k2 2
 have f3:=Lib.frozen_of_heap k3 3
 have d0:=ae (i:=0) k4 rfl
 have d1:=ae (i:=1) k4 rfl
 have d2:=ae (i:=2) k4 rfl
 have d3:=ae (i:=3) k4 rfl
 go_simp
 refine hK' _ _ ⟨fun h=>absurd h (by decide),?_⟩
 clear hK' K'
 refine bJ.done (by decide +kernel) ?_ _
 try walk_nrm
 clear c0 c1 c2 c3 f0 f1 f2 f3 k1 k2 k3 k4
 generalize ((((V1.setCell ⟨b3,0,none⟩ (.int .i64 num)).setCell ⟨b3,1,none⟩ (.int .i64 time)).setCell ⟨b3,2,none⟩ (.int .i64 cu)).setCell ⟨b3,3,none⟩ (.bool v))=U at *
 go_wp2_with fail
 refine bodyPost_ret (v:=.agg #[.int .i64 num,.int .i64 time,.int .i64 cu,.bool v]) (by simp [results,Tryz.results134,go_sem,d0,d1,d2,d3]) rfl ⟨rfl,hwU⟩
def backV (hold:bx->Bool) (cu:Int) (D:List bx):List Value:=D.flatMap fun c=>bO c.number c.time cu (hold c)
theorem knownF_sub {reach:Int} {C:List bx} {d:bx} (h:d∈fu reach C):d∈C:=by
 cases C with
 | nil=>simp [fu] at h
 | cons c C =>
  simp only [fu] at h
  split at h
  ·exact h
  ·exact (List.mem_filter.1 h).1
theorem knownF_len (reach:Int) (C:List bx):(fu reach C).length<=C.length:=by
 cases C with
 | nil=>exact Nat.le_refl _
 | cons c C =>
  simp only [fu]
  split
  ·exact Nat.le_refl _
  ·exact List.length_filter_le _ _
theorem backV_take {hold:bx->Bool} {cu:Int} {D:List bx} {i:Nat} {d:bx} (h:D[i]? = some d):backV hold cu (D.take (i+1))=backV hold cu (D.take i)++bO d.number d.time cu (hold d):=by
 rw [List.take_add_one,h]
 simp [backV]
theorem ver_four_new (w:World) (a b c:Int) (v:Bool) (t:TypeId):∀ j u,(bO a b c v)[j]? = some u->(w.alloc (.cells #[.int .i64 a,.int .i64 b,.int .i64 c,.bool v] t)).cell? ((⟨w.heap.size,0,none⟩:Addr).add j)=some u:=by
 intro j u hj
 have hh:=aB w (.cells #[.int .i64 a,.int .i64 b,.int .i64 c,.bool v] t (0,0)) _ rfl
 rw [Addr.add_lit,Nat.zero_add]
 refine ae hh ?_
 rcases j with _ | _ | _ | _ | j
 ·exact hj
 ·exact hj
 ·exact hj
 ·exact hj
 ·simp [bO] at hj
end Ev
end Go.Proofs.YtpbbmagjhkakgaaGreatDoor
