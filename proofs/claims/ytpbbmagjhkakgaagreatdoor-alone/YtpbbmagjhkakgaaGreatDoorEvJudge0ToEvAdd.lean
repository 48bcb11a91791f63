import Derived.Test.YtpbbmagjhkakgaaGreatDoorFaceToEvClone
import Derived.Test.YtpbbmagjhkakgaaGreatDoorEvBackToEvOrder
namespace Go.Proofs.YtpbbmagjhkakgaaGreatDoor
namespace Ev
open Go.RowKit Go.Deep Go.Maps
set_option maxHeartbeats 1000000 in
theorem judge0_any (aj:Nat) (rt rm nv pv nn:Value) (o:Option Addr) (n cap:Nat) (hnn:nn=.slice o n cap) (w:World) (hw:w.heap[aj]? = some (.cells #[rt,rm,nv,.slice none 0 0,pv] 153 (0,0))) :
  Calls Tryz.prog 142 #[.pointer (some ⟨aj,0,none⟩),nn] w fun e w'=>e=.returned (.tuple #[])/\w'.heap[aj]? = some (.cells #[rt,rm,nn,.slice none 0 0,pv] 153 (0,0))/\Only aj w w':=by
 subst hnn
 have hf0:w.frozen? ⟨aj,2,none⟩=false:=Lib.frozen_of_heap hw 2
 have c2:=ae (i:=2) hw rfl
 have c3:=ae (i:=3) hw rfl
 go_enter Tryz.func142,Tryz.ntmps142
 go_wp2_with fail
 go_loopw [14] (fun iv wr=>iv=.int .i64 0/\wr=w.setCell ⟨aj,2,none⟩ (.slice o n cap)) (fun iv _=>0)
 case atStart=>exact ⟨rfl,rfl⟩
 case round =>
  obtain ⟨rfl,rfl⟩:=hrel
  go_wp2_with fail
  refine bodyPost_end (results_none rfl _ _ _) rfl ?_
  exact ⟨rfl,b7 (i:=2) hw,(Only.refl aj w).setCell (p:=⟨aj,2,none⟩) (.inl rfl) _⟩
theorem checkReach_ok (aj:Nat) (ai reach:Int) (rm nv ev pv:Value) (w:World) (hw:w.heap[aj]? = some (.cells #[.int .i64 ai,rm,nv,ev,pv] 153 (0,0))) (h:reach<=ai) :
  Calls Tryz.prog 171 #[.pointer (some ⟨aj,0,none⟩),.int .i64 reach] w fun e w'=>e=.returned .nilIface/\w'=w:=by
 have c0:=ae (i:=0) hw rfl
 go_enter Tryz.func171,Tryz.ntmps171
 go_wp2_with fail
 go_ret
 exact ⟨rfl,rfl⟩
set_option maxHeartbeats 1000000 in
theorem p_ (aj:Nat) (ai:Int) (rm nv ev pv:Value) (name s:ByteArray) (x:BT aO) (w:World) (hw:w.heap[aj]? = some (.cells #[.int .i64 ai,rm,nv,ev,pv] 153 (0,0))) (hN:eR name) (hm:s.size<=maxLen) (hg:eF w) (l9:14<=w.heap.size) (hr:cI s=(some x,0)) (hR:ax x<=ai) :
  Calls Tryz.prog 135 #[.pointer (some ⟨aj,0,none⟩),.string name,.string s] w fun e w'=>∃ p,e=.returned (.tuple #[.pointer p,.nilIface])/\aC 143 0 w' x (.pointer p)/\Below w.heap.size w w':=by
 have hI:=isName_ok name hN w
 obtain ⟨hgd,_,hdx,_⟩:=iJ hr
 have hRd:∀ w1,Below w.heap.size w w1->Calls Tryz.prog 39 #[.string s] w1 (ReadTop s w1 (some x,0)):=fun w1 hb=>by
  have:=readTop_any s w1 hm (hg.below hb) (by have:=hb.size;omega)
  rw [hr] at this
  exact this
 have HRd:Hid (∀ w1,Below w.heap.size w w1->Calls Tryz.prog 39 #[.string s] w1 (ReadTop s w1 (some x,0))):=hRd
 clear hRd
 have Hw:Hid (w.heap[aj]? = some (.cells #[.int .i64 ai,rm,nv,ev,pv] 153 (0,0))):=hw
 clear hw
 go_enter Tryz.func135,Tryz.ntmps135
 go_wp2_with fail
 refine hI.mono ?_
 rintro e w1 ⟨rfl,a_⟩
 go_wp2_with fail
 refine (HRd.out w1 a_).mono ?_
 rintro e w2 ⟨cB,⟨x',v,h1,rfl,hx,hd⟩ | ⟨h1,tb,fa,rfl,ht⟩ | ⟨h1,tb,fa,rfl,ht⟩⟩
 ·cases h1
  obtain ⟨vv,rfl⟩:=gZ hx
  have qv:=a_.tr cB
  have hx0:=sent_zero hx
  have tR:=qv.aE Hw.out
  have hwin:=hgd.win
  go_wp2_with fail
  go_quiet (first
   | (go_at_call_of 42 (Value.pointer vv);exact Calls.quiet_of (reach_any x _ _ _ (hx0.drewN _) (by omega) hwin))
   | (go_at_call_of 171 (Value.pointer (some ⟨aj,0,none⟩));exact Calls.quiet_of ((checkReach_ok aj ai (ax x) rm nv ev pv _ (by exact tR) hR).mono (fun e w' h=>⟨h.1,0,h.2⟩))))
  go_wp2_with fail
  all_goals go_ret2
  all_goals exact ⟨vv,rfl,hx0.drewN _,qv.tr (below_drewN _ _)⟩
 ·cases h1
 ·cases h1
end Ev
namespace Ev
open Go.RowKit Go.Deep Go.Maps Lf
def dN (X:Nat->BT aO):Nat->List Key
 | 0=>[]
 | j+1=>(aX (dN X j) (ak (X j))).2
def nAt (X:Nat->BT aO) (j:Nat):Int:=(aX (dN X j) (ak (X j))).1
theorem KAt_len (X:Nat->BT aO) (j:Nat):(dN X j).length<=(dN X (j+1)).length:=(kt (ak (X j)) (dN X j)).1
theorem KAt_mono (X:Nat->BT aO) (i k:Nat):(dN X i).length<=(dN X (i+k)).length:=by
 induction k with
 | zero=>exact Nat.le_refl _
 | succ k ih=>exact Nat.le_trans ih (KAt_len X (i+k))
def dR (X:Nat->BT aO) (ps:List bC):List bC:=ps.mapIdx fun j p=>{ p with node:=(nAt X j).toNat }
theorem mQ (X:Nat->BT aO) (j:Nat):0<=nAt X j:=(kt (ak (X j)) (dN X j)).2.2.1
def iX (X:Nat->BT aO) (arr:Array Value) (ps:List bC) (i:Nat):Prop:=∀ (j:Nat) (p:bC),ps[j]? = some p->arr[j*5]? = some (.string p.name)/\arr[j*5+1]? = some (.pointer p.bV)/\(j<i->arr[j*5+2]? = some (.int .i64 (nAt X j)))/\arr[j*5+3]? = some (.int .i64 p.cu)/\arr[j*5+4]? = some (.pointer p.cG)
theorem iX.done {X:Nat->BT aO} {arr:Array Value} {ps:List bC} (h:iX X arr ps ps.length):b5 arr 0 (dR X ps):=by
 intro j q hq
 simp only [dR,List.getElem?_mapIdx] at hq
 cases hp:ps[j]? with
 | none=>rw [hp] at hq;cases hq
 | some p =>
  rw [hp] at hq
  simp at hq
  subst hq
  obtain ⟨a,b,c,d,e⟩:=h j p hp
  have hj:=(List.getElem?_eq_some_iff.1 hp).1
  have hn:=mQ X j
  simp only [Nat.zero_add]
  refine ⟨a,b,?_,d,e⟩
  rw [c hj]
  congr 2
  exact (Int.toNat_of_nonneg hn).symm
theorem iX.start {X:Nat->BT aO} {arr:Array Value} {ps:List bC} (h:b5 arr 0 ps):iX X arr ps 0:=by
 intro j p hp
 obtain ⟨a,b,_,d,e⟩:=h j p hp
 simp only [Nat.zero_add] at a b d e
 exact ⟨a,b,fun h=>absurd h (Nat.not_lt_zero _),d,e⟩
theorem iX.set {X:Nat->BT aO} {arr:Array Value} {ps:List bC} {i:Nat} (h:iX X arr ps i) (hi:i<ps.length):iX X (arr.setIfInBounds (i*5+2) (.int .i64 (nAt X i))) ps (i+1):=by
 intro j p hp
 obtain ⟨a,b,c,d,e⟩:=h j p hp
 have hs:i*5+2<arr.size:=by
  obtain ⟨_,_,_,d',_⟩:=h i ps[i] (List.getElem?_eq_getElem hi)
  have:=(Array.getElem?_eq_some_iff.1 d').1
  omega
 have ne:∀ k,k≠i*5+2->(arr.setIfInBounds (i*5+2) (.int .i64 (nAt X i)))[k]? = arr[k]?:=fun k hk=>Array.getElem?_setIfInBounds_ne (Ne.symm hk)
 refine ⟨by rw [ne _ (by omega)];exact a,by rw [ne _ (by omega)];exact b,fun hj=>?_,by rw [ne _ (by omega)];exact d,by rw [ne _ (by omega)];exact e⟩
 by_cases mO:j=i
 ·subst mO
  rw [Array.getElem?_setIfInBounds_self_of_lt hs]
 ·rw [ne _ (by omega)]
  exact c (by omega)
theorem oY {w:World} {B B' size n:Nat} {e:TypeId} {v:Value} {xs:List Value} (h:w.ownsRow B e size v n xs) (hB:B'<=B):w.ownsRow B' e size v n xs:=by
 obtain ⟨h1,h2 | ⟨g,cap,cur,h3,h4,h5⟩⟩:=h
 ·exact ⟨h1,.inl h2⟩
 ·exact ⟨h1,.inr ⟨g,cap,cur,h3,Nat.le_trans hB h4,h5⟩⟩
set_option maxRecDepth 100000 in
set_option maxHeartbeats 4000000 in
theorem settle_ok (aj pb cap:Nat) (rt rm nv ev:Value) (po:Option Addr) (pn pc:Nat) (arr:Array Value) (ps:List bC) (X:Nat->BT aO) (w:World) (J:World->Value->World->Prop)
  (hw:w.heap[aj]? = some (.cells #[rt,rm,nv,ev,.slice po pn pc] 153 (0,0))) (hp:w.heap[pb]? = some (.cells arr 183 (0,0))) (hP:b5 arr 0 ps) (hn:ps.length<=1000) (cW:ps.length<=cap)
  (hS:∀ (j:Nat) (p:bC),ps[j]? = some p->aC 143 0 w (X j) (.pointer p.bV)/\Good (X j)/\aV (ak (X j))<=1000000) (hK:(dN X ps.length).length<=40)
  (hJ:∀ (W:World) (nn:Value) (gV:Array Value),W.ownsRow w.heap.size 226 6 nn (dN X ps.length).length (gh (dN X ps.length))->W.heap[aj]? = some (.cells #[rt,rm,nv,ev,.slice (some ⟨pb,0,none⟩) ps.length cap] 153 (0,0))->W.heap[pb]? = some (.cells gV 183 (0,0))->b5 gV 0 (dR X ps)->aY (fun b=>b=aj\/b=pb) w W->
   Calls Tryz.prog 142 #[.pointer (some ⟨aj,0,none⟩),nn] W fun e w'=>e=.returned (.tuple #[])/\J W nn w') :
  Calls Tryz.prog 98 #[.pointer (some ⟨aj,0,none⟩),.slice (some ⟨pb,0,none⟩) ps.length cap] w fun e w'=>e=.returned .nilIface/\∃ (W:World) (nn:Value) (gV:Array Value),W.ownsRow w.heap.size 226 6 nn (dN X ps.length).length (gh (dN X ps.length))/\W.heap[aj]? = some (.cells #[rt,rm,nv,ev,.slice (some ⟨pb,0,none⟩) ps.length cap] 153 (0,0))/\W.heap[pb]? = some (.cells gV 183 (0,0))/\b5 gV 0 (dR X ps)/\aY (fun b=>b=aj\/b=pb) w W/\J W nn w':=by
 have hne:aj≠pb:=by rintro rfl;rw [hw] at hp;cases hp
 have hwl:=aw hw
 have hpl:=aw hp
 have Hp:Hid (w.heap[pb]? = some (.cells arr 183 (0,0))/\b5 arr 0 ps):=⟨hp,hP⟩
 have Hw:Hid (w.heap[aj]? = some (.cells #[rt,rm,nv,ev,.slice po pn pc] 153 (0,0))):=hw
 have HJ:Hid (∀ (W:World) (nn:Value) (gV:Array Value),W.ownsRow w.heap.size 226 6 nn (dN X ps.length).length (gh (dN X ps.length))->W.heap[aj]? = some (.cells #[rt,rm,nv,ev,.slice (some ⟨pb,0,none⟩) ps.length cap] 153 (0,0))->W.heap[pb]? = some (.cells gV 183 (0,0))->b5 gV 0 (dR X ps)->aY (fun b=>b=aj\/b=pb) w W->
   Calls Tryz.prog 142 #[.pointer (some ⟨aj,0,none⟩),nn] W fun e w'=>e=.returned (.tuple #[])/\J W nn w'):=hJ
 have HS:Hid (∀ (j:Nat) (p:bC),ps[j]? = some p->aC 143 0 w (X j) (.pointer p.bV)/\Good (X j)/\aV (ak (X j))<=1000000):=hS
 have HK:Hid ((dN X ps.length).length<=40):=hK
 clear hp hP hw hJ hS hK
 generalize hlen:ps.length=n at *
 have Hlen:Hid (ps.length=n):=hlen
 clear hlen
 go_enter Tryz.func98,Tryz.ntmps98
 go_wp2_with fail
 go_loopw [10] (fun iv wr=>∃ (i:Nat),iv=.int .i64 i/\i<=n/\sC w.heap.size w.heap.size wr (dN X i)/\aY (fun b=>b=pb) w wr/\w.heap.size<wr.heap.size/\∃ gV,wr.heap[pb]? = some (.cells gV 183 (0,0))/\iX X gV ps i) (fun iv _=>n-(intOf iv).toNat)
 case atStart =>
  exact ⟨0,rfl,Nat.zero_le _,sC.new _ w (Nat.le_refl _),aY.aL ((Below.refl _ _).al _),by simp,arr,(Below.heap_alloc _ _ _ hpl).trans Hp.out.1,iX.start Hp.out.2⟩
 case round =>
  obtain ⟨i,rfl,tP,hT,kT,oK,gV,um,hPT⟩:=hrel
  by_cases hi:i<n
  ·obtain ⟨p,hpi⟩:∃ p,ps[i]? = some p:=⟨_,List.getElem?_eq_getElem (by rw [Hlen.out];exact hi)⟩
   obtain ⟨a0,a1,_,a3,a4⟩:=hPT i p hpi
   obtain ⟨s1,s2,s3⟩:=HS.out i p hpi
   have s1':aC 143 0 wr (X i) (.pointer p.bV):=cU (fun k cs hk=>by
    rw [kT.block k (aw hk) (by rintro rfl;rw [Hp.out.1] at hk;cases hk)];exact hk) s1
   have c1:wr.cell? ⟨pb,i*5+1,none⟩=some (.pointer p.bV):=ae um a1
   have a_:=KAt_mono X i (n-i)
   have cB:i+(n-i)=n:=by omega
   rw [cB] at a_
   have hKn:=HK.out
   have tQ:=putTop0 (X i) (.pointer p.bV) w.heap.size w.heap.size (dN X i) wr s1' s2 hT (by omega)
   obtain ⟨a2,e2⟩:∃ v,gV[i*5+2]? = some v:=⟨_,Array.getElem?_eq_getElem (by have:=(Array.getElem?_eq_some_iff.1 a3).1;omega)⟩
   have hset:=hPT.set (by rw [Hlen.out];exact hi)
   have hnn:=mQ X i
   have hput2:Calls Tryz.prog 43 #[.pointer (some ⟨w.heap.size,0,none⟩),.pointer p.bV] wr fun e w'=>e=.returned (.int .i64 (nAt X i))/\sC w.heap.size w.heap.size w' (dN X (i+1))/\Below w.heap.size wr w':=tQ
   clear tQ s1 s1' s2 s3 a0 a1 a3 a4 hT a_ cB hKn
   have Hs:Hid (iX X (gV.setIfInBounds (i*5+2) (.int .i64 (nAt X i))) ps (i+1)):=hset
   clear hset hPT
   generalize nAt X i=nd at *
   go_wp2_with fail
   refine hput2.mono ?_
   rintro e w1 ⟨rfl,hT1,a_⟩
   have hpb1:w1.heap[pb]? = some (.cells gV 183 (0,0)):=(a_.block pb hpl).trans um
   have hf:w1.frozen? ⟨pb,i*5+2,none⟩=false:=Lib.frozen_of_heap hpb1 _
   have c2:w1.cell? ⟨pb,i*5+2,none⟩=some a2:=ae hpb1 e2
   clear hput2
   go_wp2_with fail
   go_roundw
   case rel =>
    have ho:Only pb w1 (w1.setCell ⟨pb,i*5+2,none⟩ (.int .i64 nd)):=(Only.refl pb w1).setCell (p:=⟨pb,i*5+2,none⟩) (.inl rfl) _
    refine ⟨i+1,by go_num,by omega,?_,?_,?_,_,b7 hpb1,Hs.out⟩
    ·rcases hT1 with ⟨t1,t2,t3⟩ | ⟨mb,nv1,t2⟩
     ·exact .inl ⟨ho.heap t1 (by omega),t2,t3⟩
     ·refine .inr ⟨mb,nv1,t2.heap (fun k hk hf=>ho.block k hk ?_)⟩
      exact fun e=>hf (e▸t2.free hpb1 (by decide) (by decide))
    ·have hsp1:aY (fun b=>b=pb) w w1:=⟨a_.os.trans kT.os,a_.tape.trans kT.tape,a_.output.trans kT.output,Nat.le_trans kT.size a_.size,fun x hx hp=>(a_.block x hx).trans (kT.block x hx hp)⟩
     exact hsp1.trans (aY.kg ho fun x hx=>hx)
    ·have:=a_.size;have:=ho.size;omega
   case measure=>simp only [intOf];omega
  ·obtain rfl:i=n:=by omega
   have hC:=count_any w.heap.size w.heap.size (dN X i) wr hT
   have l8:wr.heap[aj]? = some (.cells #[rt,rm,nv,ev,.slice po pn pc] 153 (0,0)):=(kT.block aj hwl hne).trans Hw.out
   have hf:wr.frozen? ⟨aj,4,none⟩=false:=Lib.frozen_of_heap l8 4
   have c4:=ae (i:=4) l8 rfl
   have hKn:=HK.out
   go_wp2_with fail
   refine hC.mono ?_
   rintro e w1 ⟨rfl,rfl⟩
   go_wp2_with fail
   have tR:=b7 (i:=4) (v:=.slice (some ⟨pb,0,none⟩) i cap) l8
   simp only [List.setIfInBounds_toArray,List.set_cons_zero,List.set_cons_succ] at tR
   have ho:Only aj w1 (w1.setCell ⟨aj,4,none⟩ (.slice (some ⟨pb,0,none⟩) i cap)):=(Only.refl aj w1).setCell (p:=⟨aj,4,none⟩) (.inl rfl) _
   have hsp2:aY (fun b=>b=aj\/b=pb) w (w1.setCell ⟨aj,4,none⟩ (.slice (some ⟨pb,0,none⟩) i cap)):=(kT.mono (fun x _ hx=>.inr hx)).trans (aY.kg ho fun x hx=>.inl hx)
   have rZ:sC w.heap.size w.heap.size (w1.setCell ⟨aj,4,none⟩ (.slice (some ⟨pb,0,none⟩) i cap)) (dN X i):=by
    rcases hT with ⟨t1,t2,t3⟩ | ⟨mb,nv1,t2⟩
    ·exact .inl ⟨ho.heap t1 (by omega),t2,t3⟩
    ·exact .inr ⟨mb,nv1,t2.heap (fun k hk hf=>ho.block k hk (fun e=>hf (e▸t2.free l8 (by decide) (by decide))))⟩
   have hpb2:(w1.setCell ⟨aj,4,none⟩ (.slice (some ⟨pb,0,none⟩) i cap)).heap[pb]? = some (.cells gV 183 (0,0)):=ho.heap um (Ne.symm hne)
   have hPd:b5 gV 0 (dR X ps):=iX.done (by rw [Hlen.out];exact hPT)
   clear hT kT um hPT l8 hf c4 hC ho
   generalize w1.setCell ⟨aj,4,none⟩ (.slice (some ⟨pb,0,none⟩) i cap)=W at *
   refine bh.begin (S:=fun _=>True) (fin:=99) (by kernel_rfl) ?_
   simp only [List.size_toArray,List.length_cons,List.length_nil,Nat.reduceAdd,Nat.zero_add]
   refine bh.take 0 (v:=?vq0) rfl (by decide +kernel) (by decide +kernel) (by decide +kernel) (by decide +kernel) (fun c a w h=>h) (by rfl) (fun w' _=>Go.Conc.run_eq_of ?rq0) trivial ?_
   case rq0 =>
    intro K' hK'
    go_simp
    exact hK'
   try walk_nrm
   refine bh.take 1 (v:=?vq1) rfl (by decide +kernel) (by decide +kernel) (by decide +kernel) (by decide +kernel) (fun c a w h=>h) (by rfl) (fun w' _=>Go.Conc.run_eq_of ?rq1) trivial ?_
   case rq1 =>
    intro K' hK'
    go_simp
    exact hK'
   try walk_nrm
   refine bh.take 2 (v:=?vq2) rfl (by decide +kernel) (by decide +kernel) (by decide +kernel) (by decide +kernel) (fun c a w h=>h) (by rfl) (fun w' _=>Go.Conc.run_eq_of ?rq2) trivial ?_
   case rq2 =>
    intro K' hK'
    go_simp
    exact hK'
   try walk_nrm
   refine bh.one (i:=3) (by decide +kernel) rfl (by rfl) ?_
   unfold Oper.wp
   rw [Go.Conc.run_call_body (f:=143) (args:=#[.tmp 5]) (ats:=#[97]) rfl Tryz.func143 (by decide) rfl]
   simp only [Oper.upon,List.map_toArray,List.map_cons,List.map_nil]
   change Calls Tryz.prog 143 #[.pointer (some ⟨w.heap.size,0,none⟩)] W.drew _
   refine (tabNodes_any w.heap.size w.heap.size (dN X i) W.drew (rZ.below (Below.refl _ W).drew) (by omega)).mono ?_
   rintro e W1 ⟨nn,rfl,bT,a_⟩
   refine ⟨fun _=>trivial,?_⟩
   try walk_nrm
   have a_:Below W.heap.size W W1:=(Below.refl W.heap.size W).drew.trans (a_.mono (Below.refl W.heap.size W).drew.size)
   have jF:W1.ownsRow w.heap.size 226 6 nn (dN X i).length (gh (dN X i)):=oY bT (Nat.le_trans hsp2.size (by simp))
   have hJ1:=HJ.out W1 nn gV jF (a_.aE tR) (a_.aE hpb2) hPd (hsp2.trans (aY.aL a_))
   refine bh.one (i:=4) (by decide +kernel) rfl (by rfl) ?_
   unfold Oper.wp
   rw [Go.Conc.run_call_body (f:=142) (args:=#[.tmp 37,.tmp 38]) (ats:=#[148,95]) rfl Tryz.func142 (by decide) rfl]
   simp only [Oper.upon,List.map_toArray,List.map_cons,List.map_nil]
   change Calls Tryz.prog 142 #[.pointer (some ⟨aj,0,none⟩),nn] W1 _
   refine hJ1.mono ?_
   rintro e W2 ⟨rfl,hj⟩
   refine ⟨fun _=>trivial,?_⟩
   refine bh.done (by decide +kernel) ?_ _
   try walk_nrm
   go_wp2_with fail
   go_ret
   exact ⟨rfl,W1,nn,gV,jF,a_.aE tR,a_.aE hpb2,hPd,hsp2.trans (aY.aL a_),hj⟩
set_option maxRecDepth 100000 in
set_option maxHeartbeats 2000000 in
theorem search0 (name:ByteArray) (w:World):Calls Tryz.prog 139 #[.slice none 0 0,.string name,.func (.func 140) #[] #[]] w fun e w'=>e=.returned (.tuple #[.int .i64 0,.bool false])/\w'=w:=by
 go_enter Tryz.func139,Tryz.ntmps139
 go_wp2_with fail
 go_loopw [9,10] (fun iv jv wr=>iv=.int .i64 0/\jv=.int .i64 0/\wr=w) (fun _ _ _=>0)
 case atStart=>exact ⟨rfl,rfl,rfl⟩
 case round =>
  obtain ⟨rfl,rfl,rfl⟩:=hrel
  go_wp2_with fail
  go_ret2
  exact ⟨rfl,rfl⟩
theorem find0 (aj:Nat) (rt rm nv ev:Value) (name:ByteArray) (w:World) (hw:w.heap[aj]? = some (.cells #[rt,rm,nv,ev,.slice none 0 0] 153 (0,0))) :
  Calls Tryz.prog 97 #[.pointer (some ⟨aj,0,none⟩),.string name] w fun e w'=>e=.returned (.tuple #[.int .i64 0,.bool false])/\w'=w:=by
 have c4:=ae (i:=4) hw rfl
 have hs:=search0 name w
 go_enter Tryz.func97,Tryz.ntmps97
 go_wp2_with fail
 refine hs.mono ?_
 rintro e w1 ⟨rfl,rfl⟩
 go_wp2_with fail
 go_ret2
 exact ⟨rfl,rfl⟩
def polVal (p:bC):Value:=.agg #[.string p.name,.pointer p.bV,.int .i64 p.node,.int .i64 p.cu,.pointer p.cG]
set_option maxRecDepth 100000 in
set_option maxHeartbeats 2000000 in
theorem insert0 (vb:Nat) (xs:List Value) (w:World) (hl:xs.length=5) (hc:∀ j u,xs[j]? = some u->w.cell? ⟨vb,j,none⟩=some u) (h1:∀ u∈xs,u.oneCell'=true) :
  Calls Tryz.prog 137 #[.slice none 0 0,.int .i64 0,.slice (some ⟨vb,0,none⟩) 1 1] w fun e w'=>∃ v',e=.returned v'/\w'.ownsRow w.heap.size 183 5 v' 1 xs/\Below w.heap.size w w':=by
 obtain ⟨i0,hi,lr,iU,lu⟩:=info_parts iy
 have HL:Hid (xs.length=5):=hl
 have A:Hid (∀ j u,xs[j]? = some u->w.cell? ⟨vb,j,none⟩=some u):=hc
 clear hl hc
 go_enter Tryz.func137,Tryz.ntmps137
 go_wp2_with (at_builtin;refine wpList_append_own _ rfl _ _ 151 rfl w.heap.size 183 i0 (.agg #[.string ⟨#[]⟩,.pointer none,.int .i64 0,.int .i64 0,.pointer none]) 5 48 Tryz.underlying151 hi lr iU lu rfl (by decide) _ _ _ rfl (World.ownsRow_nil _ _ _ _) ⟨vb,0,none⟩ 1 1 xs rfl ?qc1 ?qc2 ?qc3 ?qc4 ?qc5 ?qc6 ?_)
 case qc1=>exact HL.out
 case qc2 =>
  intro j u hj
  rw [Addr.add_lit,Nat.zero_add]
  exact A.out j u hj
 case qc3=>exact h1
 case qc4=>unfold maxLen;omega
 case qc5=>omega
 case qc6=>simp
 intro v' w1 cE bz hnil
 go_wp2_with fail
 go_ret
 refine ⟨v',rfl,by simpa using cE,?_⟩
 exact (Below.refl _ w).grown bz (by simp) (by intro k hk;simp [Value.ownBlock] at hk)
end Ev
namespace Ev
open Go
section
variable {P : Program} {ops : Array Oper} {Q : Exit → Act → World → Prop} {md : Region.Mode} {S : World → Prop} {fin : Nat}
def rW (md:Region.Mode) (ops:Array Oper) (listed:Array Bool):Prop:=∀ (k:Nat) (o:Oper),ops[k]? = some o->listed.getD k false=true->∀ e∈o.after,Region.binds md e=true->listed.getD e.on false=true
def closedB (md:Region.Mode) (ops:Array Oper) (listed:Array Bool):Bool:=(List.range ops.size).all fun k=>match ops[k]? with
 | some o=>!listed.getD k false||o.after.all fun e=>!Region.binds md e||listed.getD e.on false
 | none=>true
theorem closedB_spec {listed:Array Bool} (h:closedB md ops listed=true):rW md ops listed:=by
 intro k o hk hl e he hb
 have hks:k<ops.size:=(Array.getElem?_eq_some_iff.1 hk).1
 have h1:=List.all_eq_true.1 h k (List.mem_range.2 hks)
 rw [hk] at h1
 simp only [hl,Bool.not_true,Bool.false_or] at h1
 have h2:=Array.all_eq_true'.1 h1 e he
 simpa [hb] using h2
theorem rW.set {listed:Array Bool} {j:Nat} (h:rW md ops listed) (hj:j∈Region.ready md ops listed):rW md ops (listed.setIfInBounds j true):=by
 obtain ⟨_,oj,hoj,nc⟩:=mem_ready.1 hj
 have up:∀ q,listed.getD q false=true->(listed.setIfInBounds j true).getD q false=true:=fun q hq=>by
  by_cases hqj:q=j
  ·subst hqj
   have:q<listed.size:=by
    rcases Nat.lt_or_ge q listed.size with h' | h'
    ·exact h'
    ·simp [Array.getElem?_eq_none h'] at hq
   simp [this]
  ·simp only [Array.getD_eq_getD_getElem?] at hq ⊢
   rw [Array.getElem?_setIfInBounds_ne (Ne.symm hqj)]
   exact hq
 intro k o hk hl e he hb
 by_cases hkj:k=j
 ·subst hkj
  rw [hoj] at hk;cases hk
  exact up _ (nc e he hb)
 ·refine up _ (h k o hk ?_ e he hb)
  simp only [Array.getD_eq_getD_getElem?] at hl ⊢
  rw [Array.getElem?_setIfInBounds_ne (Ne.symm hkj)] at hl
  exact hl
def ud (md:Region.Mode) (ops:Array Oper):Nat->Nat->Nat->Bool
 | 0,_,_=>false
 | fuel+1,k,i=>match ops[k]? with
  | some o=>o.after.any fun e=>Region.binds md e&&(e.on==i||ud md ops fuel e.on i)
  | none=>true
theorem waitsB_spec {listed:Array Bool} {i:Nat} (hc:rW md ops listed):∀ (fuel k:Nat),ud md ops fuel k i=true->∀ o,ops[k]? = some o->(∀ e∈o.after,Region.binds md e=true->listed.getD e.on false=true)->(∀ q,listed.getD q false=true->q<ops.size)->listed.getD i false=true
 | 0,_,h,_,_,_,_=>by cases h
 | fuel+1,k,h,o,ho,nc,hs=>by
  unfold ud at h
  rw [ho] at h
  obtain ⟨e,he,hb⟩:=Array.any_eq_true'.1 h
  simp only [Bool.and_eq_true,Bool.or_eq_true,beq_iff_eq] at hb
  obtain ⟨hb,rfl | hw⟩:=hb
  ·exact nc e he hb
  ·have hl:=nc e he hb
   have cz:=hs _ hl
   exact waitsB_spec hc fuel e.on hw ops[e.on] (Array.getElem?_eq_getElem cz) (fun e2 he2 cB=>hc _ _ (Array.getElem?_eq_getElem cz) hl e2 he2 cB) hs
def bJ (P:Program) (md:Region.Mode) (ops:Array Oper) (Q:Exit->Act->World->Prop) (S:World->Prop) (fin:Nat):Nat->Array Bool->Act->World->Prop
 | 0,listed,a,w=>Region.ready md ops listed=[]/\Q .normal a w
 | fuel+1,listed,a,w=>(Region.ready md ops listed=[]->Q .normal a w)/\
  ∀ i∈Region.ready md ops listed,wpOp P ops Q i (fun a' w'=>(i<fin->S w')/\bJ P md ops Q S fin fuel (listed.setIfInBounds i true) a' w') a w
theorem bJ.any:∀ (fuel:Nat) (listed:Array Bool) (a:Act) (w:World),bJ P md ops Q S fin fuel listed a w->wpAny P md ops Q fuel listed a w
 | 0,_,_,_,h=>h
 | fuel+1,_,_,_,h=>⟨h.1,fun i hi=>wpOp_mono (fun a' w' k=>bJ.any fuel _ a' w' k.2) (h.2 i hi)⟩
theorem bJ.first {i:Nat} {oi:Oper} {v:Value} (hi:ops[i]? = some oi) (hsel:∀ (j:Nat) (o:Oper) cs b,ops[j]? = some o->o.op≠.select cs b) (bH:∀ k,fin<=k->ud md ops ops.size k i=true)
  (hQ:∀ c a w,Q (.panic c) (a.put oi.dst v) w->Q (.panic c) a w):∀ (fuel:Nat) (listed:Array Bool) (a:Act) (w:World),listed.size=ops.size->rW md ops listed->
   (∀ j oj,ops[j]? = some oj->j≠i->listed.getD j true=false->(∀ e∈oj.after,Region.binds md e=true->e.on≠i)->oi.apart ops oj=true)->
   i∈Region.ready md ops listed->YieldsIf P ops S oi v a->S w->bJ P md ops Q S fin fuel (listed.setIfInBounds i true) (a.put oi.dst v) w->bJ P md ops Q S fin (fuel+1) listed a w:=by
 intro fuel
 induction fuel with
 | zero =>
  intro listed a w _ _ _ hr hy hS H
  refine ⟨fun h=>(by rw [h] at hr;cases hr),fun j hj=>?_⟩
  by_cases mO:j=i
  ·subst mO;exact hy.wpOp hi hS ⟨fun _=>hS,H⟩
  ·have:=ready_mono hj mO
   rw [H.1] at this
   cases this
 | succ fuel ih =>
  intro listed a w hls om hfree hr hy hS H
  refine ⟨fun h=>(by rw [h] at hr;cases hr),fun j hj=>?_⟩
  by_cases mO:j=i
  ·subst mO;exact hy.wpOp hi hS ⟨fun _=>hS,H⟩
  ·obtain ⟨hjun,oj,hoj,nc⟩:=mem_ready.1 hj
   have hun:listed.getD i false=true->False:=fun h1=>by
    have h0:=(mem_ready.1 hr).1
    rcases Nat.lt_or_ge i listed.size with h' | h'
    ·simp [h'] at h0 h1;rw [h0] at h1;cases h1
    ·simp [Array.getElem?_eq_none h'] at h1
   have hnot:∀ e∈oj.after,Region.binds md e=true->e.on≠i:=fun e he hb heq=>by
    have h1:=nc e he hb
    rw [heq] at h1
    exact hun h1
   have hjf:j<fin:=by
    refine Nat.lt_of_not_le fun hle=>?_
    refine hun (waitsB_spec om _ _ (bH j hle) oj hoj nc fun q hq=>?_)
    rcases Nat.lt_or_ge q listed.size with h' | h'
    ·omega
    ·simp [Array.getElem?_eq_none h'] at hq
   have h2:=wpOp_putIf hoj (hfree j oj hoj mO hjun hnot) (fun cs b=>hsel i oi cs b hi) (fun cs b=>hsel j oj cs b hoj) hQ hy (H.2 j (ready_mono hj mO))
   refine wpOp_mono (fun a' w' h3=>⟨h3.2.1,ih (listed.setIfInBounds j true) a' w' (by simp [hls]) (om.set hj) (fun k ok hk hki hun hno=>hfree k ok hk hki ?_ hno) (ready_mono hr (Ne.symm mO)) h3.1 (h3.2.1 hjf) ?_⟩) h2
   ·by_cases n9:j=k
    ·subst n9;exact hjun
    ·rw [getD_set_ne true n9] at hun;exact hun
   ·rw [Array.setIfInBounds_comm _ _ mO]
    exact h3.2.2
theorem bJ.take (i:Nat) {oi:Oper} {v:Value} {fuel:Nat} {listed:Array Bool} {a:Act} {w:World} (hi:ops[i]? = some oi) (hs:Region.noSelect ops=true) (hf:Region.free md ops listed i=true) (hr:(Region.ready md ops listed).contains i=true)
  (bH:(((List.range ops.size).all fun k=>decide (k<fin)||ud md ops ops.size k i)&&closedB md ops listed&&(listed.size==ops.size))=true) (hQ:∀ c a w,Q (.panic c) (a.put oi.dst v) w->Q (.panic c) a w)
  (hw:Region.wanted oi (yielded ops a.tmps)=true) (hy:∀ w,S w->(execOp a.eval oi).run P w=.ok (.value v) w) (hS:S w) (h:bJ P md ops Q S fin fuel (listed.setIfInBounds i true) (a.put oi.dst v) w):bJ P md ops Q S fin (fuel+1) listed a w:=by
 simp only [Bool.and_eq_true,beq_iff_eq] at bH
 have hks:i<ops.size:=(Array.getElem?_eq_some_iff.1 hi).1
 have hfin1:∀ k,fin<=k->ud md ops ops.size k i=true:=fun k hk=>by
  by_cases hkl:k<ops.size
  ·have:=List.all_eq_true.1 bH.1.1 k (List.mem_range.2 hkl)
   simpa [Nat.not_lt.2 hk] using this
  ·have hn:ops[k]? = none:=Array.getElem?_eq_none (by omega)
   obtain ⟨m,hm⟩:∃ m,ops.size=m+1:=⟨ops.size-1,by omega⟩
   rw [hm]
   unfold ud
   rw [hn]
 exact bJ.first hi (Region.noSelect_spec hs) hfin1 hQ fuel listed a w bH.2 (closedB_spec bH.1.2) (Region.free_spec hi hf) (by simpa using hr) (.inl ⟨hw,hy⟩) hS h
theorem bJ.one {i:Nat} {o:Oper} {fuel:Nat} {listed:Array Bool} {a:Act} {w:World} (hr:Region.ready md ops listed=[i]) (ho:ops[i]? = some o) (hw:Region.wanted o (yielded ops a.tmps)=true)
  (h:Oper.wp P o a w (fun a' w'=>(i<fin->S w')/\bJ P md ops Q S fin fuel (listed.setIfInBounds i true) a' w') Q):bJ P md ops Q S fin (fuel+1) listed a w :=
 ⟨fun h0=>(by rw [hr] at h0;cases h0),fun j hj=>by
  rw [hr] at hj;simp at hj;subst hj
  unfold wpOp
  simp only [ho,hw,if_true]
  exact .inl h⟩
theorem bJ.op {i:Nat} {o:Oper} {fuel:Nat} {listed:Array Bool} {a:Act} {w:World} (hr:Region.ready md ops listed=[i]) (ho:ops[i]? = some o) (hw:Region.wanted o (yielded ops a.tmps)=true)
  (h:∀ K:Act->World->Prop,(∀ a' w',((i<fin->S w')/\bJ P md ops Q S fin fuel (listed.setIfInBounds i true) a' w')->K a' w')->Oper.wp P o a w K Q):bJ P md ops Q S fin (fuel+1) listed a w :=
 bJ.one hr ho hw (h _ fun _ _ x=>x)
theorem bJ.two {i j:Nat} {oi oj:Oper} {fuel:Nat} {listed:Array Bool} {a:Act} {w:World} (hr:Region.ready md ops listed=[i,j]) (hoi:ops[i]? = some oi) (hwi:Region.wanted oi (yielded ops a.tmps)=true) (hoj:ops[j]? = some oj) (hwj:Region.wanted oj (yielded ops a.tmps)=true)
  (h1:∀ K:Act->World->Prop,(∀ a' w',((i<fin->S w')/\bJ P md ops Q S fin fuel (listed.setIfInBounds i true) a' w')->K a' w')->Oper.wp P oi a w K Q)
  (h2:∀ K:Act->World->Prop,(∀ a' w',((j<fin->S w')/\bJ P md ops Q S fin fuel (listed.setIfInBounds j true) a' w')->K a' w')->Oper.wp P oj a w K Q):bJ P md ops Q S fin (fuel+1) listed a w :=
 ⟨fun h0=>(by rw [hr] at h0;cases h0),fun q hq=>by
  rw [hr] at hq
  simp at hq
  rcases hq with rfl | rfl
  ·unfold wpOp
   simp only [hoi,hwi,if_true]
   exact .inl (h1 _ fun _ _ x=>x)
  ·unfold wpOp
   simp only [hoj,hwj,if_true]
   exact .inl (h2 _ fun _ _ x=>x)⟩
theorem bJ.done {listed:Array Bool} {a:Act} {w:World} (hr:Region.ready md ops listed=[]) (h:Q .normal a w):∀ fuel,bJ P md ops Q S fin fuel listed a w
 | 0=>⟨hr,h⟩
 | _+1=>⟨fun _=>h,fun i hi=>by rw [hr] at hi;cases hi⟩
theorem bJ.begin {id:Nat} {a:Act} {w:World} (hm:P.follows .mixedOrders=true) (h:bJ P .any ops Q S fin ops.size (Array.replicate ops.size false) a w.drew):(Code.region id ops true).wp P Q a w :=
 wp_region_any hm (bJ.any _ _ _ _ h)
theorem bJ.weaken {fin':Nat}:∀ (fuel:Nat) (listed:Array Bool) (a:Act) (w:World),bJ P md ops Q S fin fuel listed a w->bJ P md ops Q (fun _=>True) fin' fuel listed a w
 | 0,_,_,_,h=>h
 | fuel+1,_,_,_,h=>⟨h.1,fun i hi=>wpOp_mono (fun a' w' k=>⟨fun _=>trivial,bJ.weaken fuel _ a' w' k.2⟩) (h.2 i hi)⟩
end
end Ev
namespace Ev
open Go.RowKit Go.Deep Go.Maps Lf
def ey (p:bC):List Value:=[.string p.name,.pointer p.bV,.int .i64 p.node,.int .i64 p.cu,.pointer p.cG]
theorem polOne (p:bC):∀ u∈ey p,u.oneCell'=true:=by
 intro u hu
 simp [ey] at hu
 rcases hu with rfl | rfl | rfl | rfl | rfl<;>rfl
end Ev
end Go.Proofs.YtpbbmagjhkakgaaGreatDoor
