import Derived.Test.YtpbbmagjhkakgaaGreatDoorPut2ToEvJudge0
import Derived.Test.YtpbbmagjhkakgaaGreatDoorEvSinceToEvWork
namespace Go.Proofs.YtpbbmagjhkakgaaGreatDoor.Ev
open Go.RowKit Go.Deep Go.Maps Go.Proofs.YtpbbmagjhkakgaaGreatDoor.Lf
def KAt (X:Nat->BT Pay):Nat->List Key
 | 0=>[]
 | j+1=>(putK (KAt X j) (coreT (X j))).2
def nAt (X:Nat->BT Pay) (j:Nat):Int:=(putK (KAt X j) (coreT (X j))).1
theorem KAt_len (X:Nat->BT Pay) (j:Nat):(KAt X j).length<=(KAt X (j+1)).length:=(putK_len (coreT (X j)) (KAt X j)).1
theorem KAt_mono (X:Nat->BT Pay) (i k:Nat):(KAt X i).length<=(KAt X (i+k)).length:=by
 induction k with
 | zero=>exact Nat.le_refl _
 | succ k ih=>exact Nat.le_trans ih (KAt_len X (i+k))
def polsN (X:Nat->BT Pay) (ps:List Pol):List Pol:=ps.mapIdx fun j p=>{ p with node:=(nAt X j).toNat }
theorem nAt_nonneg (X:Nat->BT Pay) (j:Nat):0<=nAt X j:=(putK_len (coreT (X j)) (KAt X j)).2.2.1
def PolsTo (X:Nat->BT Pay) (arr:Array Value) (ps:List Pol) (i:Nat):Prop:=∀ (j:Nat) (p:Pol),ps[j]? = some p->arr[j*5]? = some (.string p.name)/\arr[j*5+1]? = some (.pointer p.sent)/\(j<i->arr[j*5+2]? = some (.int .i64 (nAt X j)))/\arr[j*5+3]? = some (.int .i64 p.ver)/\arr[j*5+4]? = some (.pointer p.strm)
theorem PolsTo.done {X:Nat->BT Pay} {arr:Array Value} {ps:List Pol} (h:PolsTo X arr ps ps.length):PolsAt arr 0 (polsN X ps):=by
 intro j q hq
 simp only [polsN,List.getElem?_mapIdx] at hq
 cases hp:ps[j]? with
 | none=>rw [hp] at hq;cases hq
 | some p =>
  rw [hp] at hq
  simp at hq
  subst hq
  obtain ⟨a,b,c,d,e⟩:=h j p hp
  have hj:=(List.getElem?_eq_some_iff.1 hp).1
  have hn:=nAt_nonneg X j
  simp only [Nat.zero_add]
  refine ⟨a,b,?_,d,e⟩
  rw [c hj]
  congr 2
  exact (Int.toNat_of_nonneg hn).symm
theorem PolsTo.start {X:Nat->BT Pay} {arr:Array Value} {ps:List Pol} (h:PolsAt arr 0 ps):PolsTo X arr ps 0:=by
 intro j p hp
 obtain ⟨a,b,_,d,e⟩:=h j p hp
 simp only [Nat.zero_add] at a b d e
 exact ⟨a,b,fun h=>absurd h (Nat.not_lt_zero _),d,e⟩
theorem PolsTo.set {X:Nat->BT Pay} {arr:Array Value} {ps:List Pol} {i:Nat} (h:PolsTo X arr ps i) (hi:i<ps.length):PolsTo X (arr.setIfInBounds (i*5+2) (.int .i64 (nAt X i))) ps (i+1):=by
 intro j p hp
 obtain ⟨a,b,c,d,e⟩:=h j p hp
 have hs:i*5+2<arr.size:=by
  obtain ⟨_,_,_,d',_⟩:=h i ps[i] (List.getElem?_eq_getElem hi)
  have:=(Array.getElem?_eq_some_iff.1 d').1
  omega
 have ne:∀ k,k≠i*5+2->(arr.setIfInBounds (i*5+2) (.int .i64 (nAt X i)))[k]? = arr[k]?:=fun k hk=>Array.getElem?_setIfInBounds_ne (Ne.symm hk)
 refine ⟨by rw [ne _ (by omega)];exact a,by rw [ne _ (by omega)];exact b,fun hj=>?_,by rw [ne _ (by omega)];exact d,by rw [ne _ (by omega)];exact e⟩
 by_cases hji:j=i
 ·subst hji
  rw [Array.getElem?_setIfInBounds_self_of_lt hs]
 ·rw [ne _ (by omega)]
  exact c (by omega)
theorem row_mono {w:World} {B B' size n:Nat} {e:TypeId} {v:Value} {xs:List Value} (h:w.ownsRow B e size v n xs) (hB:B'<=B):w.ownsRow B' e size v n xs:=by
 obtain ⟨h1,h2 | ⟨g,cap,cur,h3,h4,h5⟩⟩:=h
 ·exact ⟨h1,.inl h2⟩
 ·exact ⟨h1,.inr ⟨g,cap,cur,h3,Nat.le_trans hB h4,h5⟩⟩
set_option maxRecDepth 100000 in
set_option maxHeartbeats 4000000 in
theorem settle_ok (wtb pb cap:Nat) (rt rm nv ev:Value) (po:Option Addr) (pn pc:Nat) (arr:Array Value) (ps:List Pol) (X:Nat->BT Pay) (w:World) (J:World->Value->World->Prop)
  (hw:w.heap[wtb]? = some (.cells #[rt,rm,nv,ev,.slice po pn pc] 153 (0,0))) (hp:w.heap[pb]? = some (.cells arr 183 (0,0))) (hP:PolsAt arr 0 ps) (hn:ps.length<=1000) (hcap:ps.length<=cap)
  (hS:∀ (j:Nat) (p:Pol),ps[j]? = some p->SentAt 143 0 w (X j) (.pointer p.sent)/\Good (X j)/\nodesT (coreT (X j))<=1000000) (hK:(KAt X ps.length).length<=40)
  (hJ:∀ (W:World) (nn:Value) (arr':Array Value),W.ownsRow w.heap.size 226 6 nn (KAt X ps.length).length (flatK (KAt X ps.length))->W.heap[wtb]? = some (.cells #[rt,rm,nv,ev,.slice (some ⟨pb,0,none⟩) ps.length cap] 153 (0,0))->W.heap[pb]? = some (.cells arr' 183 (0,0))->PolsAt arr' 0 (polsN X ps)->Spare (fun b=>b=wtb\/b=pb) w W->
   Calls Tryz.prog 142 #[.pointer (some ⟨wtb,0,none⟩),nn] W fun e w'=>e=.returned (.tuple #[])/\J W nn w') :
  Calls Tryz.prog 98 #[.pointer (some ⟨wtb,0,none⟩),.slice (some ⟨pb,0,none⟩) ps.length cap] w fun e w'=>e=.returned .nilIface/\∃ (W:World) (nn:Value) (arr':Array Value),W.ownsRow w.heap.size 226 6 nn (KAt X ps.length).length (flatK (KAt X ps.length))/\W.heap[wtb]? = some (.cells #[rt,rm,nv,ev,.slice (some ⟨pb,0,none⟩) ps.length cap] 153 (0,0))/\W.heap[pb]? = some (.cells arr' 183 (0,0))/\PolsAt arr' 0 (polsN X ps)/\Spare (fun b=>b=wtb\/b=pb) w W/\J W nn w':=by
 have hne:wtb≠pb:=by rintro rfl;rw [hw] at hp;cases hp
 have hwl:=heap_lt hw
 have hpl:=heap_lt hp
 have Hp:Hid (w.heap[pb]? = some (.cells arr 183 (0,0))/\PolsAt arr 0 ps):=⟨hp,hP⟩
 have Hw:Hid (w.heap[wtb]? = some (.cells #[rt,rm,nv,ev,.slice po pn pc] 153 (0,0))):=hw
 have HJ:Hid (∀ (W:World) (nn:Value) (arr':Array Value),W.ownsRow w.heap.size 226 6 nn (KAt X ps.length).length (flatK (KAt X ps.length))->W.heap[wtb]? = some (.cells #[rt,rm,nv,ev,.slice (some ⟨pb,0,none⟩) ps.length cap] 153 (0,0))->W.heap[pb]? = some (.cells arr' 183 (0,0))->PolsAt arr' 0 (polsN X ps)->Spare (fun b=>b=wtb\/b=pb) w W->
   Calls Tryz.prog 142 #[.pointer (some ⟨wtb,0,none⟩),nn] W fun e w'=>e=.returned (.tuple #[])/\J W nn w'):=hJ
 have HS:Hid (∀ (j:Nat) (p:Pol),ps[j]? = some p->SentAt 143 0 w (X j) (.pointer p.sent)/\Good (X j)/\nodesT (coreT (X j))<=1000000):=hS
 have HK:Hid ((KAt X ps.length).length<=40):=hK
 clear hp hP hw hJ hS hK
 generalize hlen:ps.length=n at *
 have Hlen:Hid (ps.length=n):=hlen
 clear hlen
 go_enter Tryz.func98,Tryz.ntmps98
 go_wp2_with fail
 go_loopw [10] (fun iv wr=>∃ (i:Nat),iv=.int .i64 i/\i<=n/\TabV w.heap.size w.heap.size wr (KAt X i)/\Spare (fun b=>b=pb) w wr/\w.heap.size<wr.heap.size/\∃ arr',wr.heap[pb]? = some (.cells arr' 183 (0,0))/\PolsTo X arr' ps i) (fun iv _=>n-(intOf iv).toNat)
 case atStart =>
  exact ⟨0,rfl,Nat.zero_le _,TabV.new _ w (Nat.le_refl _),Spare.of_below ((Below.refl _ _).al _),by simp,arr,(Below.heap_alloc _ _ _ hpl).trans Hp.out.1,PolsTo.start Hp.out.2⟩
 case round =>
  obtain ⟨i,rfl,hin,hT,hsp,hsz,arr',hpb,hPT⟩:=hrel
  by_cases hi:i<n
  ·obtain ⟨p,hpi⟩:∃ p,ps[i]? = some p:=⟨_,List.getElem?_eq_getElem (by rw [Hlen.out];exact hi)⟩
   obtain ⟨a0,a1,_,a3,a4⟩:=hPT i p hpi
   obtain ⟨s1,s2,s3⟩:=HS.out i p hpi
   have s1':SentAt 143 0 wr (X i) (.pointer p.sent):=sent_tagged (fun k cs hk=>by
    rw [hsp.block k (heap_lt hk) (by rintro rfl;rw [Hp.out.1] at hk;cases hk)];exact hk) s1
   have c1:wr.cell? ⟨pb,i*5+1,none⟩=some (.pointer p.sent):=cell_at hpb a1
   have hb1:=KAt_mono X i (n-i)
   have hb2:i+(n-i)=n:=by omega
   rw [hb2] at hb1
   have hKn:=HK.out
   have hput:=putTop0 (X i) (.pointer p.sent) w.heap.size w.heap.size (KAt X i) wr s1' s2 hT (by omega)
   obtain ⟨a2,e2⟩:∃ v,arr'[i*5+2]? = some v:=⟨_,Array.getElem?_eq_getElem (by have:=(Array.getElem?_eq_some_iff.1 a3).1;omega)⟩
   have hset:=hPT.set (by rw [Hlen.out];exact hi)
   have hnn:=nAt_nonneg X i
   have hput2:Calls Tryz.prog 43 #[.pointer (some ⟨w.heap.size,0,none⟩),.pointer p.sent] wr fun e w'=>e=.returned (.int .i64 (nAt X i))/\TabV w.heap.size w.heap.size w' (KAt X (i+1))/\Below w.heap.size wr w':=hput
   clear hput s1 s1' s2 s3 a0 a1 a3 a4 hT hb1 hb2 hKn
   have Hs:Hid (PolsTo X (arr'.setIfInBounds (i*5+2) (.int .i64 (nAt X i))) ps (i+1)):=hset
   clear hset hPT
   generalize nAt X i=nd at *
   go_wp2_with fail
   refine hput2.mono ?_
   rintro e w1 ⟨rfl,hT1,hb1⟩
   have hpb1:w1.heap[pb]? = some (.cells arr' 183 (0,0)):=(hb1.block pb hpl).trans hpb
   have hf:w1.frozen? ⟨pb,i*5+2,none⟩=false:=Lib.frozen_of_heap hpb1 _
   have c2:w1.cell? ⟨pb,i*5+2,none⟩=some a2:=cell_at hpb1 e2
   clear hput2
   go_wp2_with fail
   go_roundw
   case rel =>
    have ho:Only pb w1 (w1.setCell ⟨pb,i*5+2,none⟩ (.int .i64 nd)):=(Only.refl pb w1).setCell (p:=⟨pb,i*5+2,none⟩) (.inl rfl) _
    refine ⟨i+1,by go_num,by omega,?_,?_,?_,_,set_heap hpb1,Hs.out⟩
    ·rcases hT1 with ⟨t1,t2,t3⟩ | ⟨mb,nv1,t2⟩
     ·exact .inl ⟨ho.heap t1 (by omega),t2,t3⟩
     ·refine .inr ⟨mb,nv1,t2.heap (fun k hk hf=>ho.block k hk ?_)⟩
      exact fun e=>hf (e▸t2.free hpb1 (by decide) (by decide))
    ·have hsp1:Spare (fun b=>b=pb) w w1:=⟨hb1.os.trans hsp.os,hb1.tape.trans hsp.tape,hb1.output.trans hsp.output,Nat.le_trans hsp.size hb1.size,fun x hx hp=>(hb1.block x hx).trans (hsp.block x hx hp)⟩
     exact hsp1.trans (Spare.of_only ho fun x hx=>hx)
    ·have:=hb1.size;have:=ho.size;omega
   case measure=>simp only [intOf];omega
  ·obtain rfl:i=n:=by omega
   have hC:=count_any w.heap.size w.heap.size (KAt X i) wr hT
   have hw1:wr.heap[wtb]? = some (.cells #[rt,rm,nv,ev,.slice po pn pc] 153 (0,0)):=(hsp.block wtb hwl hne).trans Hw.out
   have hf:wr.frozen? ⟨wtb,4,none⟩=false:=Lib.frozen_of_heap hw1 4
   have c4:=cell_at (i:=4) hw1 rfl
   have hKn:=HK.out
   go_wp2_with fail
   refine hC.mono ?_
   rintro e w1 ⟨rfl,rfl⟩
   go_wp2_with fail
   have hw2:=set_heap (i:=4) (v:=.slice (some ⟨pb,0,none⟩) i cap) hw1
   simp only [List.setIfInBounds_toArray,List.set_cons_zero,List.set_cons_succ] at hw2
   have ho:Only wtb w1 (w1.setCell ⟨wtb,4,none⟩ (.slice (some ⟨pb,0,none⟩) i cap)):=(Only.refl wtb w1).setCell (p:=⟨wtb,4,none⟩) (.inl rfl) _
   have hsp2:Spare (fun b=>b=wtb\/b=pb) w (w1.setCell ⟨wtb,4,none⟩ (.slice (some ⟨pb,0,none⟩) i cap)):=(hsp.mono (fun x _ hx=>.inr hx)).trans (Spare.of_only ho fun x hx=>.inl hx)
   have hT2:TabV w.heap.size w.heap.size (w1.setCell ⟨wtb,4,none⟩ (.slice (some ⟨pb,0,none⟩) i cap)) (KAt X i):=by
    rcases hT with ⟨t1,t2,t3⟩ | ⟨mb,nv1,t2⟩
    ·exact .inl ⟨ho.heap t1 (by omega),t2,t3⟩
    ·exact .inr ⟨mb,nv1,t2.heap (fun k hk hf=>ho.block k hk (fun e=>hf (e▸t2.free hw1 (by decide) (by decide))))⟩
   have hpb2:(w1.setCell ⟨wtb,4,none⟩ (.slice (some ⟨pb,0,none⟩) i cap)).heap[pb]? = some (.cells arr' 183 (0,0)):=ho.heap hpb (Ne.symm hne)
   have hPd:PolsAt arr' 0 (polsN X ps):=PolsTo.done (by rw [Hlen.out];exact hPT)
   clear hT hsp hpb hPT hw1 hf c4 hC ho
   generalize w1.setCell ⟨wtb,4,none⟩ (.slice (some ⟨pb,0,none⟩) i cap)=W at *
   refine AnyF.begin (S:=fun _=>True) (fin:=99) (by kernel_rfl) ?_
   simp only [List.size_toArray,List.length_cons,List.length_nil,Nat.reduceAdd,Nat.zero_add]
   refine AnyF.take 0 (v:=?vq0) rfl (by decide +kernel) (by decide +kernel) (by decide +kernel) (by decide +kernel) (fun c a w h=>h) (by rfl) (fun w' _=>Go.Conc.run_eq_of ?rq0) trivial ?_
   case rq0 =>
    intro K' hK'
    go_simp
    exact hK'
   try walk_nrm
   refine AnyF.take 1 (v:=?vq1) rfl (by decide +kernel) (by decide +kernel) (by decide +kernel) (by decide +kernel) (fun c a w h=>h) (by rfl) (fun w' _=>Go.Conc.run_eq_of ?rq1) trivial ?_
   case rq1 =>
    intro K' hK'
    go_simp
    exact hK'
   try walk_nrm
   refine AnyF.take 2 (v:=?vq2) rfl (by decide +kernel) (by decide +kernel) (by decide +kernel) (by decide +kernel) (fun c a w h=>h) (by rfl) (fun w' _=>Go.Conc.run_eq_of ?rq2) trivial ?_
   case rq2 =>
    intro K' hK'
    go_simp
    exact hK'
   try walk_nrm
   refine AnyF.one (i:=3) (by decide +kernel) rfl (by rfl) ?_
   unfold Oper.wp
   rw [Go.Conc.run_call_body (f:=143) (args:=#[.tmp 5]) (ats:=#[97]) rfl Tryz.func143 (by decide) rfl]
   simp only [Oper.upon,List.map_toArray,List.map_cons,List.map_nil]
   change Calls Tryz.prog 143 #[.pointer (some ⟨w.heap.size,0,none⟩)] W.drew _
   refine (tabNodes_any w.heap.size w.heap.size (KAt X i) W.drew (hT2.below (Below.refl _ W).drew) (by omega)).mono ?_
   rintro e W1 ⟨nn,rfl,hrow,hb1⟩
   refine ⟨fun _=>trivial,?_⟩
   try walk_nrm
   have hb1:Below W.heap.size W W1:=(Below.refl W.heap.size W).drew.trans (hb1.mono (Below.refl W.heap.size W).drew.size)
   have hrow1:W1.ownsRow w.heap.size 226 6 nn (KAt X i).length (flatK (KAt X i)):=row_mono hrow (Nat.le_trans hsp2.size (by simp))
   have hJ1:=HJ.out W1 nn arr' hrow1 (hb1.heapOf hw2) (hb1.heapOf hpb2) hPd (hsp2.trans (Spare.of_below hb1))
   refine AnyF.one (i:=4) (by decide +kernel) rfl (by rfl) ?_
   unfold Oper.wp
   rw [Go.Conc.run_call_body (f:=142) (args:=#[.tmp 37,.tmp 38]) (ats:=#[148,95]) rfl Tryz.func142 (by decide) rfl]
   simp only [Oper.upon,List.map_toArray,List.map_cons,List.map_nil]
   change Calls Tryz.prog 142 #[.pointer (some ⟨wtb,0,none⟩),nn] W1 _
   refine hJ1.mono ?_
   rintro e W2 ⟨rfl,hj⟩
   refine ⟨fun _=>trivial,?_⟩
   refine AnyF.done (by decide +kernel) ?_ _
   try walk_nrm
   go_wp2_with fail
   go_ret
   exact ⟨rfl,W1,nn,arr',hrow1,hb1.heapOf hw2,hb1.heapOf hpb2,hPd,hsp2.trans (Spare.of_below hb1),hj⟩
set_option maxRecDepth 100000 in
set_option maxHeartbeats 2000000 in
theorem search0 (name:ByteArray) (w:World):Calls Tryz.prog 139 #[.slice none 0 0,.string name,.func (.func 140) #[] #[]] w fun e w'=>e=.returned (.tuple #[.int .i64 0,.bool false])/\w'=w:=by
 go_enter Tryz.func139,Tryz.ntmps139
 go_wp2_with fail
 go_loopw [9,10] (fun iv jv wr=>iv=.int .i64 0/\jv=.int .i64 0/\wr=w) (fun _ _ _=>0)
 case atStart=>exact ⟨rfl,rfl,rfl⟩
 case round =>
  obtain ⟨rfl,rfl,rfl⟩:=hrel
  go_wp2_with fail
  go_ret2
  exact ⟨rfl,rfl⟩
theorem find0 (wtb:Nat) (rt rm nv ev:Value) (name:ByteArray) (w:World) (hw:w.heap[wtb]? = some (.cells #[rt,rm,nv,ev,.slice none 0 0] 153 (0,0))) :
  Calls Tryz.prog 97 #[.pointer (some ⟨wtb,0,none⟩),.string name] w fun e w'=>e=.returned (.tuple #[.int .i64 0,.bool false])/\w'=w:=by
 have c4:=cell_at (i:=4) hw rfl
 have hs:=search0 name w
 go_enter Tryz.func97,Tryz.ntmps97
 go_wp2_with fail
 refine hs.mono ?_
 rintro e w1 ⟨rfl,rfl⟩
 go_wp2_with fail
 go_ret2
 exact ⟨rfl,rfl⟩
def polVal (p:Pol):Value:=.agg #[.string p.name,.pointer p.sent,.int .i64 p.node,.int .i64 p.ver,.pointer p.strm]
set_option maxHeartbeats 1000000 in
theorem compare_same (p:Pol) (w:World):Calls Tryz.prog 140 #[polVal p,.string p.name] w fun e w'=>e=.returned (.int .i64 0)/\Below w.heap.size w w':=by
 have hcmp:∀ l:List UInt8,Lib.compareBytes l l=0:=by
  intro l
  induction l with
  | nil=>rfl
  | cons a l ih=>simp [Lib.compareBytes,ih]
 have hs:=fun W=>Tryz.strings_Compare p.name p.name W
 rw [hcmp] at hs
 unfold polVal
 go_enter Tryz.func140,Tryz.ntmps140
 go_wp2_with fail
 refine (hs _).mono ?_
 rintro e w1 ⟨rfl,rfl⟩
 go_wp2_with fail
 go_ret
 exact ⟨rfl,(Below.refl _ _).al _⟩
set_option maxRecDepth 100000 in
set_option maxHeartbeats 2000000 in
theorem search1 (pb po cap:Nat) (arr:Array Value) (m:Nat×Nat) (p:Pol) (w:World) (hp:w.heap[pb]? = some (.cells arr 183 m)) (hP:PolsAt arr po [p]) :
  Calls Tryz.prog 139 #[.slice (some ⟨pb,po,none⟩) 1 cap,.string p.name,.func (.func 140) #[] #[]] w fun e w'=>e=.returned (.tuple #[.int .i64 0,.bool true])/\Below w.heap.size w w':=by
 obtain ⟨a0,a1,a2,a3,a4⟩:=hP 0 p rfl
 simp only [Nat.zero_mul,Nat.add_zero] at a0 a1 a2 a3 a4
 have hcs:∀ W,Below w.heap.size w W->W.cell? ⟨pb,po,none⟩=some (.string p.name)/\W.cell? ⟨pb,po+1,none⟩=some (.pointer p.sent)/\W.cell? ⟨pb,po+2,none⟩=some (.int .i64 p.node)/\W.cell? ⟨pb,po+3,none⟩=some (.int .i64 p.ver)/\W.cell? ⟨pb,po+4,none⟩=some (.pointer p.strm):=fun W hb=>by
  have h:=hb.heapOf hp
  exact ⟨cell_at h a0,cell_at h a1,cell_at h a2,cell_at h a3,cell_at h a4⟩
 have Hcs:Hid (∀ W,Below w.heap.size w W->W.cell? ⟨pb,po,none⟩=some (.string p.name)/\W.cell? ⟨pb,po+1,none⟩=some (.pointer p.sent)/\W.cell? ⟨pb,po+2,none⟩=some (.int .i64 p.node)/\W.cell? ⟨pb,po+3,none⟩=some (.int .i64 p.ver)/\W.cell? ⟨pb,po+4,none⟩=some (.pointer p.strm)):=hcs
 have hcmp:=fun W=>compare_same p W
 unfold polVal at hcmp
 clear hcs a0 a1 a2 a3 a4 hP hp
 go_enter Tryz.func139,Tryz.ntmps139
 go_wp2_with fail
 go_loopw [9,10] (fun iv jv wr=>iv=.int .i64 0/\(jv=.int .i64 1\/jv=.int .i64 0)/\Below w.heap.size w wr) (fun _ jv _=>(intOf jv).toNat)
 case atStart=>exact ⟨rfl,.inl rfl,Below.refl _ _⟩
 case round =>
  obtain ⟨rfl,hj,hb⟩:=hrel
  obtain ⟨y0,y1,y2,y3,y4⟩:=Hcs.out _ hb
  rcases hj with rfl | rfl
  ·go_wp2_with fail
   refine (hcmp _).mono ?_
   rintro e w1 ⟨rfl,hb1⟩
   go_wp2_with fail
   go_roundw
   case rel=>exact ⟨rfl,.inr rfl,hb.tr hb1⟩
   case measure=>simp [intOf]
  ·go_wp2_with fail
   refine (hcmp _).mono ?_
   rintro e w1 ⟨rfl,hb1⟩
   go_wp2_with fail
   go_ret2
   exact ⟨rfl,hb.tr hb1⟩
theorem find1 (wtb:Nat) (rt rm nv ev:Value) (pb po cap:Nat) (arr:Array Value) (m:Nat×Nat) (p:Pol) (w:World) (hw:w.heap[wtb]? = some (.cells #[rt,rm,nv,ev,.slice (some ⟨pb,po,none⟩) 1 cap] 153 (0,0))) (hp:w.heap[pb]? = some (.cells arr 183 m)) (hP:PolsAt arr po [p]) :
  Calls Tryz.prog 97 #[.pointer (some ⟨wtb,0,none⟩),.string p.name] w fun e w'=>e=.returned (.tuple #[.int .i64 0,.bool true])/\Below w.heap.size w w':=by
 have c4:=cell_at (i:=4) hw rfl
 have hs:=search1 pb po cap arr m p w hp hP
 go_enter Tryz.func97,Tryz.ntmps97
 go_wp2_with fail
 refine hs.mono ?_
 rintro e w1 ⟨rfl,hb1⟩
 go_wp2_with fail
 go_ret2
 exact ⟨rfl,hb1⟩
set_option maxRecDepth 100000 in
set_option maxHeartbeats 2000000 in
theorem insert0 (vb:Nat) (xs:List Value) (w:World) (hl:xs.length=5) (hc:∀ j u,xs[j]? = some u->w.cell? ⟨vb,j,none⟩=some u) (h1:∀ u∈xs,u.oneCell'=true) :
  Calls Tryz.prog 137 #[.slice none 0 0,.int .i64 0,.slice (some ⟨vb,0,none⟩) 1 1] w fun e w'=>∃ v',e=.returned v'/\w'.ownsRow w.heap.size 183 5 v' 1 xs/\Below w.heap.size w w':=by
 obtain ⟨i0,hi,hz0,hz1,hz2⟩:=info_parts infoPolicy
 have HL:Hid (xs.length=5):=hl
 have A:Hid (∀ j u,xs[j]? = some u->w.cell? ⟨vb,j,none⟩=some u):=hc
 clear hl hc
 go_enter Tryz.func137,Tryz.ntmps137
 go_wp2_with (at_builtin;refine wpList_append_own _ rfl _ _ 151 rfl w.heap.size 183 i0 (.agg #[.string ⟨#[]⟩,.pointer none,.int .i64 0,.int .i64 0,.pointer none]) 5 48 Tryz.underlying151 hi hz0 hz1 hz2 rfl (by decide) _ _ _ rfl (World.ownsRow_nil _ _ _ _) ⟨vb,0,none⟩ 1 1 xs rfl ?qc1 ?qc2 ?qc3 ?qc4 ?qc5 ?qc6 ?_)
 case qc1=>exact HL.out
 case qc2 =>
  intro j u hj
  rw [Addr.add_lit,Nat.zero_add]
  exact A.out j u hj
 case qc3=>exact h1
 case qc4=>unfold maxLen;omega
 case qc5=>omega
 case qc6=>simp
 intro v' w1 hown hgrow hnil
 go_wp2_with fail
 go_ret
 refine ⟨v',rfl,by simpa using hown,?_⟩
 exact (Below.refl _ w).grown hgrow (by simp) (by intro k hk;simp [Value.ownBlock] at hk)
end Go.Proofs.YtpbbmagjhkakgaaGreatDoor.Ev
namespace Go.Proofs.YtpbbmagjhkakgaaGreatDoor.Ev
open Go
section
variable {P : Program} {ops : Array Oper} {Q : Exit → Act → World → Prop} {md : Region.Mode} {S : World → Prop} {fin : Nat}
def ClosedL (md:Region.Mode) (ops:Array Oper) (listed:Array Bool):Prop:=∀ (k:Nat) (o:Oper),ops[k]? = some o->listed.getD k false=true->∀ e∈o.after,Region.binds md e=true->listed.getD e.on false=true
def closedB (md:Region.Mode) (ops:Array Oper) (listed:Array Bool):Bool:=(List.range ops.size).all fun k=>match ops[k]? with
 | some o=>!listed.getD k false||o.after.all fun e=>!Region.binds md e||listed.getD e.on false
 | none=>true
theorem closedB_spec {listed:Array Bool} (h:closedB md ops listed=true):ClosedL md ops listed:=by
 intro k o hk hl e he hb
 have hks:k<ops.size:=(Array.getElem?_eq_some_iff.1 hk).1
 have h1:=List.all_eq_true.1 h k (List.mem_range.2 hks)
 rw [hk] at h1
 simp only [hl,Bool.not_true,Bool.false_or] at h1
 have h2:=Array.all_eq_true'.1 h1 e he
 simpa [hb] using h2
theorem ClosedL.set {listed:Array Bool} {j:Nat} (h:ClosedL md ops listed) (hj:j∈Region.ready md ops listed):ClosedL md ops (listed.setIfInBounds j true):=by
 obtain ⟨_,oj,hoj,hall⟩:=mem_ready.1 hj
 have up:∀ q,listed.getD q false=true->(listed.setIfInBounds j true).getD q false=true:=fun q hq=>by
  by_cases hqj:q=j
  ·subst hqj
   have:q<listed.size:=by
    rcases Nat.lt_or_ge q listed.size with h' | h'
    ·exact h'
    ·simp [Array.getElem?_eq_none h'] at hq
   simp [this]
  ·simp only [Array.getD_eq_getD_getElem?] at hq ⊢
   rw [Array.getElem?_setIfInBounds_ne (Ne.symm hqj)]
   exact hq
 intro k o hk hl e he hb
 by_cases hkj:k=j
 ·subst hkj
  rw [hoj] at hk;cases hk
  exact up _ (hall e he hb)
 ·refine up _ (h k o hk ?_ e he hb)
  simp only [Array.getD_eq_getD_getElem?] at hl ⊢
  rw [Array.getElem?_setIfInBounds_ne (Ne.symm hkj)] at hl
  exact hl
def waitsB (md:Region.Mode) (ops:Array Oper):Nat->Nat->Nat->Bool
 | 0,_,_=>false
 | fuel+1,k,i=>match ops[k]? with
  | some o=>o.after.any fun e=>Region.binds md e&&(e.on==i||waitsB md ops fuel e.on i)
  | none=>true
theorem waitsB_spec {listed:Array Bool} {i:Nat} (hc:ClosedL md ops listed):∀ (fuel k:Nat),waitsB md ops fuel k i=true->∀ o,ops[k]? = some o->(∀ e∈o.after,Region.binds md e=true->listed.getD e.on false=true)->(∀ q,listed.getD q false=true->q<ops.size)->listed.getD i false=true
 | 0,_,h,_,_,_,_=>by cases h
 | fuel+1,k,h,o,ho,hall,hs=>by
  unfold waitsB at h
  rw [ho] at h
  obtain ⟨e,he,hb⟩:=Array.any_eq_true'.1 h
  simp only [Bool.and_eq_true,Bool.or_eq_true,beq_iff_eq] at hb
  obtain ⟨hb,rfl | hw⟩:=hb
  ·exact hall e he hb
  ·have hl:=hall e he hb
   have hlt:=hs _ hl
   exact waitsB_spec hc fuel e.on hw ops[e.on] (Array.getElem?_eq_getElem hlt) (fun e2 he2 hb2=>hc _ _ (Array.getElem?_eq_getElem hlt) hl e2 he2 hb2) hs
def AnyG (P:Program) (md:Region.Mode) (ops:Array Oper) (Q:Exit->Act->World->Prop) (S:World->Prop) (fin:Nat):Nat->Array Bool->Act->World->Prop
 | 0,listed,a,w=>Region.ready md ops listed=[]/\Q .normal a w
 | fuel+1,listed,a,w=>(Region.ready md ops listed=[]->Q .normal a w)/\
  ∀ i∈Region.ready md ops listed,wpOp P ops Q i (fun a' w'=>(i<fin->S w')/\AnyG P md ops Q S fin fuel (listed.setIfInBounds i true) a' w') a w
theorem AnyG.any:∀ (fuel:Nat) (listed:Array Bool) (a:Act) (w:World),AnyG P md ops Q S fin fuel listed a w->wpAny P md ops Q fuel listed a w
 | 0,_,_,_,h=>h
 | fuel+1,_,_,_,h=>⟨h.1,fun i hi=>wpOp_mono (fun a' w' k=>AnyG.any fuel _ a' w' k.2) (h.2 i hi)⟩
theorem AnyG.first {i:Nat} {oi:Oper} {v:Value} (hi:ops[i]? = some oi) (hsel:∀ (j:Nat) (o:Oper) cs b,ops[j]? = some o->o.op≠.select cs b) (hfin:∀ k,fin<=k->waitsB md ops ops.size k i=true)
  (hQ:∀ c a w,Q (.panic c) (a.put oi.dst v) w->Q (.panic c) a w):∀ (fuel:Nat) (listed:Array Bool) (a:Act) (w:World),listed.size=ops.size->ClosedL md ops listed->
   (∀ j oj,ops[j]? = some oj->j≠i->listed.getD j true=false->(∀ e∈oj.after,Region.binds md e=true->e.on≠i)->oi.apart ops oj=true)->
   i∈Region.ready md ops listed->YieldsIf P ops S oi v a->S w->AnyG P md ops Q S fin fuel (listed.setIfInBounds i true) (a.put oi.dst v) w->AnyG P md ops Q S fin (fuel+1) listed a w:=by
 intro fuel
 induction fuel with
 | zero =>
  intro listed a w _ _ _ hr hy hS H
  refine ⟨fun h=>(by rw [h] at hr;cases hr),fun j hj=>?_⟩
  by_cases hji:j=i
  ·subst hji;exact hy.wpOp hi hS ⟨fun _=>hS,H⟩
  ·have:=ready_mono hj hji
   rw [H.1] at this
   cases this
 | succ fuel ih =>
  intro listed a w hls hcl hfree hr hy hS H
  refine ⟨fun h=>(by rw [h] at hr;cases hr),fun j hj=>?_⟩
  by_cases hji:j=i
  ·subst hji;exact hy.wpOp hi hS ⟨fun _=>hS,H⟩
  ·obtain ⟨hjun,oj,hoj,hall⟩:=mem_ready.1 hj
   have hun:listed.getD i false=true->False:=fun h1=>by
    have h0:=(mem_ready.1 hr).1
    rcases Nat.lt_or_ge i listed.size with h' | h'
    ·simp [h'] at h0 h1;rw [h0] at h1;cases h1
    ·simp [Array.getElem?_eq_none h'] at h1
   have hnot:∀ e∈oj.after,Region.binds md e=true->e.on≠i:=fun e he hb heq=>by
    have h1:=hall e he hb
    rw [heq] at h1
    exact hun h1
   have hjf:j<fin:=by
    refine Nat.lt_of_not_le fun hle=>?_
    refine hun (waitsB_spec hcl _ _ (hfin j hle) oj hoj hall fun q hq=>?_)
    rcases Nat.lt_or_ge q listed.size with h' | h'
    ·omega
    ·simp [Array.getElem?_eq_none h'] at hq
   have h2:=wpOp_putIf hoj (hfree j oj hoj hji hjun hnot) (fun cs b=>hsel i oi cs b hi) (fun cs b=>hsel j oj cs b hoj) hQ hy (H.2 j (ready_mono hj hji))
   refine wpOp_mono (fun a' w' h3=>⟨h3.2.1,ih (listed.setIfInBounds j true) a' w' (by simp [hls]) (hcl.set hj) (fun k ok hk hki hun hno=>hfree k ok hk hki ?_ hno) (ready_mono hr (Ne.symm hji)) h3.1 (h3.2.1 hjf) ?_⟩) h2
   ·by_cases hjk:j=k
    ·subst hjk;exact hjun
    ·rw [getD_set_ne true hjk] at hun;exact hun
   ·rw [Array.setIfInBounds_comm _ _ hji]
    exact h3.2.2
theorem AnyG.take (i:Nat) {oi:Oper} {v:Value} {fuel:Nat} {listed:Array Bool} {a:Act} {w:World} (hi:ops[i]? = some oi) (hs:Region.noSelect ops=true) (hf:Region.free md ops listed i=true) (hr:(Region.ready md ops listed).contains i=true)
  (hfin:(((List.range ops.size).all fun k=>decide (k<fin)||waitsB md ops ops.size k i)&&closedB md ops listed&&(listed.size==ops.size))=true) (hQ:∀ c a w,Q (.panic c) (a.put oi.dst v) w->Q (.panic c) a w)
  (hw:Region.wanted oi (yielded ops a.tmps)=true) (hy:∀ w,S w->(execOp a.eval oi).run P w=.ok (.value v) w) (hS:S w) (h:AnyG P md ops Q S fin fuel (listed.setIfInBounds i true) (a.put oi.dst v) w):AnyG P md ops Q S fin (fuel+1) listed a w:=by
 simp only [Bool.and_eq_true,beq_iff_eq] at hfin
 have hks:i<ops.size:=(Array.getElem?_eq_some_iff.1 hi).1
 have hfin1:∀ k,fin<=k->waitsB md ops ops.size k i=true:=fun k hk=>by
  by_cases hkl:k<ops.size
  ·have:=List.all_eq_true.1 hfin.1.1 k (List.mem_range.2 hkl)
   simpa [Nat.not_lt.2 hk] using this
  ·have hn:ops[k]? = none:=Array.getElem?_eq_none (by omega)
   obtain ⟨m,hm⟩:∃ m,ops.size=m+1:=⟨ops.size-1,by omega⟩
   rw [hm]
   unfold waitsB
   rw [hn]
 exact AnyG.first hi (Region.noSelect_spec hs) hfin1 hQ fuel listed a w hfin.2 (closedB_spec hfin.1.2) (Region.free_spec hi hf) (by simpa using hr) (.inl ⟨hw,hy⟩) hS h
theorem AnyG.one {i:Nat} {o:Oper} {fuel:Nat} {listed:Array Bool} {a:Act} {w:World} (hr:Region.ready md ops listed=[i]) (ho:ops[i]? = some o) (hw:Region.wanted o (yielded ops a.tmps)=true)
  (h:Oper.wp P o a w (fun a' w'=>(i<fin->S w')/\AnyG P md ops Q S fin fuel (listed.setIfInBounds i true) a' w') Q):AnyG P md ops Q S fin (fuel+1) listed a w :=
 ⟨fun h0=>(by rw [hr] at h0;cases h0),fun j hj=>by
  rw [hr] at hj;simp at hj;subst hj
  unfold wpOp
  simp only [ho,hw,if_true]
  exact .inl h⟩
theorem AnyG.op {i:Nat} {o:Oper} {fuel:Nat} {listed:Array Bool} {a:Act} {w:World} (hr:Region.ready md ops listed=[i]) (ho:ops[i]? = some o) (hw:Region.wanted o (yielded ops a.tmps)=true)
  (h:∀ K:Act->World->Prop,(∀ a' w',((i<fin->S w')/\AnyG P md ops Q S fin fuel (listed.setIfInBounds i true) a' w')->K a' w')->Oper.wp P o a w K Q):AnyG P md ops Q S fin (fuel+1) listed a w :=
 AnyG.one hr ho hw (h _ fun _ _ x=>x)
theorem AnyG.two {i j:Nat} {oi oj:Oper} {fuel:Nat} {listed:Array Bool} {a:Act} {w:World} (hr:Region.ready md ops listed=[i,j]) (hoi:ops[i]? = some oi) (hwi:Region.wanted oi (yielded ops a.tmps)=true) (hoj:ops[j]? = some oj) (hwj:Region.wanted oj (yielded ops a.tmps)=true)
  (h1:∀ K:Act->World->Prop,(∀ a' w',((i<fin->S w')/\AnyG P md ops Q S fin fuel (listed.setIfInBounds i true) a' w')->K a' w')->Oper.wp P oi a w K Q)
  (h2:∀ K:Act->World->Prop,(∀ a' w',((j<fin->S w')/\AnyG P md ops Q S fin fuel (listed.setIfInBounds j true) a' w')->K a' w')->Oper.wp P oj a w K Q):AnyG P md ops Q S fin (fuel+1) listed a w :=
 ⟨fun h0=>(by rw [hr] at h0;cases h0),fun q hq=>by
  rw [hr] at hq
  simp at hq
  rcases hq with rfl | rfl
  ·unfold wpOp
   simp only [hoi,hwi,if_true]
   exact .inl (h1 _ fun _ _ x=>x)
  ·unfold wpOp
   simp only [hoj,hwj,if_true]
   exact .inl (h2 _ fun _ _ x=>x)⟩
theorem AnyG.done {listed:Array Bool} {a:Act} {w:World} (hr:Region.ready md ops listed=[]) (h:Q .normal a w):∀ fuel,AnyG P md ops Q S fin fuel listed a w
 | 0=>⟨hr,h⟩
 | _+1=>⟨fun _=>h,fun i hi=>by rw [hr] at hi;cases hi⟩
theorem AnyG.begin {id:Nat} {a:Act} {w:World} (hm:P.follows .mixedOrders=true) (h:AnyG P .any ops Q S fin ops.size (Array.replicate ops.size false) a w.drew):(Code.region id ops true).wp P Q a w :=
 wp_region_any hm (AnyG.any _ _ _ _ h)
theorem AnyG.weaken {fin':Nat}:∀ (fuel:Nat) (listed:Array Bool) (a:Act) (w:World),AnyG P md ops Q S fin fuel listed a w->AnyG P md ops Q (fun _=>True) fin' fuel listed a w
 | 0,_,_,_,h=>h
 | fuel+1,_,_,_,h=>⟨h.1,fun i hi=>wpOp_mono (fun a' w' k=>⟨fun _=>trivial,AnyG.weaken fuel _ a' w' k.2⟩) (h.2 i hi)⟩
end
end Go.Proofs.YtpbbmagjhkakgaaGreatDoor.Ev
namespace Go.Proofs.YtpbbmagjhkakgaaGreatDoor.Ev
open Go.RowKit Go.Deep Go.Maps Go.Proofs.YtpbbmagjhkakgaaGreatDoor.Lf
def polCells (p:Pol):List Value:=[.string p.name,.pointer p.sent,.int .i64 p.node,.int .i64 p.ver,.pointer p.strm]
theorem polOne (p:Pol):∀ u∈polCells p,u.oneCell'=true:=by
 intro u hu
 simp [polCells] at hu
 rcases hu with rfl | rfl | rfl | rfl | rfl<;>rfl
theorem cells_five_new (w:World) (p:Pol) (t:TypeId):∀ j u,(polCells p)[j]? = some u->(w.alloc (.cells #[.string p.name,.pointer p.sent,.int .i64 p.node,.int .i64 p.ver,.pointer p.strm] t)).cell? ⟨w.heap.size,j,none⟩=some u:=by
 intro j u hj
 have hh:=heap_new w (.cells #[.string p.name,.pointer p.sent,.int .i64 p.node,.int .i64 p.ver,.pointer p.strm] t (0,0)) _ rfl
 refine cell_at hh ?_
 rcases j with _ | _ | _ | _ | _ | j
 ·exact hj
 ·exact hj
 ·exact hj
 ·exact hj
 ·exact hj
 ·simp [polCells] at hj
theorem row_one {w:World} {B:Nat} {v:Value} {p:Pol} (h:w.ownsRow B 183 5 v 1 (polCells p)):∃ (g cap:Nat) (cur:Array Value),v=.slice (some ⟨g,0,none⟩) 1 cap/\B<=g/\w.heap[g]? = some (.cells cur 183 (0,0))/\1<=cap/\PolsAt cur 0 [p]:=by
 have h0:=h
 obtain ⟨_,⟨_,h2⟩ | ⟨g,cap,cur,rfl,h3,h4,h5,h6,h7,h8⟩⟩:=h
 ·cases h2
 ·refine ⟨g,cap,cur,rfl,h3,h4,h5,fun j q hq=>?_⟩
  have hc:∀ i u,(polCells p)[i]? = some u->cur[i]? = some u:=fun i u hi=>by
   rw [<- h8,List.getElem?_take] at hi
   split at hi
   ·rw [<- Array.getElem?_toList];exact hi
   ·cases hi
  rcases j with _ | j
  ·cases hq
   exact ⟨hc 0 _ rfl,hc 1 _ rfl,hc 2 _ rfl,hc 3 _ rfl,hc 4 _ rfl⟩
  ·simp at hq
def AddPost (wtb:Nat) (rt rm:Value) (name:ByteArray) (x:BT Pay) (w w':World):Prop :=
 ∃ (nn:Value) (pb pcap stb:Nat) (sp:Option Addr) (arr:Array Value),w'.heap[wtb]? = some (.cells #[rt,rm,nn,.slice none 0 0,.slice (some ⟨pb,0,none⟩) 1 pcap] 153 (0,0))/\1<=pcap/\w.heap.size<=pb/\w'.heap[pb]? = some (.cells arr 183 (0,0))/\PolsAt arr 0 (polsN (fun _=>x) [⟨name,sp,some ⟨stb,0,none⟩,0,1,false⟩])/\
  w'.ownsRow w.heap.size 226 6 nn (KAt (fun _=>x) 1).length (flatK (KAt (fun _=>x) 1))/\w.heap.size<=stb/\w'.heap[stb]? = some (.cells #[.slice none 0 0] 177 (0,0))/\SentAt 143 0 w' x (.pointer sp)/\Spare (fun b=>b=wtb) w w'
set_option maxRecDepth 100000 in
set_option maxHeartbeats 4000000 in
theorem add0_ok (wtb:Nat) (retain:Int) (rm:Value) (no:Option Addr) (nl nc:Nat) (name s:ByteArray) (x:BT Pay) (w:World) (hw:w.heap[wtb]? = some (.cells #[.int .i64 retain,rm,.slice no nl nc,.slice none 0 0,.slice none 0 0] 153 (0,0))) (hN:NameOK name) (hNs:name.size<=1000) (hm:s.size<=maxLen) (hg:Glob w) (hw7:14<=w.heap.size) (hr:readF s=(some x,0)) (hR:reachT x<=retain) (hK:(KAt (fun _=>x) 1).length<=40) (hX:nodesT (coreT x)<=1000000) :
  Calls Tryz.prog 91 #[.pointer (some ⟨wtb,0,none⟩),.string name,.string s] w fun e w'=>e=.returned (.tuple #[.int .i64 0,.nilIface])/\AddPost wtb (.int .i64 retain) rm name x w w':=by
 have hgx:Good x:=(readF_sound hr).1
 have hRd:=readPol_ok wtb retain rm (.slice no nl nc) (.slice none 0 0) (.slice none 0 0) name s x w hw hN hm hg hw7 hr hR
 have Hw:Hid (w.heap[wtb]? = some (.cells #[.int .i64 retain,rm,.slice no nl nc,.slice none 0 0,.slice none 0 0] 153 (0,0))):=hw
 have hwl:=heap_lt hw
 clear hw hg hm hr hR
 go_enter Tryz.func91,Tryz.ntmps91
 go_wp2_with fail
 refine hRd.mono ?_
 rintro e w1 ⟨sp,rfl,hsx,hb1⟩
 clear hRd
 have hf0:=find0 wtb (.int .i64 retain) rm (.slice no nl nc) (.slice none 0 0) name w1 (hb1.heapOf Hw.out)
 go_wp2_with fail
 refine hf0.mono ?_
 rintro e w2 ⟨rfl,rfl⟩
 clear hf0
 have hw2:=hb1.heapOf Hw.out
 have c4:=cell_at (i:=4) hw2 rfl
 go_wp2_with fail
 refine (clone_any name _ (by omega)).mono ?_
 rintro e w3 ⟨rfl,hb3⟩
 have hb13:=hb1.tr hb3
 have hw3:=hb13.heapOf Hw.out
 have hsx3:SentAt 143 0 w3 x (.pointer sp):=SentAt.below hsx hb3
 clear hw2 c4 hsx
 go_wp2_with fail
 have hpv:((w3.alloc (.cells #[.slice none 0 0] 177)).alloc (.cells #[.string name,.pointer sp,.int .i64 0,.int .i64 1,.pointer (some ⟨w3.heap.size,0,none⟩)] 183)).heap[w3.heap.size+1]? = some (.cells #[.string name,.pointer sp,.int .i64 0,.int .i64 1,.pointer (some ⟨w3.heap.size,0,none⟩)] 183 (0,0)):=heap_new _ _ _ (by simp)
 have hbW:Below w.heap.size w ((w3.alloc (.cells #[.slice none 0 0] 177)).alloc (.cells #[.string name,.pointer sp,.int .i64 0,.int .i64 1,.pointer (some ⟨w3.heap.size,0,none⟩)] 183)):=(hb13.al _).al _
 have hst:((w3.alloc (.cells #[.slice none 0 0] 177)).alloc (.cells #[.string name,.pointer sp,.int .i64 0,.int .i64 1,.pointer (some ⟨w3.heap.size,0,none⟩)] 183)).heap[w3.heap.size]? = some (.cells #[.slice none 0 0] 177 (0,0)):=(Below.heap_alloc _ _ _ (by simp)).trans (heap_new _ _ _ rfl)
 have hsW:SentAt 143 0 ((w3.alloc (.cells #[.slice none 0 0] 177)).alloc (.cells #[.string name,.pointer sp,.int .i64 0,.int .i64 1,.pointer (some ⟨w3.heap.size,0,none⟩)] 183)) x (.pointer sp):=SentAt.below hsx3 (((Below.refl _ w3).al _).al _)
 have hwW:=hbW.heapOf Hw.out
 have hs3:=hb13.size
 clear hw3 hsx3
 generalize ((w3.alloc (.cells #[.slice none 0 0] 177)).alloc (.cells #[.string name,.pointer sp,.int .i64 0,.int .i64 1,.pointer (some ⟨w3.heap.size,0,none⟩)] 183))=W at *
 generalize hpb:w3.heap.size+1=pvb at *
 have Hpb:Hid (w3.heap.size+1=pvb):=hpb
 clear hpb
 generalize w3.heap.size=stb at *
 have hbV:Below W.heap.size W (W.drew.alloc (.cells #[.string name,.pointer sp,.int .i64 0,.int .i64 1,.pointer (some ⟨stb,0,none⟩)] 183)):=(Below.refl _ W).drew.al _
 have Hst:Hid (∀ w',Below W.heap.size W w'->(fun w'=>w'.cell? ⟨wtb,4,none⟩=some (.slice none 0 0)/\w'.cell? ⟨pvb,0,none⟩=some (.string name)/\w'.cell? ⟨pvb,1,none⟩=some (.pointer sp)/\w'.cell? ⟨pvb,2,none⟩=some (.int .i64 0)/\w'.cell? ⟨pvb,3,none⟩=some (.int .i64 1)/\w'.cell? ⟨pvb,4,none⟩=some (.pointer (some ⟨stb,0,none⟩))) w'):=fun w' hb=>⟨cell_at (hb.heapOf hwW) rfl,cell_at (hb.heapOf hpv) rfl,cell_at (hb.heapOf hpv) rfl,cell_at (hb.heapOf hpv) rfl,cell_at (hb.heapOf hpv) rfl,cell_at (hb.heapOf hpv) rfl⟩
 have hS0:(fun w'=>w'.cell? ⟨wtb,4,none⟩=some (.slice none 0 0)/\w'.cell? ⟨pvb,0,none⟩=some (.string name)/\w'.cell? ⟨pvb,1,none⟩=some (.pointer sp)/\w'.cell? ⟨pvb,2,none⟩=some (.int .i64 0)/\w'.cell? ⟨pvb,3,none⟩=some (.int .i64 1)/\w'.cell? ⟨pvb,4,none⟩=some (.pointer (some ⟨stb,0,none⟩))) W.drew:=Hst.out _ (Below.refl _ W).drew
 have fin:∀ (V1 V2 V3:World) (nn:Value) (g gc:Nat) (arr' cur:Array Value),Below W.heap.size W V1->V1.heap[g]? = some (.cells cur 183 (0,0))->W.heap.size<=g->1<=gc->V2.ownsRow V1.heap.size 226 6 nn (KAt (fun _=>x) 1).length (flatK (KAt (fun _=>x) 1))->V2.heap[g]? = some (.cells arr' 183 (0,0))->PolsAt arr' 0 (polsN (fun _=>x) [⟨name,sp,some ⟨stb,0,none⟩,0,1,false⟩])->Spare (fun b=>b=wtb\/b=g) V1 V2->V3.heap[wtb]? = some (.cells #[.int .i64 retain,rm,nn,.slice none 0 0,.slice (some ⟨g,0,none⟩) 1 gc] 153 (0,0))->Only wtb V2 V3->AddPost wtb (.int .i64 retain) rm name x w V3:=by
  intro V1 V2 V3 nn g gc arr' cur hb hg1 hg hgc hrow hh hpa hsp hwt ho
  have hbs:=hbW.size
  have hbs1:=hb.size
  have hgw:g≠wtb:=by omega
  have hsl:=heap_lt hst
  have hsp3:Spare (fun b=>b=wtb\/b=g) V1 V3:=hsp.trans (Spare.of_only ho fun x hx=>.inl hx)
  refine ⟨nn,g,gc,stb,sp,arr',hwt,hgc,by omega,ho.heap hh hgw,hpa,own_heap (row_mono hrow (by omega)) (fun k hk=>ho.block k (hrow.lt k hk).2 (by have:=(hrow.lt k hk).1;omega)),by omega,?_,?_,?_⟩
  ·rw [hsp3.block stb (by omega) (by rintro (e | e)<;>omega)];exact hb.heapOf hst
  ·refine sent_tagged (fun k cs hk=>?_) (SentAt.below hsW hb)
   rw [hsp3.block k (heap_lt hk) ?_]
   ·exact hk
   ·rintro (e | e)
    ·subst e;rw [hb.heapOf hwW] at hk;cases hk
    ·subst e
     rw [hg1] at hk;cases hk
  ·refine ⟨?_,?_,?_,?_,?_⟩
   ·exact (hsp3.os.trans hb.os).trans hbW.os
   ·exact (hsp3.tape.trans hb.tape).trans hbW.tape
   ·exact (hsp3.output.trans hb.output).trans hbW.output
   ·exact Nat.le_trans hbW.size (Nat.le_trans hb.size hsp3.size)
   ·intro b hb0 hne
    rw [hsp3.block b (by omega) (by rintro (e | e);exact hne e;omega),hb.block b (by omega),hbW.block b hb0]
 refine AnyG.begin (S:=fun _=>True) (fin:=99) (by kernel_rfl) ?_
 simp only [List.size_toArray,List.length_cons,List.length_nil,Nat.reduceAdd,Nat.zero_add]
 refine AnyG.take 0 (v:=?vq0) rfl (by decide +kernel) (by decide +kernel) (by decide +kernel) (by decide +kernel) (fun c a w h=>h) (by rfl) (fun w' hS=>Go.Conc.run_eq_of ?rq0) trivial ?_
 case rq0 =>
  intro K' hK'
  clear hS
  go_simp
  exact hK'
 try walk_nrm
 refine AnyG.weaken (S:=(fun w'=>w'.cell? ⟨wtb,4,none⟩=some (.slice none 0 0)/\w'.cell? ⟨pvb,0,none⟩=some (.string name)/\w'.cell? ⟨pvb,1,none⟩=some (.pointer sp)/\w'.cell? ⟨pvb,2,none⟩=some (.int .i64 0)/\w'.cell? ⟨pvb,3,none⟩=some (.int .i64 1)/\w'.cell? ⟨pvb,4,none⟩=some (.pointer (some ⟨stb,0,none⟩)))) (fin:=11) _ _ _ _ ?_
 refine AnyG.take 1 (v:=?vq1) rfl (by decide +kernel) (by decide +kernel) (by decide +kernel) (by decide +kernel) (fun c a w h=>h) (by rfl) (fun w' hS=>Go.Conc.run_eq_of ?rq1) hS0 ?_
 case rq1 =>
  intro K' hK'
  clear hS
  go_simp
  exact hK'
 try walk_nrm
 refine AnyG.take 2 (v:=?vq2) rfl (by decide +kernel) (by decide +kernel) (by decide +kernel) (by decide +kernel) (fun c a w h=>h) (by rfl) (fun w' hS=>Go.Conc.run_eq_of ?rq2) hS0 ?_
 case rq2 =>
  intro K' hK'
  clear hS
  go_simp
  exact hK'
 try walk_nrm
 refine AnyG.take 3 (v:=?vq3) rfl (by decide +kernel) (by decide +kernel) (by decide +kernel) (by decide +kernel) (fun c a w h=>h) (by rfl) (fun w' hS=>Go.Conc.run_eq_of ?rq3) hS0 ?_
 case rq3 =>
  intro K' hK'
  clear hS
  go_simp
  exact hK'
 try walk_nrm
 refine AnyG.take 4 (v:=?vq4) rfl (by decide +kernel) (by decide +kernel) (by decide +kernel) (by decide +kernel) (fun c a w h=>h) (by rfl) (fun w' hS=>Go.Conc.run_eq_of ?rq4) hS0 ?_
 case rq4 =>
  intro K' hK'
  clear hS
  go_simp
  exact hK'
 try walk_nrm
 refine AnyG.take 5 (v:=?vq5) rfl (by decide +kernel) (by decide +kernel) (by decide +kernel) (by decide +kernel) (fun c a w h=>h) (by rfl) (fun w' hS=>Go.Conc.run_eq_of ?rq5) hS0 ?_
 case rq5 =>
  intro K' hK'
  obtain ⟨y1,y2,y3,y4,y5,y6⟩:=hS
  go_simp
  exact hK'
 try walk_nrm
 refine AnyG.take 7 (v:=?vq7) rfl (by decide +kernel) (by decide +kernel) (by decide +kernel) (by decide +kernel) (fun c a w h=>h) (by rfl) (fun w' hS=>Go.Conc.run_eq_of ?rq7) hS0 ?_
 case rq7 =>
  intro K' hK'
  clear hS
  go_simp
  exact hK'
 try walk_nrm
 refine AnyG.take 8 (v:=?vq8) rfl (by decide +kernel) (by decide +kernel) (by decide +kernel) (by decide +kernel) (fun c a w h=>h) (by rfl) (fun w' hS=>Go.Conc.run_eq_of ?rq8) hS0 ?_
 case rq8 =>
  intro K' hK'
  obtain ⟨y1,y2,y3,y4,y5,y6⟩:=hS
  go_simp
  exact hK'
 try walk_nrm
 refine AnyG.two (i:=6) (j:=9) (by decide +kernel) rfl (by rfl) rfl (by rfl) (fun K' hK'=>?_) (fun K' hK'=>?_)
 ·unfold Oper.wp
  rw [Go.Conc.run_call_body (f:=100) (args:=#[.tmp 49]) (ats:=#[151]) rfl Tryz.func100 (by decide) rfl]
  simp only [Oper.upon,List.map_toArray,List.map_cons,List.map_nil]
  change Calls Tryz.prog 100 #[.slice none 0 0] W.drew _
  refine (clonePol_nil 0 0 W.drew).mono ?_
  rintro e wd ⟨rfl,hwd⟩
  have hwd:=hwd.symm
  subst hwd
  refine hK' _ _ ⟨fun _=>Hst.out _ (Below.refl _ W).drew,?_⟩
  clear hK' K'
  try walk_nrm
  refine AnyG.op (i:=9) (by decide +kernel) rfl (by rfl) (fun K' hK'=>?_)
  unfold Oper.wp
  go_simp
  refine hK' _ _ ⟨fun _=>Hst.out _ hbV,?_⟩
  clear hK' K'
  try walk_nrm
  refine AnyG.one (i:=10) (by decide +kernel) rfl (by rfl) ?_
  unfold Oper.wp
  rw [Go.Conc.run_call_body (f:=137) (args:=#[.tmp 50,.tmp 51,.tmp 53]) (ats:=#[151,3,151]) rfl Tryz.func137 (by decide) rfl]
  simp only [Oper.upon,List.map_toArray,List.map_cons,List.map_nil]
  change Calls Tryz.prog 137 #[.slice none 0 0,.int .i64 0,.slice (some ⟨W.heap.size,0,none⟩) 1 1] (W.drew.alloc (.cells #[.string name,.pointer sp,.int .i64 0,.int .i64 1,.pointer (some ⟨stb,0,none⟩)] 183)) _
  refine (insert0 W.heap.size (polCells ⟨name,sp,some ⟨stb,0,none⟩,0,1,false⟩) _ rfl (cells_five_new W.drew ⟨name,sp,some ⟨stb,0,none⟩,0,1,false⟩ 183) (polOne _)).mono ?_
  rintro e V1 ⟨v',rfl,hrow,hbI⟩
  obtain ⟨g,gc,cur,rfl,hgl,hgh,hgc,hcur⟩:=row_one hrow
  have hbV1:Below W.heap.size W V1:=hbV.trans (hbI.mono hbV.size)
  refine ⟨fun _=>Hst.out _ hbV1,?_⟩
  try walk_nrm
  have hwV1:=hbV1.heapOf hwW
  refine AnyG.one (i:=11) (by decide +kernel) rfl (by rfl) ?_
  unfold Oper.wp
  rw [Go.Conc.run_call_body (f:=98) (args:=#[.tmp 45,.tmp 54]) (ats:=#[100,151]) rfl Tryz.func98 (by decide) rfl]
  simp only [Oper.upon,List.map_toArray,List.map_cons,List.map_nil]
  change Calls Tryz.prog 98 #[.pointer (some ⟨wtb,0,none⟩),.slice (some ⟨g,0,none⟩) 1 gc] V1 _
  refine (settle_ok wtb g gc (.int .i64 retain) rm (.slice no nl nc) (.slice none 0 0) none 0 0 cur [⟨name,sp,some ⟨stb,0,none⟩,0,1,false⟩] (fun _=>x) V1 (fun W nn w'=>w'.heap[wtb]? = some (.cells #[.int .i64 retain,rm,nn,.slice none 0 0,.slice (some ⟨g,0,none⟩) 1 gc] 153 (0,0))/\Only wtb W w') hwV1 hgh hcur (by simp) hgc ?hS hK ?hJ).mono ?_
  case hS =>
   intro j p hj
   rcases j with _ | j
   ·cases hj;exact ⟨SentAt.below hsW hbV1,hgx,hX⟩
   ·simp at hj
  case hJ =>
   intro V nn arr' j1 j2 j3 j4 j5
   obtain ⟨no',nl',nc',hnn⟩:∃ o n c,nn=.slice o n c:=by
    obtain ⟨_,⟨h,_⟩ | ⟨g,cap,cur,h,_⟩⟩:=j1
    ·exact ⟨_,_,_,h⟩
    ·exact ⟨_,_,_,h⟩
   exact judge0_any wtb (.int .i64 retain) rm (.slice no nl nc) (.slice (some ⟨g,0,none⟩) 1 gc) nn no' nl' nc' hnn V j2
  rintro e V3 ⟨rfl,V2,nn,arr',j1,j2,j3,j4,j5,j6,j7⟩
  refine ⟨fun h=>absurd h (by decide),?_⟩
  try walk_nrm
  refine AnyG.op (i:=12) (by decide +kernel) rfl (by rfl) (fun K' hK'=>?_)
  unfold Oper.wp
  go_simp
  refine hK' _ _ ⟨fun h=>absurd h (by decide),?_⟩
  clear hK' K'
  try walk_nrm
  refine AnyG.op (i:=13) (by decide +kernel) rfl (by rfl) (fun K' hK'=>?_)
  unfold Oper.wp
  go_simp
  refine hK' _ _ ⟨fun h=>absurd h (by decide),?_⟩
  clear hK' K'
  refine AnyG.done (by decide +kernel) ?_ _
  try walk_nrm
  go_wp2_with fail
  go_ret2
  exact ⟨rfl,fin V1 V2 V3 nn g gc arr' cur hbV1 hgh (Nat.le_trans hbV.size hgl) hgc j1 j3 j4 j5 j6 j7⟩
 ·unfold Oper.wp
  go_simp
  refine hK' _ _ ⟨fun _=>Hst.out _ hbV,?_⟩
  clear hK' K'
  try walk_nrm
  refine AnyG.op (i:=6) (by decide +kernel) rfl (by rfl) (fun K' hK'=>?_)
  unfold Oper.wp
  rw [Go.Conc.run_call_body (f:=100) (args:=#[.tmp 49]) (ats:=#[151]) rfl Tryz.func100 (by decide) rfl]
  simp only [Oper.upon,List.map_toArray,List.map_cons,List.map_nil]
  change Calls Tryz.prog 100 #[.slice none 0 0] (W.drew.alloc (.cells #[.string name,.pointer sp,.int .i64 0,.int .i64 1,.pointer (some ⟨stb,0,none⟩)] 183)) _
  refine (clonePol_nil 0 0 (W.drew.alloc (.cells #[.string name,.pointer sp,.int .i64 0,.int .i64 1,.pointer (some ⟨stb,0,none⟩)] 183))).mono ?_
  rintro e wd ⟨rfl,hwd⟩
  have hwd:=hwd.symm
  subst hwd
  refine hK' _ _ ⟨fun _=>Hst.out _ hbV,?_⟩
  clear hK' K'
  try walk_nrm
  refine AnyG.one (i:=10) (by decide +kernel) rfl (by rfl) ?_
  unfold Oper.wp
  rw [Go.Conc.run_call_body (f:=137) (args:=#[.tmp 50,.tmp 51,.tmp 53]) (ats:=#[151,3,151]) rfl Tryz.func137 (by decide) rfl]
  simp only [Oper.upon,List.map_toArray,List.map_cons,List.map_nil]
  change Calls Tryz.prog 137 #[.slice none 0 0,.int .i64 0,.slice (some ⟨W.heap.size,0,none⟩) 1 1] (W.drew.alloc (.cells #[.string name,.pointer sp,.int .i64 0,.int .i64 1,.pointer (some ⟨stb,0,none⟩)] 183)) _
  refine (insert0 W.heap.size (polCells ⟨name,sp,some ⟨stb,0,none⟩,0,1,false⟩) _ rfl (cells_five_new W.drew ⟨name,sp,some ⟨stb,0,none⟩,0,1,false⟩ 183) (polOne _)).mono ?_
  rintro e V1 ⟨v',rfl,hrow,hbI⟩
  obtain ⟨g,gc,cur,rfl,hgl,hgh,hgc,hcur⟩:=row_one hrow
  have hbV1:Below W.heap.size W V1:=hbV.trans (hbI.mono hbV.size)
  refine ⟨fun _=>Hst.out _ hbV1,?_⟩
  try walk_nrm
  have hwV1:=hbV1.heapOf hwW
  refine AnyG.one (i:=11) (by decide +kernel) rfl (by rfl) ?_
  unfold Oper.wp
  rw [Go.Conc.run_call_body (f:=98) (args:=#[.tmp 45,.tmp 54]) (ats:=#[100,151]) rfl Tryz.func98 (by decide) rfl]
  simp only [Oper.upon,List.map_toArray,List.map_cons,List.map_nil]
  change Calls Tryz.prog 98 #[.pointer (some ⟨wtb,0,none⟩),.slice (some ⟨g,0,none⟩) 1 gc] V1 _
  refine (settle_ok wtb g gc (.int .i64 retain) rm (.slice no nl nc) (.slice none 0 0) none 0 0 cur [⟨name,sp,some ⟨stb,0,none⟩,0,1,false⟩] (fun _=>x) V1 (fun W nn w'=>w'.heap[wtb]? = some (.cells #[.int .i64 retain,rm,nn,.slice none 0 0,.slice (some ⟨g,0,none⟩) 1 gc] 153 (0,0))/\Only wtb W w') hwV1 hgh hcur (by simp) hgc ?hS hK ?hJ).mono ?_
  case hS =>
   intro j p hj
   rcases j with _ | j
   ·cases hj;exact ⟨SentAt.below hsW hbV1,hgx,hX⟩
   ·simp at hj
  case hJ =>
   intro V nn arr' j1 j2 j3 j4 j5
   obtain ⟨no',nl',nc',hnn⟩:∃ o n c,nn=.slice o n c:=by
    obtain ⟨_,⟨h,_⟩ | ⟨g,cap,cur,h,_⟩⟩:=j1
    ·exact ⟨_,_,_,h⟩
    ·exact ⟨_,_,_,h⟩
   exact judge0_any wtb (.int .i64 retain) rm (.slice no nl nc) (.slice (some ⟨g,0,none⟩) 1 gc) nn no' nl' nc' hnn V j2
  rintro e V3 ⟨rfl,V2,nn,arr',j1,j2,j3,j4,j5,j6,j7⟩
  refine ⟨fun h=>absurd h (by decide),?_⟩
  try walk_nrm
  refine AnyG.op (i:=12) (by decide +kernel) rfl (by rfl) (fun K' hK'=>?_)
  unfold Oper.wp
  go_simp
  refine hK' _ _ ⟨fun h=>absurd h (by decide),?_⟩
  clear hK' K'
  try walk_nrm
  refine AnyG.op (i:=13) (by decide +kernel) rfl (by rfl) (fun K' hK'=>?_)
  unfold Oper.wp
  go_simp
  refine hK' _ _ ⟨fun h=>absurd h (by decide),?_⟩
  clear hK' K'
  refine AnyG.done (by decide +kernel) ?_ _
  try walk_nrm
  go_wp2_with fail
  go_ret2
  exact ⟨rfl,fin V1 V2 V3 nn g gc arr' cur hbV1 hgh (Nat.le_trans hbV.size hgl) hgc j1 j3 j4 j5 j6 j7⟩
end Go.Proofs.YtpbbmagjhkakgaaGreatDoor.Ev
