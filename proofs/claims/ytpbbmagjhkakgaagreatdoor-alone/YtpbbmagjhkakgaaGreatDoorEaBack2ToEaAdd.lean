import Derived.Test.YtpbbmagjhkakgaaGreatDoorElAdd2ToEaRem2
import Derived.Test.YtpbbmagjhkakgaaGreatDoorElVerdictToEaBack
import Derived.Test.YtpbbmagjhkakgaaGreatDoorElAdd3ToEaStream
import Derived.Test.YtpbbmagjhkakgaaGreatDoorEvAddToEvAdd2
namespace Go.Proofs.YtpbbmagjhkakgaaGreatDoor
namespace Ev
open Go.RowKit Go.Deep Go.Maps Lf
def AfterB (aj:Nat) (ai room:Int) (ea:Option Addr) (az:Nat) (C:List bx) (E:List Pe) (xs:List (BT aO)) (qs:List bC) (ss:List bt) (i:Nat) (cu:Int) (w w':World) (v:Value):Prop :=
 ∃ (no:Option Addr) (aI:Nat) (Cs:List bx) (pb aM:Nat) (hold:bx->Bool),bj w' aj ai room no aI (dN (ef xs) qs.length) ea az Cs (gS (dN (ef xs) qs.length) E C.length) (some ⟨pb,0,none⟩) aM (dR (ef xs) qs) ss/\w.heap.size<=pb/\bP w' (dR (ef xs) qs) xs/\Cs.length=C.length/\(∀ (i:Nat) c c0,Cs[i]? = some c->C[i]? = some c0->c.number=c0.number/\c.time=c0.time)/\aY (fun b=>b=aj\/∃ a,ea=some a/\a.block=b) w w'/\
  (∀ (j:Nat) c e,Cs[j]? = some c->(gS (dN (ef xs) qs.length) E C.length)[j]? = some e->hold c=e.at (nAt (ef xs) i))/\w'.ownsRow w.heap.size 59 4 v (fu (ax (ef xs i)) Cs).length (backV hold cu (fu (ax (ef xs i)) Cs))
theorem back_after {aj:Nat} {ai room:Int} {ea:Option Addr} {az:Nat} {C:List bx} {E:List Pe} {xs:List (BT aO)} {qs:List bC} {ss:List bt} {w w1:World} (h:After aj ai room ea az C E xs qs ss w w1) (i:Nat) (q:bC) (hi:qs[i]? = some q) (hR:0<=ax (ef xs i)/\ax (ef xs i)<=1000000000) (hT:∀ c∈C,0<=c.time/\c.time<=1000000000000) :
  Calls Tryz.prog 92 #[.pointer (some ⟨aj,0,none⟩),.int .i64 (i:Int)] w1 fun e w'=>∃ v,e=.returned v/\AfterB aj ai room ea az C E xs qs ss i q.cu w w' v:=by
 obtain ⟨no,aI,Cs,pb,aM,h1,h2,h3,h4,h5,h6⟩:=h
 have qo:=(List.getElem?_eq_some_iff.1 hi).1
 have hpi:(dR (ef xs) qs)[i]? = some { q with node:=(nAt (ef xs) i).toNat }:=by
  unfold dR
  rw [List.getElem?_mapIdx,hi]
  rfl
 have hpf:=h1.tW
 obtain ⟨e1,_,_⟩ | ⟨pb',po,arr,mp,e1,hp,hP⟩:=h1.oX
 ·cases e1
 cases e1
 have hTs:∀ c∈Cs,0<=c.time/\c.time<=1000000000000:=fun c hc=>by
  obtain ⟨j,hj⟩:=List.mem_iff_getElem?.1 hc
  have hl:=(List.getElem?_eq_some_iff.1 hj).1
  have h0:C[j]? = some C[j]:=List.getElem?_eq_getElem (by omega)
  rw [(h5 j c _ hj h0).2]
  exact hT _ (List.getElem_mem _)
 have hnode:(nAt (ef xs) i).toNat<=(dN (ef xs) qs.length).length:=h1.pnode _ (List.mem_of_getElem? hpi)
 have hH:∀ (j:Nat) c e,Cs[j]? = some c->(gS (dN (ef xs) qs.length) E C.length)[j]? = some e->∃ sb so,c.so=some ⟨sb,so,none⟩/\sb<w1.heap.size/\(nAt (ef xs) i).toNat<c.sl/\w1.cell? ⟨sb,so+(nAt (ef xs) i).toNat,none⟩=some (.bool (holdW w1 (nAt (ef xs) i).toNat c))/\holdW w1 (nAt (ef xs) i).toNat c=e.at ((nAt (ef xs) i).toNat:Int):=fun j c e hc he=>holdW_is (h1.ins j c e hc he) (by rw [h1.rows e (List.mem_of_getElem? he)];omega)
 have hsx:=h3.at i _ hpi
 have hxl:i<xs.length:=by rw [h3.len];exact (List.getElem?_eq_some_iff.1 hpi).1
 have hdx:aK (ef xs i)<=12:=by
  have hx:xs[i]? = some xs[i]:=List.getElem?_eq_getElem hxl
  have e:ef xs i=xs[i]:=by unfold ef;rw [List.getD_eq_getElem?_getD,hx];rfl
  rw [e]
  exact (h3.fine _ (List.mem_of_getElem? hx)).2.2
 refine (backfill_at aj (.int .i64 ai) (.int .i64 room) _ ea az Cs pb aM arr _ i (dR (ef xs) qs) _ (ef xs i) (holdW w1 (nAt (ef xs) i).toNat) w1 h1.cell hp hP hpi rfl hpf hsx.1 hsx.2.1 (by omega) h1.uC h1.few hR hTs (fun c hc=>by
  obtain ⟨j,hj⟩:=List.mem_iff_getElem?.1 hc
  have hl:=(List.getElem?_eq_some_iff.1 hj).1
  obtain ⟨sb,so,k1,k2,k3,k4,_⟩:=hH j c _ hj (List.getElem?_eq_getElem (by rw [vd];omega))
  exact ⟨sb,so,k1,k2,k3,k4⟩)).mono ?_
 rintro e w2 ⟨v,rfl,hv,hb⟩
 refine ⟨v,rfl,no,aI,Cs,pb,aM,holdW w1 (nAt (ef xs) i).toNat,h1.move (au.aL (P:=fun _=>False) hb) (dn.none _ _),h2,h3.down hb,h4,h5,h6.trans (aY.aL hb),fun j c e hc he=>?_,oY hv h6.size⟩
 obtain ⟨_,_,_,_,_,_,k⟩:=hH j c e hc he
 rw [k,Int.toNat_of_nonneg (mQ _ _)]
theorem KAt_bound (X:Nat->BT aO):∀ n,(∀ j,j<n->aV (ak (X j))<=1000000)->(dN X n).length<=n*1000000
 | 0,_=>by simp [dN]
 | n+1,h=>by
  have h1:=KAt_bound X n fun j hj=>h j (by omega)
  have h2:=(kt (ak (X n)) (dN X n)).2.1
  have h3:=h n (by omega)
  show (aX (dN X n) (ak (X n))).2.length<=_
  omega
def ManyAt (v:Value) (w w':World):Prop:=∃ tb k,v=.iface 132 (.pointer (some ⟨tb,0,none⟩))/\w'.heap[tb]? = some (.cells #[.int .i64 k] 245 (0,0))/\Below w.heap.size w w'
theorem many_after {aj pb aM:Nat} {ai room:Int} {no0:Option Addr} {vp:Nat} {K0:List Key} {ea:Option Addr} {az:Nat} {C:List bx} {E:List Pe} {pa:Option Addr} {pcap0:Nat} {ps:List bC} {ss0:List bt} {xs:List (BT aO)} {qs:List bC} {arr:Array Value} {w w1:World} (h:bj w aj ai room no0 vp K0 ea az C E pa pcap0 ps ss0) (hb:Below w.heap.size w w1)
  (um:w1.heap[pb]? = some (.cells arr 183 (0,0))) (hpn:w.heap.size<=pb) (hP:b5 arr 0 qs) (hq:qs.length<=1000) (cW:qs.length<=aM) (hS:bP w1 qs xs) (hK:40<(dN (ef xs) qs.length).length) :
  Calls Tryz.prog 98 #[.pointer (some ⟨aj,0,none⟩),.slice (some ⟨pb,0,none⟩) qs.length aM] w1 fun e w'=>∃ v,e=.returned v/\ManyAt v w w':=by
 have hbd:=KAt_bound (ef xs) qs.length fun j hj=>(hS.at j _ (List.getElem?_eq_getElem hj)).2.2
 refine (settle_many aj pb aM (.int .i64 ai) (.int .i64 room) _ _ pa ps.length pcap0 arr qs (ef xs) w1 (hb.aE h.cell) um hP hq cW (fun j p hj=>hS.at j p hj) hK (by omega)).mono ?_
 rintro e w' ⟨tb,k,rfl,h1,h2,h3⟩
 exact ⟨_,rfl,tb,k,rfl,h2,⟨h3.os.trans hb.os,h3.tape.trans hb.tape,h3.output.trans hb.output,Nat.le_trans hb.size h3.size,fun b hb0=>(h3.block b (Nat.lt_of_lt_of_le hb0 hb.size) (by omega)).trans (hb.block b hb0)⟩⟩
theorem sents_set {w W:World} {ps:List bC} {xs:List (BT aO)} (h:bP w ps xs) (hb:Below w.heap.size w W) {i:Nat} {q:bC} {x:BT aO} (hsx:aC 143 0 W x (.pointer q.bV)) (hx:dx x/\aV (ak x)<=1000000/\aK x<=12):bP W (ps.set i q) (xs.set i x):=by
 have h':=h.down hb
 refine ⟨by simp [h.len],fun j p y hj hy=>?_,fun y hy=>?_⟩
 ·by_cases mO:i=j
  ·subst mO
   have l1:=(List.getElem?_eq_some_iff.1 hj).1
   have l2:=(List.getElem?_eq_some_iff.1 hy).1
   rw [List.getElem?_set_self (by simpa using l1)] at hj
   rw [List.getElem?_set_self (by simpa using l2)] at hy
   cases hj;cases hy
   exact hsx
  ·rw [List.getElem?_set_ne mO] at hj hy
   exact h'.each j p y hj hy
 ·rcases List.mem_or_eq_of_mem_set hy with hy | rfl
  ·exact h.fine y hy
  ·exact hx
theorem amend_any (name s:ByteArray) (x:BT aO) {aj:Nat} {ai room:Int} {no:Option Addr} {aI:Nat} {K:List Key} {ea:Option Addr} {az:Nat} {C:List bx} {E:List Pe} {pa:Option Addr} {aM:Nat} {ps:List bC} {ss:List bt} {xs:List (BT aO)} {w:World} (h:bj w aj ai room no aI K ea az C E pa aM ps ss) (jh:bL ps) (hS:bP w ps xs) (hver:∀ p∈ps,0<=p.cu/\p.cu<=1000000) (hN:eR name) (hm:s.size<=maxLen) (hg:eF w) (l9:14<=w.heap.size) (hr:cI s=(some x,0)) (hX:aV (ak x)<=1000000) (hR:ax x<=ai) (i:Nat) (hi:bq name ps=i) (p:bC) (hp:ps[i]? = some p) (gQ:b8 name ps=true) :
  Calls Tryz.prog 96 #[.pointer (some ⟨aj,0,none⟩),.string name,.string s] w fun e w'=>∃ v,e=.returned (.tuple #[.int .i64 (i:Int),v])/\(((dN (ef (xs.set i x)) ps.length).length<=40/\v=.nilIface/\∃ sp,After aj ai room ea az C E (xs.set i x) (ps.set i (ld sp p)) ss w w')\/(40<(dN (ef (xs.set i x)) ps.length).length/\ManyAt v w w')):=by
 obtain ⟨hgd,hz,hdx,_⟩:=iJ hr
 have hpf:=h.tW
 refine amend_walk name s x h jh hver hN hm hg l9 hr hR i hi p hp gQ _ fun sp g gc cur W hb hgl hh hP hgc hsx=>?_
 have ko:bP W (ps.set i (ld sp p)) (xs.set i x):=sents_set hS hb hsx ⟨⟨hgd,hz⟩,hX,hdx⟩
 have hl:(ps.set i (ld sp p)).length=ps.length:=by simp
 rcases Nat.lt_or_ge 40 (dN (ef (xs.set i x)) ps.length).length with hk | hk
 ·have:=many_after h hb hh hgl hP (by omega) (by omega:_<=gc) ko (by rw [hl];exact hk)
  rw [hl] at this
  refine this.mono ?_
  rintro e w' ⟨v,rfl,hM⟩
  exact ⟨v,rfl,.inr ⟨hk,hM⟩⟩
 ·have:=qd (ss:=ss) h hb hh hgl hP (by omega) (by omega:_<=gc) ko (by rw [hl];exact hk) (by rw [hl];exact h.vz) (fun j t q ht hq=>by
   by_cases mO:i=j
   ·subst mO
    rw [List.getElem?_set_self (List.getElem?_eq_some_iff.1 hp).1] at hq
    cases hq
    exact h.pstr i t p ht hp
   ·rw [List.getElem?_set_ne mO] at hq
    exact h.pstr j t q ht hq) (fun t ht=>eG.move (h.sok t ht) (au.aL (P:=fun _=>False) hb) (dn.none _ _)) h.apart
  rw [hl] at this
  refine this.mono ?_
  rintro e w' ⟨rfl,hA⟩
  exact ⟨_,rfl,.inl ⟨hk,rfl,sp,hA⟩⟩
theorem ins_row (B i vb:Nat) (ps:List bC) (v:Value) (p:bC) (w:World) (hE:w.ownsRow B 183 5 v ps.length (du ps)) (hv:w.heap[vb]? = some (.cells (ey p).toArray 183 (0,0))) (hvg:∀ g,v.ownBlock=some g->vb≠g) (hi:i<=ps.length) (hn:ps.length<=1000) (hB:B<=w.heap.size) :
  Calls Tryz.prog 137 #[v,.int .i64 (i:Int),.slice (some ⟨vb,0,none⟩) 1 1] w fun e w'=>∃ (g gc:Nat) (cur:Array Value),e=.returned (.slice (some ⟨g,0,none⟩) (ps.length+1) gc)/\B<=g/\w'.heap[g]? = some (.cells cur 183 (0,0))/\ps.length+1<=gc/\b5 cur 0 (ps.take i++p::ps.drop i)/\Below B w w':=by
 have hfl:du (ps.take i++p::ps.drop i)=(du ps).take (i*5)++ey p++(du ps).drop (i*5):=by
  rw [rY,flatP_take ps i hi,flatP_drop ps i hi,List.append_assoc]
  rfl
 have hql:(ps.take i++p::ps.drop i).length=ps.length+1:=by simp;omega
 have bH:∀ (v':Value) (W:World),W.ownsRow B 183 5 v' (ps.length+1) ((du ps).take (i*5)++ey p++(du ps).drop (i*5))->∃ (g gc:Nat) (cur:Array Value),v'=.slice (some ⟨g,0,none⟩) (ps.length+1) gc/\B<=g/\W.heap[g]? = some (.cells cur 183 (0,0))/\ps.length+1<=gc/\b5 cur 0 (ps.take i++p::ps.drop i):=fun v' W h=>by
  rw [<- hfl,<- hql] at h
  obtain ⟨g,gc,cur,a1,a2,a3,a4,a5⟩:=polsAt_row h (by simp)
  rw [hql] at a1 a4
  exact ⟨g,gc,cur,a1,a2,a3,a4,a5⟩
 obtain ⟨r1,⟨rfl,r2⟩ | ⟨g,gc,cur,rfl,r3,_⟩⟩:=id hE
 ·have hps:ps=[]:=List.length_eq_zero_iff.1 r2
  subst hps
  obtain rfl:i=0:=by simpa using hi
  refine (insert0 vb (ey p) w rfl (fun j u hj=>ae hv (by simpa using hj)) (polOne p)).mono ?_
  rintro e w' ⟨v',rfl,h1,h2⟩
  obtain ⟨g,gc,cur,rfl,a⟩:=bH v' w' (by simpa [du] using oY h1 hB)
  exact ⟨g,gc,cur,rfl,a.1,a.2.1,a.2.2.1,a.2.2.2,h2.mono hB⟩
 ·refine (insPol_any B g gc i ps.length vb (du ps) (ey p) w hE (flatP_one ps) hv rfl (polOne p) (hvg g rfl) hi hn hB).mono ?_
  rintro e w' ⟨v',rfl,h1,h2⟩
  obtain ⟨g,gc,cur,rfl,a⟩:=bH v' w' h1
  exact ⟨g,gc,cur,rfl,a.1,a.2.1,a.2.2.1,a.2.2.2,h2⟩
set_option maxRecDepth 100000 in
set_option maxHeartbeats 4000000 in
theorem add_walk (name s:ByteArray) (x:BT aO) {aj:Nat} {ai room:Int} {no:Option Addr} {aI:Nat} {K:List Key} {ea:Option Addr} {az:Nat} {C:List bx} {E:List Pe} {pa:Option Addr} {aM:Nat} {ps:List bC} {ss:List bt} {w:World} (h:bj w aj ai room no aI K ea az C E pa aM ps ss) (jh:bL ps) (h8:ps.length<8) (hN:eR name) (hNs:name.size<=1000) (hm:s.size<=maxLen) (hg:eF w) (l9:14<=w.heap.size) (hr:cI s=(some x,0)) (hR:ax x<=ai) (i:Nat) (hi:bq name ps=i) (gQ:b8 name ps=false) (Q:Value->World->Prop)
  (hset:∀ (sp:Option Addr) (cj g gc:Nat) (cur:Array Value) (V:World),Below w.heap.size w V->w.heap.size<=g->w.heap.size<=cj->V.heap[g]? = some (.cells cur 183 (0,0))->b5 cur 0 (ps.take i++⟨name,sp,some ⟨cj,0,none⟩,0,1,false⟩::ps.drop i)->ps.length+1<=gc->V.heap[cj]? = some (.cells #[.slice none 0 0] 177 (0,0))->aC 143 0 V x (.pointer sp)->Calls Tryz.prog 98 #[.pointer (some ⟨aj,0,none⟩),.slice (some ⟨g,0,none⟩) (ps.length+1) gc] V fun e w'=>∃ v,e=.returned v/\Q v w') :
  Calls Tryz.prog 91 #[.pointer (some ⟨aj,0,none⟩),.string name,.string s] w fun e w'=>∃ v,e=.returned (.tuple #[.int .i64 (i:Int),v])/\Q v w':=by
 have hRd:=p_ aj ai (.int .i64 room) _ _ _ name s x w h.cell hN hm hg l9 hr hR
 have qo:i<=ps.length:=by rw [<- hi];exact jW name ps
 have hf:Hid (∀ W,Below w.heap.size w W->Calls Tryz.prog 97 #[.pointer (some ⟨aj,0,none⟩),.string name] W fun e w'=>e=.returned (.tuple #[.int .i64 (i:Int),.bool false])/\Below W.heap.size W w'):=fun W hb=>by
  have:=mC aj (.int .i64 ai) (.int .i64 room) _ _ pa aM ps name W (hb.aE h.cell) (fg.move h.oX (au.aL (P:=fun _=>False) hb) (dn.none _ _)) jh (by omega)
  rw [hi,gQ] at this
  exact this
 have Hcl:Hid (∀ W,Below w.heap.size w W->Calls Tryz.prog 100 #[.slice pa ps.length aM] W fun e w'=>∃ v',e=.returned v'/\w'.ownsRow W.heap.size 183 5 v' ps.length (du ps)/\Below W.heap.size W w'):=fun W hb=>nS W pa aM ps (fg.move h.oX (au.aL (P:=fun _=>False) hb) (dn.none _ _)) (by omega)
 have Hw:=h.cell
 replace Hw:Hid _:=Hw
 have Hins:Hid (∀ (B vb:Nat) (v:Value) (p:bC) (V:World),V.ownsRow B 183 5 v ps.length (du ps)->V.heap[vb]? = some (.cells (ey p).toArray 183 (0,0))->(∀ g,v.ownBlock=some g->vb≠g)->B<=V.heap.size->Calls Tryz.prog 137 #[v,.int .i64 (i:Int),.slice (some ⟨vb,0,none⟩) 1 1] V fun e w'=>∃ (g gc:Nat) (cur:Array Value),e=.returned (.slice (some ⟨g,0,none⟩) (ps.length+1) gc)/\B<=g/\w'.heap[g]? = some (.cells cur 183 (0,0))/\ps.length+1<=gc/\b5 cur 0 (ps.take i++p::ps.drop i)/\Below B V w'):=fun B vb v p V h1 h2 h3 h4=>ins_row B i vb ps v p V h1 h2 h3 qo (by omega) h4
 have Hset:Hid _:=hset
 clear h jh hi gQ hg hm hr hR hset qo
 generalize du ps=fp at *
 generalize ps.length=n at *
 go_enter Tryz.func91,Tryz.ntmps91
 go_wp2_with fail
 refine hRd.mono ?_
 rintro e w1 ⟨sp,rfl,hsx,a_⟩
 clear hRd
 go_wp2_with fail
 refine (hf.out w1 a_).mono ?_
 rintro e w2 ⟨rfl,cB⟩
 have qv:=a_.tr cB
 have tR:=qv.aE Hw.out
 have c4:=ae (i:=4) tR rfl
 have h8i:¬ (8:Int)<=(n:Int):=by omega
 go_wp2_with fail
 refine (clone_any name _ (by omega)).mono ?_
 rintro e w3 ⟨rfl,pU⟩
 have hb13:=qv.tr pU
 have hw3:=hb13.aE Hw.out
 have hsx3:aC 143 0 w3 x (.pointer sp):=aC.below hsx (cB.tr pU)
 clear tR c4 hsx
 go_wp2_with fail
 have hpv:((w3.alloc (.cells #[.slice none 0 0] 177)).alloc (.cells #[.string name,.pointer sp,.int .i64 0,.int .i64 1,.pointer (some ⟨w3.heap.size,0,none⟩)] 183)).heap[w3.heap.size+1]? = some (.cells #[.string name,.pointer sp,.int .i64 0,.int .i64 1,.pointer (some ⟨w3.heap.size,0,none⟩)] 183 (0,0)):=aB _ _ _ (by simp)
 have hbW:Below w.heap.size w ((w3.alloc (.cells #[.slice none 0 0] 177)).alloc (.cells #[.string name,.pointer sp,.int .i64 0,.int .i64 1,.pointer (some ⟨w3.heap.size,0,none⟩)] 183)):=(hb13.al _).al _
 have df:((w3.alloc (.cells #[.slice none 0 0] 177)).alloc (.cells #[.string name,.pointer sp,.int .i64 0,.int .i64 1,.pointer (some ⟨w3.heap.size,0,none⟩)] 183)).heap[w3.heap.size]? = some (.cells #[.slice none 0 0] 177 (0,0)):=(Below.heap_alloc _ _ _ (by simp)).trans (aB _ _ _ rfl)
 have hsW:aC 143 0 ((w3.alloc (.cells #[.slice none 0 0] 177)).alloc (.cells #[.string name,.pointer sp,.int .i64 0,.int .i64 1,.pointer (some ⟨w3.heap.size,0,none⟩)] 183)) x (.pointer sp):=aC.below hsx3 (((Below.refl _ w3).al _).al _)
 have hwW:=hbW.aE Hw.out
 have hstb:w.heap.size<=w3.heap.size:=hb13.size
 clear hw3 hsx3
 generalize ((w3.alloc (.cells #[.slice none 0 0] 177)).alloc (.cells #[.string name,.pointer sp,.int .i64 0,.int .i64 1,.pointer (some ⟨w3.heap.size,0,none⟩)] 183))=W at *
 generalize um:w3.heap.size+1=pvb at *
 have Hpb:Hid (w3.heap.size+1=pvb):=um
 clear um
 generalize w3.heap.size=cj at *
 have hbV:Below W.heap.size W (W.drew.alloc (.cells #[.string name,.pointer sp,.int .i64 0,.int .i64 1,.pointer (some ⟨cj,0,none⟩)] 183)):=(Below.refl _ W).drew.al _
 have kj:Hid (∀ w',Below W.heap.size W w'->(fun w':World=>w'.cell? ⟨aj,4,none⟩=some (.slice pa n aM)/\w'.cell? ⟨pvb,0,none⟩=some (.string name)/\w'.cell? ⟨pvb,1,none⟩=some (.pointer sp)/\w'.cell? ⟨pvb,2,none⟩=some (.int .i64 0)/\w'.cell? ⟨pvb,3,none⟩=some (.int .i64 1)/\w'.cell? ⟨pvb,4,none⟩=some (.pointer (some ⟨cj,0,none⟩))) w'):=fun w' hb=>⟨ae (hb.aE hwW) rfl,ae (hb.aE hpv) rfl,ae (hb.aE hpv) rfl,ae (hb.aE hpv) rfl,ae (hb.aE hpv) rfl,ae (hb.aE hpv) rfl⟩
 have hZ:(fun w':World=>w'.cell? ⟨aj,4,none⟩=some (.slice pa n aM)/\w'.cell? ⟨pvb,0,none⟩=some (.string name)/\w'.cell? ⟨pvb,1,none⟩=some (.pointer sp)/\w'.cell? ⟨pvb,2,none⟩=some (.int .i64 0)/\w'.cell? ⟨pvb,3,none⟩=some (.int .i64 1)/\w'.cell? ⟨pvb,4,none⟩=some (.pointer (some ⟨cj,0,none⟩))) W.drew:=kj.out _ (Below.refl _ W).drew
 refine bJ.begin (S:=fun _=>True) (fin:=99) (by kernel_rfl) ?_
 simp only [List.size_toArray,List.length_cons,List.length_nil,Nat.reduceAdd,Nat.zero_add]
 refine bJ.take 0 (v:=?vq0) rfl (by decide +kernel) (by decide +kernel) (by decide +kernel) (by decide +kernel) (fun c a w h=>h) (by rfl) (fun w' hS=>Go.Conc.run_eq_of ?rq0) trivial ?_
 case rq0 =>
  intro K' hK'
  clear hS
  go_simp
  exact hK'
 try walk_nrm
 refine bJ.weaken (S:=(fun w'=>w'.cell? ⟨aj,4,none⟩=some (.slice pa n aM)/\w'.cell? ⟨pvb,0,none⟩=some (.string name)/\w'.cell? ⟨pvb,1,none⟩=some (.pointer sp)/\w'.cell? ⟨pvb,2,none⟩=some (.int .i64 0)/\w'.cell? ⟨pvb,3,none⟩=some (.int .i64 1)/\w'.cell? ⟨pvb,4,none⟩=some (.pointer (some ⟨cj,0,none⟩)))) (fin:=11) _ _ _ _ ?_
 refine bJ.take 1 (v:=?vq1) rfl (by decide +kernel) (by decide +kernel) (by decide +kernel) (by decide +kernel) (fun c a w h=>h) (by rfl) (fun w' hS=>Go.Conc.run_eq_of ?rq1) hZ ?_
 case rq1 =>
  intro K' hK'
  clear hS
  go_simp
  exact hK'
 try walk_nrm
 refine bJ.take 2 (v:=?vq2) rfl (by decide +kernel) (by decide +kernel) (by decide +kernel) (by decide +kernel) (fun c a w h=>h) (by rfl) (fun w' hS=>Go.Conc.run_eq_of ?rq2) hZ ?_
 case rq2 =>
  intro K' hK'
  clear hS
  go_simp
  exact hK'
 try walk_nrm
 refine bJ.take 3 (v:=?vq3) rfl (by decide +kernel) (by decide +kernel) (by decide +kernel) (by decide +kernel) (fun c a w h=>h) (by rfl) (fun w' hS=>Go.Conc.run_eq_of ?rq3) hZ ?_
 case rq3 =>
  intro K' hK'
  clear hS
  go_simp
  exact hK'
 try walk_nrm
 refine bJ.take 4 (v:=?vq4) rfl (by decide +kernel) (by decide +kernel) (by decide +kernel) (by decide +kernel) (fun c a w h=>h) (by rfl) (fun w' hS=>Go.Conc.run_eq_of ?rq4) hZ ?_
 case rq4 =>
  intro K' hK'
  clear hS
  go_simp
  exact hK'
 try walk_nrm
 refine bJ.take 5 (v:=?vq5) rfl (by decide +kernel) (by decide +kernel) (by decide +kernel) (by decide +kernel) (fun c a w h=>h) (by rfl) (fun w' hS=>Go.Conc.run_eq_of ?rq5) hZ ?_
 case rq5 =>
  intro K' hK'
  obtain ⟨y1,y2,y3,y4,y5,y6⟩:=hS
  go_simp
  exact hK'
 try walk_nrm
 refine bJ.take 7 (v:=?vq7) rfl (by decide +kernel) (by decide +kernel) (by decide +kernel) (by decide +kernel) (fun c a w h=>h) (by rfl) (fun w' hS=>Go.Conc.run_eq_of ?rq7) hZ ?_
 case rq7 =>
  intro K' hK'
  clear hS
  go_simp
  exact hK'
 try walk_nrm
 refine bJ.take 8 (v:=?vq8) rfl (by decide +kernel) (by decide +kernel) (by decide +kernel) (by decide +kernel) (fun c a w h=>h) (by rfl) (fun w' hS=>Go.Conc.run_eq_of ?rq8) hZ ?_
 case rq8 =>
  intro K' hK'
  obtain ⟨y1,y2,y3,y4,y5,y6⟩:=hS
  go_simp
  exact hK'
 try walk_nrm
 refine bJ.two (i:=6) (j:=9) (by decide +kernel) rfl (by rfl) rfl (by rfl) (fun K' hK'=>?_) (fun K' hK'=>?_)
 ·unfold Oper.wp
  rw [Go.Conc.run_call_body (f:=100) (args:=#[.tmp 49]) (ats:=#[151]) rfl Tryz.func100 (by decide) rfl]
  simp only [Oper.upon,List.map_toArray,List.map_cons,List.map_nil]
  change Calls Tryz.prog 100 #[.slice pa n aM] W.drew _
  refine (Hcl.out W.drew hbW.drew).mono ?_
  rintro e wd ⟨v',rfl,bT,hbd⟩
  have hbd:Below W.heap.size W wd:=(Below.refl _ W).drew.trans hbd
  have bT:wd.ownsRow W.heap.size 183 5 v' n fp:=bT
  refine hK' _ _ ⟨fun _=>kj.out _ hbd,?_⟩
  clear hK' K'
  try walk_nrm
  refine bJ.op (i:=9) (by decide +kernel) rfl (by rfl) (fun K' hK'=>?_)
  unfold Oper.wp
  go_simp
  refine hK' _ _ ⟨fun _=>kj.out _ (hbd.al _),?_⟩
  clear hK' K'
  try walk_nrm
  have hbe:Below W.heap.size W (wd.alloc (.cells #[.string name,.pointer sp,.int .i64 0,.int .i64 1,.pointer (some ⟨cj,0,none⟩)] 183)):=hbd.al _
  have hve:(wd.alloc (.cells #[.string name,.pointer sp,.int .i64 0,.int .i64 1,.pointer (some ⟨cj,0,none⟩)] 183)).heap[wd.heap.size]? = some (.cells (ey ⟨name,sp,some ⟨cj,0,none⟩,0,1,false⟩).toArray 183 (0,0)):=aB _ _ _ rfl
  have hre:(wd.alloc (.cells #[.string name,.pointer sp,.int .i64 0,.int .i64 1,.pointer (some ⟨cj,0,none⟩)] 183)).ownsRow W.heap.size 183 5 v' n fp:=dw bT (fun k hk=>Below.heap_alloc _ _ _ (bT.lt k hk).2)
  have hins:=Hins.out W.heap.size wd.heap.size v' ⟨name,sp,some ⟨cj,0,none⟩,0,1,false⟩ _ hre hve (fun g hg e=>by have:=(bT.lt g hg).2;omega) hbe.size
  generalize wd.heap.size=vb at *
  generalize (wd.alloc (.cells #[.string name,.pointer sp,.int .i64 0,.int .i64 1,.pointer (some ⟨cj,0,none⟩)] 183))=V0 at *
  refine bJ.one (i:=10) (by decide +kernel) rfl (by rfl) ?_
  unfold Oper.wp
  rw [Go.Conc.run_call_body (f:=137) (args:=#[.tmp 50,.tmp 51,.tmp 53]) (ats:=#[151,3,151]) rfl Tryz.func137 (by decide) rfl]
  simp only [Oper.upon,List.map_toArray,List.map_cons,List.map_nil]
  change Calls Tryz.prog 137 #[v',.int .i64 (i:Int),.slice (some ⟨vb,0,none⟩) 1 1] V0 _
  refine hins.mono ?_
  rintro e V1 ⟨g,gc,cur,rfl,hgl,hgh,hgc,ng,hbI⟩
  have qw:Below W.heap.size W V1:=hbe.trans (hbI.mono (by exact Nat.le_refl _))
  refine ⟨fun _=>kj.out _ qw,?_⟩
  try walk_nrm
  refine bJ.one (i:=11) (by decide +kernel) rfl (by rfl) ?_
  unfold Oper.wp
  rw [Go.Conc.run_call_body (f:=98) (args:=#[.tmp 45,.tmp 54]) (ats:=#[100,151]) rfl Tryz.func98 (by decide) rfl]
  simp only [Oper.upon,List.map_toArray,List.map_cons,List.map_nil]
  change Calls Tryz.prog 98 #[.pointer (some ⟨aj,0,none⟩),.slice (some ⟨g,0,none⟩) (n+1) gc] V1 _
  have hWs:=hbW.size
  refine (Hset.out sp cj g gc cur V1 (hbW.trans (qw.mono hWs)) (by omega) hstb hgh ng hgc (qw.aE df) (aC.below hsW qw)).mono ?_
  rintro e V3 ⟨v,rfl,hQ⟩
  replace hQ:Hid _:=hQ
  refine ⟨fun h=>absurd h (by decide),?_⟩
  try walk_nrm
  refine bJ.op (i:=12) (by decide +kernel) rfl (by rfl) (fun K' hK'=>?_)
  unfold Oper.wp
  go_simp
  refine hK' _ _ ⟨fun h=>absurd h (by decide),?_⟩
  clear hK' K'
  try walk_nrm
  refine bJ.op (i:=13) (by decide +kernel) rfl (by rfl) (fun K' hK'=>?_)
  unfold Oper.wp
  go_simp
  refine hK' _ _ ⟨fun h=>absurd h (by decide),?_⟩
  clear hK' K'
  refine bJ.done (by decide +kernel) ?_ _
  try walk_nrm
  go_wp2_with fail
  go_ret2
  exact ⟨v,rfl,hQ.out⟩
 ·unfold Oper.wp
  go_simp
  refine hK' _ _ ⟨fun _=>kj.out _ hbV,?_⟩
  clear hK' K'
  try walk_nrm
  refine bJ.op (i:=6) (by decide +kernel) rfl (by rfl) (fun K' hK'=>?_)
  unfold Oper.wp
  rw [Go.Conc.run_call_body (f:=100) (args:=#[.tmp 49]) (ats:=#[151]) rfl Tryz.func100 (by decide) rfl]
  simp only [Oper.upon,List.map_toArray,List.map_cons,List.map_nil]
  change Calls Tryz.prog 100 #[.slice pa n aM] (W.drew.alloc (.cells #[.string name,.pointer sp,.int .i64 0,.int .i64 1,.pointer (some ⟨cj,0,none⟩)] 183)) _
  have hvb:(W.drew.alloc (.cells #[.string name,.pointer sp,.int .i64 0,.int .i64 1,.pointer (some ⟨cj,0,none⟩)] 183)).heap[W.heap.size]? = some (.cells (ey ⟨name,sp,some ⟨cj,0,none⟩,0,1,false⟩).toArray 183 (0,0)):=aB W.drew _ _ rfl
  refine (Hcl.out _ (hbW.trans (hbV.mono hbW.size))).mono ?_
  rintro e V0 ⟨v',rfl,bT,hbd⟩
  have hvl:=aw hvb
  have hbe:Below W.heap.size W V0:=hbV.trans (hbd.mono hbV.size)
  have hve:=hbd.aE hvb
  refine hK' _ _ ⟨fun _=>kj.out _ hbe,?_⟩
  clear hK' K'
  try walk_nrm
  have hins:=Hins.out _ W.heap.size v' ⟨name,sp,some ⟨cj,0,none⟩,0,1,false⟩ _ bT hve (fun g hg e=>by have:=(bT.lt g hg).1;omega) hbd.size
  have hBs:=hbV.size
  refine bJ.one (i:=10) (by decide +kernel) rfl (by rfl) ?_
  unfold Oper.wp
  rw [Go.Conc.run_call_body (f:=137) (args:=#[.tmp 50,.tmp 51,.tmp 53]) (ats:=#[151,3,151]) rfl Tryz.func137 (by decide) rfl]
  simp only [Oper.upon,List.map_toArray,List.map_cons,List.map_nil]
  change Calls Tryz.prog 137 #[v',.int .i64 (i:Int),.slice (some ⟨W.heap.size,0,none⟩) 1 1] V0 _
  refine hins.mono ?_
  rintro e V1 ⟨g,gc,cur,rfl,hgl,hgh,hgc,ng,hbI⟩
  have qw:Below W.heap.size W V1:=hbe.trans (hbI.mono (by omega))
  refine ⟨fun _=>kj.out _ qw,?_⟩
  try walk_nrm
  refine bJ.one (i:=11) (by decide +kernel) rfl (by rfl) ?_
  unfold Oper.wp
  rw [Go.Conc.run_call_body (f:=98) (args:=#[.tmp 45,.tmp 54]) (ats:=#[100,151]) rfl Tryz.func98 (by decide) rfl]
  simp only [Oper.upon,List.map_toArray,List.map_cons,List.map_nil]
  change Calls Tryz.prog 98 #[.pointer (some ⟨aj,0,none⟩),.slice (some ⟨g,0,none⟩) (n+1) gc] V1 _
  have hWs:=hbW.size
  refine (Hset.out sp cj g gc cur V1 (hbW.trans (qw.mono hWs)) (by omega) hstb hgh ng hgc (qw.aE df) (aC.below hsW qw)).mono ?_
  rintro e V3 ⟨v,rfl,hQ⟩
  replace hQ:Hid _:=hQ
  refine ⟨fun h=>absurd h (by decide),?_⟩
  try walk_nrm
  refine bJ.op (i:=12) (by decide +kernel) rfl (by rfl) (fun K' hK'=>?_)
  unfold Oper.wp
  go_simp
  refine hK' _ _ ⟨fun h=>absurd h (by decide),?_⟩
  clear hK' K'
  try walk_nrm
  refine bJ.op (i:=13) (by decide +kernel) rfl (by rfl) (fun K' hK'=>?_)
  unfold Oper.wp
  go_simp
  refine hK' _ _ ⟨fun h=>absurd h (by decide),?_⟩
  clear hK' K'
  refine bJ.done (by decide +kernel) ?_ _
  try walk_nrm
  go_wp2_with fail
  go_ret2
  exact ⟨v,rfl,hQ.out⟩
end Ev
end Go.Proofs.YtpbbmagjhkakgaaGreatDoor
