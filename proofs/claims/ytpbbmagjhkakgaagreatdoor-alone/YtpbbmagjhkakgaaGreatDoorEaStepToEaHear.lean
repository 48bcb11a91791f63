import Derived.Test.YtpbbmagjhkakgaaGreatDoorEaAdd2ToEaInv
import Derived.Test.YtpbbmagjhkakgaaGreatDoorEaListToSnWorks
namespace Go.Proofs.YtpbbmagjhkakgaaGreatDoor
namespace Ev
open Go.RowKit Go.Deep Go.Maps Lf
theorem xAt_get {xs:List (BT aO)} {x:BT aO} {k:Nat} (h:xs[k]? = some x):ef xs k=x:=by
 unfold ef
 rw [List.getD_eq_getElem?_getD,h]
 rfl
theorem dM.event {R:Int} {x:BT aO} {L:List (Int×Int)} {B0 mb aj i v m:Nat} {w:World} (h:dM R x L B0 mb aj i v m w) (gG:ax (ak x)<=R) (hi:i<25) (ao:Option Addr) (cap:Nat)
  (hA:eI w ao (jZ L i)) (cW:(jZ L i).length<=cap) :
  bZ Tryz.prog 24 #[.pointer (some ⟨mb,0,none⟩),.int .i64 (aW L (i+1)),.slice ao (jZ L i).length cap] w fun e W'=>e=.returned (.int .i64 0)/\dM R x L B0 mb aj (i+1) v m W'/\au (fun b=>B0<=b) w W':=by
 obtain ⟨⟨no,aI,ea,az,C,E,pa,aM,ps,ss,xs,dr,h1,h2,h3,h4,h5,h6,h7,h8,h9,qF,h11,h12⟩,hm,hwt⟩:=h
 have hT:=nN L (i+1)
 have hTs:=timeZ_step L i
 have hpk:=bB (L.getD i (0,0)).2 8 (by decide)
 have nh:eQ C=(i:Int)+1:=by
  unfold eQ
  cases hc:C.getLast? with
  | none=>have:=h5 (List.getLast?_eq_none_iff.1 hc);simp [this]
  | some c=>simp [(h6 c hc).1]
 obtain ⟨k,hk⟩:∃ k,nj (aW L (i+1)-R) C=k:=⟨_,rfl⟩
 have hkn:k<=C.length:=by rw [<- hk];exact oldF_le _ _
 have hdr:∀ d∈(E.take k).reverse.map Pe.jD++dr,d.1<aW L (i+1)-R:=by
  intro d hd
  rcases List.mem_append.1 hd with hd | hd
  ·obtain ⟨e,he,rfl⟩:=List.mem_map.1 hd
   obtain ⟨j,hj⟩:=List.mem_iff_getElem?.1 (List.mem_reverse.1 he)
   rw [List.getElem?_take] at hj
   split at hj
   ·rename_i n9
    have hjc:j<C.length:=by omega
    have tP:=h1.ins j C[j] e (List.getElem?_eq_getElem hjc) hj
    have cz:=oldF_lt (aW L (i+1)-R) C j C[j] (List.getElem?_eq_getElem hjc) (by omega)
    show e.time<_
    rw [<- tP.time]
    exact cz
   ·cases hj
  ·have:=h3 d hd;omega
 have js:=event_drop h1 (aW L (i+1)) ao (jZ L i) cap (by omega) (fun c hc=>by rw [(h6 c hc).2];omega) k hk (by omega) hA
  (Nat.le_trans (qN _ 3) (by decide)) cW (atoms_names _) (atoms_once _ (by omega)) (by omega) (by omega) (fun t ht=>by have:=(h9.cG t ht).1;omega)
 refine (monEvent hm (D:=fun W'=>dM R x L B0 mb aj (i+1) v m W'/\au (fun b=>B0<=b) w W') (fun w τ d x=>⟨x.1.aU τ d,x.2.aU τ d⟩) (js.mono ?_))
 rintro e W' ⟨rfl,c,ea',ecap',ss',k1,k2,k3,k4,k5,k6⟩
 refine ⟨rfl,?_⟩
 have hwl:=aw h1.cell
 have cE:∀ b,Own46 aj ea ss b->B0<=b:=by
  rintro b (rfl | ⟨a,e1,rfl⟩ | ⟨s',qp,e1 | e1⟩)
  ·exact hwt
  ·exact h8 a e1
  ·rw [e1];exact (h9.cG s' qp).2.1
  ·exact (h9.cG s' qp).2.2 b e1
 have hkind:∀ b,Own46 aj ea ss b->∃ cs t m,w.heap[b]? = some (.cells cs t m)/\(t=153\/t=159\/t=177\/t=59):=by
  rintro b (e | ⟨a,e1,e2⟩ | hM)
  ·subst e;exact ⟨_,_,_,h1.cell,.inl rfl⟩
  ·have hb:(Value.slice ea C.length az).ownBlock=some b:=by rw [e1];rw [<- e2];rfl
   obtain ⟨cs,bn⟩:=dG h1.uC hb
   exact ⟨_,_,_,bn,.inr (.inl rfl)⟩
  ·obtain ⟨cs,t',ht',e | e⟩:=Ms.tag h1.sok hM
   ·exact ⟨_,_,_,ht',.inr (.inr (.inl e))⟩
   ·exact ⟨_,_,_,ht',.inr (.inr (.inr e))⟩
 have hsr:au (fun b=>B0<=b) w W':=k4.mono fun b _ hb=>cE b hb
 have hback:∀ (j:Nat) t,ss'[j]? = some t->∃ s p,ss[j]? = some s/\ps[j]? = some p:=fun j t ht=>by
  have l1:=(List.getElem?_eq_some_iff.1 ht).1
  rw [k1.vz] at l1
  exact ⟨_,_,List.getElem?_eq_getElem (by rw [h1.vz];exact l1),List.getElem?_eq_getElem l1⟩
 refine ⟨⟨⟨no,aI,ea',ecap',C.drop k++[c],_,pa,aM,ps,ss',xs,(E.take k).reverse.map Pe.jD++dr,k1,(h2.drop k).next (eQ C),hdr,by simp;omega,fun e=>by simp at e,fun c' uY=>?_,fun c' uY=>?_,fun a ha=>?_,⟨h9.sorted,h9.names,h9.cu,?_,fun t ht=>?_⟩,⟨qF.len,fun j p y hj hy=>?_,qF.fine⟩,h11,h12⟩,?_,hwt⟩,hsr⟩
 ·simp at uY
  subst uY
  exact ⟨by rw [k3,nh];simp,k2⟩
 ·rcases List.mem_append.1 uY with h | h
  ·exact h7 c' (List.mem_of_mem_drop h)
  ·simp at h;subst h;omega
 ·rcases k5 a ha with ⟨a0,e1,e2⟩ | e
  ·rw [<- e2];exact h8 a0 e1
  ·omega
 ·obtain ⟨q,p,s,a1,a2,a3,a4,a5,a6,a7⟩:=h9.the
  obtain ⟨t,t0,t1,t2,t3,t4⟩:=k6 q s p a5 a1
  refine ⟨q,p,t,a1,a2,a3,a4,t0,by rw [t2,a6],?_⟩
  have hql:=(List.getElem?_eq_some_iff.1 a1).1
  have hnd:=KAt_num (ef xs) ps.length q hql
  rw [xAt_get a4] at hnd
  have hgd:Good x:=(qF.fine x (List.mem_of_getElem? a4)).1.1
  rw [t3,a7,h12 q p a1,(h2.drop k).says (eQ C) hgd hnd (fun d hd=>by have:=hdr d hd;omega),nh,a3]
  rfl
 ·obtain ⟨j,hj⟩:=List.mem_iff_getElem?.1 ht
  obtain ⟨s,p,g1,g2⟩:=hback j t hj
  obtain ⟨t',t0,t1,t2,_,t4⟩:=k6 j s p g1 g2
  rw [hj] at t0
  cases t0
  obtain ⟨b1,b2,b3⟩:=h9.cG s (List.mem_of_getElem? g1)
  refine ⟨by rw [t2];omega,by rw [t1];exact b2,fun g hg=>?_⟩
  rcases t4 with e | ⟨g',e1,e2⟩
  ·exact b3 g (e▸hg)
  ·rw [e1] at hg;cases hg;omega
 ·refine cU (fun q cs hq=>?_) (qF.each j p y hj hy)
  refine (k4.block q (aw hq) fun hO=>?_).trans hq
  obtain ⟨cs',t',m',e1,e2⟩:=hkind q hO
  rw [hq] at e1
  cases e1
  rcases e2 with e | e | e | e<;>cases e
 ·refine (k4.block mb (aw hm) fun hO=>?_).trans hm
  obtain ⟨cs',t',m',e1,e2⟩:=hkind mb hO
  rw [hm] at e1
  cases e1
  rcases e2 with e | e | e | e<;>cases e
theorem dM.move {R:Int} {x:BT aO} {L:List (Int×Int)} {B0 mb aj i v m:Nat} {w w':World} (h:dM R x L B0 mb aj i v m w) (hs:au (fun _=>False) w w'):dM R x L B0 mb aj i v m w':=by
 obtain ⟨⟨no,aI,ea,az,C,E,pa,aM,ps,ss,xs,dr,h1,h2,h3,h4,h5,h6,h7,h8,h9,qF,h11⟩,hm,hw⟩:=h
 exact ⟨⟨no,aI,ea,az,C,E,pa,aM,ps,ss,xs,dr,h1.move hs (dn.none _ _),h2,h3,h4,h5,h6,h7,h8,h9,⟨qF.len,fun j p y a b=>cU (fun k cs hk=>(hs.block k (aw hk) id).trans hk) (qF.each j p y a b),qF.fine⟩,h11⟩,hs.get hm id,hw⟩
theorem vM {ps:List bC} (h:bL ps):(ps.map (·.name)).Nodup:=by
 refine List.pairwise_map.2 (h.imp fun {a b} hab e=>?_)
 have:=(lY a.name b.name).2 e
 omega
theorem kz.few {x:BT aO} {L:List (Int×Int)} {B0 i v:Nat} {ps:List bC} {ss:List bt} {xs:List (BT aO)} (h:kz x L B0 i v ps ss xs):ps.length<=3:=by
 have:=nodup_le _ others (vM h.sorted) (fun t ht=>by
  obtain ⟨p,hp,rfl⟩:=List.mem_map.1 ht
  exact h.names p hp)
 simpa [others] using this
def pX (name:ByteArray):Prop:=name=⟨#[113,114]⟩\/name=⟨#[113,115]⟩
theorem pX.ok {name:ByteArray} (h:pX name):eR name/\name.size<=1000/\name∈others/\name≠nP:=by
 rcases h with rfl | rfl
 ·exact ⟨⟨by decide,by decide,by decide +kernel,by decide +kernel,by decide +kernel⟩,by decide,by simp [others],by decide⟩
 ·exact ⟨⟨by decide,by decide,by decide +kernel,by decide +kernel,by decide +kernel⟩,by decide,by simp [others],by decide⟩
theorem ins_old {α:Type} {l:List α} {a b:α} {i j:Nat} (hi:i<=l.length) (h:l[j]? = some b):(l.take i++a::l.drop i)[if j<i then j else j+1]? = some b:=by
 have hl:(l.take i).length=i:=by simp;omega
 split
 ·rename_i h1
  rw [List.getElem?_append_left (by omega),List.getElem?_take,if_pos h1]
  exact h
 ·rename_i h1
  rw [List.getElem?_append_right (by omega),hl,show j+1-i=(j-i)+1 by omega,List.getElem?_cons_succ,List.getElem?_drop,show i+(j-i)=j by omega]
  exact h
theorem polInv_ins {x y:BT aO} {L:List (Int×Int)} {B0 i v k:Nat} {ps:List bC} {ss:List bt} {xs:List (BT aO)} (h:kz x L B0 i v ps ss xs) {q:bC} (hv:1<=v) (hq:q.cu=1) (hn:q.name∈others) (hk:bq q.name ps=k) (gQ:b8 q.name ps=false) (hl1:ss.length=ps.length) (hl2:xs.length=ps.length) {cj:Nat} (df:B0<=cj):kz x L B0 i v (ps.take k++q::ps.drop k) (ss.take k++⟨cj,.slice none 0 0,0,[]⟩::ss.drop k) (xs.take k++y::xs.drop k):=by
 have hkl:k<=ps.length:=by rw [<- hk];exact jW _ _
 have sP:∀ p∈ps.take k++q::ps.drop k,p=q\/p∈ps:=fun p hp=>by
  rcases List.mem_append.1 hp with hp | hp
  ·exact .inr (List.mem_of_mem_take hp)
  ·rcases List.mem_cons.1 hp with hp | hp
   ·exact .inl hp
   ·exact .inr (List.mem_of_mem_drop hp)
 refine ⟨by rw [<- hk];exact h.sorted.insert gQ,fun p hp=>?_,fun p hp=>?_,?_,fun s hs=>?_⟩
 ·rcases sP p hp with rfl | hp
  ·exact hn
  ·exact h.names p hp
 ·rcases sP p hp with rfl | hp
  ·omega
  ·exact h.cu p hp
 ·obtain ⟨j,p,s,a1,a2,a3,a4,a5,a6⟩:=h.the
  exact ⟨_,p,s,ins_old hkl a1,a2,a3,ins_old (by omega) a4,ins_old (by omega) a5,a6⟩
 ·rcases List.mem_append.1 hs with hs | hs
  ·exact h.cG s (List.mem_of_mem_take hs)
  ·rcases List.mem_cons.1 hs with rfl | hs
   ·exact ⟨Nat.zero_le _,df,fun g hg=>by cases hg⟩
   ·exact h.cG s (List.mem_of_mem_drop hs)
theorem dM.add {x y:BT aO} {L:List (Int×Int)} {B0 mb aj i v m:Nat} {w:World} (h:dM 1000 x L B0 mb aj i v m w) (hv:1<=v) (name s:ByteArray) (hn:pX name) (hz:s.size<=maxLen) (hg:eF w) (pg:jz w) (l9:14<=w.heap.size) (hr:cI s=(some y,0)) (hX:aV (ak y)<=1000000) (hR:0<=ax y/\ax y<=1000) :
  Calls Tryz.prog 27 #[.pointer (some ⟨mb,0,none⟩),.string name,.string s] w fun e w'=>∃ r z m',e=.returned (.tuple #[r,.int .i64 z])/\(z=0\/z=5\/z=8)/\dM 1000 x L B0 mb aj i v m' w'/\au (fun b=>B0<=b) w w':=by
 have H:=h
 obtain ⟨⟨no,aI,ea,az,C,E,pa,aM,ps,ss,xs,dr,h1,h2,h3,h4,h5,h6,h7,h8,h9,qF,⟨h11,h11b⟩,h12⟩,hm,hwt⟩:=h
 obtain ⟨n1,n2,n3,n4⟩:=hn.ok
 have hfew:=h9.few
 have hwl:=aw h1.cell
 have kT:∀ w',Below w.heap.size w w'->au (fun b=>B0<=b) w w':=fun w' hb=>au.aL hb
 cases gQ:b8 name ps with
 | true =>
  refine (monAdd_twice mb name s y hm h1 h9.sorted n1 hz hg pg l9 hr hR.2 gQ).mono ?_
  rintro e w' ⟨rfl,hb⟩
  exact ⟨_,5,m,rfl,.inr (.inl rfl),H.move (au.aL hb),kT w' hb⟩
 | false =>
  obtain ⟨k,hk⟩:∃ k,bq name ps=k:=⟨_,rfl⟩
  rcases Nat.lt_or_ge 40 (dN (ef (xs.take k++y::xs.drop k)) (ps.length+1)).length with hK | hK
  ·refine (monAdd_many mb name s y hm h1 h9.sorted qF n1 hz hg pg l9 hr hX hR.2 (by omega) n2 k hk gQ hK).mono ?_
   rintro e w' ⟨rfl,hb⟩
   exact ⟨_,8,m,rfl,.inr (.inr rfl),H.move (au.aL hb),kT w' hb⟩
  ·refine (monAdd_ok mb name s y hm h1 h9.sorted qF n1 hz hg l9 hr hX hR h7 (by omega) n2 k hk gQ hK).mono ?_
   rintro e w' ⟨r,rfl,sp,cj,df,no',ncap',Cs,pb',vw,hold,a1,a2,a3,a4,a5,a6,_,_⟩
   have hkl:k<=ps.length:=by rw [<- hk];exact jW _ _
   have hl:(ps.take k++fresh name sp cj::ps.drop k).length=ps.length+1:=by simp;omega
   have:=dM.after h1 h2 h3 h4 h5 h6 h7 h8 hm hwt ⟨no',ncap',Cs,pb',vw,a1,a2,a3,a4,a5,a6⟩ (polInv_ins (y:=y) (q:=fresh name sp cj) h9 hv rfl n3 hk gQ h1.vz qF.len (by omega:B0<=cj)) (by rw [hl];exact hK)
   exact ⟨r,0,_,rfl,.inl rfl,this.1,this.2⟩
theorem sorted_set {ps:List bC} {k:Nat} {p q:bC} (h:bL ps) (hp:ps[k]? = some p) (hn:q.name=p.name):bL (ps.set k q):=by
 have hg:∀ (j:Nat) (hj:j<(ps.set k q).length),((ps.set k q)[j]).name=(ps[j]'(by simpa using hj)).name:=fun j hj=>by
  rw [List.getElem_set]
  split
  ·rename_i e
   subst e
   rw [hn,<- (List.getElem?_eq_some_iff.1 hp).2]
  ·rfl
 refine List.pairwise_iff_getElem.2 fun a b ha hb hab=>?_
 rw [hg a ha,hg b hb]
 exact List.pairwise_iff_getElem.1 h a b _ _ hab
theorem polInv_set {x y:BT aO} {L:List (Int×Int)} {B0 i v k:Nat} {ps:List bC} {ss:List bt} {xs:List (BT aO)} (h:kz x L B0 i v ps ss xs) {p q:bC} (hp:ps[k]? = some p) (hn:q.name=p.name) (hne:p.name≠nP) (hq:0<=q.cu/\q.cu<=v+1):kz x L B0 i (v+1) (ps.set k q) ss (xs.set k y):=by
 refine ⟨sorted_set h.sorted hp hn,fun r hr=>?_,fun r hr=>?_,?_,h.cG⟩
 ·rcases List.mem_or_eq_of_mem_set hr with hr | rfl
  ·exact h.names r hr
  ·rw [hn];exact h.names p (List.mem_of_getElem? hp)
 ·rcases List.mem_or_eq_of_mem_set hr with hr | rfl
  ·have:=h.cu r hr;omega
  ·omega
 ·obtain ⟨j,r,s,a1,a2,a3,a4,a5,a6⟩:=h.the
  have n9:k≠j:=by
   rintro rfl
   rw [hp] at a1
   cases a1
   exact hne a2
  exact ⟨j,r,s,by rw [List.getElem?_set_ne n9];exact a1,a2,a3,by rw [List.getElem?_set_ne n9];exact a4,a5,a6⟩
theorem erase_old {α:Type} {l:List α} {b:α} {k j:Nat} (hj:j≠k) (h:l[j]? = some b):(l.take k++l.drop (k+1))[if j<k then j else j-1]? = some b:=by
 rw [<- List.eraseIdx_eq_take_drop_succ,List.getElem?_eraseIdx]
 by_cases h1:j<k
 ·simp only [h1,if_true]
  exact h
 ·simp only [h1,if_false]
  rw [if_neg (by omega),show j-1+1=j by omega]
  exact h
theorem polInv_erase {x:BT aO} {L:List (Int×Int)} {B0 i v k:Nat} {ps:List bC} {ss:List bt} {xs:List (BT aO)} (h:kz x L B0 i v ps ss xs) {p:bC} (hp:ps[k]? = some p) (hne:p.name≠nP):kz x L B0 i v (ps.take k++ps.drop (k+1)) (ss.take k++ss.drop (k+1)) (xs.take k++xs.drop (k+1)):=by
 have hm:∀ {α:Type} (l:List α) (a:α),a∈l.take k++l.drop (k+1)->a∈l:=fun l a ha=>by
  rcases List.mem_append.1 ha with ha | ha
  ·exact List.mem_of_mem_take ha
  ·exact List.mem_of_mem_drop ha
 refine ⟨h.sorted.erase k,fun r hr=>h.names r (hm _ _ hr),fun r hr=>h.cu r (hm _ _ hr),?_,fun s hs=>h.cG s (hm _ _ hs)⟩
 obtain ⟨j,r,s,a1,a2,a3,a4,a5,a6⟩:=h.the
 have n9:j≠k:=by
  rintro rfl
  rw [hp] at a1
  cases a1
  exact hne a2
 exact ⟨_,r,s,erase_old n9 a1,a2,a3,erase_old n9 a4,erase_old n9 a5,a6⟩
theorem dM.more {x:BT aO} {L:List (Int×Int)} {B0 mb aj i v m:Nat} {w:World} (h:dM 1000 x L B0 mb aj i v m w):dM 1000 x L B0 mb aj i (v+1) m w:=by
 obtain ⟨⟨no,aI,ea,az,C,E,pa,aM,ps,ss,xs,dr,h1,h2,h3,h4,h5,h6,h7,h8,h9,qF⟩,hm,hw⟩:=h
 exact ⟨⟨no,aI,ea,az,C,E,pa,aM,ps,ss,xs,dr,h1,h2,h3,h4,h5,h6,h7,h8,⟨h9.sorted,h9.names,fun p hp=>by have:=h9.cu p hp;omega,h9.the,h9.cG⟩,qF⟩,hm,hw⟩
theorem dM.amend {x y:BT aO} {L:List (Int×Int)} {B0 mb aj i v m:Nat} {w:World} (h:dM 1000 x L B0 mb aj i v m w) (hv:v<=1000) (name s:ByteArray) (hn:pX name) (hz:s.size<=maxLen) (hg:eF w) (pg:jz w) (l9:14<=w.heap.size) (hr:cI s=(some y,0)) (hX:aV (ak y)<=1000000) (hR:0<=ax y/\ax y<=1000) :
  Calls Tryz.prog 31 #[.pointer (some ⟨mb,0,none⟩),.string name,.string s] w fun e w'=>∃ r z m',e=.returned (.tuple #[r,.int .i64 z])/\(z=0\/z=6\/z=8)/\dM 1000 x L B0 mb aj i (v+1) m' w'/\au (fun b=>B0<=b) w w':=by
 have H:=h.more
 obtain ⟨⟨no,aI,ea,az,C,E,pa,aM,ps,ss,xs,dr,h1,h2,h3,h4,h5,h6,h7,h8,h9,qF,⟨h11,h11b⟩,h12⟩,hm,hwt⟩:=h
 obtain ⟨n1,n2,n3,n4⟩:=hn.ok
 have kT:∀ w',Below w.heap.size w w'->au (fun b=>B0<=b) w w':=fun w' hb=>au.aL hb
 cases gQ:b8 name ps with
 | false =>
  refine (monAmend_none mb name s y hm h1 h9.sorted n1 hz hg pg l9 hr hR.2 gQ).mono ?_
  rintro e w' ⟨rfl,hb⟩
  exact ⟨_,6,m,rfl,.inr (.inl rfl),H.move (au.aL hb),kT w' hb⟩
 | true =>
  obtain ⟨p,hp,hpn⟩:=(jY name ps).1 gQ
  obtain ⟨k,hk⟩:∃ k,bq name ps=k:=⟨_,rfl⟩
  rw [hk] at hp
  have hver:∀ p∈ps,0<=p.cu/\p.cu<=1000000:=fun p hp=>by have:=h9.cu p hp;omega
  rcases Nat.lt_or_ge 40 (dN (ef (xs.set k y)) ps.length).length with hK | hK
  ·refine (monAmend_many mb name s y hm h1 h9.sorted qF n1 hz hg pg l9 hr hX hR.2 hver k hk p hp gQ hK).mono ?_
   rintro e w' ⟨rfl,hb⟩
   exact ⟨_,8,m,rfl,.inr (.inr rfl),H.move (au.aL hb),kT w' hb⟩
  ·refine (monAmend_ok mb name s y hm h1 h9.sorted qF n1 hz hg l9 hr hX hR h7 hver k hk p hp gQ hK).mono ?_
   rintro e w' ⟨r,rfl,sp,no',ncap',Cs,pb',vw,hold,a1,a2,a3,a4,a5,a6,_,_⟩
   have hl:(ps.set k (ld sp p)).length=ps.length:=by simp
   have hpv:=h9.cu p (List.mem_of_getElem? hp)
   have:=dM.after h1 h2 h3 h4 h5 h6 h7 h8 hm hwt ⟨no',ncap',Cs,pb',vw,a1,a2,a3,a4,a5,a6⟩ (polInv_set (y:=y) (q:=ld sp p) h9 hp rfl (by rw [hpn];exact n4) (by show 0<=p.cu+1/\p.cu+1<=_;omega)) (by rw [hl];exact hK)
   exact ⟨r,0,_,rfl,.inl rfl,this.1,this.2⟩
theorem dM.remove {x:BT aO} {L:List (Int×Int)} {B0 mb aj i v m:Nat} {w:World} (h:dM 1000 x L B0 mb aj i v m w) (name:ByteArray) (hn:pX name) (hg:eF w) (pg:jz w) :
  Calls Tryz.prog 32 #[.pointer (some ⟨mb,0,none⟩),.string name] w fun e w'=>∃ z m',e=.returned (.int .i64 z)/\(z=0\/z=6)/\m'<=m/\dM 1000 x L B0 mb aj i v m' w'/\au (fun b=>B0<=b) w w':=by
 have H:=h
 obtain ⟨⟨no,aI,ea,az,C,E,pa,aM,ps,ss,xs,dr,h1,h2,h3,h4,h5,h6,h7,h8,h9,qF,⟨h11,h11b⟩,h12⟩,hm,hwt⟩:=h
 obtain ⟨n1,n2,n3,n4⟩:=hn.ok
 cases gQ:b8 name ps with
 | false =>
  refine (monRemove_none mb name hm h1 h9.sorted gQ hg pg).mono ?_
  rintro e w' ⟨rfl,hb⟩
  exact ⟨6,m,rfl,.inr rfl,Nat.le_refl _,H.move (au.aL hb),au.aL hb⟩
 | true =>
  obtain ⟨p,hp,hpn⟩:=(jY name ps).1 gQ
  obtain ⟨k,hk⟩:∃ k,bq name ps=k:=⟨_,rfl⟩
  rw [hk] at hp
  have hkl:=(List.getElem?_eq_some_iff.1 hp).1
  refine (vn mb name hm h1 h9.sorted qF (by omega) k hk gQ).mono ?_
  rintro e w' ⟨rfl,hA⟩
  have hxl:=qF.len
  have bH:∀ y∈xs.take k++xs.drop (k+1),dx y:=fun y hy=>by
   rcases List.mem_append.1 hy with hy | hy
   ·exact (qF.fine y (List.mem_of_mem_take hy)).1
   ·exact (qF.fine y (List.mem_of_mem_drop hy)).1
  have hql:(ps.take k++ps.drop (k+1)).length=ps.length-1:=by simp;omega
  have hxq:(xs.take k++xs.drop (k+1)).length=ps.length-1:=by simp;omega
  have hK:(dN (ef (xs.take k++xs.drop (k+1))) (ps.take k++ps.drop (k+1)).length).length<=m:=by
   rw [<- h11,hql]
   refine KAt_sub _ _ _ _ (fun j hj=>?_) (fun j hj=>qF.fineAt j (by omega)) fun j hj=>?_
   ·obtain ⟨y,hy⟩:∃ y,(xs.take k++xs.drop (k+1))[j]? = some y:=⟨_,List.getElem?_eq_getElem (by omega)⟩
    rw [xAt_get hy]
    exact bH y (List.mem_of_getElem? hy)
   ·obtain ⟨y,hy⟩:∃ y,(xs.take k++xs.drop (k+1))[j]? = some y:=⟨_,List.getElem?_eq_getElem (by omega)⟩
    refine ⟨if j<k then j else j+1,by split<;>omega,?_⟩
    rw [xAt_get hy,xAt_get (dZ hy)]
  have:=dM.after h1 h2 h3 h4 h5 h6 h7 h8 hm hwt hA (polInv_erase h9 hp (by rw [hpn];exact n4)) (by omega)
  exact ⟨0,_,rfl,.inl rfl,hK,this.1,this.2⟩
theorem dM.work {x:BT aO} {L:List (Int×Int)} {B0 mb aj i v m:Nat} {w:World} (h:dM 1000 x L B0 mb aj i v m w):Calls Tryz.prog 30 #[.pointer (some ⟨mb,0,none⟩)] w fun e w'=>e=.returned (.int .i64 (m:Int))/\w'=w:=by
 obtain ⟨⟨no,aI,ea,az,C,E,pa,aM,ps,ss,xs,dr,h1,h2,h3,h4,h5,h6,h7,h8,h9,qF,⟨h11,h11b⟩,h12⟩,hm,hwt⟩:=h
 have:=monWork mb aj _ _ _ _ no (dN (ef xs) ps.length).length aI w hm h1.cell
 rw [h11] at this
 exact this
theorem there_name {ps:List bC} {k:Nat} {p:bC} (h:bL ps) (hp:ps[k]? = some p):bq p.name ps=k/\b8 p.name ps=true:=by
 have gQ:=(thereN_mem h).2 ⟨p,List.mem_of_getElem? hp,rfl⟩
 obtain ⟨q,hq,hqn⟩:=(jY p.name ps).1 gQ
 have hn:=vM h
 have l1:=(List.getElem?_eq_some_iff.1 hp).1
 have l2:=(List.getElem?_eq_some_iff.1 hq).1
 refine ⟨?_,gQ⟩
 rcases Nat.lt_trichotomy (bq p.name ps) k with cz | rfl | cz
 ·have:=List.pairwise_iff_getElem.1 h _ _ l2 l1 cz
  rw [(List.getElem?_eq_some_iff.1 hq).2,(List.getElem?_eq_some_iff.1 hp).2,(lY _ _).2 hqn] at this
  omega
 ·rfl
 ·have:=List.pairwise_iff_getElem.1 h _ _ l1 l2 cz
  rw [(List.getElem?_eq_some_iff.1 hq).2,(List.getElem?_eq_some_iff.1 hp).2,(lY _ _).2 hqn.symm] at this
  omega
theorem dM.stream {R:Int} {x:BT aO} {L:List (Int×Int)} {B0 mb aj i v m:Nat} {w:World} (h:dM R x L B0 mb aj i v m w) (hi:i<=25):Calls Tryz.prog 28 #[.pointer (some ⟨mb,0,none⟩),.string nP] w fun e w'=>∃ v,e=.returned (.tuple #[v,.int .i64 0])/\w'.ownsRow w.heap.size 59 4 v i (nO x L i)/\Below w.heap.size w w':=by
 obtain ⟨⟨no,aI,ea,az,C,E,pa,aM,ps,ss,xs,dr,h1,h2,h3,h4,h5,h6,h7,h8,h9,qF,⟨h11,h11b⟩,h12⟩,hm,hwt⟩:=h
 obtain ⟨k,p,s,a1,a2,a3,a4,a5,a6,a7⟩:=h9.the
 obtain ⟨e1,e2⟩:=there_name h9.sorted a1
 rw [a2] at e1 e2
 have:=monStream_any mb nP hm h1 h9.sorted k e1 e2 s a5 (by omega) (by rw [a7];exact versL_one x L i)
 rw [a6,a7] at this
 exact this
theorem dM.start {R:Int} (hRR:0<=R/\R<=1000000000) {x:BT aO} {L:List (Int×Int)} {B0 mb aj:Nat} {w:World} (s:ByteArray) (hm:w.heap[mb]? = some (.cells #[.pointer (some ⟨aj,0,none⟩)] 104 (0,0))) (hc:w.heap[aj]? = some (.cells #[.int .i64 R,.int .i64 60,.slice none 0 0,.slice none 0 0,.slice none 0 0] 153 (0,0))) (hB:B0<=aj) (hz:s.size<=maxLen) (hg:eF w) (l9:14<=w.heap.size) (hr:cI s=(some x,0)) (hX:aV (ak x)<=1000000) (hR:0<=ax x/\ax x<=R) (hK:(dN (fun _=>x) 1).length<=40) :
  Calls Tryz.prog 27 #[.pointer (some ⟨mb,0,none⟩),.string nP,.string s] w fun e w'=>∃ r m,e=.returned (.tuple #[r,.int .i64 0])/\dM R x L B0 mb aj 0 1 m w'/\au (fun b=>B0<=b) w w':=by
 obtain ⟨⟨ea,az,C,E,dr,h1,h2,h3,_,h4,h5,h6,h8,_⟩,_,_⟩:=YInv.start (L:=L) (B0:=B0) (n:=R) hRR hm hc hB
 have h1':bj w aj R 60 none 0 (dN (ef []) ([]:List bC).length) ea az C E none 0 [] []:=h1
 have hC:C=[]:=List.length_eq_zero_iff.1 (by omega)
 subst hC
 have jh:bL []:=List.Pairwise.nil
 have hwl:=aw hc
 refine (monAdd_ok mb nP s x (xs:=[]) hm h1' jh ⟨rfl,fun j p y hj=>by simp at hj,fun y hy=>by simp at hy⟩ name_p hz hg l9 hr hX hR (fun c hc=>by simp at hc) (by decide) (by decide) 0 rfl rfl (by exact hK)).mono ?_
 rintro e w' ⟨r,rfl,sp,cj,df,no',ncap',Cs,pb',vw,hold,a1,a2,a3,a4,a5,a6,_,_⟩
 have:=dM.after (x:=x) (v:=1) (mb:=mb) h1' h2 h3 h4 h5 h6 (fun c hc=>by simp at hc) h8 hm hB ⟨no',ncap',Cs,pb',vw,a1,a2,a3,a4,a5,a6⟩ ⟨List.pairwise_singleton _ _,fun p hp=>?_,fun p hp=>?_,⟨0,fresh nP sp cj,⟨cj,.slice none 0 0,0,[]⟩,rfl,rfl,rfl,rfl,rfl,rfl,rfl⟩,fun t ht=>?_⟩ (by exact hK)
 ·exact ⟨r,_,rfl,this.1,this.2⟩
 ·simp at hp;subst hp;simp [fresh,others,nP]
 ·simp at hp;subst hp;exact ⟨by show (0:Int)<=1;decide,by show (1:Int)<=1;decide⟩
 ·simp at ht;subst ht;exact ⟨Nat.le_refl _,by show B0<=cj;omega,fun g hg=>by cases hg⟩
structure mZ (B0 mb aj:Nat) (names:List ByteArray) (m:Nat) (w:World):Prop where
 ex:∃ no aI ea az C E pa aM ps ss xs,bj w aj 1000 60 no aI (dN (ef xs) ps.length) ea az C E pa aM ps ss/\bL ps/\bP w ps xs/\((dN (ef xs) ps.length).length=m/\m<=40)/\dv ps=names/\∀ a,ea=some a->B0<=a.block
 mon:w.heap[mb]? = some (.cells #[.pointer (some ⟨aj,0,none⟩)] 104 (0,0))
 wt:B0<=aj
theorem mZ.move {B0 mb aj:Nat} {names:List ByteArray} {m:Nat} {w w':World} (h:mZ B0 mb aj names m w) (hs:au (fun _=>False) w w'):mZ B0 mb aj names m w':=by
 obtain ⟨⟨no,aI,ea,az,C,E,pa,aM,ps,ss,xs,h1,h2,h3,h4⟩,hm,hw⟩:=h
 exact ⟨⟨no,aI,ea,az,C,E,pa,aM,ps,ss,xs,h1.move hs (dn.none _ _),h2,⟨h3.len,fun j p y a b=>cU (fun k cs hk=>(hs.block k (aw hk) id).trans hk) (h3.each j p y a b),h3.fine⟩,h4⟩,hs.get hm id,hw⟩
theorem mZ.work {B0 mb aj:Nat} {names:List ByteArray} {m:Nat} {w:World} (h:mZ B0 mb aj names m w):Calls Tryz.prog 30 #[.pointer (some ⟨mb,0,none⟩)] w fun e w'=>e=.returned (.int .i64 (m:Int))/\w'=w:=by
 obtain ⟨⟨no,aI,ea,az,C,E,pa,aM,ps,ss,xs,h1,h2,h3,⟨h4,_⟩,h5⟩,hm,hw⟩:=h
 have:=monWork mb aj _ _ _ _ no (dN (ef xs) ps.length).length aI w hm h1.cell
 rw [h4] at this
 exact this
theorem mZ.gone {B0 mb aj m:Nat} {w:World} (h:mZ B0 mb aj [] m w):m=0:=by
 obtain ⟨⟨no,aI,ea,az,C,E,pa,aM,ps,ss,xs,h1,h2,h3,⟨h4,_⟩,h5,_⟩,hm,hw⟩:=h
 have hp:ps=[]:=by simpa [dv] using h5
 subst hp
 rw [<- h4]
 rfl
theorem mZ.remove {B0 mb aj:Nat} {name:ByteArray} {names:List ByteArray} {m:Nat} {w:World} (h:mZ B0 mb aj (name::names) m w) :
  Calls Tryz.prog 32 #[.pointer (some ⟨mb,0,none⟩),.string name] w fun e w'=>∃ m',e=.returned (.int .i64 0)/\mZ B0 mb aj names m' w'/\au (fun b=>B0<=b) w w'/\∀ (b:Nat) (cs:Array Value) (t:TypeId) (m:Nat×Nat),w.heap[b]? = some (.cells cs t m)->t≠153->t≠159->w'.heap[b]? = some (.cells cs t m):=by
 obtain ⟨⟨no,aI,ea,az,C,E,pa,aM,ps,ss,xs,h1,h2,h3,⟨h4,h4b⟩,h5,h8⟩,hm,hw⟩:=h
 cases ps with
 | nil=>simp [dv] at h5
 | cons p ps =>
  simp only [dv,List.map_cons,List.cons.injEq] at h5
  obtain ⟨rfl,h5⟩:=h5
  obtain ⟨e1,e2⟩:=there_name (k:=0) h2 rfl
  refine (vn mb p.name hm h1 h2 h3 (by omega) 0 e1 e2).mono ?_
  rintro e w' ⟨rfl,no',ncap',Cs,pb',vw,a1,a2,a3,a4,a5,a6⟩
  have hxl:=h3.len
  cases xs with
  | nil=>simp at hxl
  | cons x xs =>
   have hpl:(dR (ef xs) ps).length=ps.length:=by simp [dR]
   have ko:bP w' (dR (ef xs) ps) xs:=a3
   have hKl:(dN (ef xs) ps.length).length<=40:=by
    refine Nat.le_trans (KAt_sub _ (ef (x::xs)) _ (p::ps).length (fun j hj=>ko.fineAt j (by rw [ko.len,hpl];exact hj)) (fun j hj=>h3.fineAt j (by omega)) fun j hj=>⟨j+1,by simp;omega,rfl⟩) (by omega)
   refine ⟨_,rfl,⟨⟨no',ncap',ea,az,Cs,_,_,vw,dR (ef xs) ps,_,xs,by rw [hpl];exact a1,vN _ (List.pairwise_cons.1 h2).2,ko,⟨rfl,by rw [hpl];exact hKl⟩,?_,h8⟩,?_,hw⟩,?_,fun b cs t mm hb n1 n2=>?_⟩
   ·rw [<- h5]
    unfold dv dR
    apply List.ext_getElem?
    intro j
    simp only [List.getElem?_map,List.getElem?_mapIdx]
    cases ps[j]?<;>rfl
   ·refine (a6.block mb (aw hm) ?_).trans hm
    rintro (e | ⟨a,ha,e⟩)
    ·subst e;rw [h1.cell] at hm;cases hm
    ·subst ha
     obtain ⟨cg,hcg⟩:=dG h1.uC (g:=a.block) rfl
     rw [e,hm] at hcg
     cases hcg
   ·exact (au.rL a6).mono fun b _ hb=>by
     rcases hb with e | ⟨a,ha,e⟩
     ·rw [e];exact hw
     ·rw [<- e];exact h8 a ha
   ·refine (a6.block b (aw hb) ?_).trans hb
    rintro (e | ⟨a,ha,e⟩)
    ·subst e;rw [h1.cell] at hb;cases hb;exact n1 rfl
    ·subst ha
     obtain ⟨cg,hcg⟩:=dG h1.uC (g:=a.block) rfl
     rw [e,hb] at hcg
     cases hcg
     exact n2 rfl
theorem putK_pos {x:BT aO} (hg:Good x) (K:List Key):0<(aX K x).2.length:=by
 cases x with
 | nil=>exact absurd hg (by simp [Good])
 | node b o a l r =>
  have h:=(addK_num (aX (aX K l).2 r).2 ⟨a.op,a.name,a.lo,a.hi,(aX K l).1,(aX (aX K l).2 r).1⟩)
  obtain ⟨_,i,e,h2⟩:=addK_spec (aX (aX K l).2 r).2 ⟨a.op,a.name,a.lo,a.hi,(aX K l).1,(aX (aX K l).2 r).1⟩
  show 0<(mo _ _).2.length
  have:=(List.getElem?_eq_some_iff.1 h2).1
  omega
theorem dM.rest {x:BT aO} {L:List (Int×Int)} {B0 mb aj i v m:Nat} {w:World} (h:dM 1000 x L B0 mb aj i v m w):∃ names,mZ B0 mb aj names m w/\0<names.length/\names.length<=3/\0<m:=by
 obtain ⟨⟨no,aI,ea,az,C,E,pa,aM,ps,ss,xs,dr,h1,h2,h3,h4,h5,h6,h7,h8,h9,qF,⟨h11,h11b⟩,h12⟩,hm,hwt⟩:=h
 obtain ⟨k,p,s,a1,_⟩:=h9.the
 have hkl:=(List.getElem?_eq_some_iff.1 a1).1
 have hfew:=h9.few
 refine ⟨dv ps,⟨⟨no,aI,ea,az,C,E,pa,aM,ps,ss,xs,h1,h9.sorted,qF,⟨h11,h11b⟩,rfl,h8⟩,hm,hwt⟩,by simp [dv];omega,by simp [dv];omega,?_⟩
 have hm1:=KAt_mono (ef xs) 1 (ps.length-1)
 rw [show 1+(ps.length-1)=ps.length by omega] at hm1
 have hg0:Good (ef xs 0):=(qF.fineAt 0 (by rw [qF.len];omega)).1
 have:=putK_pos (cA hg0) (dN (ef xs) 0)
 have e:(dN (ef xs) 1)=(aX (dN (ef xs) 0) (ak (ef xs 0))).2:=rfl
 rw [<- e] at this
 omega
theorem mZ.list {B0 mb aj:Nat} {names:List ByteArray} {m:Nat} {w:World} (h:mZ B0 mb aj names m w):Calls Tryz.prog 33 #[.pointer (some ⟨mb,0,none⟩)] w fun e w'=>∃ v,e=.returned v/\w'.ownsRow w.heap.size 9 1 v names.length (fH names)/\Below w.heap.size w w':=by
 obtain ⟨⟨no,aI,ea,az,C,E,pa,aM,ps,ss,xs,h1,h2,h3,⟨h4,_⟩,h5,_⟩,hm,hw⟩:=h
 subst h5
 have:=monList mb hm h1
 have hl:(dv ps).length=ps.length:=by simp [dv]
 rw [hl]
 exact this
end Ev
namespace Ev
open Go.RowKit Go.Deep Go.Maps Lf Go.Conc
theorem start_H {x:BT aO} {L:List (Int×Int)} {B0 mb aj:Nat} {w:World} (s:ByteArray) (hm:w.heap[mb]? = some (.cells #[.pointer (some ⟨aj,0,none⟩)] 104 (0,0))) (hc:w.heap[aj]? = some (.cells #[.int .i64 1000,.int .i64 60,.slice none 0 0,.slice none 0 0,.slice none 0 0] 153 (0,0))) (hB:B0<=aj) (hz:s.size<=maxLen) (hg:eF w) (l9:14<=w.heap.size) (hr:cI s=(some x,0)) (hX:aV (ak x)<=1000000) (hR:0<=ax x/\ax x<=1000) (hK:(dN (fun _=>x) 1).length<=40) :
  bZ Tryz.prog 27 #[.pointer (some ⟨mb,0,none⟩),.string nP,.string s] w fun e w'=>∃ r m,e=.returned (.tuple #[r,.int .i64 0])/\dM 1000 x L B0 mb aj 0 1 m w'/\au (fun b=>B0<=b) w w':=by
 refine lift ?_ ?_ fun τ d=>(dM.start (by decide) (L:=L) (w:=re w τ d) s hm hc hB hz (glob_tape hg τ d) l9 hr hX hR hK).mono ?_
 ·rintro e w' τ d ⟨r,m,h1,h2,h3⟩
  exact ⟨r,m,h1,h2.aU τ d,h3.aU τ d⟩
 ·rintro w' ⟨r,m,h1,_⟩
  cases h1
 ·rintro e w' ⟨r,m,h1,h2,h3⟩
  exact ⟨r,m,h1,h2,h3.untape⟩
end Ev
end Go.Proofs.YtpbbmagjhkakgaaGreatDoor
