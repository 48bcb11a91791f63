import Derived.Test.YtpbbmagjhkakgaaGreatDoorEdInvToSnRound
import Derived.Test.YtpbbmagjhkakgaaGreatDoorEaBackToEaAdd
import Derived.Test.YtpbbmagjhkakgaaGreatDoorEaTopToSnHelp
namespace Go.Proofs.YtpbbmagjhkakgaaGreatDoor
namespace Ev
open Go.RowKit Go.Deep Go.Maps Lf Go.Conc
theorem versL_get (x:BT aO) (L:List (Int×Int)):∀ (n j:Nat),j<n->(nO x L n)[j*4]? = some (.int .i64 ((j:Int)+1))/\(nO x L n)[j*4+2]? = some (.int .i64 1)/\(nO x L n)[j*4+3]? = some (.bool (verZ x L j))
 | 0,_,h=>absurd h (Nat.not_lt_zero _)
 | n+1,j,h=>by
  have hl:=versL_len x L n
  unfold nO
  by_cases hj:j<n
  ·have:=versL_get x L n j hj
   rw [List.getElem?_append_left (by omega),List.getElem?_append_left (by omega),List.getElem?_append_left (by omega)]
   exact this
  ·obtain rfl:j=n:=by omega
   rw [List.getElem?_append_right (by omega),List.getElem?_append_right (by omega),List.getElem?_append_right (by omega),hl]
   have e1:j*4-j*4=0:=by omega
   have e2:j*4+2-j*4=2:=by omega
   have e3:j*4+3-j*4=3:=by omega
   rw [e1,e2,e3]
   exact ⟨rfl,rfl,rfl⟩
theorem verS_size (x:BT aO) (L:List (Int×Int)):∀ n,(eL x L n).size=n
 | 0=>rfl
 | n+1=>by
  unfold eL
  rw [ByteArray.size_append,verS_size x L n]
  split<;>rfl
noncomputable def rest21:Code:=match iZ with
 | .seq _ (.seq _ (.seq _ (.seq _ (.seq _ (.seq _ (.seq _ x))))))=>x
 | _=>.skip
noncomputable def zero21:Code:=match iZ with
 | .seq _ (.seq _ (.seq _ (.seq _ (.seq _ (.seq _ (.seq (.seq x _) _))))))=>x
 | _=>.skip
noncomputable def pre21:List Code:=match iZ with
 | .seq a (.seq b (.seq c (.seq d (.seq e (.seq f _)))))=>[a,b,c,d,e,f]
 | _=>[]
theorem glob_tape {w:World} (hg:eF w) (τ:Tape) (d:Nat):eF (re w τ d):=⟨⟨hg.conv.syn,hg.conv.rng⟩,hg.ns,hg.et,hg.tab⟩
def iE (x:BT aO) (L:List (Int×Int)) (w0:World) (e:Ending) (w':World):Prop:=e=.returned (.tuple #[.string (eL x L (min L.length 25)),.bool true])/\au (fun _=>False) w0 w'
end Ev
namespace Ev
open Go.RowKit Go.Deep Go.Maps Lf
theorem judL_hap (K:List Key) (E:List Pe):∀ j,j<=E.length->(gS K E j).map Pe.jD=(E.take j).map Pe.jD
 | 0,_=>by simp [gS]
 | j+1,h=>by
  obtain ⟨_,w2,w3,_⟩:=eZ (gS K E j).reverse K (E.getD j pe0).bare
  have hj:E[j]? = some E[j]:=List.getElem?_eq_getElem (by omega)
  rw [gS,List.map_append,judL_hap K E j (by omega),List.take_add_one,hj,List.map_append]
  congr 1
  simp only [List.map_cons,List.map_nil,Option.toList_some,List.cons.injEq,and_true]
  have hd:E.getD j pe0=E[j]:=by rw [List.getD_eq_getElem?_getD,hj];rfl
  unfold Pe.jD
  rw [w2,w3,hd]
  rfl
theorem judL_ok (K:List Key) (E:List Pe) (dr:List uj):∀ j,kA K dr (gS K E j).reverse
 | 0=>trivial
 | j+1=>by
  rw [gS,List.reverse_append]
  exact ug (judL_ok K E dr j) _
theorem Run.judged {L:List (Int×Int)} {K0:List Key} {i:Nat} {E:List Pe} {dr:List uj} (h:Run L K0 i E dr) (K:List Key):Run L K i (gS K E E.length) dr:=by
 refine ⟨?_,judL_ok K E dr _⟩
 rw [List.map_reverse,judL_hap K E _ (Nat.le_refl _),List.take_length,<- List.map_reverse]
 exact h.hist
structure YInv (L:List (Int×Int)) (B0 mb aj:Nat) (n:Int) (i:Nat) (w:World):Prop where
 ex:∃ ea az C E dr,bj w aj n 60 none 0 [] ea az C E none 0 [] []/\Run L [] i E dr/\(∀ d∈dr,d.1<aW L i-n)/\(∀ e∈E,aW L i-n<=e.time)/\C.length<=i/\(C=[]->i=0)/\(∀ c,C.getLast? = some c->c.number=i/\c.time=aW L i)/\(∀ a,ea=some a->B0<=a.block)/\(∀ (j:Nat) c,C[j]? = some c->c.number=(i:Int)+1+j-C.length)
 mon:w.heap[mb]? = some (.cells #[.pointer (some ⟨aj,0,none⟩)] 104 (0,0))
 wt:B0<=aj
theorem YInv.start {L:List (Int×Int)} {B0 mb aj:Nat} {n:Int} {w:World} (hn:0<=n/\n<=1000000000) (h1:w.heap[mb]? = some (.cells #[.pointer (some ⟨aj,0,none⟩)] 104 (0,0))) (h2:w.heap[aj]? = some (.cells #[.int .i64 n,.int .i64 60,.slice none 0 0,.slice none 0 0,.slice none 0 0] 153 (0,0))) (hB:B0<=aj):YInv L B0 mb aj n 0 w:=by
 refine ⟨⟨none,0,[],[],[],?_,Run.start L _,by simp,by simp,by simp,by simp,by simp,by simp,by simp⟩,h1,hB⟩
 exact { cell:=h2,uC:=World.ownsRow_nil _ _ _ _,len:=rfl,ins:=by simp,typed:=by simp,few:=by simp,ret:=hn,nums:=by simp,nfew:=by simp,ncp:=by simp,nodes:=fun h=>absurd rfl h,oc:=by simp,core:=by simp,ahead:=fun i k hk=>by simp at hk,rows:=by simp,oX:=.inl ⟨rfl,rfl,rfl⟩,tW:=by simp,pcp:=by simp,vz:=rfl,pstr:=by simp,sok:=by simp,apart:=fun i j s t hs=>by simp at hs,pnode:=by simp }
def nP:ByteArray:=⟨#[112]⟩
def others:List ByteArray:=[⟨#[112]⟩,⟨#[113,114]⟩,⟨#[113,115]⟩]
structure kz (x:BT aO) (L:List (Int×Int)) (B0 i v:Nat) (ps:List bC) (ss:List bt) (xs:List (BT aO)):Prop where
 sorted:bL ps
 names:∀ p∈ps,p.name∈others
 cu:∀ p∈ps,0<=p.cu/\p.cu<=v
 the:∃ (k:Nat) (p:bC) (s:bt),ps[k]? = some p/\p.name=nP/\p.cu=1/\xs[k]? = some x/\ss[k]? = some s/\s.n=i/\s.xs=nO x L i
 cG:∀ s∈ss,s.n<=i/\B0<=s.cj/\∀ g,s.sv.ownBlock=some g->B0<=g
structure dM (R:Int) (x:BT aO) (L:List (Int×Int)) (B0 mb aj i v m:Nat) (w:World):Prop where
 ex:∃ no aI ea az C E pa aM ps ss xs dr,bj w aj R 60 no aI (dN (ef xs) ps.length) ea az C E pa aM ps ss/\Run L (dN (ef xs) ps.length) i E dr/\(∀ d∈dr,d.1<aW L i-R)/\C.length<=i/\(C=[]->i=0)/\(∀ c,C.getLast? = some c->c.number=i/\c.time=aW L i)/\(∀ c∈C,0<=c.time/\c.time<=1000000000000)/\(∀ a,ea=some a->B0<=a.block)/\
  kz x L B0 i v ps ss xs/\bP w ps xs/\((dN (ef xs) ps.length).length=m/\m<=40)/\∀ (j:Nat) (p:bC),ps[j]? = some p->(p.node:Int)=nAt (ef xs) j
 mon:w.heap[mb]? = some (.cells #[.pointer (some ⟨aj,0,none⟩)] 104 (0,0))
 wt:B0<=aj
theorem dM.aU {R:Int} {x:BT aO} {L:List (Int×Int)} {B0 mb aj i v m:Nat} {w:World} (h:dM R x L B0 mb aj i v m w) (τ:Tape) (d:Nat):dM R x L B0 mb aj i v m (re w τ d):=by
 obtain ⟨⟨no,aI,ea,az,C,E,pa,aM,ps,ss,xs,dr,h1,h2,h3,h4,h5,h6,h7,h8,h9,qF,h11⟩,hm,hw⟩:=h
 exact ⟨⟨no,aI,ea,az,C,E,pa,aM,ps,ss,xs,dr,h1.aU τ d,h2,h3,h4,h5,h6,h7,h8,h9,⟨qF.len,fun j p y a b=>cU (w:=w) (w':=re w τ d) (fun _ _ hk=>hk) (qF.each j p y a b),qF.fine⟩,h11⟩,hm,hw⟩
theorem vN (X:Nat->BT aO) {qs:List bC} (h:bL qs):bL (dR X qs):=by
 refine List.pairwise_iff_getElem.2 fun a b ha hb hab=>?_
 obtain ⟨q1,e1,f1⟩:=ma (List.getElem?_eq_getElem ha)
 obtain ⟨q2,e2,f2⟩:=ma (List.getElem?_eq_getElem hb)
 rw [f1,f2]
 have l1:=(List.getElem?_eq_some_iff.1 e1).1
 have l2:=(List.getElem?_eq_some_iff.1 e2).1
 have:=List.pairwise_iff_getElem.1 h a b l1 l2 hab
 rw [(List.getElem?_eq_some_iff.1 e1).2,(List.getElem?_eq_some_iff.1 e2).2] at this
 exact this
theorem polInv_polsN {x:BT aO} {L:List (Int×Int)} {B0 i v:Nat} {qs:List bC} {ss:List bt} {xs:List (BT aO)} (X:Nat->BT aO) (h:kz x L B0 i v qs ss xs):kz x L B0 i v (dR X qs) ss xs:=by
 refine ⟨vN X h.sorted,fun p hp=>?_,fun p hp=>?_,?_,h.cG⟩
 ·obtain ⟨j,hj⟩:=List.mem_iff_getElem?.1 hp
  obtain ⟨q,e,rfl⟩:=ma hj
  exact h.names q (List.mem_of_getElem? e)
 ·obtain ⟨j,hj⟩:=List.mem_iff_getElem?.1 hp
  obtain ⟨q,e,rfl⟩:=ma hj
  exact h.cu q (List.mem_of_getElem? e)
 ·obtain ⟨k,p,s,a1,a2,a3,a4⟩:=h.the
  refine ⟨k,{ p with node:=(nAt X k).toNat },s,?_,a2,a3,a4⟩
  unfold dR
  rw [List.getElem?_mapIdx,a1]
  rfl
theorem dM.after {R:Int} {x:BT aO} {L:List (Int×Int)} {B0 mb aj i v:Nat} {w w':World} {no0:Option Addr} {vp:Nat} {K0:List Key} {ea:Option Addr} {az:Nat} {C:List bx} {E:List Pe} {pa:Option Addr} {aM:Nat} {ps:List bC} {ss0:List bt} {dr:List uj} {xs:List (BT aO)} {qs:List bC} {ss:List bt}
  (h1:bj w aj R 60 no0 vp K0 ea az C E pa aM ps ss0) (h2:Run L K0 i E dr) (h3:∀ d∈dr,d.1<aW L i-R) (h4:C.length<=i) (h5:C=[]->i=0) (h6:∀ c,C.getLast? = some c->c.number=i/\c.time=aW L i) (h7:∀ c∈C,0<=c.time/\c.time<=1000000000000) (h8:∀ a,ea=some a->B0<=a.block) (hm:w.heap[mb]? = some (.cells #[.pointer (some ⟨aj,0,none⟩)] 104 (0,0))) (hw:B0<=aj)
  (hA:After aj R 60 ea az C E xs qs ss w w') (hP:kz x L B0 i v qs ss xs) (hK:(dN (ef xs) qs.length).length<=40):dM R x L B0 mb aj i v (dN (ef xs) qs.length).length w'/\au (fun b=>B0<=b) w w':=by
 obtain ⟨no,aI,Cs,pb,vw,a1,a2,a3,a4,a5,a6⟩:=hA
 have hpl:(dR (ef xs) qs).length=qs.length:=by simp [dR]
 have hlE:C.length=E.length:=h1.len
 have fD:∀ (j:Nat) c,Cs[j]? = some c->∃ c0,C[j]? = some c0/\c.number=c0.number/\c.time=c0.time:=fun j c hc=>by
  have hl:=(List.getElem?_eq_some_iff.1 hc).1
  have h0:C[j]? = some C[j]:=List.getElem?_eq_getElem (by omega)
  exact ⟨_,h0,a5 j c _ hc h0⟩
 have dQ:=h2.judged (dN (ef xs) qs.length)
 rw [<- hlE] at dQ
 refine ⟨⟨⟨no,aI,ea,az,Cs,_,_,vw,dR (ef xs) qs,ss,xs,dr,by rw [hpl];exact a1,by rw [hpl];exact dQ,h3,by omega,fun e=>h5 (List.length_eq_zero_iff.1 (by rw [<- a4,e];rfl)),fun c hc=>?_,fun c hc=>?_,h8,polInv_polsN _ hP,a3,by rw [hpl];exact ⟨rfl,hK⟩,fun j p hj=>?_⟩,?_,hw⟩,?_⟩
 ·have uY:Cs[Cs.length-1]? = some c:=by rw [<- List.getLast?_eq_getElem?];exact hc
  obtain ⟨c0,e0,e1,e2⟩:=fD _ c uY
  rw [a4,<- List.getLast?_eq_getElem?] at e0
  rw [e1,e2]
  exact h6 c0 e0
 ·obtain ⟨j,hj⟩:=List.mem_iff_getElem?.1 hc
  obtain ⟨c0,e0,_,e2⟩:=fD j c hj
  rw [e2]
  exact h7 c0 (List.mem_of_getElem? e0)
 ·obtain ⟨q,_,rfl⟩:=ma hj
  exact Int.toNat_of_nonneg (mQ _ _)
 ·refine (a6.block mb (aw hm) ?_).trans hm
  rintro (e | ⟨a,ha,e⟩)
  ·subst e;rw [h1.cell] at hm;cases hm
  ·subst ha
   obtain ⟨cg,hcg⟩:=dG h1.uC (g:=a.block) rfl
   rw [e,hm] at hcg
   cases hcg
 ·exact (au.rL a6).mono fun b _ hb=>by
   rcases hb with e | ⟨a,ha,e⟩
   ·rw [e];exact hw
   ·rw [<- e];exact h8 a ha
theorem xAt_get {xs:List (BT aO)} {x:BT aO} {k:Nat} (h:xs[k]? = some x):ef xs k=x:=by
 unfold ef
 rw [List.getD_eq_getElem?_getD,h]
 rfl
theorem dM.event {R:Int} {x:BT aO} {L:List (Int×Int)} {B0 mb aj i v m:Nat} {w:World} (h:dM R x L B0 mb aj i v m w) (gG:ax (ak x)<=R) (hi:i<25) (ao:Option Addr) (cap:Nat)
  (hA:eI w ao (jZ L i)) (cW:(jZ L i).length<=cap) :
  bZ Tryz.prog 24 #[.pointer (some ⟨mb,0,none⟩),.int .i64 (aW L (i+1)),.slice ao (jZ L i).length cap] w fun e W'=>e=.returned (.int .i64 0)/\dM R x L B0 mb aj (i+1) v m W'/\au (fun b=>B0<=b) w W':=by
 obtain ⟨⟨no,aI,ea,az,C,E,pa,aM,ps,ss,xs,dr,h1,h2,h3,h4,h5,h6,h7,h8,h9,qF,h11,h12⟩,hm,hwt⟩:=h
 have hT:=nN L (i+1)
 have hTs:=timeZ_step L i
 have hpk:=bB (L.getD i (0,0)).2 8 (by decide)
 have nh:eQ C=(i:Int)+1:=by
  unfold eQ
  cases hc:C.getLast? with
  | none=>have:=h5 (List.getLast?_eq_none_iff.1 hc);simp [this]
  | some c=>simp [(h6 c hc).1]
 obtain ⟨k,hk⟩:∃ k,nj (aW L (i+1)-R) C=k:=⟨_,rfl⟩
 have hkn:k<=C.length:=by rw [<- hk];exact oldF_le _ _
 have hdr:∀ d∈(E.take k).reverse.map Pe.jD++dr,d.1<aW L (i+1)-R:=by
  intro d hd
  rcases List.mem_append.1 hd with hd | hd
  ·obtain ⟨e,he,rfl⟩:=List.mem_map.1 hd
   obtain ⟨j,hj⟩:=List.mem_iff_getElem?.1 (List.mem_reverse.1 he)
   rw [List.getElem?_take] at hj
   split at hj
   ·rename_i n9
    have hjc:j<C.length:=by omega
    have tP:=h1.ins j C[j] e (List.getElem?_eq_getElem hjc) hj
    have cz:=oldF_lt (aW L (i+1)-R) C j C[j] (List.getElem?_eq_getElem hjc) (by omega)
    show e.time<_
    rw [<- tP.time]
    exact cz
   ·cases hj
  ·have:=h3 d hd;omega
 have js:=event_drop h1 (aW L (i+1)) ao (jZ L i) cap (by omega) (fun c hc=>by rw [(h6 c hc).2];omega) k hk (by omega) hA
  (Nat.le_trans (qN _ 3) (by decide)) cW (atoms_names _) (atoms_once _ (by omega)) (by omega) (by omega) (fun t ht=>by have:=(h9.cG t ht).1;omega)
 refine (monEvent hm (D:=fun W'=>dM R x L B0 mb aj (i+1) v m W'/\au (fun b=>B0<=b) w W') (fun w τ d x=>⟨x.1.aU τ d,x.2.aU τ d⟩) (js.mono ?_))
 rintro e W' ⟨rfl,c,ea',ecap',ss',k1,k2,k3,k4,k5,k6⟩
 refine ⟨rfl,?_⟩
 have hwl:=aw h1.cell
 have cE:∀ b,Own46 aj ea ss b->B0<=b:=by
  rintro b (rfl | ⟨a,e1,rfl⟩ | ⟨s',qp,e1 | e1⟩)
  ·exact hwt
  ·exact h8 a e1
  ·rw [e1];exact (h9.cG s' qp).2.1
  ·exact (h9.cG s' qp).2.2 b e1
 have hkind:∀ b,Own46 aj ea ss b->∃ cs t m,w.heap[b]? = some (.cells cs t m)/\(t=153\/t=159\/t=177\/t=59):=by
  rintro b (e | ⟨a,e1,e2⟩ | hM)
  ·subst e;exact ⟨_,_,_,h1.cell,.inl rfl⟩
  ·have hb:(Value.slice ea C.length az).ownBlock=some b:=by rw [e1];rw [<- e2];rfl
   obtain ⟨cs,bn⟩:=dG h1.uC hb
   exact ⟨_,_,_,bn,.inr (.inl rfl)⟩
  ·obtain ⟨cs,t',ht',e | e⟩:=Ms.tag h1.sok hM
   ·exact ⟨_,_,_,ht',.inr (.inr (.inl e))⟩
   ·exact ⟨_,_,_,ht',.inr (.inr (.inr e))⟩
 have hsr:au (fun b=>B0<=b) w W':=k4.mono fun b _ hb=>cE b hb
 have hback:∀ (j:Nat) t,ss'[j]? = some t->∃ s p,ss[j]? = some s/\ps[j]? = some p:=fun j t ht=>by
  have l1:=(List.getElem?_eq_some_iff.1 ht).1
  rw [k1.vz] at l1
  exact ⟨_,_,List.getElem?_eq_getElem (by rw [h1.vz];exact l1),List.getElem?_eq_getElem l1⟩
 refine ⟨⟨⟨no,aI,ea',ecap',C.drop k++[c],_,pa,aM,ps,ss',xs,(E.take k).reverse.map Pe.jD++dr,k1,(h2.drop k).next (eQ C),hdr,by simp;omega,fun e=>by simp at e,fun c' uY=>?_,fun c' uY=>?_,fun a ha=>?_,⟨h9.sorted,h9.names,h9.cu,?_,fun t ht=>?_⟩,⟨qF.len,fun j p y hj hy=>?_,qF.fine⟩,h11,h12⟩,?_,hwt⟩,hsr⟩
 ·simp at uY
  subst uY
  exact ⟨by rw [k3,nh];simp,k2⟩
 ·rcases List.mem_append.1 uY with h | h
  ·exact h7 c' (List.mem_of_mem_drop h)
  ·simp at h;subst h;omega
 ·rcases k5 a ha with ⟨a0,e1,e2⟩ | e
  ·rw [<- e2];exact h8 a0 e1
  ·omega
 ·obtain ⟨q,p,s,a1,a2,a3,a4,a5,a6,a7⟩:=h9.the
  obtain ⟨t,t0,t1,t2,t3,t4⟩:=k6 q s p a5 a1
  refine ⟨q,p,t,a1,a2,a3,a4,t0,by rw [t2,a6],?_⟩
  have hql:=(List.getElem?_eq_some_iff.1 a1).1
  have hnd:=KAt_num (ef xs) ps.length q hql
  rw [xAt_get a4] at hnd
  have hgd:Good x:=(qF.fine x (List.mem_of_getElem? a4)).1.1
  rw [t3,a7,h12 q p a1,(h2.drop k).says (eQ C) hgd hnd (fun d hd=>by have:=hdr d hd;omega),nh,a3]
  rfl
 ·obtain ⟨j,hj⟩:=List.mem_iff_getElem?.1 ht
  obtain ⟨s,p,g1,g2⟩:=hback j t hj
  obtain ⟨t',t0,t1,t2,_,t4⟩:=k6 j s p g1 g2
  rw [hj] at t0
  cases t0
  obtain ⟨b1,b2,b3⟩:=h9.cG s (List.mem_of_getElem? g1)
  refine ⟨by rw [t2];omega,by rw [t1];exact b2,fun g hg=>?_⟩
  rcases t4 with e | ⟨g',e1,e2⟩
  ·exact b3 g (e▸hg)
  ·rw [e1] at hg;cases hg;omega
 ·refine cU (fun q cs hq=>?_) (qF.each j p y hj hy)
  refine (k4.block q (aw hq) fun hO=>?_).trans hq
  obtain ⟨cs',t',m',e1,e2⟩:=hkind q hO
  rw [hq] at e1
  cases e1
  rcases e2 with e | e | e | e<;>cases e
 ·refine (k4.block mb (aw hm) fun hO=>?_).trans hm
  obtain ⟨cs',t',m',e1,e2⟩:=hkind mb hO
  rw [hm] at e1
  cases e1
  rcases e2 with e | e | e | e<;>cases e
end Ev
end Go.Proofs.YtpbbmagjhkakgaaGreatDoor
