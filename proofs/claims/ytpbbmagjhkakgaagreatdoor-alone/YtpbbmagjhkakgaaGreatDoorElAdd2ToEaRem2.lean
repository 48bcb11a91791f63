import Derived.Test.YtpbbmagjhkakgaaGreatDoorEvAddToEvAdd2
import Derived.Test.YtpbbmagjhkakgaaGreatDoorElJudgeToEdEvent
import Derived.Test.YtpbbmagjhkakgaaGreatDoorEvStateToEaMany
import Derived.Test.YtpbbmagjhkakgaaGreatDoorEaPolToSnReach
import Derived.Test.YtpbbmagjhkakgaaGreatDoorEeNoToSnAtoms
namespace Go.Proofs.YtpbbmagjhkakgaaGreatDoor
namespace Ev
open Go.RowKit Go.Deep Go.Maps Lf
def JudgedAt (aj:Nat) (ai room:Int) (ea:Option Addr) (az:Nat) (C:List bx) (E:List Pe) (K:List Key) (V:World) (nn:Value) (w':World):Prop :=
 ∃ (no:Option Addr) (aI:Nat) (pv:Value) (Cs:List bx),nn=.slice no K.length aI/\K.length<=aI/\eB w' no K/\(∀ a,no=some a->∃ cs m,w'.heap[a.block]? = some (.cells cs 226 m))/\(∃ nv,V.heap[aj]? = some (.cells #[.int .i64 ai,.int .i64 room,nv,.slice ea C.length az,pv] 153 (0,0)))/\
  w'.heap[aj]? = some (.cells #[.int .i64 ai,.int .i64 room,nn,.slice ea C.length az,pv] 153 (0,0))/\bY w' (.slice ea C.length az) Cs/\Cs.length=C.length/\(∀ (i:Nat) c c0,Cs[i]? = some c->C[i]? = some c0->c.number=c0.number/\c.time=c0.time)/\
  (∀ (i:Nat) c e,Cs[i]? = some c->(gS K E C.length)[i]? = some e->cZ w' c e)/\(∀ c∈Cs,EvT w' c)/\aY (fun b=>b=aj\/∃ a,ea=some a/\a.block=b) V w'
theorem KAt_ahead (X:Nat->BT aO):∀ n,qg (dN X n)
 | 0=>fun i k hk=>by simp [dN] at hk
 | n+1=>(vC (ak (X n)) (dN X n) (KAt_ahead X n)).1
theorem KAt_core (X:Nat->BT aO):∀ n,(∀ j,j<n->Good (X j))->∀ k∈dN X n,ib k.op
 | 0,_=>fun k hk=>by simp [dN] at hk
 | n+1,h=>cored_ops (ak (X n)) (dN X n) (mr (h n (by omega))) (.inl (cA (h n (by omega)))) (KAt_core X n fun j hj=>h j (by omega))
theorem KAt_num (X:Nat->BT aO):∀ n j,j<n->nR (dN X n) (ak (X j)) (nAt X j)
 | 0,j,h=>by omega
 | n+1,j,h=>by
  by_cases hj:j<n
  ·obtain ⟨M,hM⟩:=vD (ak (X n)) (dN X n)
   have:=(KAt_num X n j hj).mono M
   show nR (aX (dN X n) (ak (X n))).2 _ _
   rw [hM]
   exact this
  ·obtain rfl:j=n:=by omega
   exact (vC (ak (X j)) (dN X j) (KAt_ahead X j)).2
theorem judgedK (aj pb:Nat) (ai room:Int) {no0:Option Addr} {vp:Nat} {K0:List Key} (ea:Option Addr) (az:Nat) (C:List bx) (E:List Pe) {pa:Option Addr} {aM:Nat} {ps:List bC} {ss:List bt} (K:List Key) (hK:K.length<=40) (hcore:∀ k∈K,ib k.op) (hah:qg K) (w:World) (h:bj w aj ai room no0 vp K0 ea az C E pa aM ps ss) {arr0:Array Value} (um:w.heap[pb]? = some (.cells arr0 183 (0,0))) (V:World) (nn nv pv:Value) (bT:V.ownsRow w.heap.size 226 6 nn K.length (gh K)) (hV:V.heap[aj]? = some (.cells #[.int .i64 ai,.int .i64 room,nv,.slice ea C.length az,pv] 153 (0,0))) (hs:aY (fun b=>b=aj\/b=pb) w V) :
  Calls Tryz.prog 142 #[.pointer (some ⟨aj,0,none⟩),nn] V fun e w'=>e=.returned (.tuple #[])/\JudgedAt aj ai room ea az C E K V nn w':=by
 obtain ⟨no,aI,rfl,n1,n2,n3⟩:=nodes_of_row bT
 have hkd:∀ ts,(153:TypeId) ∉ ts->(183:TypeId) ∉ ts->dn w (fun b=>b=aj\/b=pb) ts:=fun ts h1 h1' b cs t m h2 h3 e=>by
  rcases e with e | e
  ·subst e
   rw [h.cell] at h2
   cases h2
   exact h1 h3
  ·subst e
   rw [um] at h2
   cases h2
   exact h1' h3
 have hsr:au (fun b=>b=aj\/b=pb) w V:=au.rL hs
 have hEV:bY V (.slice ea C.length az) C:=h.uC.move hsr (hkd _ (by decide) (by decide))
 rcases hEV.cases with ⟨e1,e2⟩ | ⟨g,cp,e1,e2,_,hgl⟩
 ·subst e2
  cases e1
  refine (judge0_any aj (.int .i64 ai) (.int .i64 room) nv pv (.slice no K.length aI) no _ aI rfl V hV).mono ?_
  rintro e w' ⟨rfl,k1,k2⟩
  have kT:aY (fun b=>b=aj\/∃ a,(none:Option Addr)=some a/\a.block=b) V w':=aY.kg k2 (fun x hx=>.inl hx)
  have hnw:∀ a,no=some a->¬ (a.block=aj\/∃ a',(none:Option Addr)=some a'/\a'.block=a.block):=by
   rintro a ha (e | ⟨_,e,_⟩)
   ·obtain ⟨_,cs,m,k⟩:=n3 a ha;rw [e,hV] at k;cases k
   ·cases e
  refine ⟨rfl,no,aI,pv,[],rfl,n1,n2.spare kT hnw,fun a ha=>?_,⟨_,hV⟩,k1,World.ownsRow_nil _ _ _ _,rfl,by simp,by simp,by simp,kT⟩
  obtain ⟨_,cs,m,k⟩:=n3 a ha
  exact ⟨cs,m,(kT.block _ (aw k) (hnw a ha)).trans k⟩
 ·cases e1
  refine (judge_any aj (.int .i64 ai) (.int .i64 room) nv pv no aI K g az C E V hV hEV h.len (fun i c e hc he=>(h.ins i c e hc he).move (h.typed c (List.mem_of_getElem? hc)) hsr (hkd _ (by decide) (by decide))) (fun c hc=>(h.typed c hc).move hsr (hkd _ (by decide) (by decide))) h.few (by omega) n1 n2 (fun a ha=>(n3 a ha).2) hcore hah).mono ?_
  rintro e w' ⟨rfl,Cs,hI⟩
  have kT:aY (fun b=>b=aj\/∃ a,(some ⟨g,0,none⟩:Option Addr)=some a/\a.block=b) V w':=hI.sp.mono (fun b _ hb=>by rcases hb with e | e;exact .inl e;exact .inr ⟨_,rfl,e.symm⟩)
  obtain ⟨cg0,hg0⟩:=dG hEV (g:=g) rfl
  have hnw:∀ a,no=some a->¬ (a.block=aj\/a.block=g):=by
   rintro a ha (e | e)
   ·obtain ⟨_,cs,m,k⟩:=n3 a ha;rw [e,hV] at k;cases k
   ·obtain ⟨_,cs,m,k⟩:=n3 a ha;rw [e,hg0] at k;cases k
  refine ⟨rfl,no,aI,pv,Cs,rfl,n1,n2.spare hI.sp hnw,fun a ha=>?_,⟨_,hV⟩,hI.hw,hI.uC,hI.len,fun i c c0 h1 h2=>⟨(hI.same i c c0 h1 h2).1,(hI.same i c c0 h1 h2).2.1⟩,fun i c e h1 h2=>hI.done i c e ?_ h1 h2,hI.typed,kT⟩
  ·obtain ⟨_,cs,m,k⟩:=n3 a ha
   exact ⟨cs,m,(hI.sp.block _ (aw k) (hnw a ha)).trans k⟩
  ·have:=(List.getElem?_eq_some_iff.1 h1).1
   rw [hI.len] at this
   exact this
def SettledAt (aj pb aM:Nat) (ai room:Int) (ea:Option Addr) (az:Nat) (C:List bx) (E:List Pe) (X:Nat->BT aO) (qs:List bC) (ss:List bt) (w w':World):Prop :=
 ∃ (no:Option Addr) (aI:Nat) (Cs:List bx) (arr:Array Value),bj w' aj ai room no aI (dN X qs.length) ea az Cs (gS (dN X qs.length) E C.length) (some ⟨pb,0,none⟩) aM (dR X qs) ss/\w'.heap[pb]? = some (.cells arr 183 (0,0))/\b5 arr 0 (dR X qs)/\Cs.length=C.length/\(∀ (i:Nat) c c0,Cs[i]? = some c->C[i]? = some c0->c.number=c0.number/\c.time=c0.time)/\aY (fun b=>b=aj\/b=pb\/∃ a,ea=some a/\a.block=b) w w'
theorem settleW (aj pb aM:Nat) (ai room:Int) {no0:Option Addr} {vp:Nat} {K0:List Key} (ea:Option Addr) (az:Nat) (C:List bx) (E:List Pe) {pa:Option Addr} {pcap0:Nat} {ps:List bC} {ss0:List bt} (X:Nat->BT aO) (qs:List bC) (ss:List bt) (arr:Array Value) (w:World) (h:bj w aj ai room no0 vp K0 ea az C E pa pcap0 ps ss0)
  (um:w.heap[pb]? = some (.cells arr 183 (0,0))) (hP:b5 arr 0 qs) (hq:qs.length<=1000) (cW:qs.length<=aM) (hS:∀ (j:Nat) (p:bC),qs[j]? = some p->aC 143 0 w (X j) (.pointer p.bV)/\Good (X j)/\aV (ak (X j))<=1000000) (hK:(dN X qs.length).length<=40)
  (hsl:ss.length=qs.length) (df:∀ (i:Nat) (s:bt) (p:bC),ss[i]? = some s->qs[i]? = some p->p.cG=some ⟨s.cj,0,none⟩) (hsk:∀ s∈ss,eG w s) (jD:Apart ss) :
  Calls Tryz.prog 98 #[.pointer (some ⟨aj,0,none⟩),.slice (some ⟨pb,0,none⟩) qs.length aM] w fun e w'=>e=.returned .nilIface/\SettledAt aj pb aM ai room ea az C E X qs ss w w':=by
 have hgd:∀ j,j<qs.length->Good (X j):=fun j hj=>(hS j _ (List.getElem?_eq_getElem hj)).2.1
 have hcore:=KAt_core X qs.length hgd
 have hah:=KAt_ahead X qs.length
 refine (settle_ok aj pb aM (.int .i64 ai) (.int .i64 room) _ (.slice ea C.length az) pa ps.length pcap0 arr qs X w (JudgedAt aj ai room ea az C E (dN X qs.length)) h.cell um hP hq cW hS hK (fun V nn gV h1 h2 h3 h4 h5=>judgedK aj pb ai room ea az C E (dN X qs.length) hK hcore hah w h um V nn _ _ h1 h2 h5)).mono ?_
 rintro e w' ⟨rfl,V,nn,gV,a1,a2,a3,a4,a5,no,aI,pv,Cs,rfl,j1,j2,j3,⟨nv,j4⟩,j5,j6,j7,j8,j9,j10,j11⟩
 refine ⟨rfl,?_⟩
 have hpv:pv=.slice (some ⟨pb,0,none⟩) qs.length aM:=by
  rw [a2] at j4
  injection j4 with j4
  injection j4 with j4 _ _
  injection j4 with j4
  simp at j4
  exact j4.2.symm
 subst hpv
 have heal:∀ a,ea=some a->∃ cg,w.heap[a.block]? = some (.cells cg 159 (0,0)):=fun a ha=>by
  subst ha
  exact dG h.uC (g:=a.block) rfl
 have hsw:aY (fun b=>b=aj\/b=pb\/∃ a,ea=some a/\a.block=b) w w':=(a5.mono (fun b _ hb=>by rcases hb with e | e;exact .inl e;exact .inr (.inl e))).trans (j11.mono (fun b _ hb=>by rcases hb with e | e;exact .inl e;exact .inr (.inr e)))
 have hkd:dn w (fun b=>b=aj\/b=pb\/∃ a,ea=some a/\a.block=b) [177,59]:=fun b cs t m h2 h3 e=>by
  rcases e with e | e | ⟨a,ha,e⟩
  ·subst e;rw [h.cell] at h2;cases h2;simp at h3
  ·subst e;rw [um] at h2;cases h2;simp at h3
  ·obtain ⟨cg,hcg⟩:=heal a ha
   rw [e,h2] at hcg
   cases hcg
   simp at h3
 have hpb':w'.heap[pb]? = some (.cells gV 183 (0,0)):=by
  refine (j11.block pb (aw a3) ?_).trans a3
  rintro (e | ⟨a,ha,e⟩)
  ·subst e;rw [a2] at a3;cases a3
  ·obtain ⟨cg,hcg⟩:=heal a ha
   rw [e,um] at hcg
   cases hcg
 have hsr:=au.rL hsw
 have hpl:(dR X qs).length=qs.length:=by simp [dR]
 have hpg:∀ (i:Nat) p,(dR X qs)[i]? = some p->∃ q,qs[i]? = some q/\p={ q with node:=(nAt X i).toNat }:=fun i p hp=>by
  unfold dR at hp
  rw [List.getElem?_mapIdx] at hp
  obtain ⟨q,hq,rfl⟩:=Option.map_eq_some_iff.1 hp
  exact ⟨q,hq,rfl⟩
 refine ⟨no,aI,Cs,gV,?_,hpb',a4,j7,j8,hsw⟩
 exact {
   cell:=by rw [j7,hpl];exact j5
   uC:=by rw [j7];exact j6
   len:=by rw [vd,j7]
   ins:=j9
   typed:=j10
   few:=by rw [j7];exact h.few
   ret:=h.ret
   nums:=fun c hc=>by
    have uY:Cs[Cs.length-1]? = some c:=by rw [<- List.getLast?_eq_getElem?];exact hc
    have hl:=(List.getElem?_eq_some_iff.1 uY).1
    have hl2:Cs.length-1<C.length:=by omega
    have h0:C[Cs.length-1]? = some C[Cs.length-1]:=List.getElem?_eq_getElem hl2
    have:=(j8 _ c _ uY h0).1
    rw [this]
    exact h.nums _ (by rw [List.getLast?_eq_getElem?,<- j7];exact h0)
   nfew:=by omega
   ncp:=j1
   nodes:=j2
   oc:=j3
   core:=hcore
   ahead:=hah
   rows:=judL_row _ E _
   oX:=.inr ⟨pb,0,gV,(0,0),rfl,hpb',a4⟩
   tW:=by rw [hpl];exact hq
   pcp:=by rw [hpl];exact cW
   vz:=by rw [hpl];exact hsl
   pstr:=fun i s p hs hp=>by
    obtain ⟨q,hq,rfl⟩:=hpg i p hp
    exact df i s q hs hq
   sok:=fun s hs=>eG.move (hsk s hs) hsr hkd
   apart:=jD
   pnode:=fun p hp=>by
    obtain ⟨i,hi⟩:=List.mem_iff_getElem?.1 hp
    obtain ⟨q,hq,rfl⟩:=hpg i p hi
    have qo:=(List.getElem?_eq_some_iff.1 hq).1
    have:=(nR.le (KAt_num X qs.length i qo)).2
    show (nAt X i).toNat<=_
    omega }
def ef (xs:List (BT aO)) (j:Nat):BT aO:=xs.getD j .nil
structure bP (w:World) (ps:List bC) (xs:List (BT aO)):Prop where
 len:xs.length=ps.length
 each:∀ (j:Nat) (p:bC) (x:BT aO),ps[j]? = some p->xs[j]? = some x->aC 143 0 w x (.pointer p.bV)
 fine:∀ x∈xs,dx x/\aV (ak x)<=1000000/\aK x<=12
theorem bP.down {w W:World} {ps:List bC} {xs:List (BT aO)} (h:bP w ps xs) (hb:Below w.heap.size w W):bP W ps xs:=⟨h.len,fun j p x h1 h2=>aC.below (h.each j p x h1 h2) hb,h.fine⟩
theorem bP.at {w:World} {ps:List bC} {xs:List (BT aO)} (h:bP w ps xs) (j:Nat) (p:bC) (hj:ps[j]? = some p):aC 143 0 w (ef xs j) (.pointer p.bV)/\Good (ef xs j)/\aV (ak (ef xs j))<=1000000:=by
 have hl:j<xs.length:=by rw [h.len];exact (List.getElem?_eq_some_iff.1 hj).1
 have hx:xs[j]? = some xs[j]:=List.getElem?_eq_getElem hl
 have e:ef xs j=xs[j]:=by unfold ef;rw [List.getD_eq_getElem?_getD,hx];rfl
 rw [e]
 obtain ⟨h1,h2,_⟩:=h.fine _ (List.mem_of_getElem? hx)
 exact ⟨h.each j p _ hj hx,h1.1,h2⟩
theorem bP.fineAt {w:World} {ps:List bC} {xs:List (BT aO)} (h:bP w ps xs) (j:Nat) (hj:j<xs.length):dx (ef xs j):=by
 have hx:xs[j]? = some xs[j]:=List.getElem?_eq_getElem hj
 have e:ef xs j=xs[j]:=by unfold ef;rw [List.getD_eq_getElem?_getD,hx];rfl
 rw [e]
 exact (h.fine _ (List.mem_of_getElem? hx)).1
def After (aj:Nat) (ai room:Int) (ea:Option Addr) (az:Nat) (C:List bx) (E:List Pe) (xs:List (BT aO)) (qs:List bC) (ss:List bt) (w w':World):Prop :=
 ∃ (no:Option Addr) (aI:Nat) (Cs:List bx) (pb aM:Nat),bj w' aj ai room no aI (dN (ef xs) qs.length) ea az Cs (gS (dN (ef xs) qs.length) E C.length) (some ⟨pb,0,none⟩) aM (dR (ef xs) qs) ss/\w.heap.size<=pb/\bP w' (dR (ef xs) qs) xs/\Cs.length=C.length/\(∀ (i:Nat) c c0,Cs[i]? = some c->C[i]? = some c0->c.number=c0.number/\c.time=c0.time)/\aY (fun b=>b=aj\/∃ a,ea=some a/\a.block=b) w w'
theorem ma {X:Nat->BT aO} {qs:List bC} {i:Nat} {p:bC} (hp:(dR X qs)[i]? = some p):∃ q,qs[i]? = some q/\p={ q with node:=(nAt X i).toNat }:=by
 unfold dR at hp
 rw [List.getElem?_mapIdx] at hp
 obtain ⟨q,hq,rfl⟩:=Option.map_eq_some_iff.1 hp
 exact ⟨q,hq,rfl⟩
theorem qd {aj pb aM:Nat} {ai room:Int} {no0:Option Addr} {vp:Nat} {K0:List Key} {ea:Option Addr} {az:Nat} {C:List bx} {E:List Pe} {pa:Option Addr} {pcap0:Nat} {ps:List bC} {ss0:List bt} {xs:List (BT aO)} {qs:List bC} {ss:List bt} {arr:Array Value} {w w1:World} (h:bj w aj ai room no0 vp K0 ea az C E pa pcap0 ps ss0) (hb:Below w.heap.size w w1)
  (um:w1.heap[pb]? = some (.cells arr 183 (0,0))) (hpn:w.heap.size<=pb) (hP:b5 arr 0 qs) (hq:qs.length<=1000) (cW:qs.length<=aM) (hS:bP w1 qs xs) (hK:(dN (ef xs) qs.length).length<=40)
  (hsl:ss.length=qs.length) (df:∀ (i:Nat) (s:bt) (p:bC),ss[i]? = some s->qs[i]? = some p->p.cG=some ⟨s.cj,0,none⟩) (hsk:∀ s∈ss,eG w1 s) (jD:Apart ss) :
  Calls Tryz.prog 98 #[.pointer (some ⟨aj,0,none⟩),.slice (some ⟨pb,0,none⟩) qs.length aM] w1 fun e w'=>e=.returned .nilIface/\After aj ai room ea az C E xs qs ss w w':=by
 have h1:=h.move (au.aL (P:=fun _=>False) hb) (dn.none _ _)
 refine (settleW aj pb aM ai room ea az C E (ef xs) qs ss arr w1 h1 um hP hq cW (fun j p hj=>hS.at j p hj) hK hsl df hsk jD).mono ?_
 rintro e w' ⟨rfl,no,aI,Cs,gV,a1,a2,a3,a4,a5,a6⟩
 have heal:∀ a,ea=some a->a.block<w.heap.size:=fun a ha=>by
  subst ha
  exact (h.uC.lt a.block rfl).2
 refine ⟨rfl,no,aI,Cs,pb,aM,a1,hpn,⟨by rw [hS.len];simp [dR],fun j p x hj hx=>?_,hS.fine⟩,a4,a5,?_⟩
 ·obtain ⟨q,hq,rfl⟩:=ma hj
  refine cU (fun k cs hk=>?_) (hS.each j q x hq hx)
  refine (a6.block k (aw hk) ?_).trans hk
  rintro (e | e | ⟨a,ha,e⟩)
  ·subst e;rw [h1.cell] at hk;cases hk
  ·subst e;rw [um] at hk;cases hk
  ·subst ha
   obtain ⟨cg,hcg⟩:=dG h1.uC (g:=a.block) rfl
   rw [e,hk] at hcg
   cases hcg
 ·refine ⟨a6.os.trans hb.os,a6.tape.trans hb.tape,a6.output.trans hb.output,Nat.le_trans hb.size a6.size,fun b hb0 hne=>?_⟩
  refine (a6.block b (Nat.lt_of_lt_of_le hb0 hb.size) ?_).trans (hb.block b hb0)
  rintro (e | e | e)
  ·exact hne (.inl e)
  ·omega
  ·exact hne (.inr e)
theorem row_pols {w:World} {B g n cap:Nat} {qs:List bC} (h:w.ownsRow B 183 5 (.slice (some ⟨g,0,none⟩) n cap) n (du qs)):∃ cur:Array Value,B<=g/\w.heap[g]? = some (.cells cur 183 (0,0))/\n<=cap/\b5 cur 0 qs/\n=qs.length:=by
 obtain ⟨h0,⟨h1,_⟩ | ⟨g',mq,cur,e1,hB,hg,hn,_,hc,rE⟩⟩:=h
 ·cases h1
 ·cases e1
  have hl:=oD qs
  refine ⟨cur,hB,hg,hn,polsAt_flat fun j u hj=>?_,by omega⟩
  have hjl:=(List.getElem?_eq_some_iff.1 hj).1
  rw [<- rE,List.getElem?_take,if_pos (by omega)] at hj
  simpa using hj
theorem dZ {α:Type} {l:List α} {i j:Nat} {a:α} (h:(l.take i++l.drop (i+1))[j]? = some a):l[if j<i then j else j+1]? = some a:=by
 rw [<- List.eraseIdx_eq_take_drop_succ,List.getElem?_eraseIdx] at h
 split at h
 ·rename_i hj;rw [if_pos hj];exact h
 ·rename_i hj;rw [if_neg hj];exact h
theorem apart_sub {ss:List bt} (h:Apart ss) (i:Nat):Apart (ss.take i++ss.drop (i+1)):=by
 intro a b s t hs ht hab
 refine h _ _ s t (dZ hs) (dZ ht) ?_
 split<;>split<;>omega
set_option maxRecDepth 100000 in
set_option maxHeartbeats 4000000 in
theorem remove_ok (name:ByteArray) {aj:Nat} {ai room:Int} {no:Option Addr} {aI:Nat} {ea:Option Addr} {az:Nat} {C:List bx} {E:List Pe} {pa:Option Addr} {aM:Nat} {ps:List bC} {ss:List bt} {xs:List (BT aO)} {w:World} (h:bj w aj ai room no aI (dN (ef xs) ps.length) ea az C E pa aM ps ss) (jh:bL ps) (hS:bP w ps xs) (hK:(dN (ef xs) ps.length).length<=40) (i:Nat) (hi:bq name ps=i) (gQ:b8 name ps=true) :
  Calls Tryz.prog 52 #[.pointer (some ⟨aj,0,none⟩),.string name] w fun e w'=>e=.returned .nilIface/\After aj ai room ea az C E (xs.take i++xs.drop (i+1)) (ps.take i++ps.drop (i+1)) (ss.take i++ss.drop (i+1)) w w':=by
 have hpf:=h.tW
 have hf:=mC aj (.int .i64 ai) (.int .i64 room) _ _ pa aM ps name w h.cell h.oX jh (by omega)
 rw [hi,gQ] at hf
 have qo:i<ps.length:=by
  obtain ⟨p,hp,_⟩:=(jY name ps).1 gQ
  rw [hi] at hp
  exact (List.getElem?_eq_some_iff.1 hp).1
 have om:Hid (∀ W,Below w.heap.size w W->Calls Tryz.prog 100 #[.slice pa ps.length aM] W fun e w'=>∃ v',e=.returned v'/\w'.ownsRow W.heap.size 183 5 v' ps.length (du ps)/\Below W.heap.size W w'):=fun W hb=>nS W pa aM ps (fg.move h.oX (au.aL (P:=fun _=>False) hb) (dn.none _ _)) (by omega)
 have HS:Hid (bP w ps xs):=hS
 have Hc:Hid (∀ W,Below w.heap.size w W->W.cell? ⟨aj,4,none⟩=some (.slice pa ps.length aM)):=fun W hb=>ae (hb.aE h.cell) rfl
 have hql:(ps.take i++ps.drop (i+1)).length=ps.length-1:=by simp;omega
 have HE:Hid (∀ (g gc:Nat) (W:World),Below w.heap.size w W->W.ownsRow w.heap.size 183 5 (.slice (some ⟨g,0,none⟩) (ps.length-1) gc) (ps.length-1) ((du ps).take (i*5)++(du ps).drop ((i+1)*5))->Calls Tryz.prog 98 #[.pointer (some ⟨aj,0,none⟩),.slice (some ⟨g,0,none⟩) (ps.length-1) gc] W fun e w'=>e=.returned .nilIface/\After aj ai room ea az C E (xs.take i++xs.drop (i+1)) (ps.take i++ps.drop (i+1)) (ss.take i++ss.drop (i+1)) w w'):=fun g gc W hb bT=>by
  rw [flatP_take ps i (by omega),flatP_drop ps (i+1) (by omega),<- rY] at bT
  obtain ⟨cur,q1,q2,q3,q4,q5⟩:=row_pols bT
  have hS1:=hS.down hb
  have hxl:=hS.len
  have hSq:bP W (ps.take i++ps.drop (i+1)) (xs.take i++xs.drop (i+1)):=by
   refine ⟨by simp;omega,fun j p x hj hx=>hS1.each _ p x (dZ hj) (dZ hx),fun x hx=>hS.fine x ?_⟩
   rcases List.mem_append.1 hx with hx | hx
   ·exact List.mem_of_mem_take hx
   ·exact List.mem_of_mem_drop hx
  have hKq:(dN (ef (xs.take i++xs.drop (i+1))) (ps.take i++ps.drop (i+1)).length).length<=40:=by
   refine Nat.le_trans (KAt_sub _ (ef xs) _ ps.length (fun j hj=>hSq.fineAt j (by rw [hSq.len];exact hj)) (fun j hj=>hS.fineAt j (by omega)) fun j hj=>?_) hK
   rw [hql] at hj
   refine ⟨if j<i then j else j+1,by split<;>omega,?_⟩
   obtain ⟨y,hx⟩:∃ y,(xs.take i++xs.drop (i+1))[j]? = some y:=⟨_,List.getElem?_eq_getElem (by rw [hSq.len,hql];exact hj)⟩
   unfold ef
   rw [List.getD_eq_getElem?_getD,List.getD_eq_getElem?_getD,hx,dZ hx]
  have hss:=h.vz
  rw [<- hql]
  refine qd h hb q2 q1 q4 (by omega) (by omega) hSq hKq (by simp;omega) (fun j s p hs hp=>h.pstr _ s p (dZ hs) (dZ hp)) (fun s hs=>?_) (apart_sub h.apart i)
  have hm:s∈ss:=by
   rcases List.mem_append.1 hs with hx | hx
   ·exact List.mem_of_mem_take hx
   ·exact List.mem_of_mem_drop hx
  exact eG.move (h.sok s hm) (au.aL (P:=fun _=>False) hb) (dn.none _ _)
 have hone:=flatP_one ps
 replace hone:Hid _:=hone
 generalize (du ps)=fp at *
 have hwf:ps.length<=1000:=hpf
 clear h jh hS hK hi gQ hql hpf
 generalize ps.length=n at *
 go_enter Tryz.func52,Tryz.ntmps52
 go_wp2_with fail
 refine hf.mono ?_
 rintro e w1 ⟨rfl,a_⟩
 have c4:=Hc.out w1 a_
 go_wp2_with fail
 refine (om.out w1 a_).mono ?_
 rintro e w2 ⟨v',rfl,bT,cB⟩
 have qv:=a_.tr cB
 obtain ⟨r1,⟨_,r2⟩ | ⟨g,gc,cur,rfl,r3,_⟩⟩:=id bT
 ·omega
 have hd:=deletePol_any w1.heap.size g gc i n fp w2 bT hone.out qo hwf
 go_wp2_with fail
 refine hd.mono ?_
 rintro e w3 ⟨rfl,hrow3,ho⟩
 have kS:=a_.size
 have pU:Below w.heap.size w w3:=qv.trans ⟨ho.os,ho.tape,ho.output,ho.size,fun k hk=>ho.block k (by have:=cB.size;omega) (by omega)⟩
 have df:=HE.out g gc w3 pU (oY hrow3 kS)
 go_wp2_with fail
 refine df.mono ?_
 rintro e w4 ⟨rfl,hA⟩
 go_wp2_with fail
 go_ret
 exact ⟨rfl,hA⟩
def ld (sp:Option Addr) (p:bC):bC:={ p with bV:=sp,cu:=p.cu+1 }
theorem polsAt_amend {cur:Array Value} {ps:List bC} {i:Nat} {p:bC} (sp:Option Addr) (hP:b5 cur 0 ps) (hi:ps[i]? = some p):b5 ((cur.setIfInBounds (i*5+1) (.pointer sp)).setIfInBounds (i*5+3) (.int .i64 (p.cu+1))) 0 (ps.set i (ld sp p)):=by
 intro j q hq
 have qo:=(List.getElem?_eq_some_iff.1 hi).1
 obtain ⟨b0,b1,b2,b3,b4⟩:=hP i p hi
 simp only [Nat.zero_add] at b0 b1 b2 b3 b4 ⊢
 have s4:i*5+4<cur.size:=(Array.getElem?_eq_some_iff.1 b4).1
 by_cases mO:j=i
 ·subst mO
  rw [List.getElem?_set_self qo] at hq
  cases hq
  refine ⟨?_,?_,?_,?_,?_⟩
  ·rw [Array.getElem?_setIfInBounds_ne (by omega),Array.getElem?_setIfInBounds_ne (by omega)];exact b0
  ·rw [Array.getElem?_setIfInBounds_ne (by omega),Array.getElem?_setIfInBounds_self_of_lt (by omega)];rfl
  ·rw [Array.getElem?_setIfInBounds_ne (by omega),Array.getElem?_setIfInBounds_ne (by omega)];exact b2
  ·rw [Array.getElem?_setIfInBounds_self_of_lt (by simp;omega)];rfl
  ·rw [Array.getElem?_setIfInBounds_ne (by omega),Array.getElem?_setIfInBounds_ne (by omega)];exact b4
 ·rw [List.getElem?_set_ne (Ne.symm mO)] at hq
  obtain ⟨a0,a1,a2,a3,a4⟩:=hP j q hq
  simp only [Nat.zero_add] at a0 a1 a2 a3 a4
  refine ⟨?_,?_,?_,?_,?_⟩<;>rw [Array.getElem?_setIfInBounds_ne (by omega),Array.getElem?_setIfInBounds_ne (by omega)]<;>assumption
theorem amend_walk (name s:ByteArray) (x:BT aO) {aj:Nat} {ai room:Int} {no:Option Addr} {aI:Nat} {K:List Key} {ea:Option Addr} {az:Nat} {C:List bx} {E:List Pe} {pa:Option Addr} {aM:Nat} {ps:List bC} {ss:List bt} {w:World} (h:bj w aj ai room no aI K ea az C E pa aM ps ss) (jh:bL ps) (hver:∀ p∈ps,0<=p.cu/\p.cu<=1000000) (hN:eR name) (hm:s.size<=maxLen) (hg:eF w) (l9:14<=w.heap.size) (hr:cI s=(some x,0)) (hR:ax x<=ai) (i:Nat) (hi:bq name ps=i) (p:bC) (hp:ps[i]? = some p) (gQ:b8 name ps=true) (Q:Value->World->Prop)
  (hset:∀ (sp:Option Addr) (g gc:Nat) (cur:Array Value) (W:World),Below w.heap.size w W->w.heap.size<=g->W.heap[g]? = some (.cells cur 183 (0,0))->b5 cur 0 (ps.set i (ld sp p))->ps.length<=gc->aC 143 0 W x (.pointer sp)->Calls Tryz.prog 98 #[.pointer (some ⟨aj,0,none⟩),.slice (some ⟨g,0,none⟩) ps.length gc] W fun e w'=>∃ v,e=.returned v/\Q v w') :
  Calls Tryz.prog 96 #[.pointer (some ⟨aj,0,none⟩),.string name,.string s] w fun e w'=>∃ v,e=.returned (.tuple #[.int .i64 (i:Int),v])/\Q v w':=by
 have hpf:=h.tW
 have hRd:=p_ aj ai (.int .i64 room) _ _ _ name s x w h.cell hN hm hg l9 hr hR
 have hf:Hid (∀ W,Below w.heap.size w W->Calls Tryz.prog 97 #[.pointer (some ⟨aj,0,none⟩),.string name] W fun e w'=>e=.returned (.tuple #[.int .i64 (i:Int),.bool true])/\Below W.heap.size W w'):=fun W hb=>by
  have:=mC aj (.int .i64 ai) (.int .i64 room) _ _ pa aM ps name W (hb.aE h.cell) (fg.move h.oX (au.aL (P:=fun _=>False) hb) (dn.none _ _)) jh (by omega)
  rw [hi,gQ] at this
  exact this
 have qo:i<ps.length:=(List.getElem?_eq_some_iff.1 hp).1
 have om:Hid (∀ W,Below w.heap.size w W->Calls Tryz.prog 100 #[.slice pa ps.length aM] W fun e w'=>∃ v',e=.returned v'/\w'.ownsRow W.heap.size 183 5 v' ps.length (du ps)/\Below W.heap.size W w'):=fun W hb=>nS W pa aM ps (fg.move h.oX (au.aL (P:=fun _=>False) hb) (dn.none _ _)) (by omega)
 have Hc:Hid (∀ W,Below w.heap.size w W->W.cell? ⟨aj,4,none⟩=some (.slice pa ps.length aM)):=fun W hb=>ae (hb.aE h.cell) rfl
 have hv:=hver p (List.mem_of_getElem? hp)
 have Hset:Hid _:=hset
 have Hrow:Hid (∀ (W:World) (B g gc:Nat),W.ownsRow B 183 5 (.slice (some ⟨g,0,none⟩) ps.length gc) ps.length (du ps)->∃ cur:Array Value,B<=g/\W.heap[g]? = some (.cells cur 183 (0,0))/\ps.length<=gc/\b5 cur 0 ps):=fun W B g gc bT=>by
  obtain ⟨cur,q1,q2,q3,q4,_⟩:=row_pols bT
  exact ⟨cur,q1,q2,q3,q4⟩
 have Hp:Hid (ps[i]? = some p):=hp
 generalize du ps=fp at *
 clear h jh hi gQ hver hp hset hg hr hR hN
 generalize hnl:ps.length=n at *
 go_enter Tryz.func96,Tryz.ntmps96
 go_wp2_with fail
 refine hRd.mono ?_
 rintro e w1 ⟨sp,rfl,hsx,a_⟩
 have hsx:Hid (aC 143 0 w1 x (.pointer sp)):=hsx
 go_wp2_with fail
 refine (hf.out w1 a_).mono ?_
 rintro e w2 ⟨rfl,cB⟩
 have qv:=a_.tr cB
 have c4:=Hc.out w2 qv
 go_wp2_with fail
 refine (om.out w2 qv).mono ?_
 rintro e w3 ⟨v',rfl,bT,pU⟩
 have hb13:=qv.tr pU
 obtain ⟨r1,⟨_,r2⟩ | ⟨g,gc,cur0,rfl,r3,_⟩⟩:=id bT
 ·omega
 obtain ⟨cur,q1,q2,q3,q4⟩:=Hrow.out w3 _ g gc bT
 obtain ⟨b0,b1,b2,b3,b4⟩:=q4 i p Hp.out
 simp only [Nat.zero_add] at b0 b1 b2 b3 b4
 have hw2s:=qv.size
 have d1:=ae q2 b1
 have d3:=ae q2 b3
 have f1:w3.frozen? ⟨g,i*5+1,none⟩=false:=Lib.frozen_of_heap q2 _
 have g1:=b7 (i:=i*5+1) (v:=.pointer sp) q2
 have d3':(w3.setCell ⟨g,i*5+1,none⟩ (.pointer sp)).cell? ⟨g,i*5+3,none⟩=some (.int .i64 p.cu):=ae g1 (by rw [Array.getElem?_setIfInBounds_ne (by omega)];exact b3)
 have f3:(w3.setCell ⟨g,i*5+1,none⟩ (.pointer sp)).frozen? ⟨g,i*5+3,none⟩=false:=Lib.frozen_of_heap g1 _
 have g3:=b7 (i:=i*5+3) (v:=.int .i64 (p.cu+1)) g1
 have ho:Only g w3 ((w3.setCell ⟨g,i*5+1,none⟩ (.pointer sp)).setCell ⟨g,i*5+3,none⟩ (.int .i64 (p.cu+1))):=((Only.refl g w3).setCell (p:=⟨g,i*5+1,none⟩) (.inl rfl) _).setCell (p:=⟨g,i*5+3,none⟩) (.inl rfl) _
 have hb4:Below w.heap.size w ((w3.setCell ⟨g,i*5+1,none⟩ (.pointer sp)).setCell ⟨g,i*5+3,none⟩ (.int .i64 (p.cu+1))):=hb13.trans ⟨ho.os,ho.tape,ho.output,ho.size,fun k hk=>ho.block k (by have:=hb13.size;omega) (by omega)⟩
 have df:=Hset.out sp g gc _ _ hb4 (by omega) g3 (polsAt_amend sp q4 Hp.out) q3 (cU (fun k cs hk=>by
  rw [ho.block k (Nat.lt_of_lt_of_le (aw hk) (Nat.le_trans cB.size pU.size)) (by have:=aw hk;have:=cB.size;omega)]
  exact (cB.tr pU).aE hk) hsx.out)
 clear Hset bT q4 g3 g1 hb4
 go_wp2_with fail
 refine df.mono ?_
 rintro e w4 ⟨v,rfl,hq⟩
 replace hq:Hid _:=hq
 go_wp2_with fail
 go_ret2
 exact ⟨v,rfl,hq.out⟩
theorem amend_back (name s:ByteArray) {aj:Nat} {w:World} {R:Value->World->Prop} (i:Nat)
  (hA:Calls Tryz.prog 96 #[.pointer (some ⟨aj,0,none⟩),.string name,.string s] w fun e w'=>e=.returned (.tuple #[.int .i64 (i:Int),.nilIface])/\Calls Tryz.prog 92 #[.pointer (some ⟨aj,0,none⟩),.int .i64 (i:Int)] w' fun e w'=>∃ v,e=.returned v/\R v w') :
  Calls Tryz.prog 51 #[.pointer (some ⟨aj,0,none⟩),.string name,.string s] w fun e w'=>∃ v,e=.returned (.tuple #[v,.nilIface])/\R v w':=by
 go_enter Tryz.func51,Tryz.ntmps51
 go_wp2_with fail
 refine hA.mono ?_
 rintro e w1 ⟨rfl,hB⟩
 go_wp2_with fail
 refine hB.mono ?_
 rintro e w2 ⟨v,rfl,hR⟩
 replace hR:Hid _:=hR
 go_wp2_with fail
 go_ret2
 exact ⟨v,rfl,hR.out⟩
theorem amend_err (name s:ByteArray) {aj:Nat} {w:World} {F:Addr->Prop} {L:TypeId}
  (hA:Calls Tryz.prog 96 #[.pointer (some ⟨aj,0,none⟩),.string name,.string s] w fun e w'=>∃ k T q a,e=.returned (.tuple #[.int .i64 k,.iface T q])/\sB w' (.iface T q) L a/\F a/\Below w.heap.size w w') :
  Calls Tryz.prog 51 #[.pointer (some ⟨aj,0,none⟩),.string name,.string s] w fun e w'=>∃ v a,e=.returned (.tuple #[.slice none 0 0,v])/\sB w' v L a/\F a/\Below w.heap.size w w':=by
 go_enter Tryz.func51,Tryz.ntmps51
 go_wp2_with fail
 refine hA.mono ?_
 rintro e w1 ⟨k,T,q,a,rfl,hE,hF,hb⟩
 have hE:Hid (sB w1 (.iface T q) L a/\F a):=⟨hE,hF⟩
 go_wp2_with fail
 go_ret2
 exact ⟨_,a,rfl,err_pol (aB _ _ _ rfl) (hE.out.1.down ((Below.refl _ w1).al _)),hE.out.2,hb.al _⟩
theorem monamend_back (mb:Nat) (name s:ByteArray) {aj:Nat} {w:World} {R:Value->World->Prop} (hm:w.heap[mb]? = some (.cells #[.pointer (some ⟨aj,0,none⟩)] 104 (0,0)))
  (hA:Calls Tryz.prog 51 #[.pointer (some ⟨aj,0,none⟩),.string name,.string s] w fun e w'=>∃ v,e=.returned (.tuple #[v,.nilIface])/\R v w') :
  Calls Tryz.prog 31 #[.pointer (some ⟨mb,0,none⟩),.string name,.string s] w fun e w'=>∃ v,e=.returned (.tuple #[v,.int .i64 0])/\R v w':=by
 have c0:=ae (i:=0) hm rfl
 go_enter Tryz.func31,Tryz.ntmps31
 go_wp2_with fail
 refine hA.mono ?_
 rintro e w1 ⟨v,rfl,hR⟩
 have hR:Hid (R v w1):=hR
 go_wp2_with fail
 refine (ow w1).mono ?_
 rintro e w2 ⟨rfl,rfl⟩
 go_wp2_with fail
 go_ret2
 exact ⟨v,rfl,hR.out⟩
theorem vo (mb:Nat) (name s:ByteArray) {aj:Nat} {w:World} {F:Addr->Prop} {L:TypeId} {z:Int} (hm:w.heap[mb]? = some (.cells #[.pointer (some ⟨aj,0,none⟩)] 104 (0,0)))
  (hA:Calls Tryz.prog 51 #[.pointer (some ⟨aj,0,none⟩),.string name,.string s] w fun e w'=>∃ v a,e=.returned (.tuple #[.slice none 0 0,v])/\sB w' v L a/\F a/\Below w.heap.size w w')
  (hz:∀ v a w',Below w.heap.size w w'->sB w' v L a->F a->Calls Tryz.prog 40 #[v] w' fun e w2=>e=.returned (.int .i64 z)/\Below w'.heap.size w' w2) :
  Calls Tryz.prog 31 #[.pointer (some ⟨mb,0,none⟩),.string name,.string s] w fun e w'=>e=.returned (.tuple #[.slice none 0 0,.int .i64 z])/\Below w.heap.size w w':=by
 have c0:=ae (i:=0) hm rfl
 replace hz:Hid _:=hz
 go_enter Tryz.func31,Tryz.ntmps31
 go_wp2_with fail
 refine hA.mono ?_
 rintro e w1 ⟨v,a,rfl,hE,hF,hb⟩
 have he:=hz.out v a w1 hb hE hF
 obtain ⟨T0,p0,rfl⟩:=hE.iface
 have Hb:Hid (Below w.heap.size w w1):=hb
 clear hE hb
 go_wp2_with fail
 refine he.mono ?_
 rintro e w2 ⟨rfl,cB⟩
 go_wp2_with fail
 go_ret2
 exact ⟨rfl,Hb.out.tr cB⟩
theorem add_back (name s:ByteArray) {aj:Nat} {w:World} {R:Value->World->Prop} (i:Nat)
  (hA:Calls Tryz.prog 91 #[.pointer (some ⟨aj,0,none⟩),.string name,.string s] w fun e w'=>e=.returned (.tuple #[.int .i64 (i:Int),.nilIface])/\Calls Tryz.prog 92 #[.pointer (some ⟨aj,0,none⟩),.int .i64 (i:Int)] w' fun e w'=>∃ v,e=.returned v/\R v w') :
  Calls Tryz.prog 48 #[.pointer (some ⟨aj,0,none⟩),.string name,.string s] w fun e w'=>∃ v,e=.returned (.tuple #[v,.nilIface])/\R v w':=by
 go_enter Tryz.func48,Tryz.ntmps48
 go_wp2_with fail
 refine hA.mono ?_
 rintro e w1 ⟨rfl,hB⟩
 go_wp2_with fail
 refine hB.mono ?_
 rintro e w2 ⟨v,rfl,hR⟩
 replace hR:Hid _:=hR
 go_wp2_with fail
 go_ret2
 exact ⟨v,rfl,hR.out⟩
theorem add_err (name s:ByteArray) {aj:Nat} {w:World} {F:Addr->Prop} {L:TypeId}
  (hA:Calls Tryz.prog 91 #[.pointer (some ⟨aj,0,none⟩),.string name,.string s] w fun e w'=>∃ k T q a,e=.returned (.tuple #[.int .i64 k,.iface T q])/\sB w' (.iface T q) L a/\F a/\Below w.heap.size w w') :
  Calls Tryz.prog 48 #[.pointer (some ⟨aj,0,none⟩),.string name,.string s] w fun e w'=>∃ v a,e=.returned (.tuple #[.slice none 0 0,v])/\sB w' v L a/\F a/\Below w.heap.size w w':=by
 go_enter Tryz.func48,Tryz.ntmps48
 go_wp2_with fail
 refine hA.mono ?_
 rintro e w1 ⟨k,T,q,a,rfl,hE,hF,hb⟩
 have hE:Hid (sB w1 (.iface T q) L a/\F a):=⟨hE,hF⟩
 go_wp2_with fail
 go_ret2
 exact ⟨_,a,rfl,err_pol (aB _ _ _ rfl) (hE.out.1.down ((Below.refl _ w1).al _)),hE.out.2,hb.al _⟩
theorem monadd_back (mb:Nat) (name s:ByteArray) {aj:Nat} {w:World} {R:Value->World->Prop} (hm:w.heap[mb]? = some (.cells #[.pointer (some ⟨aj,0,none⟩)] 104 (0,0)))
  (hA:Calls Tryz.prog 48 #[.pointer (some ⟨aj,0,none⟩),.string name,.string s] w fun e w'=>∃ v,e=.returned (.tuple #[v,.nilIface])/\R v w') :
  Calls Tryz.prog 27 #[.pointer (some ⟨mb,0,none⟩),.string name,.string s] w fun e w'=>∃ v,e=.returned (.tuple #[v,.int .i64 0])/\R v w':=by
 have c0:=ae (i:=0) hm rfl
 go_enter Tryz.func27,Tryz.ntmps27
 go_wp2_with fail
 refine hA.mono ?_
 rintro e w1 ⟨v,rfl,hR⟩
 have hR:Hid (R v w1):=hR
 go_wp2_with fail
 refine (ow w1).mono ?_
 rintro e w2 ⟨rfl,rfl⟩
 go_wp2_with fail
 go_ret2
 exact ⟨v,rfl,hR.out⟩
theorem monadd_err (mb:Nat) (name s:ByteArray) {aj:Nat} {w:World} {F:Addr->Prop} {L:TypeId} {z:Int} (hm:w.heap[mb]? = some (.cells #[.pointer (some ⟨aj,0,none⟩)] 104 (0,0)))
  (hA:Calls Tryz.prog 48 #[.pointer (some ⟨aj,0,none⟩),.string name,.string s] w fun e w'=>∃ v a,e=.returned (.tuple #[.slice none 0 0,v])/\sB w' v L a/\F a/\Below w.heap.size w w')
  (hz:∀ v a w',Below w.heap.size w w'->sB w' v L a->F a->Calls Tryz.prog 40 #[v] w' fun e w2=>e=.returned (.int .i64 z)/\Below w'.heap.size w' w2) :
  Calls Tryz.prog 27 #[.pointer (some ⟨mb,0,none⟩),.string name,.string s] w fun e w'=>e=.returned (.tuple #[.slice none 0 0,.int .i64 z])/\Below w.heap.size w w':=by
 have c0:=ae (i:=0) hm rfl
 replace hz:Hid _:=hz
 go_enter Tryz.func27,Tryz.ntmps27
 go_wp2_with fail
 refine hA.mono ?_
 rintro e w1 ⟨v,a,rfl,hE,hF,hb⟩
 have he:=hz.out v a w1 hb hE hF
 obtain ⟨T0,p0,rfl⟩:=hE.iface
 have Hb:Hid (Below w.heap.size w w1):=hb
 clear hE hb
 go_wp2_with fail
 refine he.mono ?_
 rintro e w2 ⟨rfl,cB⟩
 go_wp2_with fail
 go_ret2
 exact ⟨rfl,Hb.out.tr cB⟩
theorem remove_none (name:ByteArray) {aj:Nat} {ai room:Int} {no:Option Addr} {aI:Nat} {K:List Key} {ea:Option Addr} {az:Nat} {C:List bx} {E:List Pe} {pa:Option Addr} {aM:Nat} {ps:List bC} {ss:List bt} {w:World} (h:bj w aj ai room no aI K ea az C E pa aM ps ss) (jh:bL ps) (gQ:b8 name ps=false) {a:Addr} (hE:fb w 3 tNone a) :
  Calls Tryz.prog 52 #[.pointer (some ⟨aj,0,none⟩),.string name] w fun e w'=>∃ b,e=.returned (.iface 169 (.pointer (some ⟨b,0,none⟩)))/\w'.heap[b]? = some (.cells #[.string name,.iface 357 (.pointer (some a))] 171 (0,0))/\Below w.heap.size w w':=by
 have hpf:=h.tW
 have hf:=mC aj (.int .i64 ai) (.int .i64 room) _ _ pa aM ps name w h.cell h.oX jh (by omega)
 rw [gQ] at hf
 have HE:Hid (fb w 3 tNone a):=hE
 clear h jh gQ hE
 go_enter Tryz.func52,Tryz.ntmps52
 go_wp2_with fail
 refine hf.mono ?_
 rintro e w1 ⟨rfl,a_⟩
 have c:=(HE.out.down a_).cell
 go_wp2_with fail
 go_ret
 exact ⟨_,rfl,aB _ _ _ rfl,a_.al _⟩
theorem vn (mb:Nat) (name:ByteArray) {aj:Nat} {ai room:Int} {no:Option Addr} {aI:Nat} {ea:Option Addr} {az:Nat} {C:List bx} {E:List Pe} {pa:Option Addr} {aM:Nat} {ps:List bC} {ss:List bt} {xs:List (BT aO)} {w:World} (hm:w.heap[mb]? = some (.cells #[.pointer (some ⟨aj,0,none⟩)] 104 (0,0))) (h:bj w aj ai room no aI (dN (ef xs) ps.length) ea az C E pa aM ps ss) (jh:bL ps) (hS:bP w ps xs) (hK:(dN (ef xs) ps.length).length<=40) (i:Nat) (hi:bq name ps=i) (gQ:b8 name ps=true) :
  Calls Tryz.prog 32 #[.pointer (some ⟨mb,0,none⟩),.string name] w fun e w'=>e=.returned (.int .i64 0)/\After aj ai room ea az C E (xs.take i++xs.drop (i+1)) (ps.take i++ps.drop (i+1)) (ss.take i++ss.drop (i+1)) w w':=by
 have hr:=remove_ok name h jh hS hK i hi gQ
 have c0:=ae (i:=0) hm rfl
 clear h jh hS hK hi gQ
 go_enter Tryz.func32,Tryz.ntmps32
 go_wp2_with fail
 refine hr.mono ?_
 rintro e w1 ⟨rfl,hA⟩
 have he:=ow w1
 replace hA:Hid _:=hA
 go_wp2_with fail
 refine he.mono ?_
 rintro e w2 ⟨rfl,rfl⟩
 go_wp2_with fail
 go_ret
 exact ⟨rfl,hA.out⟩
theorem monRemove_none (mb:Nat) (name:ByteArray) {aj:Nat} {ai room:Int} {no:Option Addr} {aI:Nat} {K:List Key} {ea:Option Addr} {az:Nat} {C:List bx} {E:List Pe} {pa:Option Addr} {aM:Nat} {ps:List bC} {ss:List bt} {w:World} (hm:w.heap[mb]? = some (.cells #[.pointer (some ⟨aj,0,none⟩)] 104 (0,0))) (h:bj w aj ai room no aI K ea az C E pa aM ps ss) (jh:bL ps) (gQ:b8 name ps=false) (hg:eF w) (pg:jz w) :
  Calls Tryz.prog 32 #[.pointer (some ⟨mb,0,none⟩),.string name] w fun e w'=>e=.returned (.int .i64 6)/\Below w.heap.size w w':=by
 obtain ⟨a,hE⟩:=pg.eNone
 have hr:=remove_none name h jh gQ hE
 have c0:=ae (i:=0) hm rfl
 have HG:Hid (eF w/\jz w/\fb w 3 tNone a):=⟨hg,pg,hE⟩
 clear h jh gQ hg pg hE
 go_enter Tryz.func32,Tryz.ntmps32
 go_wp2_with fail
 refine hr.mono ?_
 rintro e w1 ⟨b,rfl,hb,a_⟩
 have he:=errno_none (.iface 169 (.pointer (some ⟨b,0,none⟩))) a w1 (HG.out.1.below a_) (HG.out.2.1.keep a_.block) (err_pol hb (uB tS)) (HG.out.2.2.down a_)
 have Hb:Hid (Below w.heap.size w w1):=a_
 clear hb a_
 go_wp2_with fail
 refine he.mono ?_
 rintro e w2 ⟨rfl,cB⟩
 go_wp2_with fail
 go_ret
 exact ⟨rfl,Hb.out.tr cB⟩
end Ev
end Go.Proofs.YtpbbmagjhkakgaaGreatDoor
