import Derived.Test.YtpbbmagjhkakgaaGreatDoorEvAdd2ToEaDel
import Derived.Test.YtpbbmagjhkakgaaGreatDoorEaInsToEaPol
import Derived.Test.YtpbbmagjhkakgaaGreatDoorPureTabToTab
import Derived.Test.YtpbbmagjhkakgaaGreatDoorEvJudge0ToEvAdd
namespace Go.Proofs.YtpbbmagjhkakgaaGreatDoor
namespace Ev
open Go.RowKit Go.Deep Go.Maps Lf
theorem KAt_ahead (X:Nat->BT aO):∀ n,qg (dN X n)
 | 0=>fun i k hk=>by simp [dN] at hk
 | n+1=>(vC (ak (X n)) (dN X n) (KAt_ahead X n)).1
theorem KAt_core (X:Nat->BT aO):∀ n,(∀ j,j<n->Good (X j))->∀ k∈dN X n,ib k.op
 | 0,_=>fun k hk=>by simp [dN] at hk
 | n+1,h=>cored_ops (ak (X n)) (dN X n) (mr (h n (by omega))) (.inl (cA (h n (by omega)))) (KAt_core X n fun j hj=>h j (by omega))
theorem KAt_num (X:Nat->BT aO):∀ n j,j<n->nR (dN X n) (ak (X j)) (nAt X j)
 | 0,j,h=>by omega
 | n+1,j,h=>by
  by_cases hj:j<n
  ·obtain ⟨M,hM⟩:=vD (ak (X n)) (dN X n)
   have:=(KAt_num X n j hj).mono M
   show nR (aX (dN X n) (ak (X n))).2 _ _
   rw [hM]
   exact this
  ·obtain rfl:j=n:=by omega
   exact (vC (ak (X j)) (dN X j) (KAt_ahead X j)).2
theorem judgedK (aj pb:Nat) (ai room:Int) {no0:Option Addr} {vp:Nat} {K0:List Key} (ea:Option Addr) (az:Nat) (C:List bx) (E:List Pe) {pa:Option Addr} {aM:Nat} {ps:List bC} {ss:List bt} (K:List Key) (hK:K.length<=40) (hcore:∀ k∈K,ib k.op) (hah:qg K) (w:World) (h:bj w aj ai room no0 vp K0 ea az C E pa aM ps ss) {arr0:Array Value} (um:w.heap[pb]? = some (.cells arr0 183 (0,0))) (V:World) (nn nv pv:Value) (bT:V.ownsRow w.heap.size 226 6 nn K.length (gh K)) (hV:V.heap[aj]? = some (.cells #[.int .i64 ai,.int .i64 room,nv,.slice ea C.length az,pv] 153 (0,0))) (hs:aY (fun b=>b=aj\/b=pb) w V) :
  Calls Tryz.prog 142 #[.pointer (some ⟨aj,0,none⟩),nn] V fun e w'=>e=.returned (.tuple #[])/\JudgedAt aj ai room ea az C E K V nn w':=by
 obtain ⟨no,aI,rfl,n1,n2,n3⟩:=nodes_of_row bT
 have hkd:∀ ts,(153:TypeId) ∉ ts->(183:TypeId) ∉ ts->dn w (fun b=>b=aj\/b=pb) ts:=fun ts h1 h1' b cs t m h2 h3 e=>by
  rcases e with e | e
  ·subst e
   rw [h.cell] at h2
   cases h2
   exact h1 h3
  ·subst e
   rw [um] at h2
   cases h2
   exact h1' h3
 have hsr:au (fun b=>b=aj\/b=pb) w V:=au.rL hs
 have hEV:bY V (.slice ea C.length az) C:=h.uC.move hsr (hkd _ (by decide) (by decide))
 rcases hEV.cases with ⟨e1,e2⟩ | ⟨g,cp,e1,e2,_,hgl⟩
 ·subst e2
  cases e1
  refine (judge0_any aj (.int .i64 ai) (.int .i64 room) nv pv (.slice no K.length aI) no _ aI rfl V hV).mono ?_
  rintro e w' ⟨rfl,k1,k2⟩
  have kT:aY (fun b=>b=aj\/∃ a,(none:Option Addr)=some a/\a.block=b) V w':=aY.kg k2 (fun x hx=>.inl hx)
  have hnw:∀ a,no=some a->¬ (a.block=aj\/∃ a',(none:Option Addr)=some a'/\a'.block=a.block):=by
   rintro a ha (e | ⟨_,e,_⟩)
   ·obtain ⟨_,cs,m,k⟩:=n3 a ha;rw [e,hV] at k;cases k
   ·cases e
  refine ⟨rfl,no,aI,pv,[],rfl,n1,n2.spare kT hnw,fun a ha=>?_,⟨_,hV⟩,k1,World.ownsRow_nil _ _ _ _,rfl,by simp,by simp,by simp,kT⟩
  obtain ⟨_,cs,m,k⟩:=n3 a ha
  exact ⟨cs,m,(kT.block _ (aw k) (hnw a ha)).trans k⟩
 ·cases e1
  refine (judge_any aj (.int .i64 ai) (.int .i64 room) nv pv no aI K g az C E V hV hEV h.len (fun i c e hc he=>(h.ins i c e hc he).move (h.typed c (List.mem_of_getElem? hc)) hsr (hkd _ (by decide) (by decide))) (fun c hc=>(h.typed c hc).move hsr (hkd _ (by decide) (by decide))) h.few (by omega) n1 n2 (fun a ha=>(n3 a ha).2) hcore hah).mono ?_
  rintro e w' ⟨rfl,Cs,hI⟩
  have kT:aY (fun b=>b=aj\/∃ a,(some ⟨g,0,none⟩:Option Addr)=some a/\a.block=b) V w':=hI.sp.mono (fun b _ hb=>by rcases hb with e | e;exact .inl e;exact .inr ⟨_,rfl,e.symm⟩)
  obtain ⟨cg0,hg0⟩:=dG hEV (g:=g) rfl
  have hnw:∀ a,no=some a->¬ (a.block=aj\/a.block=g):=by
   rintro a ha (e | e)
   ·obtain ⟨_,cs,m,k⟩:=n3 a ha;rw [e,hV] at k;cases k
   ·obtain ⟨_,cs,m,k⟩:=n3 a ha;rw [e,hg0] at k;cases k
  refine ⟨rfl,no,aI,pv,Cs,rfl,n1,n2.spare hI.sp hnw,fun a ha=>?_,⟨_,hV⟩,hI.hw,hI.uC,hI.len,fun i c c0 h1 h2=>⟨(hI.same i c c0 h1 h2).1,(hI.same i c c0 h1 h2).2.1⟩,fun i c e h1 h2=>hI.done i c e ?_ h1 h2,hI.typed,kT⟩
  ·obtain ⟨_,cs,m,k⟩:=n3 a ha
   exact ⟨cs,m,(hI.sp.block _ (aw k) (hnw a ha)).trans k⟩
  ·have:=(List.getElem?_eq_some_iff.1 h1).1
   rw [hI.len] at this
   exact this
def SettledAt (aj pb aM:Nat) (ai room:Int) (ea:Option Addr) (az:Nat) (C:List bx) (E:List Pe) (X:Nat->BT aO) (qs:List bC) (ss:List bt) (w w':World):Prop :=
 ∃ (no:Option Addr) (aI:Nat) (Cs:List bx) (arr:Array Value),bj w' aj ai room no aI (dN X qs.length) ea az Cs (gS (dN X qs.length) E C.length) (some ⟨pb,0,none⟩) aM (dR X qs) ss/\w'.heap[pb]? = some (.cells arr 183 (0,0))/\b5 arr 0 (dR X qs)/\Cs.length=C.length/\(∀ (i:Nat) c c0,Cs[i]? = some c->C[i]? = some c0->c.number=c0.number/\c.time=c0.time)/\aY (fun b=>b=aj\/b=pb\/∃ a,ea=some a/\a.block=b) w w'
theorem settleW (aj pb aM:Nat) (ai room:Int) {no0:Option Addr} {vp:Nat} {K0:List Key} (ea:Option Addr) (az:Nat) (C:List bx) (E:List Pe) {pa:Option Addr} {pcap0:Nat} {ps:List bC} {ss0:List bt} (X:Nat->BT aO) (qs:List bC) (ss:List bt) (arr:Array Value) (w:World) (h:bj w aj ai room no0 vp K0 ea az C E pa pcap0 ps ss0)
  (um:w.heap[pb]? = some (.cells arr 183 (0,0))) (hP:b5 arr 0 qs) (hq:qs.length<=1000) (cW:qs.length<=aM) (hS:∀ (j:Nat) (p:bC),qs[j]? = some p->aC 143 0 w (X j) (.pointer p.bV)/\Good (X j)/\aV (ak (X j))<=1000000) (hK:(dN X qs.length).length<=40)
  (hsl:ss.length=qs.length) (df:∀ (i:Nat) (s:bt) (p:bC),ss[i]? = some s->qs[i]? = some p->p.cG=some ⟨s.cj,0,none⟩) (hsk:∀ s∈ss,eG w s) (jD:Apart ss) :
  Calls Tryz.prog 98 #[.pointer (some ⟨aj,0,none⟩),.slice (some ⟨pb,0,none⟩) qs.length aM] w fun e w'=>e=.returned .nilIface/\SettledAt aj pb aM ai room ea az C E X qs ss w w':=by
 have hgd:∀ j,j<qs.length->Good (X j):=fun j hj=>(hS j _ (List.getElem?_eq_getElem hj)).2.1
 have hcore:=KAt_core X qs.length hgd
 have hah:=KAt_ahead X qs.length
 refine (settle_ok aj pb aM (.int .i64 ai) (.int .i64 room) _ (.slice ea C.length az) pa ps.length pcap0 arr qs X w (JudgedAt aj ai room ea az C E (dN X qs.length)) h.cell um hP hq cW hS hK (fun V nn gV h1 h2 h3 h4 h5=>judgedK aj pb ai room ea az C E (dN X qs.length) hK hcore hah w h um V nn _ _ h1 h2 h5)).mono ?_
 rintro e w' ⟨rfl,V,nn,gV,a1,a2,a3,a4,a5,no,aI,pv,Cs,rfl,j1,j2,j3,⟨nv,j4⟩,j5,j6,j7,j8,j9,j10,j11⟩
 refine ⟨rfl,?_⟩
 have hpv:pv=.slice (some ⟨pb,0,none⟩) qs.length aM:=by
  rw [a2] at j4
  injection j4 with j4
  injection j4 with j4 _ _
  injection j4 with j4
  simp at j4
  exact j4.2.symm
 subst hpv
 have heal:∀ a,ea=some a->∃ cg,w.heap[a.block]? = some (.cells cg 159 (0,0)):=fun a ha=>by
  subst ha
  exact dG h.uC (g:=a.block) rfl
 have hsw:aY (fun b=>b=aj\/b=pb\/∃ a,ea=some a/\a.block=b) w w':=(a5.mono (fun b _ hb=>by rcases hb with e | e;exact .inl e;exact .inr (.inl e))).trans (j11.mono (fun b _ hb=>by rcases hb with e | e;exact .inl e;exact .inr (.inr e)))
 have hkd:dn w (fun b=>b=aj\/b=pb\/∃ a,ea=some a/\a.block=b) [177,59]:=fun b cs t m h2 h3 e=>by
  rcases e with e | e | ⟨a,ha,e⟩
  ·subst e;rw [h.cell] at h2;cases h2;simp at h3
  ·subst e;rw [um] at h2;cases h2;simp at h3
  ·obtain ⟨cg,hcg⟩:=heal a ha
   rw [e,h2] at hcg
   cases hcg
   simp at h3
 have hpb':w'.heap[pb]? = some (.cells gV 183 (0,0)):=by
  refine (j11.block pb (aw a3) ?_).trans a3
  rintro (e | ⟨a,ha,e⟩)
  ·subst e;rw [a2] at a3;cases a3
  ·obtain ⟨cg,hcg⟩:=heal a ha
   rw [e,um] at hcg
   cases hcg
 have hsr:=au.rL hsw
 have hpl:(dR X qs).length=qs.length:=by simp [dR]
 have hpg:∀ (i:Nat) p,(dR X qs)[i]? = some p->∃ q,qs[i]? = some q/\p={ q with node:=(nAt X i).toNat }:=fun i p hp=>by
  unfold dR at hp
  rw [List.getElem?_mapIdx] at hp
  obtain ⟨q,hq,rfl⟩:=Option.map_eq_some_iff.1 hp
  exact ⟨q,hq,rfl⟩
 refine ⟨no,aI,Cs,gV,?_,hpb',a4,j7,j8,hsw⟩
 exact {
   cell:=by rw [j7,hpl];exact j5
   uC:=by rw [j7];exact j6
   len:=by rw [vd,j7]
   ins:=j9
   typed:=j10
   few:=by rw [j7];exact h.few
   ret:=h.ret
   nums:=fun c hc=>by
    have uY:Cs[Cs.length-1]? = some c:=by rw [<- List.getLast?_eq_getElem?];exact hc
    have hl:=(List.getElem?_eq_some_iff.1 uY).1
    have hl2:Cs.length-1<C.length:=by omega
    have h0:C[Cs.length-1]? = some C[Cs.length-1]:=List.getElem?_eq_getElem hl2
    have:=(j8 _ c _ uY h0).1
    rw [this]
    exact h.nums _ (by rw [List.getLast?_eq_getElem?,<- j7];exact h0)
   nfew:=by omega
   ncp:=j1
   nodes:=j2
   oc:=j3
   core:=hcore
   ahead:=hah
   rows:=judL_row _ E _
   oX:=.inr ⟨pb,0,gV,(0,0),rfl,hpb',a4⟩
   tW:=by rw [hpl];exact hq
   pcp:=by rw [hpl];exact cW
   vz:=by rw [hpl];exact hsl
   pstr:=fun i s p hs hp=>by
    obtain ⟨q,hq,rfl⟩:=hpg i p hp
    exact df i s q hs hq
   sok:=fun s hs=>eG.move (hsk s hs) hsr hkd
   apart:=jD
   pnode:=fun p hp=>by
    obtain ⟨i,hi⟩:=List.mem_iff_getElem?.1 hp
    obtain ⟨q,hq,rfl⟩:=hpg i p hi
    have qo:=(List.getElem?_eq_some_iff.1 hq).1
    have:=(nR.le (KAt_num X qs.length i qo)).2
    show (nAt X i).toNat<=_
    omega }
end Ev
section
open Go.Deep (BT)
theorem scan_print (x:BT aO) (hg:Good x):∃ A,A.map strip=tk x/\cJ ⟨(aS x).toArray⟩ (aS x).length 0 32 []=some (A++[eS ⟨(aS x).toArray⟩]):=by
 have hs:(⟨(aS x).toArray⟩:ByteArray).size=(aS x).length:=by simp [ByteArray.size]
 obtain ⟨n,rJ,hn,hE⟩:=eats_tree (s:=⟨(aS x).toArray⟩) x hg 0 32 [] (by simp) (by decide)
 obtain ⟨A,hA,e⟩:=hE ((aS x).length-n) []
 have e0:(aS x).length-n+n=(aS x).length:=by omega
 rw [e0] at e
 refine ⟨A,hA,e.trans ?_⟩
 rw [mg _ _ _ _ _ (by rw [hs];omega),List.nil_append]
theorem print_inj {x y:BT aO} (gx:Good x) (gy:Good y) (zx:mn x) (zy:mn y) (h:aS x=aS y):x=y:=by
 obtain ⟨A,hA,e1⟩:=scan_print x gx
 obtain ⟨B,hB,e2⟩:=scan_print y gy
 rw [h] at e1
 rw [e1] at e2
 have e3:A=B:=by
  have:=Option.some.inj e2
  exact List.append_cancel_right this
 subst e3
 have p1:=su x gx zx (max (aK x) (aK y)) (by omega) A [] hA
 have p2:=su y gy zy (max (aK x) (aK y)) (by omega) A [] hB
 rw [p1] at p2
 have:=Option.some.inj p2
 exact congrArg Prod.fst this
theorem o9 {x:BT aO} (h:mn x):mn (bQ x):=by
 cases x with
 | nil=>exact h
 | node b o a l r =>
  simp only [bQ]
  split
  ·exact h.2.2.1
  ·exact ⟨rfl,rfl,h,trivial⟩
theorem zero_core:∀ {x:BT aO},mn x->mn (ak x):=by
 intro x
 induction x with
 | nil=>intro h;exact h
 | node b o a l r il ir =>
  intro h
  have hl:=il h.2.2.1
  have hr:=ir h.2.2.2
  simp only [ak]
  repeat' split
  ·exact h
  ·exact o9 hl
  ·exact o9 ⟨rfl,rfl,o9 hl,o9 hr⟩
  ·exact o9 ⟨rfl,rfl,o9 hl,trivial⟩
  ·exact ⟨rfl,rfl,hl,trivial⟩
  ·exact ⟨rfl,rfl,hl,hr⟩
def fI:List (List UInt8)->BT aO->List (List UInt8)
 | L,.nil=>L
 | L,.node b o a l r=>if aS (.node b o a l r)∈fI (fI L l) r then fI (fI L l) r else fI (fI L l) r++[aS (.node b o a l r)]
def vt (L:List (List UInt8)):BT aO->Int
 | .nil=>0
 | .node b o a l r=>match L.findIdx? (·==aS (.node b o a l r)) with | some i=>(i:Int)+1 | none=>0
def Has (L:List (List UInt8)):BT aO->Prop
 | .nil=>True
 | .node b o a l r=>aS (.node b o a l r)∈L
def qC (L:List (List UInt8)):BT aO->Key
 | .nil=>⟨0,ByteArray.empty,0,0,0,0⟩
 | .node _ _ a l r=>⟨a.op,a.name,a.lo,a.hi,vt L l,vt L r⟩
def dx (x:BT aO):Prop:=Good x/\mn x
def FineN (x:BT aO):Prop:=x=.nil\/dx x
def uq (L:List (List UInt8)):BT aO->Prop
 | .nil=>True
 | .node _ _ _ l r=>Has L l/\Has L r
theorem dx.parts {b o:Nat} {a:aO} {l r:BT aO} (h:dx (.node b o a l r)):FineN l/\FineN r/\b=0/\o=0:=by
 obtain ⟨hg,hz⟩:=h
 obtain ⟨rfl,rfl,zl,zr⟩:=hz
 rcases hg with ⟨_,_,_,_,rfl,rfl⟩ | ⟨_,_,_,_,rfl,rfl⟩ | ⟨_,_,_,_,gl,gr⟩ | ⟨_,_,_,_,gl,rfl⟩
 ·exact ⟨.inl rfl,.inl rfl,rfl,rfl⟩
 ·exact ⟨.inl rfl,.inl rfl,rfl,rfl⟩
 ·exact ⟨.inr ⟨gl,zl⟩,.inr ⟨gr,zr⟩,rfl,rfl⟩
 ·exact ⟨.inr ⟨gl,zl⟩,.inl rfl,rfl,rfl⟩
theorem numL_has {L:List (List UInt8)} {b o:Nat} {a:aO} {l r:BT aO} (h:Has L (.node b o a l r)):∃ i:Nat,vt L (.node b o a l r)=(i:Int)+1/\L[i]? = some (aS (.node b o a l r)):=by
 have h':aS (.node b o a l r)∈L:=h
 simp only [vt]
 cases hf:L.findIdx? (·==aS (.node b o a l r)) with
 | none =>
  rw [List.findIdx?_eq_none_iff] at hf
  have:=hf _ h'
  simp at this
 | some i =>
  obtain ⟨hi,h2,_⟩:=List.findIdx?_eq_some_iff_getElem.1 hf
  refine ⟨i,rfl,?_⟩
  rw [List.getElem?_eq_getElem hi]
  simpa using h2
theorem numL_inj {L:List (List UInt8)} {x y:BT aO} (fx:FineN x) (fy:FineN y) (hx:Has L x) (hy:Has L y) (h:vt L x=vt L y):x=y:=by
 cases x with
 | nil =>
  cases y with
  | nil=>rfl
  | node b o a l r =>
   obtain ⟨i,h1,_⟩:=numL_has hy
   rw [h1] at h
   have:vt L .nil=0:=rfl
   omega
 | node b o a l r =>
  obtain ⟨i,h1,h2⟩:=numL_has hx
  cases y with
  | nil =>
   rw [h1] at h
   have:vt L .nil=0:=rfl
   omega
  | node b' o' a' l' r' =>
   obtain ⟨j,h3,h4⟩:=numL_has hy
   have hij:i=j:=by omega
   subst hij
   rw [h2] at h4
   have fx':dx (.node b o a l r):=by
    rcases fx with e | e
    ·cases e
    ·exact e
   have fy':dx (.node b' o' a' l' r'):=by
    rcases fy with e | e
    ·cases e
    ·exact e
   exact print_inj fx'.1 fy'.1 fx'.2 fy'.2 (Option.some.inj h4)
theorem keyL_inj {L:List (List UInt8)} {x y:BT aO} (fx:dx x) (fy:dx y) (px:uq L x) (py:uq L y) (h:qC L x=qC L y):x=y:=by
 cases x with
 | nil=>exact absurd fx.1 id
 | node b o a l r =>
  cases y with
  | nil=>exact absurd fy.1 id
  | node b' o' a' l' r' =>
   obtain ⟨fl,fr,rfl,rfl⟩:=fx.parts
   obtain ⟨fl',fr',rfl,rfl⟩:=fy.parts
   simp only [qC,Key.mk.injEq] at h
   obtain ⟨e1,e2,e3,e4,e5,e6⟩:=h
   have el:=numL_inj fl fl' px.1 py.1 e5
   have er:=numL_inj fr fr' px.2 py.2 e6
   subst el;subst er
   cases a;cases a'
   simp only at e1 e2 e3 e4
   subst e1;subst e2;subst e3;subst e4
   rfl
structure Twin (K:List Key) (L:List (List UInt8)):Prop where
 len:K.length=L.length
 each:∀ i (h:i<L.length),∃ x,L[i]=aS x/\dx x/\uq L x/\K[i]? = some (qC L x)
theorem Twin.nil:Twin [] []:=⟨rfl,fun i h=>absurd h (Nat.not_lt_zero i)⟩
theorem Twin.find {K:List Key} {L:List (List UInt8)} (h:Twin K L) {x:BT aO} (fx:dx x) (px:uq L x):kL K (qC L x)=L.findIdx? (·==aS x):=by
 have hp:∀ i (hk:i<K.length) (hl:i<L.length),keyEq (qC L x) K[i]=(L[i]==aS x):=by
  intro i hk hl
  obtain ⟨y,e1,fy,py,e2⟩:=h.each i hl
  rw [List.getElem?_eq_getElem hk] at e2
  have e3:K[i]=qC L y:=Option.some.inj e2
  rw [e3,e1]
  by_cases hxy:x=y
  ·subst hxy
   rw [oO.2 rfl]
   simp
  ·have n1:keyEq (qC L x) (qC L y)=false:=by
    cases hb:keyEq (qC L x) (qC L y) with
    | true=>exact absurd (keyL_inj fx fy px py (oO.1 hb)) hxy
    | false=>rfl
   have n2:(aS y==aS x)=false:=by
    simp
    exact fun e=>hxy (print_inj fx.1 fy.1 fx.2 fy.2 e.symm)
   rw [n1,n2]
 unfold kL
 cases hf:L.findIdx? (·==aS x) with
 | none =>
  rw [List.findIdx?_eq_none_iff] at hf ⊢
  intro k hk
  obtain ⟨i,hi,rfl⟩:=List.getElem_of_mem hk
  have hl:i<L.length:=by rw [<- h.len];exact hi
  rw [hp i hi hl]
  exact hf _ (List.getElem_mem hl)
 | some i =>
  obtain ⟨hi,h2,h3⟩:=List.findIdx?_eq_some_iff_getElem.1 hf
  have hk:i<K.length:=by rw [h.len];exact hi
  refine List.findIdx?_eq_some_iff_getElem.2 ⟨hk,by rw [hp i hk hi];exact h2,fun j hj=>?_⟩
  have hl2:j<L.length:=by omega
  have hk2:j<K.length:=by omega
  rw [hp j hk2 hl2]
  exact h3 j hj
def Pre (L M:List (List UInt8)):Prop:=∃ N,M=L++N
theorem Pre.refl (L:List (List UInt8)):Pre L L:=⟨[],by simp⟩
theorem Pre.trans {L M N:List (List UInt8)} (h:Pre L M) (g:Pre M N):Pre L N:=by
 obtain ⟨A,rfl⟩:=h;obtain ⟨B,rfl⟩:=g;exact ⟨A++B,by simp⟩
theorem Has.pre {L M:List (List UInt8)} {x:BT aO} (h:Has L x) (g:Pre L M):Has M x:=by
 obtain ⟨N,rfl⟩:=g
 cases x with
 | nil=>trivial
 | node b o a l r=>exact List.mem_append_left _ h
theorem numL_pre {L M:List (List UInt8)} {x:BT aO} (h:Has L x) (g:Pre L M):vt M x=vt L x:=by
 obtain ⟨N,rfl⟩:=g
 cases x with
 | nil=>rfl
 | node b o a l r =>
  simp only [vt]
  rw [List.findIdx?_append]
  cases hf:L.findIdx? (·==aS (.node b o a l r)) with
  | some i=>rfl
  | none =>
   exfalso
   rw [List.findIdx?_eq_none_iff] at hf
   have:=hf _ (show aS (.node b o a l r)∈L from h)
   simp at this
def addB (L:List (List UInt8)) (s:List UInt8):List (List UInt8):=if s∈L then L else L++[s]
theorem addB_pre (L:List (List UInt8)) (s:List UInt8):Pre L (addB L s):=by
 unfold addB
 split
 ·exact Pre.refl L
 ·exact ⟨[s],rfl⟩
theorem Twin.add {K:List Key} {L:List (List UInt8)} (h:Twin K L) {b o:Nat} {a:aO} {l r:BT aO} (fx:dx (.node b o a l r)) (px:uq L (.node b o a l r)) :
  Twin (mo K (qC L (.node b o a l r))).2 (addB L (aS (.node b o a l r)))/\(mo K (qC L (.node b o a l r))).1=vt (addB L (aS (.node b o a l r))) (.node b o a l r)/\Has (addB L (aS (.node b o a l r))) (.node b o a l r):=by
 have hf:=h.find fx px
 have lq:∀ M,vt M (.node b o a l r)=match M.findIdx? (·==aS (.node b o a l r)) with | some i=>(i:Int)+1 | none=>0:=fun _=>rfl
 have hhas:∀ M,Has M (.node b o a l r)=(aS (.node b o a l r)∈M):=fun _=>rfl
 have hparts:∀ M,Pre L M->uq M (.node b o a l r):=fun M g=>⟨px.1.pre g,px.2.pre g⟩
 have hkey:∀ M,Pre L M->∀ y,uq L y->qC M y=qC L y:=by
  intro M g y py
  cases y with
  | nil=>rfl
  | node b o a l r=>simp only [qC];rw [numL_pre py.1 g,numL_pre py.2 g]
 have hpp:∀ M,Pre L M->∀ y,uq L y->uq M y:=by
  intro M g y py
  cases y with
  | nil=>trivial
  | node b o a l r=>exact ⟨py.1.pre g,py.2.pre g⟩
 rw [lq,hhas]
 generalize hx:(BT.node b o a l r:BT aO)=x at *
 unfold mo addB
 cases hq:L.findIdx? (·==aS x) with
 | some i =>
  rw [hq] at hf
  rw [hf]
  obtain ⟨hi,h2,_⟩:=List.findIdx?_eq_some_iff_getElem.1 hq
  have hm:aS x∈L:=by
   have e:L[i]=aS x:=by simpa using h2
   rw [<- e];exact List.getElem_mem hi
  rw [if_pos hm,hq]
  exact ⟨h,rfl,hm⟩
 | none =>
  rw [hq] at hf
  rw [hf]
  have hm:¬ aS x∈L:=by
   intro hm
   rw [List.findIdx?_eq_none_iff] at hq
   have:=hq _ hm
   simp at this
  rw [if_neg hm,List.findIdx?_append,hq]
  have g:Pre L (L++[aS x]):=⟨_,rfl⟩
  refine ⟨⟨by simp [h.len],?_⟩,?_,by simp⟩
  ·intro i hi
   by_cases hl:i<L.length
   ·obtain ⟨y,e1,fy,py,e2⟩:=h.each i hl
    refine ⟨y,?_,fy,hpp _ g y py,?_⟩
    ·rw [List.getElem_append_left hl];exact e1
    ·rw [List.getElem?_append_left (by rw [h.len];exact hl),hkey _ g y py];exact e2
   ·have rC:i=L.length:=by simp at hi;omega
    subst rC
    refine ⟨x,by simp,fx,hparts _ g,?_⟩
    rw [hkey _ g x px,List.getElem?_append_right (by rw [h.len];exact Nat.le_refl _),h.len]
    simp
  ·simp [h.len]
theorem withB_pre:∀ (x:BT aO) (L:List (List UInt8)),Pre L (fI L x)
 | .nil,L=>Pre.refl L
 | .node b o a l r,L=>((withB_pre l L).trans (withB_pre r _)).trans (addB_pre (fI (fI L l) r) (aS (.node b o a l r)))
theorem Twin.put:∀ (x:BT aO),FineN x->∀ (K:List Key) (L:List (List UInt8)),Twin K L->Twin (aX K x).2 (fI L x)/\(aX K x).1=vt (fI L x) x/\Has (fI L x) x:=by
 intro x
 induction x with
 | nil=>intro _ K L h;exact ⟨h,rfl,trivial⟩
 | node b o a l r il ir =>
  intro hx K L h
  have fx:dx (.node b o a l r):=by
   rcases hx with e | e
   ·cases e
   ·exact e
  obtain ⟨fl,fr,_,_⟩:=fx.parts
  obtain ⟨t1,n1,m1⟩:=il fl K L h
  obtain ⟨t2,n2,m2⟩:=ir fr (aX K l).2 (fI L l) t1
  have g:=withB_pre r (fI L l)
  have hk:(⟨a.op,a.name,a.lo,a.hi,(aX K l).1,(aX (aX K l).2 r).1⟩:Key)=qC (fI (fI L l) r) (.node b o a l r):=by
   simp only [qC]
   rw [n1,n2,numL_pre m1 g]
  have:=t2.add fx ⟨m1.pre g,m2⟩
  rw [<- hk] at this
  exact this
theorem count_eq {K:List Key} {L:List (List UInt8)} (h:Twin K L) {x:BT aO} (hx:dx x):Twin (aX K (ak x)).2 (fI L (ak x)):=(Twin.put (ak x) (.inr ⟨cA hx.1,zero_core hx.2⟩) K L h).1
end
namespace Ev
open Go.RowKit Go.Deep
def rN:BT aO->List (List UInt8)
 | .nil=>[]
 | .node b o a l r=>rN l++rN r++[aS (.node b o a l r)]
theorem o8:∀ (x:BT aO) (L:List (List UInt8)) (t:List UInt8),t∈fI L x↔t∈L\/t∈rN x
 | .nil,L,t=>by simp [fI,rN]
 | .node b o a l r,L,t=>by
  have h1:=o8 r (fI L l) t
  have h2:=o8 l L t
  have h3:∀ s,s∈fI (fI L l) r↔(s∈L\/s∈rN l)\/s∈rN r:=fun s=>by rw [o8 r,o8 l]
  unfold fI rN
  simp only [List.mem_append,List.mem_singleton]
  split
  ·rename_i tP
   rw [h3]
   constructor
   ·rintro ((h | h) | h)
    ·exact .inl h
    ·exact .inr (.inl (.inl h))
    ·exact .inr (.inl (.inr h))
   ·rintro (h | (h | h) | h)
    ·exact .inl (.inl h)
    ·exact .inl (.inr h)
    ·exact .inr h
    ·subst h;exact (h3 _).1 tP
  ·rw [List.mem_append,List.mem_singleton,h3]
   constructor
   ·rintro (((h | h) | h) | h)
    ·exact .inl h
    ·exact .inr (.inl (.inl h))
    ·exact .inr (.inl (.inr h))
    ·exact .inr (.inr h)
   ·rintro (h | (h | h) | h)
    ·exact .inl (.inl (.inl h))
    ·exact .inl (.inl (.inr h))
    ·exact .inl (.inr h)
    ·exact .inr h
theorem rR:∀ (x:BT aO) (L:List (List UInt8)),L.Nodup->(fI L x).Nodup
 | .nil,L,h=>h
 | .node b o a l r,L,h=>by
  have h1:=rR r _ (rR l L h)
  unfold fI
  split
  ·exact h1
  ·rename_i hn
   exact List.nodup_append.2 ⟨h1,by simp,fun a ha b hb=>by simp at hb;subst hb;rintro rfl;exact hn ha⟩
def textsB (X:Nat->BT aO):Nat->List (List UInt8)
 | 0=>[]
 | n+1=>fI (textsB X n) (ak (X n))
theorem twin_KAt (X:Nat->BT aO):∀ n,(∀ j,j<n->dx (X j))->Twin (dN X n) (textsB X n)
 | 0,_=>Twin.nil
 | n+1,h=>count_eq (twin_KAt X n fun j hj=>h j (by omega)) (h n (by omega))
theorem ua (X:Nat->BT aO) (t:List UInt8):∀ n,t∈textsB X n↔∃ j,j<n/\t∈rN (ak (X j))
 | 0=>by simp [textsB]
 | n+1=>by
  rw [textsB,o8,ua X t n]
  constructor
  ·rintro (⟨j,h1,h2⟩ | h)
   ·exact ⟨j,by omega,h2⟩
   ·exact ⟨n,by omega,h⟩
  ·rintro ⟨j,h1,h2⟩
   by_cases hj:j<n
   ·exact .inl ⟨j,hj,h2⟩
   ·obtain rfl:j=n:=by omega
    exact .inr h2
theorem vQ (X:Nat->BT aO):∀ n,(textsB X n).Nodup
 | 0=>List.nodup_nil
 | n+1=>rR _ _ (vQ X n)
theorem nodup_le {α:Type} [DecidableEq α]:∀ (l m:List α),l.Nodup->(∀ t∈l,t∈m)->l.length<=m.length
 | [],_,_,_=>Nat.zero_le _
 | a::l,m,h,hs=>by
  have ha:=hs a (by simp)
  have hn:=(List.nodup_cons.1 h)
  have ih:=nodup_le l (m.erase a) hn.2 (fun t ht=>(List.mem_erase_of_ne (by rintro rfl;exact hn.1 ht)).2 (hs t (by simp [ht])))
  have hl:=List.length_erase_of_mem ha
  have hp:0<m.length:=List.length_pos_of_mem ha
  simp only [List.length_cons]
  omega
theorem KAt_sub (X Y:Nat->BT aO) (n m:Nat) (hX:∀ j,j<n->dx (X j)) (hY:∀ j,j<m->dx (Y j)) (h:∀ j,j<n->∃ i,i<m/\X j=Y i):(dN X n).length<=(dN Y m).length:=by
 rw [(twin_KAt X n hX).len,(twin_KAt Y m hY).len]
 refine nodup_le _ _ (vQ X n) fun t ht=>?_
 obtain ⟨j,hj,h1⟩:=(ua X t n).1 ht
 obtain ⟨i,hi,e⟩:=h j hj
 exact (ua Y t m).2 ⟨i,hi,by rw [<- e];exact h1⟩
end Ev
end Go.Proofs.YtpbbmagjhkakgaaGreatDoor
