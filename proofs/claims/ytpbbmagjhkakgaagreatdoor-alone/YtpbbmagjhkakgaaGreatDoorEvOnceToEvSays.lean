import Derived.Test.YtpbbmagjhkakgaaGreatDoorPureSemToEvBack
namespace Go.Proofs.YtpbbmagjhkakgaaGreatDoor
namespace Ev
open Go.RowKit Go.Shelf
attribute [local go_sem] Oper.semAt_some
def kC (f:Pe->Option Bool):List Pe->Bool
 | []=>false
 | e::es=>match f e with
  | some b=>b
  | none=>kC f es
theorem firstD_none {f:Pe->Option Bool}:∀ {L:List Pe},(∀ e∈L,f e=none)->kC f L=false
 | [],_=>rfl
 | e::es,h=>by simp only [kC,h e (.head _)];exact firstD_none fun x hx=>h x (.tail _ hx)
theorem firstD_some {f:Pe->Option Bool} {e:Pe} {b:Bool} (he:f e=some b) (M:List Pe):∀ {L:List Pe},(∀ e∈L,f e=none)->kC f (L++e::M)=b
 | [],_=>by simp [kC,he]
 | x::es,h=>by simp only [List.cons_append,kC,h x (.head _)];exact firstD_some he M fun y hy=>h y (.tail _ hy)
def qU (t lo hi j:Int) (e:Pe):Option Bool:=if t-e.time > hi then some false else if t-e.time>=lo/\e.at j=true then some true else none
def pA (t lo hi j k:Int) (e:Pe):Option Bool:=if t-e.time > hi then some false else if t-e.time>=lo/\e.at k=true then some true else if e.at j=false then some false else none
theorem onceF_first (t lo hi j:Int):∀ L,qt t lo hi j L=kC (qU t lo hi j) L
 | []=>rfl
 | e::es=>by
  simp only [qt,kC,qU,onceF_first t lo hi j es]
  by_cases h1:t-e.time > hi
  ·simp [h1]
  ·by_cases h2:t-e.time>=lo/\e.at j=true
   ·simp [h1,h2]
   ·simp [h1,h2]
theorem vJ (t lo hi j k:Int):∀ L,kM t lo hi j k L=kC (pA t lo hi j k) L
 | []=>rfl
 | e::es=>by
  simp only [kM,kC,pA,vJ t lo hi j k es]
  by_cases h1:t-e.time > hi
  ·simp [h1]
  ·by_cases h2:t-e.time>=lo/\e.at k=true
   ·simp [h1,h2]
   ·by_cases h3:e.at j=false
    ·simp [h1,h2,h3]
    ·simp [h1,h2,h3]
theorem downTo_pre (n:Nat):∀ (d k:Nat),k+d<=n->∃ M,fJ n (k+d)=fJ n k++M
 | 0,k,_=>⟨[],by simp⟩
 | d+1,k,h=>by
  obtain ⟨M,hM⟩:=downTo_pre n d k (by omega)
  exact ⟨M++[⟨n-1-(k+d),by omega⟩],by rw [<- Nat.add_assoc,nz (by omega),hM];simp⟩
def cv (E:Nat->Pe) (len:Nat):List Pe:=(fJ len len).map fun x=>E x.1
structure cZ (w:World) (c:bx) (e:Pe):Prop where
 number:c.number=e.number
 time:c.time=e.time
 low : -1000000000000<=e.time/\e.time<=1000000000000
 sl:c.sl=e.so.length
 slen:e.so.length<=1000000
 so:∃ sb,c.so=some ⟨sb,0,none⟩/\sb<w.heap.size/\∀ j b,e.so[j]? = some b->w.cell? ⟨sb,j,none⟩=some (.bool b)
 al:c.al=e.atoms.length
 alen:e.atoms.length<=1000000
 atoms:eI w c.ao e.atoms
theorem cZ.below {w w':World} {c:bx} {e:Pe} (h:cZ w c e) (hb:Below w.heap.size w w'):cZ w' c e:=by
 obtain ⟨sb,s1,s2,s3⟩:=h.so
 exact { h with so:=⟨sb,s1,Nat.lt_of_lt_of_le s2 hb.size,fun j b hj=>by rw [hb.cell (p:=⟨sb,j,none⟩) s2];exact s3 j b hj⟩,atoms:=h.atoms.below hb }
theorem cZ.bit {w:World} {e:Pe} {sb:Nat} (hs:∀ j b,e.so[j]? = some b->w.cell? ⟨sb,j,none⟩=some (.bool b)) {j:Nat} (hj:j<e.so.length):w.cell? ⟨sb,j,none⟩=some (.bool (e.at (j:Int))) :=
 hs _ _ (by rw [List.getElem?_eq_getElem hj];simp [Pe.at,hj])
theorem pW {β:Type} (B:Nat) (cs:Array Value) (t:TypeId) (m:Nat×Nat):Own (fun (_:β) (W:World)=>W.heap[B]? = some (.cells cs t m)):=fun _ W W' row h hg hr=>by
 show W'.heap[B]? = _
 have h':W.heap[B]? = some (.cells cs t m):=h
 rw [hg.block B (Array.getElem?_eq_some_iff.1 h').1 (fun e=>by obtain ⟨o,h1,h2⟩:=hr B e.symm;rw [h'] at h1;cases h1;cases h2)]
 exact h'
def sZ {n:Nat} (f:Pe->Option Bool) (E:Nat->Pe) (pre:List { j:Nat // j<n }):Bool:=match pre.getLast? with
 | some x=>(f (E x.1)).getD false
 | none=>false
theorem jU {n:Nat} (f:Pe->Option Bool) (E:Nat->Pe) (pre:List { j:Nat // j<n }) (x:{ j:Nat // j<n }) {b:Bool} (h:f (E x.1)=some b):sZ f E (pre++[x])=b:=by
 simp [sZ,h]
def NoneD {n:Nat} (f:Pe->Option Bool) (E:Nat->Pe) (pre:List { j:Nat // j<n }):Prop:=∀ x∈pre,f (E x.1)=none
def StopD {n:Nat} (f:Pe->Option Bool) (E:Nat->Pe) (c:Code) (pre:List { j:Nat // j<n }):Prop:=c=.ret/\∃ pre' x b,pre=pre'++[x]/\NoneD f E pre'/\f (E x.1)=some b
theorem NoneD.snoc {n:Nat} {f:Pe->Option Bool} {E:Nat->Pe} {pre:List { j:Nat // j<n }} (h:NoneD f E pre) {x:{ j:Nat // j<n }} (hx:f (E x.1)=none):NoneD f E (pre++[x]):=fun z hz=>by
 rcases List.mem_append.1 hz with hz | hz
 ·exact h z hz
 ·simp at hz;subst hz;exact hx
theorem sX {n:Nat} (f:Pe->Option Bool) (E:Nat->Pe) {pre pre':List { j:Nat // j<n }} {x:{ j:Nat // j<n }} {b:Bool} {k:Nat} (hk:k<=n) (hpre:pre=fJ n k) (he:pre=pre'++[x]) (hn:∀ y∈pre',f (E y.1)=none) (hx:f (E x.1)=some b):kC f (cv E n)=b:=by
 obtain ⟨M,hM⟩:=downTo_pre n (n-k) k (by omega)
 have hM':fJ n n=pre'++x::M:=by
  have:fJ n n=fJ n k++M:=by rw [<- hM];congr 1;omega
  rw [this,<- hpre,he];simp
 unfold cv
 rw [hM',List.map_append,List.map_cons]
 exact firstD_some hx _ (by intro e he;obtain ⟨y,hy,rfl⟩:=List.mem_map.1 he;exact hn y hy)
theorem sW {n:Nat} (f:Pe->Option Bool) (E:Nat->Pe) (h:∀ y∈fJ n n,f (E y.1)=none):kC f (cv E n)=false :=
 firstD_none (by intro e he;obtain ⟨y,hy,rfl⟩:=List.mem_map.1 he;exact h y hy)
set_option maxRecDepth 100000 in
set_option maxHeartbeats 8000000 in
theorem once_in (F:Fence) (n:Nat) (hfn:F.fn 194) (h207:F.fn 207) (h215:F.fn 215) (hro:F.round=none) (hn:6<=n) (op:Int) (name:ByteArray) (lo hi:Int) (l r:Nat) (g cap m:Nat) (C:Nat->bx) (E:Nat->Pe) (w:World) (hm:m+1<=1000000) (hg:g<w.heap.size) (cW:m+1<=cap)
  (hc:∀ i k v,i<m+1->(bf (C i))[k]? = some v->w.cell? ⟨g,i*4+k,none⟩=some v) (hE:∀ i,i<m+1->cZ w (C i) (E i)) (hlE:∀ i,i<m+1->l<(E i).so.length) :
  CallsIn F n Tryz.prog 194 #[.agg #[.int .i32 op,.string name,.int .i64 lo,.int .i64 hi,.int .i64 (l:Int),.int .i64 (r:Int)],.slice (some ⟨g,0,none⟩) (m+1) cap] w fun e W'=>e=.returned (.bool (qt (E m).time lo hi l (cv E (m+1))))/\Below w.heap.size w W':=by
 have h1:1<=n:=by omega
 rw [onceF_first]
 have q1:w.cell? ⟨g,m*4+1,none⟩=some (.int .i64 (E m).time):=by rw [<- (hE m (by omega)).time];exact hc m 1 _ (by omega) rfl
 have hlow:=(hE m (by omega)).low
 refine callsIn_of_wp_marks Tryz.func194 rfl hfn ?_ hro
 simp only [Tryz.ntmps194,List.size_toArray,List.length_cons,List.length_nil,Nat.reduceAdd,Nat.reduceSub,Array.replicate_succ,Array.replicate_zero,List.push_toArray,List.append_toArray,List.nil_append,List.cons_append]
 generalize hNow:(E m).time=now at *
 gi_wp2_with (gi_at_call 207;refine (backward_in F (n-1) h207 hro _ _ _ _).mono ?_;rintro e w' ⟨rfl,rfl⟩)
 have hB0:Below w.heap.size w ((((w.alloc (.cells #[.int .i32 op,.string name,.int .i64 lo,.int .i64 hi,.int .i64 (l:Int),.int .i64 (r:Int)] 226)).alloc (.cells #[.bool false] 4)).alloc (.cells #[.int .i64 now] 3)).alloc (.cells #[.slice (some ⟨g,0,none⟩) (m+1) cap] 146)):=((((Below.refl _ w).alloc (Nat.le_refl _) _).alloc (by simp) _).alloc (by simp;omega) _).alloc (by simp;omega) _
 have nB:((((w.alloc (.cells #[.int .i32 op,.string name,.int .i64 lo,.int .i64 hi,.int .i64 (l:Int),.int .i64 (r:Int)] 226)).alloc (.cells #[.bool false] 4)).alloc (.cells #[.int .i64 now] 3)).alloc (.cells #[.slice (some ⟨g,0,none⟩) (m+1) cap] 146)).heap[w.heap.size]? = some (.cells #[.int .i32 op,.string name,.int .i64 lo,.int .i64 hi,.int .i64 (l:Int),.int .i64 (r:Int)] 226 (0,0)):=by
  rw [Below.heap_alloc _ _ _ (by simp;omega),Below.heap_alloc _ _ _ (by simp;omega),Below.heap_alloc _ _ _ (by simp)];exact aB _ _ _ rfl
 have bR:=((Boxed.new (w.alloc (.cells #[.int .i32 op,.string name,.int .i64 lo,.int .i64 hi,.int .i64 (l:Int),.int .i64 (r:Int)] 226)) 4 (.bool false)).alloc (.cells #[.int .i64 now] 3)).alloc (.cells #[.slice (some ⟨g,0,none⟩) (m+1) cap] 146)
 have bN:=(Boxed.new ((w.alloc (.cells #[.int .i32 op,.string name,.int .i64 lo,.int .i64 hi,.int .i64 (l:Int),.int .i64 (r:Int)] 226)).alloc (.cells #[.bool false] 4)) 3 (.int .i64 now)).alloc (.cells #[.slice (some ⟨g,0,none⟩) (m+1) cap] 146)
 have bS:=Boxed.new (((w.alloc (.cells #[.int .i32 op,.string name,.int .i64 lo,.int .i64 hi,.int .i64 (l:Int),.int .i64 (r:Int)] 226)).alloc (.cells #[.bool false] 4)).alloc (.cells #[.int .i64 now] 3)) 146 (.slice (some ⟨g,0,none⟩) (m+1) cap)
 simp only [World.size_alloc] at bR bN bS
 have oK:((((w.alloc (.cells #[.int .i32 op,.string name,.int .i64 lo,.int .i64 hi,.int .i64 (l:Int),.int .i64 (r:Int)] 226)).alloc (.cells #[.bool false] 4)).alloc (.cells #[.int .i64 now] 3)).alloc (.cells #[.slice (some ⟨g,0,none⟩) (m+1) cap] 146)).heap.size=w.heap.size+4:=by simp
 obtain ⟨W0,hW0⟩:∃ W0,(((w.alloc (.cells #[.int .i32 op,.string name,.int .i64 lo,.int .i64 hi,.int .i64 (l:Int),.int .i64 (r:Int)] 226)).alloc (.cells #[.bool false] 4)).alloc (.cells #[.int .i64 now] 3)).alloc (.cells #[.slice (some ⟨g,0,none⟩) (m+1) cap] 146)=W0:=⟨_,rfl⟩
 rw [hW0] at hB0 nB bR bN bS oK ⊢
 clear hW0
 refine wpIn_rangeFunc_ownH hro h1 (gf:=215) (lb:=#[.pointer (some ⟨w.heap.size+1+1+1,0,none⟩)]) rfl h215 (enters_of Tryz.func215 (by kernel_rfl) rfl)
  (back_stops F (n-1) h215 hro (by omega) (w.heap.size+1+1+1) W0.heap.size g cap (m+1) C hm (by omega) (by omega) W0 (Nat.le_refl _) bS.cell cW (fun i k v hi hv=>(hB0.cell (p:=⟨g,i*4+k,none⟩) hg).trans (hc i k v hi hv))) belowK_t (belowK_b (Nat.le_refl _)) (Below.refl _ _) (fun _=>rfl)
  (fun pre W=>((NoneD (qU now lo hi l) E pre/\Boxed W (w.heap.size+1) 4 (.bool false))/\(W.heap[w.heap.size]? = some (.cells #[.int .i32 op,.string name,.int .i64 lo,.int .i64 hi,.int .i64 (l:Int),.int .i64 (r:Int)] 226 (0,0))/\(Boxed W (w.heap.size+1+1) 3 (.int .i64 now)/\Boxed W (w.heap.size+1+1+1) 146 (.slice (some ⟨g,0,none⟩) (m+1) cap))))/\Below w.heap.size w W)
  (fun c pre W=>(StopD (qU now lo hi l) E c pre/\Boxed W (w.heap.size+1) 4 (.bool (sZ (qU now lo hi l) E pre)))/\Below w.heap.size w W)
  (OwnFrom.and (OwnFrom.and (OwnFrom.and (ownFrom_pure _ _) (Own.from (boxed_own _ _ _) _)) (OwnFrom.and (Own.from (pW _ _ _ _) _) (OwnFrom.and (Own.from (boxed_own _ _ _) _) (Own.from (boxed_own _ _ _) _)))) (ownFrom_below (Nat.le_refl _) (by omega)))
  (fun c=>OwnFrom.and (OwnFrom.and (ownFrom_pure _ _) (Own.from (boxed_own _ _ (fun pre=>Value.bool (sZ (qU now lo hi l) E pre))) _)) (ownFrom_below (Nat.le_refl _) (by omega)))
  ⟨⟨⟨fun _ h=>by simp at h,bR⟩,nB,bN,bS⟩,hB0⟩
  (fun x a' W=>∃ Bx,w.heap.size+1+1<Bx/\W.heap[Bx]? = some (.cells #[.int .i64 (C x.1).number,.int .i64 (C x.1).time,.slice (C x.1).ao (C x.1).al (C x.1).ac,.slice (C x.1).so (C x.1).sl (C x.1).sc] 159 (0,0))/\a'={ tmps:=#[.agg #[.int .i32 op,.string name,.int .i64 lo,.int .i64 hi,.int .i64 (l:Int),.int .i64 (r:Int)],.slice (some ⟨g,0,none⟩) (m+1) cap,.pointer (some ⟨w.heap.size,0,none⟩),undef,.pointer (some ⟨w.heap.size+1,0,none⟩),.pointer (some ⟨w.heap.size+1+1,0,none⟩),undef,.pointer (some ⟨Bx,0,none⟩),undef,.slice (some ⟨g,0,none⟩) (m+1) cap,.slice (some ⟨g,0,none⟩) (m+1) cap,.int .i64 ((m:Int)+1),.int .i64 (m:Int),.pointer (some ⟨g,m*4,none⟩),.pointer (some ⟨g,m*4+1,none⟩),.int .i64 now,.slice (some ⟨g,0,none⟩) (m+1) cap,.func (.func 215) #[] #[.pointer (some ⟨w.heap.size+1+1+1,0,none⟩)],.int .i64 (x.1:Int),gv (C x.1),undef,undef,undef,undef,undef,undef,undef,undef,undef,undef,undef,undef,undef,undef,undef,undef,undef,undef,undef,undef,undef,undef],defers:=[] })
  (fun x a' _ X Y row hs hg hr=>by obtain ⟨Bx,e1,e2,e3⟩:=hs;exact ⟨Bx,e1,pW Bx _ 159 (0,0) () X Y row e2 hg (fun r e=>(hr r e).2),e3⟩)
  ?assign ?body ?done ?stop
 case assign =>
  rintro lp pre x W K ⟨⟨⟨hp,pz⟩,nB1,bN1,bS1⟩,nY⟩ hK
  have hlt1:=bS1.lt
  simp only [gv]
  gi_wp2
  exact hK _ _ ((KeepsOthers.alloc _ _).from _) ((Below.refl _ W).alloc (by omega) _) ⟨⟨⟨hp,pz.alloc _⟩,(Below.heap_alloc _ _ _ (by omega)).trans nB1,bN1.alloc _,bS1.alloc _⟩,nY.alloc nY.size _⟩ ⟨W.heap.size,by omega,aB _ _ _ rfl,rfl⟩
 case body =>
  rintro lp pre x a' W hlp ⟨rr,hrr⟩ ⟨⟨⟨hp,pz⟩,nB1,bN1,bS1⟩,nY⟩ ⟨Bx,hBx,hX,rfl⟩ cz
  have hEx:=hE x.1 x.2
  obtain ⟨sb,s1,s2,s3⟩:=hEx.so
  have hlx:=hlE x.1 x.2
  have bl:W.cell? ⟨sb,l,none⟩=some (.bool ((E x.1).at (l:Int))):=(nY.cell (p:=⟨sb,l,none⟩) s2).trans (cZ.bit s3 hlx)
  have tE:=hEx.time
  have tl:=hEx.low
  have sE:=hEx.sl
  have sle:=hEx.slen
  rw [tE,s1,sE] at hX
  have cN:=bN1.cell
  have cR:=pz.cell
  have fR:=pz.frozen
  have cX1:=ae (i:=1) hX rfl
  have cX3:=ae (i:=3) hX rfl
  have k2:=ae (i:=2) nB1 rfl
  have k3:=ae (i:=3) nB1 rfl
  have k4:=ae (i:=4) nB1 rfl
  have k5:=ae (i:=5) nB1 rfl
  have nZ:qU now lo hi l (E x.1)=(if now-(E x.1).time > hi then some false else if now-(E x.1).time>=lo/\(E x.1).at (l:Int)=true then some true else none):=rfl
  have Hn:Hid (∀ b,qU now lo hi l (E x.1)=some b->sZ (qU now lo hi l) E (pre++[x])=b):=fun b hb=>jU _ _ _ _ hb
  have Hw:Hid (∀ b W',qU now lo hi l (E x.1)=some b->KeepsFrom W0.heap.size W W'->Boxed W' (w.heap.size+1) 4 (.bool b)->Below w.heap.size w W'->KeepsFrom W0.heap.size W W'/\(StopD (qU now lo hi l) E .ret (pre++[x])/\Boxed W' (w.heap.size+1) 4 (.bool (sZ (qU now lo hi l) E (pre++[x]))))/\Below w.heap.size w W'):=fun b W' hb h1 h2 h3=>⟨h1,⟨⟨rfl,pre,x,b,rfl,hp,hb⟩,by rw [jU _ _ _ _ hb];exact h2⟩,h3⟩
  have Hg:Hid (NoneD (qU now lo hi l) E pre):=hp
  have Hv:=Hw
  rw [oK] at Hv
  clear hE hc hp tE s1 sE s3 hX hEx nB hB0 bS bN bR q1
  generalize (E x.1).time=t1 at *
  generalize (E x.1).so.length=sl at *
  generalize hbl:(E x.1).at (l:Int)=b1 at *
  by_cases d1:now-t1 > hi
  ·have hd:qU now lo hi l (E x.1)=some false:=by rw [nZ,if_pos d1]
   clear nZ hbl
   gi_wp2
   first | exact Hw.out false _ hd ((KeepsOthers.setCell _ _ _).from _) (pz.set _) (nY.setCell (p:=⟨w.heap.size+1,0,none⟩) (by simp) _) | exact Hv.out false _ hd ((KeepsOthers.setCell _ _ _).from _) (pz.set _) (nY.setCell (p:=⟨w.heap.size+1,0,none⟩) (by simp) _)
  ·by_cases d2:now-t1>=lo
   ·cases b1 with
    | true =>
     have hd:qU now lo hi l (E x.1)=some true:=by rw [nZ,if_neg d1,if_pos ⟨d2,rfl⟩]
     clear nZ hbl
     gi_wp2
     first | exact Hw.out true _ hd ((KeepsOthers.setCell _ _ _).from _) (pz.set _) (nY.setCell (p:=⟨w.heap.size+1,0,none⟩) (by simp) _) | exact Hv.out true _ hd ((KeepsOthers.setCell _ _ _).from _) (pz.set _) (nY.setCell (p:=⟨w.heap.size+1,0,none⟩) (by simp) _)
    | false =>
     have hd:qU now lo hi l (E x.1)=none:=by rw [nZ,if_neg d1,if_neg (fun h=>by cases h.2)]
     clear nZ hbl
     gi_wp2
     exact ⟨KeepsFrom.refl _ _,Below.refl _ _,⟨⟨Hg.out.snoc hd,pz⟩,nB1,bN1,bS1⟩,nY⟩
   ·have hd:qU now lo hi l (E x.1)=none:=by rw [nZ,if_neg d1,if_neg (fun h=>d2 h.1)]
    clear nZ hbl
    gi_wp2
    exact ⟨KeepsFrom.refl _ _,Below.refl _ _,⟨⟨Hg.out.snoc hd,pz⟩,nB1,bN1,bS1⟩,nY⟩
 case done =>
  rintro D zs W hD rfl ⟨⟨⟨hp,pz⟩,nB1,bN1,bS1⟩,nY⟩ hK
  have cR:=pz.cell
  have fR:=pz.frozen
  gi_wp2
  have hK':=(KeepsOthers.setCell W ⟨w.heap.size+1,0,none⟩ (.bool false)).same D _ hK rfl
  refine ⟨by simp,.inl ⟨_,_,rfl,run_takeDeferred hK',?_⟩⟩
  have hc5:=cell_kept (pz.set (.bool false)).cell (grownBy_putObj' _ D (.deferred none)) (fun r e=>by cases e;exact ⟨_,hK',rfl⟩)
  refine ⟨.bool false,?_,by rw [sW _ _ hp],(nY.setCell (p:=⟨w.heap.size+1,0,none⟩) (by simp) _).trans (belowK_b (w:=w) (Nat.le_refl _) _ D _ _ (by omega) hK' rfl rfl)⟩
  simp [results,Tryz.f194,go_sem,hc5]
 case stop =>
  rintro D c pre W hD ⟨k,hk,hpre⟩ ⟨⟨⟨rfl,pre',x,b,e1,e2,e3⟩,pz⟩,nY⟩ hK
  rw [e1,jU _ _ _ _ e3] at pz
  gi_wp2
  refine ⟨by simp,.inl ⟨_,_,rfl,run_takeDeferred hK,?_⟩⟩
  have hc5:=cell_kept pz.cell (grownBy_putObj' _ D (.deferred none)) (fun r e=>by cases e;exact ⟨_,hK,rfl⟩)
  refine ⟨.bool b,?_,by rw [sX _ _ hk hpre e1 e2 e3],nY.trans (belowK_b (w:=w) (Nat.le_refl _) W D _ _ (by omega) hK rfl rfl)⟩
  simp [results,Tryz.f194,go_sem,hc5]
end Ev
namespace Ev
open Go.RowKit Go.Shelf
attribute [local go_sem] Oper.semAt_some
set_option maxRecDepth 100000 in
set_option maxHeartbeats 8000000 in
theorem since_in (F:Fence) (n:Nat) (hfn:F.fn 195) (h207:F.fn 207) (h215:F.fn 215) (hro:F.round=none) (hn:6<=n) (op:Int) (name:ByteArray) (lo hi:Int) (l r:Nat) (g cap m:Nat) (C:Nat->bx) (E:Nat->Pe) (w:World) (hm:m+1<=1000000) (hg:g<w.heap.size) (cW:m+1<=cap)
  (hc:∀ i k v,i<m+1->(bf (C i))[k]? = some v->w.cell? ⟨g,i*4+k,none⟩=some v) (hE:∀ i,i<m+1->cZ w (C i) (E i)) (hlE:∀ i,i<m+1->l<(E i).so.length) (hrE:∀ i,i<m+1->r<(E i).so.length) :
  CallsIn F n Tryz.prog 195 #[.agg #[.int .i32 op,.string name,.int .i64 lo,.int .i64 hi,.int .i64 (l:Int),.int .i64 (r:Int)],.slice (some ⟨g,0,none⟩) (m+1) cap] w fun e W'=>e=.returned (.bool (kM (E m).time lo hi l r (cv E (m+1))))/\Below w.heap.size w W':=by
 have h1:1<=n:=by omega
 rw [vJ]
 have q1:w.cell? ⟨g,m*4+1,none⟩=some (.int .i64 (E m).time):=by rw [<- (hE m (by omega)).time];exact hc m 1 _ (by omega) rfl
 have hlow:=(hE m (by omega)).low
 refine callsIn_of_wp_marks Tryz.func195 rfl hfn ?_ hro
 simp only [Tryz.ntmps195,List.size_toArray,List.length_cons,List.length_nil,Nat.reduceAdd,Nat.reduceSub,Array.replicate_succ,Array.replicate_zero,List.push_toArray,List.append_toArray,List.nil_append,List.cons_append]
 generalize hNow:(E m).time=now at *
 gi_wp2_with (gi_at_call 207;refine (backward_in F (n-1) h207 hro _ _ _ _).mono ?_;rintro e w' ⟨rfl,rfl⟩)
 have hB0:Below w.heap.size w ((((w.alloc (.cells #[.int .i32 op,.string name,.int .i64 lo,.int .i64 hi,.int .i64 (l:Int),.int .i64 (r:Int)] 226)).alloc (.cells #[.bool false] 4)).alloc (.cells #[.int .i64 now] 3)).alloc (.cells #[.slice (some ⟨g,0,none⟩) (m+1) cap] 146)):=((((Below.refl _ w).alloc (Nat.le_refl _) _).alloc (by simp) _).alloc (by simp;omega) _).alloc (by simp;omega) _
 have nB:((((w.alloc (.cells #[.int .i32 op,.string name,.int .i64 lo,.int .i64 hi,.int .i64 (l:Int),.int .i64 (r:Int)] 226)).alloc (.cells #[.bool false] 4)).alloc (.cells #[.int .i64 now] 3)).alloc (.cells #[.slice (some ⟨g,0,none⟩) (m+1) cap] 146)).heap[w.heap.size]? = some (.cells #[.int .i32 op,.string name,.int .i64 lo,.int .i64 hi,.int .i64 (l:Int),.int .i64 (r:Int)] 226 (0,0)):=by
  rw [Below.heap_alloc _ _ _ (by simp;omega),Below.heap_alloc _ _ _ (by simp;omega),Below.heap_alloc _ _ _ (by simp)];exact aB _ _ _ rfl
 have bR:=((Boxed.new (w.alloc (.cells #[.int .i32 op,.string name,.int .i64 lo,.int .i64 hi,.int .i64 (l:Int),.int .i64 (r:Int)] 226)) 4 (.bool false)).alloc (.cells #[.int .i64 now] 3)).alloc (.cells #[.slice (some ⟨g,0,none⟩) (m+1) cap] 146)
 have bN:=(Boxed.new ((w.alloc (.cells #[.int .i32 op,.string name,.int .i64 lo,.int .i64 hi,.int .i64 (l:Int),.int .i64 (r:Int)] 226)).alloc (.cells #[.bool false] 4)) 3 (.int .i64 now)).alloc (.cells #[.slice (some ⟨g,0,none⟩) (m+1) cap] 146)
 have bS:=Boxed.new (((w.alloc (.cells #[.int .i32 op,.string name,.int .i64 lo,.int .i64 hi,.int .i64 (l:Int),.int .i64 (r:Int)] 226)).alloc (.cells #[.bool false] 4)).alloc (.cells #[.int .i64 now] 3)) 146 (.slice (some ⟨g,0,none⟩) (m+1) cap)
 simp only [World.size_alloc] at bR bN bS
 have oK:((((w.alloc (.cells #[.int .i32 op,.string name,.int .i64 lo,.int .i64 hi,.int .i64 (l:Int),.int .i64 (r:Int)] 226)).alloc (.cells #[.bool false] 4)).alloc (.cells #[.int .i64 now] 3)).alloc (.cells #[.slice (some ⟨g,0,none⟩) (m+1) cap] 146)).heap.size=w.heap.size+4:=by simp
 obtain ⟨W0,hW0⟩:∃ W0,(((w.alloc (.cells #[.int .i32 op,.string name,.int .i64 lo,.int .i64 hi,.int .i64 (l:Int),.int .i64 (r:Int)] 226)).alloc (.cells #[.bool false] 4)).alloc (.cells #[.int .i64 now] 3)).alloc (.cells #[.slice (some ⟨g,0,none⟩) (m+1) cap] 146)=W0:=⟨_,rfl⟩
 rw [hW0] at hB0 nB bR bN bS oK ⊢
 clear hW0
 refine wpIn_rangeFunc_ownH hro h1 (gf:=215) (lb:=#[.pointer (some ⟨w.heap.size+1+1+1,0,none⟩)]) rfl h215 (enters_of Tryz.func215 (by kernel_rfl) rfl)
  (back_stops F (n-1) h215 hro (by omega) (w.heap.size+1+1+1) W0.heap.size g cap (m+1) C hm (by omega) (by omega) W0 (Nat.le_refl _) bS.cell cW (fun i k v hi hv=>(hB0.cell (p:=⟨g,i*4+k,none⟩) hg).trans (hc i k v hi hv))) belowK_t (belowK_b (Nat.le_refl _)) (Below.refl _ _) (fun _=>rfl)
  (fun pre W=>((NoneD (pA now lo hi l r) E pre/\Boxed W (w.heap.size+1) 4 (.bool false))/\(W.heap[w.heap.size]? = some (.cells #[.int .i32 op,.string name,.int .i64 lo,.int .i64 hi,.int .i64 (l:Int),.int .i64 (r:Int)] 226 (0,0))/\(Boxed W (w.heap.size+1+1) 3 (.int .i64 now)/\Boxed W (w.heap.size+1+1+1) 146 (.slice (some ⟨g,0,none⟩) (m+1) cap))))/\Below w.heap.size w W)
  (fun c pre W=>(StopD (pA now lo hi l r) E c pre/\Boxed W (w.heap.size+1) 4 (.bool (sZ (pA now lo hi l r) E pre)))/\Below w.heap.size w W)
  (OwnFrom.and (OwnFrom.and (OwnFrom.and (ownFrom_pure _ _) (Own.from (boxed_own _ _ _) _)) (OwnFrom.and (Own.from (pW _ _ _ _) _) (OwnFrom.and (Own.from (boxed_own _ _ _) _) (Own.from (boxed_own _ _ _) _)))) (ownFrom_below (Nat.le_refl _) (by omega)))
  (fun c=>OwnFrom.and (OwnFrom.and (ownFrom_pure _ _) (Own.from (boxed_own _ _ (fun pre=>Value.bool (sZ (pA now lo hi l r) E pre))) _)) (ownFrom_below (Nat.le_refl _) (by omega)))
  ⟨⟨⟨fun _ h=>by simp at h,bR⟩,nB,bN,bS⟩,hB0⟩
  (fun x a' W=>∃ Bx,w.heap.size+1+1<Bx/\W.heap[Bx]? = some (.cells #[.int .i64 (C x.1).number,.int .i64 (C x.1).time,.slice (C x.1).ao (C x.1).al (C x.1).ac,.slice (C x.1).so (C x.1).sl (C x.1).sc] 159 (0,0))/\a'={ tmps:=#[.agg #[.int .i32 op,.string name,.int .i64 lo,.int .i64 hi,.int .i64 (l:Int),.int .i64 (r:Int)],.slice (some ⟨g,0,none⟩) (m+1) cap,.pointer (some ⟨w.heap.size,0,none⟩),undef,.pointer (some ⟨w.heap.size+1,0,none⟩),.pointer (some ⟨w.heap.size+1+1,0,none⟩),undef,.pointer (some ⟨Bx,0,none⟩),undef,.slice (some ⟨g,0,none⟩) (m+1) cap,.slice (some ⟨g,0,none⟩) (m+1) cap,.int .i64 ((m:Int)+1),.int .i64 (m:Int),.pointer (some ⟨g,m*4,none⟩),.pointer (some ⟨g,m*4+1,none⟩),.int .i64 now,.slice (some ⟨g,0,none⟩) (m+1) cap,.func (.func 215) #[] #[.pointer (some ⟨w.heap.size+1+1+1,0,none⟩)],.int .i64 (x.1:Int),gv (C x.1),undef,undef,undef,undef,undef,undef,undef,undef,undef,undef,undef,undef,undef,undef,undef,undef,undef,undef,undef,undef,undef,undef,undef,undef,undef,undef,undef,undef,undef],defers:=[] })
  (fun x a' _ X Y row hs hg hr=>by obtain ⟨Bx,e1,e2,e3⟩:=hs;exact ⟨Bx,e1,pW Bx _ 159 (0,0) () X Y row e2 hg (fun r e=>(hr r e).2),e3⟩)
  ?assign ?body ?done ?stop
 case assign =>
  rintro lp pre x W K ⟨⟨⟨hp,pz⟩,nB1,bN1,bS1⟩,nY⟩ hK
  have hlt1:=bS1.lt
  simp only [gv]
  gi_wp2
  exact hK _ _ ((KeepsOthers.alloc _ _).from _) ((Below.refl _ W).alloc (by omega) _) ⟨⟨⟨hp,pz.alloc _⟩,(Below.heap_alloc _ _ _ (by omega)).trans nB1,bN1.alloc _,bS1.alloc _⟩,nY.alloc nY.size _⟩ ⟨W.heap.size,by omega,aB _ _ _ rfl,rfl⟩
 case body =>
  rintro lp pre x a' W hlp ⟨rr,hrr⟩ ⟨⟨⟨hp,pz⟩,nB1,bN1,bS1⟩,nY⟩ ⟨Bx,hBx,hX,rfl⟩ cz
  have hEx:=hE x.1 x.2
  obtain ⟨sb,s1,s2,s3⟩:=hEx.so
  have hlx:=hlE x.1 x.2
  have bl:W.cell? ⟨sb,l,none⟩=some (.bool ((E x.1).at (l:Int))):=(nY.cell (p:=⟨sb,l,none⟩) s2).trans (cZ.bit s3 hlx)
  have hrx:=hrE x.1 x.2
  have br:W.cell? ⟨sb,r,none⟩=some (.bool ((E x.1).at (r:Int))):=(nY.cell (p:=⟨sb,r,none⟩) s2).trans (cZ.bit s3 hrx)
  have tE:=hEx.time
  have tl:=hEx.low
  have sE:=hEx.sl
  have sle:=hEx.slen
  rw [tE,s1,sE] at hX
  have cN:=bN1.cell
  have cR:=pz.cell
  have fR:=pz.frozen
  have cX1:=ae (i:=1) hX rfl
  have cX3:=ae (i:=3) hX rfl
  have k2:=ae (i:=2) nB1 rfl
  have k3:=ae (i:=3) nB1 rfl
  have k4:=ae (i:=4) nB1 rfl
  have k5:=ae (i:=5) nB1 rfl
  have nZ:pA now lo hi l r (E x.1)=(if now-(E x.1).time > hi then some false else if now-(E x.1).time>=lo/\(E x.1).at (r:Int)=true then some true else if (E x.1).at (l:Int)=false then some false else none):=rfl
  have Hn:Hid (∀ b,pA now lo hi l r (E x.1)=some b->sZ (pA now lo hi l r) E (pre++[x])=b):=fun b hb=>jU _ _ _ _ hb
  have Hw:Hid (∀ b W',pA now lo hi l r (E x.1)=some b->KeepsFrom W0.heap.size W W'->Boxed W' (w.heap.size+1) 4 (.bool b)->Below w.heap.size w W'->KeepsFrom W0.heap.size W W'/\(StopD (pA now lo hi l r) E .ret (pre++[x])/\Boxed W' (w.heap.size+1) 4 (.bool (sZ (pA now lo hi l r) E (pre++[x]))))/\Below w.heap.size w W'):=fun b W' hb h1 h2 h3=>⟨h1,⟨⟨rfl,pre,x,b,rfl,hp,hb⟩,by rw [jU _ _ _ _ hb];exact h2⟩,h3⟩
  have Hg:Hid (NoneD (pA now lo hi l r) E pre):=hp
  have Hv:=Hw
  rw [oK] at Hv
  clear hE hc hp tE s1 sE s3 hX hEx nB hB0 bS bN bR q1
  generalize (E x.1).time=t1 at *
  generalize (E x.1).so.length=sl at *
  generalize hbl:(E x.1).at (l:Int)=b1 at *
  generalize hbr:(E x.1).at (r:Int)=b2 at *
  by_cases d1:now-t1 > hi
  ·have hd:pA now lo hi l r (E x.1)=some false:=by rw [nZ,if_pos d1]
   clear nZ hbl hbr
   gi_wp2
   first | exact Hw.out false _ hd ((KeepsOthers.setCell _ _ _).from _) (pz.set _) (nY.setCell (p:=⟨w.heap.size+1,0,none⟩) (by simp) _) | exact Hv.out false _ hd ((KeepsOthers.setCell _ _ _).from _) (pz.set _) (nY.setCell (p:=⟨w.heap.size+1,0,none⟩) (by simp) _)
  ·by_cases d2:now-t1>=lo
   ·cases b2 with
    | true =>
     have hd:pA now lo hi l r (E x.1)=some true:=by rw [nZ,if_neg d1,if_pos ⟨d2,rfl⟩]
     clear nZ hbl hbr
     gi_wp2
     first | exact Hw.out true _ hd ((KeepsOthers.setCell _ _ _).from _) (pz.set _) (nY.setCell (p:=⟨w.heap.size+1,0,none⟩) (by simp) _) | exact Hv.out true _ hd ((KeepsOthers.setCell _ _ _).from _) (pz.set _) (nY.setCell (p:=⟨w.heap.size+1,0,none⟩) (by simp) _)
    | false =>
     cases b1 with
     | true =>
      have hd:pA now lo hi l r (E x.1)=none:=by rw [nZ,if_neg d1,if_neg (fun h=>by cases h.2),if_neg (by simp)]
      clear nZ hbl hbr
      gi_wp2
      exact ⟨KeepsFrom.refl _ _,Below.refl _ _,⟨⟨Hg.out.snoc hd,pz⟩,nB1,bN1,bS1⟩,nY⟩
     | false =>
      have hd:pA now lo hi l r (E x.1)=some false:=by rw [nZ,if_neg d1,if_neg (fun h=>by cases h.2),if_pos rfl]
      clear nZ hbl hbr
      gi_wp2
      first | exact Hw.out false _ hd ((KeepsOthers.setCell _ _ _).from _) (pz.set _) (nY.setCell (p:=⟨w.heap.size+1,0,none⟩) (by simp) _) | exact Hv.out false _ hd ((KeepsOthers.setCell _ _ _).from _) (pz.set _) (nY.setCell (p:=⟨w.heap.size+1,0,none⟩) (by simp) _)
   ·cases b1 with
    | true =>
     have hd:pA now lo hi l r (E x.1)=none:=by rw [nZ,if_neg d1,if_neg (fun h=>d2 h.1),if_neg (by simp)]
     clear nZ hbl hbr
     gi_wp2
     exact ⟨KeepsFrom.refl _ _,Below.refl _ _,⟨⟨Hg.out.snoc hd,pz⟩,nB1,bN1,bS1⟩,nY⟩
    | false =>
     have hd:pA now lo hi l r (E x.1)=some false:=by rw [nZ,if_neg d1,if_neg (fun h=>d2 h.1),if_pos rfl]
     clear nZ hbl hbr
     gi_wp2
     first | exact Hw.out false _ hd ((KeepsOthers.setCell _ _ _).from _) (pz.set _) (nY.setCell (p:=⟨w.heap.size+1,0,none⟩) (by simp) _) | exact Hv.out false _ hd ((KeepsOthers.setCell _ _ _).from _) (pz.set _) (nY.setCell (p:=⟨w.heap.size+1,0,none⟩) (by simp) _)
 case done =>
  rintro D zs W hD rfl ⟨⟨⟨hp,pz⟩,nB1,bN1,bS1⟩,nY⟩ hK
  have cR:=pz.cell
  have fR:=pz.frozen
  gi_wp2
  have hK':=(KeepsOthers.setCell W ⟨w.heap.size+1,0,none⟩ (.bool false)).same D _ hK rfl
  refine ⟨by simp,.inl ⟨_,_,rfl,run_takeDeferred hK',?_⟩⟩
  have hc5:=cell_kept (pz.set (.bool false)).cell (grownBy_putObj' _ D (.deferred none)) (fun r e=>by cases e;exact ⟨_,hK',rfl⟩)
  refine ⟨.bool false,?_,by rw [sW _ _ hp],(nY.setCell (p:=⟨w.heap.size+1,0,none⟩) (by simp) _).trans (belowK_b (w:=w) (Nat.le_refl _) _ D _ _ (by omega) hK' rfl rfl)⟩
  simp [results,Tryz.f195,go_sem,hc5]
 case stop =>
  rintro D c pre W hD ⟨k,hk,hpre⟩ ⟨⟨⟨rfl,pre',x,b,e1,e2,e3⟩,pz⟩,nY⟩ hK
  rw [e1,jU _ _ _ _ e3] at pz
  gi_wp2
  refine ⟨by simp,.inl ⟨_,_,rfl,run_takeDeferred hK,?_⟩⟩
  have hc5:=cell_kept pz.cell (grownBy_putObj' _ D (.deferred none)) (fun r e=>by cases e;exact ⟨_,hK,rfl⟩)
  refine ⟨.bool b,?_,by rw [sX _ _ hk hpre e1 e2 e3],nY.trans (belowK_b (w:=w) (Nat.le_refl _) W D _ _ (by omega) hK rfl rfl)⟩
  simp [results,Tryz.f195,go_sem,hc5]
end Ev
namespace Ev
open Go.RowKit Go.Deep
theorem pB (f:Nat->Pe) (n:Nat):∀ k,k<=n->(fJ n k).map (fun x=>f x.1)=(List.range k).map (fun j=>f (n-1-j))
 | 0,_=>rfl
 | k+1,h=>by rw [nz (by omega),List.map_append,pB f n k (by omega),List.range_succ,List.map_append];rfl
theorem tv (E:Nat->Pe) (m:Nat):cv E (m+1)=E m::cv E m:=by
 unfold cv
 rw [pB E _ _ (Nat.le_refl _),pB E _ _ (Nat.le_refl _),List.range_succ_eq_map,List.map_cons,List.map_map]
 congr 1
 apply List.map_congr_left
 intro j hj
 simp at hj
 show E _=E _
 congr 1
 omega
theorem containsS_any (A:List ByteArray) (x:ByteArray):Lib.containsS A x=A.any (fun y=>decide (y=x)):=by
 rw [Bool.eq_iff_iff,Lib.containsS_iff]
 simp
set_option maxHeartbeats 2000000 in
theorem before_any (op:Int) (name:ByteArray) (lo hi:Int) (l r:Nat) (g cap m:Nat) (C:Nat->bx) (E:Nat->Pe) (w:World) (hm:m+1<=1000000) (hg:g<w.heap.size) (cW:m+1<=cap)
  (hc:∀ i k v,i<m+1->(bf (C i))[k]? = some v->w.cell? ⟨g,i*4+k,none⟩=some v) (hE:∀ i,i<m+1->cZ w (C i) (E i)) (hlE:∀ i,i<m+1->l<(E i).so.length) :
  Calls Tryz.prog 193 #[.agg #[.int .i32 op,.string name,.int .i64 lo,.int .i64 hi,.int .i64 (l:Int),.int .i64 (r:Int)],.slice (some ⟨g,0,none⟩) (m+1) cap] w fun e W'=>e=.returned (.bool (beforeF (E m).time lo hi l (cv E m)))/\Below w.heap.size w W':=by
 cases m with
 | zero =>
  go_enter Tryz.func193,Tryz.ntmps193
  go_wp2_with fail
  go_ret
  exact ⟨rfl,(Below.refl _ _).al _⟩
 | succ j =>
  have e1:beforeF (E (j+1)).time lo hi l (cv E (j+1))=(decide (lo<=(E (j+1)).time-(E j).time)&&decide ((E (j+1)).time-(E j).time<=hi)&&(E j).at (l:Int)):=by rw [tv];rfl
  rw [e1]
  clear e1
  have hN:=hE (j+1) (by omega)
  have hJ:=hE j (by omega)
  have hlow:=hN.low
  have hlow2:=hJ.low
  have hlx:=hlE j (by omega)
  obtain ⟨sb,s1,s2,s3⟩:=hJ.so
  have bl:w.cell? ⟨sb,l,none⟩=some (.bool ((E j).at (l:Int))):=cZ.bit s3 hlx
  have q1:w.cell? ⟨g,(j+1)*4+1,none⟩=some (.int .i64 (E (j+1)).time):=by rw [<- hN.time];exact hc (j+1) 1 _ (by omega) rfl
  have p0:w.cell? ⟨g,j*4,none⟩=some (.int .i64 (C j).number):=hc j 0 _ (by omega) rfl
  have p1:w.cell? ⟨g,j*4+1,none⟩=some (.int .i64 (E j).time):=by rw [<- hJ.time];exact hc j 1 _ (by omega) rfl
  have p2:w.cell? ⟨g,j*4+2,none⟩=some (.slice (C j).ao (C j).al (C j).ac):=hc j 2 _ (by omega) rfl
  have p3:w.cell? ⟨g,j*4+3,none⟩=some (.slice (some ⟨sb,0,none⟩) (E j).so.length (C j).sc):=by rw [<- s1,<- hJ.sl];exact hc j 3 _ (by omega) rfl
  have hsl:=hJ.slen
  clear hE hc hlE hN hJ s1 s3
  generalize (E j).at (l:Int)=b1 at *
  generalize (E j).so.length=sl at *
  generalize (E (j+1)).time=now at *
  generalize (E j).time=t1 at *
  generalize C j=c at *
  go_enter Tryz.func193,Tryz.ntmps193
  go_wp2_with fail
  have cB:Below w.heap.size w ((w.alloc (.cells #[.int .i32 op,.string name,.int .i64 lo,.int .i64 hi,.int .i64 (l:Int),.int .i64 (r:Int)] 226)).alloc (.cells #[.int .i64 c.number,.int .i64 t1,.slice c.ao c.al c.ac,.slice (some ⟨sb,0,none⟩) sl c.sc] 159)):=((Below.refl _ _).al _).al _
  have nB:((w.alloc (.cells #[.int .i32 op,.string name,.int .i64 lo,.int .i64 hi,.int .i64 (l:Int),.int .i64 (r:Int)] 226)).alloc (.cells #[.int .i64 c.number,.int .i64 t1,.slice c.ao c.al c.ac,.slice (some ⟨sb,0,none⟩) sl c.sc] 159)).heap[w.heap.size]? = some (.cells #[.int .i32 op,.string name,.int .i64 lo,.int .i64 hi,.int .i64 (l:Int),.int .i64 (r:Int)] 226 (0,0)):=(Below.heap_alloc _ _ _ (by simp)).trans (aB _ _ _ rfl)
  have nE:((w.alloc (.cells #[.int .i32 op,.string name,.int .i64 lo,.int .i64 hi,.int .i64 (l:Int),.int .i64 (r:Int)] 226)).alloc (.cells #[.int .i64 c.number,.int .i64 t1,.slice c.ao c.al c.ac,.slice (some ⟨sb,0,none⟩) sl c.sc] 159)).heap[w.heap.size+1]? = some (.cells #[.int .i64 c.number,.int .i64 t1,.slice c.ao c.al c.ac,.slice (some ⟨sb,0,none⟩) sl c.sc] 159 (0,0)):=aB _ _ _ (by simp)
  generalize ((w.alloc (.cells #[.int .i32 op,.string name,.int .i64 lo,.int .i64 hi,.int .i64 (l:Int),.int .i64 (r:Int)] 226)).alloc (.cells #[.int .i64 c.number,.int .i64 t1,.slice c.ao c.al c.ac,.slice (some ⟨sb,0,none⟩) sl c.sc] 159))=W2 at cB nB nE ⊢
  have z1:=(cB.cell (p:=⟨g,(j+1)*4+1,none⟩) hg).trans q1
  have z2:=(cB.cell (p:=⟨sb,l,none⟩) s2).trans bl
  have k2:=ae (i:=2) nB rfl
  have k3:=ae (i:=3) nB rfl
  have k4:=ae (i:=4) nB rfl
  have e1:=ae (i:=1) nE rfl
  have e3:=ae (i:=3) nE rfl
  clear q1 bl p0 p1 p2 p3 nB nE
  go_region
  by_cases d1:lo<=now-t1
  ·by_cases d2:now-t1<=hi
   ·go_wp2_with fail
    go_ret
    exact ⟨by simp [d1,d2],by first | exact cB | exact cB.drew⟩
   ·go_wp2_with fail
    go_ret
    exact ⟨by simp;intro h;omega,by first | exact cB | exact cB.drew⟩
  ·go_wp2_with fail
   go_ret
   exact ⟨by simp;intro h;omega,by first | exact cB | exact cB.drew⟩
def ib (op:Int):Prop:=op=116\/op=97\/op=172\/op=8743\/op=89\/op=79\/op=83
set_option maxRecDepth 100000 in
set_option maxHeartbeats 4000000 in
theorem says_any (op:Int) (name:ByteArray) (lo hi:Int) (l r:Nat) (g cap m:Nat) (C:Nat->bx) (E:Nat->Pe) (w:World) (aN:ib op) (hm:m+1<=1000000) (hg:g<w.heap.size) (cW:m+1<=cap)
  (hc:∀ i k v,i<m+1->(bf (C i))[k]? = some v->w.cell? ⟨g,i*4+k,none⟩=some v) (hE:∀ i,i<m+1->cZ w (C i) (E i)) (hlE:∀ i,i<m+1->l<(E i).so.length) (hrE:∀ i,i<m+1->r<(E i).so.length) :
  Calls Tryz.prog 169 #[.agg #[.int .i32 op,.string name,.int .i64 lo,.int .i64 hi,.int .i64 (l:Int),.int .i64 (r:Int)],.slice (some ⟨g,0,none⟩) (m+1) cap] w fun e W'=>e=.returned (.bool (jn ⟨op,name,lo,hi,l,r⟩ (E m) (cv E m)))/\Below w.heap.size w W':=by
 have hN:=hE m (by omega)
 obtain ⟨sb,s1,s2,s3⟩:=hN.so
 have bl:w.cell? ⟨sb,l,none⟩=some (.bool ((E m).at (l:Int))):=cZ.bit s3 (hlE m (by omega))
 have br:w.cell? ⟨sb,r,none⟩=some (.bool ((E m).at (r:Int))):=cZ.bit s3 (hrE m (by omega))
 have hll:=hlE m (by omega)
 have hrl:=hrE m (by omega)
 have p0:w.cell? ⟨g,m*4,none⟩=some (.int .i64 (C m).number):=hc m 0 _ (by omega) rfl
 have p1:w.cell? ⟨g,m*4+1,none⟩=some (.int .i64 (C m).time):=hc m 1 _ (by omega) rfl
 have p2:w.cell? ⟨g,m*4+2,none⟩=some (.slice (C m).ao (E m).atoms.length (C m).ac):=by rw [<- hN.al];exact hc m 2 _ (by omega) rfl
 have p3:w.cell? ⟨g,m*4+3,none⟩=some (.slice (some ⟨sb,0,none⟩) (E m).so.length (C m).sc):=by rw [<- s1,<- hN.sl];exact hc m 3 _ (by omega) rfl
 have hsl:=hN.slen
 have hal:=hN.alen
 have tb:∀ w',Below w.heap.size w w'->(∀ i k v,i<m+1->(bf (C i))[k]? = some v->w'.cell? ⟨g,i*4+k,none⟩=some v)/\(∀ i,i<m+1->cZ w' (C i) (E i))/\g<w'.heap.size:=fun w' hb=>⟨fun i k v hi hv=>(hb.cell (p:=⟨g,i*4+k,none⟩) hg).trans (hc i k v hi hv),fun i hi=>(hE i hi).below hb,Nat.lt_of_lt_of_le hg hb.size⟩
 have HB:Hid (∀ w',Below w.heap.size w w'->Calls Tryz.prog 193 #[.agg #[.int .i32 op,.string name,.int .i64 lo,.int .i64 hi,.int .i64 (l:Int),.int .i64 (r:Int)],.slice (some ⟨g,0,none⟩) (m+1) cap] w' fun e W'=>e=.returned (.bool (beforeF (E m).time lo hi l (cv E m)))/\Below w'.heap.size w' W'):=fun w' hb=>by
  obtain ⟨t1,t2,t3⟩:=tb w' hb
  exact before_any op name lo hi l r g cap m C E w' hm t3 cW t1 t2 hlE
 have HO:Hid (∀ w',Below w.heap.size w w'->Calls Tryz.prog 194 #[.agg #[.int .i32 op,.string name,.int .i64 lo,.int .i64 hi,.int .i64 (l:Int),.int .i64 (r:Int)],.slice (some ⟨g,0,none⟩) (m+1) cap] w' fun e W'=>e=.returned (.bool (qt (E m).time lo hi l (E m::cv E m)))/\Below w'.heap.size w' W'):=fun w' hb=>by
  obtain ⟨t1,t2,t3⟩:=tb w' hb
  have:=(callsIn_wide (n:=6)).1 (once_in Fence.wide 6 trivial trivial trivial rfl (by omega) op name lo hi l r g cap m C E w' hm t3 cW t1 t2 hlE)
  rwa [tv] at this
 have HS:Hid (∀ w',Below w.heap.size w w'->Calls Tryz.prog 195 #[.agg #[.int .i32 op,.string name,.int .i64 lo,.int .i64 hi,.int .i64 (l:Int),.int .i64 (r:Int)],.slice (some ⟨g,0,none⟩) (m+1) cap] w' fun e W'=>e=.returned (.bool (kM (E m).time lo hi l r (E m::cv E m)))/\Below w'.heap.size w' W'):=fun w' hb=>by
  obtain ⟨t1,t2,t3⟩:=tb w' hb
  have:=(callsIn_wide (n:=6)).1 (since_in Fence.wide 6 trivial trivial trivial rfl (by omega) op name lo hi l r g cap m C E w' hm t3 cW t1 t2 hlE hrE)
  rwa [tv] at this
 have HC:Hid (∀ w',Below w.heap.size w w'->Calls Tryz.prog 168 #[.slice (C m).ao (E m).atoms.length (C m).ac,.string name] w' fun e w''=>e=.returned (.bool ((E m).atoms.any (fun y=>decide (y=name))))/\w''=w'):=fun w' hb=>by
  have:=uw w' (C m).ao (E m).atoms (C m).ac (E m).atoms.length name (hN.atoms.below hb) (Nat.le_refl _) hal
  rwa [List.take_length,containsS_any] at this
 generalize oH:jn ⟨op,name,lo,hi,l,r⟩ (E m) (cv E m)=res
 clear tb hc hE hlE hrE hN s1 s3
 generalize hO:qt (E m).time lo hi l (E m::cv E m)=vO at *
 generalize hS:kM (E m).time lo hi l r (E m::cv E m)=vS at *
 generalize hBf:beforeF (E m).time lo hi l (cv E m)=vB at *
 generalize hA:(E m).atoms.any (fun y=>decide (y=name))=vA at *
 generalize hL:(E m).at (l:Int)=vL at *
 generalize hR:(E m).at (r:Int)=vR at *
 generalize (E m).atoms.length=al at *
 generalize (E m).so.length=sl at *
 have W2b:Below w.heap.size w ((w.alloc (.cells #[.int .i32 op,.string name,.int .i64 lo,.int .i64 hi,.int .i64 (l:Int),.int .i64 (r:Int)] 226)).alloc (.cells #[.int .i64 (C m).number,.int .i64 (C m).time,.slice (C m).ao al (C m).ac,.slice (some ⟨sb,0,none⟩) sl (C m).sc] 159)):=((Below.refl _ _).al _).al _
 have z1:=(W2b.cell (p:=⟨sb,l,none⟩) s2).trans bl
 have z2:=(W2b.cell (p:=⟨sb,r,none⟩) s2).trans br
 rcases aN with rfl | rfl | rfl | rfl | rfl | rfl | rfl
 ·have:res=true:=by rw [<- oH];rfl
  subst this
  clear hO hS hBf hA hL hR oH
  go_enter Tryz.func169,Tryz.ntmps169
  go_wp2_with fail
  go_ret
  exact ⟨rfl,W2b⟩
 ·have:res=vA:=by rw [<- oH,<- hA];rfl
  subst this
  clear hO hS hBf hA hL hR oH
  go_enter Tryz.func169,Tryz.ntmps169
  go_wp2_with fail
  refine (HC.out _ W2b).mono ?_
  rintro e w3 ⟨rfl,rfl⟩
  go_wp2_with fail
  go_ret
  exact ⟨rfl,W2b⟩
 ·have:res=!vL:=by rw [<- oH,<- hL];rfl
  subst this
  clear hO hS hBf hA hL hR oH
  go_enter Tryz.func169,Tryz.ntmps169
  go_wp2_with fail
  go_ret
  exact ⟨rfl,W2b⟩
 ·have:res=(vL&&vR):=by rw [<- oH,<- hL,<- hR];rfl
  subst this
  clear hO hS hBf hA hL hR oH
  cases vL
  ·go_enter Tryz.func169,Tryz.ntmps169
   go_wp2_with fail
   go_ret
   exact ⟨rfl,W2b⟩
  ·go_enter Tryz.func169,Tryz.ntmps169
   go_wp2_with fail
   go_ret
   exact ⟨rfl,W2b⟩
 ·have:res=vB:=by rw [<- oH,<- hBf];rfl
  subst this
  clear hO hS hBf hA hL hR oH
  go_enter Tryz.func169,Tryz.ntmps169
  go_wp2_with fail
  refine (HB.out _ W2b).mono ?_
  rintro e w3 ⟨rfl,pU⟩
  go_wp2_with fail
  go_ret
  exact ⟨rfl,W2b.tr pU⟩
 ·have:res=vO:=by rw [<- oH,<- hO];rfl
  subst this
  clear hO hS hBf hA hL hR oH
  go_enter Tryz.func169,Tryz.ntmps169
  go_wp2_with fail
  refine (HO.out _ W2b).mono ?_
  rintro e w3 ⟨rfl,pU⟩
  go_wp2_with fail
  go_ret
  exact ⟨rfl,W2b.tr pU⟩
 ·have:res=vS:=by rw [<- oH,<- hS];rfl
  subst this
  clear hO hS hBf hA hL hR oH
  go_enter Tryz.func169,Tryz.ntmps169
  go_wp2_with fail
  refine (HS.out _ W2b).mono ?_
  rintro e w3 ⟨rfl,pU⟩
  go_wp2_with fail
  go_ret
  exact ⟨rfl,W2b.tr pU⟩
end Ev
end Go.Proofs.YtpbbmagjhkakgaaGreatDoor
