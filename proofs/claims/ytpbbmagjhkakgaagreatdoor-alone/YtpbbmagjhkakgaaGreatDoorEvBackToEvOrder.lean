import Derived.Test.YtpbbmagjhkakgaaGreatDoorEvRepToEvName
import Derived.RangeFuncNested
import Derived.RangeFuncBound
import Derived.RangeFuncCalls
import Derived.RangeFuncLeaves
import Derived.Shelf.Abstract
import Derived.Shelf.RegionOpen
import Derived.WalkKit
import Derived.OwnWalkIn
import Derived.TacticsInMore
import Derived.LoopNIn
import Derived.LoopIn
import Derived.OrdersHeld
import Derived.Conc.CompanyMem
namespace Go.Proofs.YtpbbmagjhkakgaaGreatDoor
namespace Ev
open Go.RowKit Go.Shelf
attribute [local go_sem] Oper.semAt_some
def fJ (n:Nat):Nat->List { j:Nat // j<n }
 | 0=>[]
 | k+1=>fJ n k++(if h:k<n then [⟨n-1-k,by omega⟩] else [])
theorem nz {n k:Nat} (h:k<n):fJ n (k+1)=fJ n k++[⟨n-1-k,by omega⟩]:=by simp [fJ,h]
theorem downTo_len {n:Nat}:∀ k,k<=n->(fJ n k).length=k
 | 0,_=>rfl
 | k+1,h=>by rw [nz (by omega),List.length_append,downTo_len k (by omega)];rfl
def gv (e:bx):Value:=.agg #[.int .i64 e.number,.int .i64 e.time,.slice e.ao e.al e.ac,.slice e.so e.sl e.sc]
set_option maxRecDepth 100000 in
set_option maxHeartbeats 2000000 in
theorem back1_in (F:Fence) (n:Nat) (h8:F.fn 215) (hro:F.round=none) (hn:1<=n) (l Bs sQ g cap len:Nat) (f:Nat->bx) (gG:len<=1000000) (hb:g<sQ) (hBn:Bs<sQ) (J Jx:List { j:Nat // j<len }->World->Prop)
  (hY:∀ pre x W,J pre W->pre.length<len->YieldAt F (n-1) Tryz.prog l #[.int .i64 (x.1:Int),gv (f x.1)] W fun e W' =>
   (e=.returned (.bool true)/\J (pre++[x]) W'/\Below sQ W W')\/(e=.returned (.bool false)/\Jx (pre++[x]) W'))
  (W:World) (hBs:W.cell? ⟨Bs,0,none⟩=some (.slice (some ⟨g,0,none⟩) len cap)) (cW:len<=cap) (hc:∀ i k v,i<len->(bf (f i))[k]? = some v->W.cell? ⟨g,i*4+k,none⟩=some v) (h0:J [] W) :
  CallsIn F n Tryz.prog 215 #[.func (.yield l) #[] #[],.pointer (some ⟨Bs,0,none⟩)] W fun e W'=>(∃ v,e=.returned v)/\
   ((∃ ys,ys=fJ len len/\J ys W')\/(∃ pre,(∃ k,k<=len/\pre=fJ len k)/\Jx pre W')):=by
 refine callsIn_of_wp Tryz.func215 rfl h8 ?_ hro
 simp only [Tryz.ntmps215,List.size_toArray,List.length_cons,List.length_nil,Nat.reduceAdd,Nat.reduceSub,Array.replicate_succ,Array.replicate_zero,List.push_toArray,List.append_toArray,List.nil_append,List.cons_append]
 gi_wp2
 gi_loopw [3] (fun i wr=>∃ k:Nat,k<=len/\i=.int .i64 ((len:Int)-1-k)/\J (fJ len k) wr/\Below sQ W wr)
  (fun i _=>((intOf i)+1).toNat)
 case atStart=>exact ⟨0,Nat.zero_le _,by go_num,h0,Below.refl _ _⟩
 case round =>
  obtain ⟨k,hk,rfl,hJs,nh⟩:=hrel
  have hs0:wr.cell? ⟨Bs,0,none⟩=some (.slice (some ⟨g,0,none⟩) len cap):=(nh.cell (p:=⟨Bs,0,none⟩) hBn).trans hBs
  by_cases cz:k<len
  ·have hj:len-1-k<len:=by omega
   have hR2:=nz cz
   obtain ⟨i,hi,hie⟩:∃ i:Nat,i=len-1-k/\((len:Int)-1-k=(i:Int)):=⟨_,rfl,by omega⟩
   obtain ⟨fn,tmps,assign,body,hy,hR⟩:=hY _ ⟨len-1-k,hj⟩ wr hJs (by rw [downTo_len k hk];exact cz)
   rw [<- hR2] at hR
   simp only [<- hi] at hy
   rw [<- hi] at hj
   have q0:wr.cell? ⟨g,i*4,none⟩=some (.int .i64 (f i).number):=(nh.cell (p:=⟨g,i*4,none⟩) hb).trans (hc i 0 _ hj rfl)
   have q1:wr.cell? ⟨g,i*4+1,none⟩=some (.int .i64 (f i).time):=(nh.cell (p:=⟨g,i*4+1,none⟩) hb).trans (hc i 1 _ hj rfl)
   have q2:wr.cell? ⟨g,i*4+2,none⟩=some (.slice (f i).ao (f i).al (f i).ac):=(nh.cell (p:=⟨g,i*4+2,none⟩) hb).trans (hc i 2 _ hj rfl)
   have q3:wr.cell? ⟨g,i*4+3,none⟩=some (.slice (f i).so (f i).sl (f i).sc):=(nh.cell (p:=⟨g,i*4+3,none⟩) hb).trans (hc i 3 _ hj rfl)
   dsimp only [gv] at hy
   clear hY hc hR2
   generalize f i=x at *
   rw [hie]
   have Hie:Hid ((len:Int)-1-k=(i:Int)):=hie
   have Hlt:Hid (k<len):=cz
   clear hi hie cz hk hJs
   gi_wp2
   refine hR.mono ?_
   rintro e W3 (⟨rfl,hJ3,hk3⟩ | ⟨rfl,hJx3⟩)
   ·gi_wp2
    go_roundw
    case rel=>exact ⟨k+1,Hlt.out,by have:=Hie.out;go_num,hJ3,nh.trans hk3⟩
    case measure=>have:=Hie.out;simp only [intOf];omega
   ·gi_wp2
    refine bodyPost_ret (results_none rfl _ _ _) rfl ?_
    exact ⟨⟨_,rfl⟩,.inr ⟨_,⟨k+1,Hlt.out,rfl⟩,hJx3⟩⟩
  ·obtain rfl:k=len:=by omega
   gi_wp2
   go_end0
   exact ⟨⟨_,rfl⟩,.inl ⟨_,rfl,hJs⟩⟩
theorem backward_in (F:Fence) (n:Nat) (h7:F.fn 207) (hro:F.round=none) (o:Option Addr) (len cap:Nat) (w:World) :
  CallsIn F n Tryz.prog 207 #[.slice o len cap] w fun e w'=>e=.returned (.func (.func 215) #[] #[.pointer (some ⟨w.heap.size,0,none⟩)])/\w'=w.alloc (.cells #[.slice o len cap] 146):=by
 refine callsIn_of_wp Tryz.func207 rfl h7 ?_ hro
 simp only [Tryz.ntmps207,List.size_toArray,List.length_cons,List.length_nil,Nat.reduceAdd,Nat.reduceSub,Array.replicate_succ,Array.replicate_zero,List.push_toArray,List.append_toArray,List.nil_append,List.cons_append]
 gi_wp2
 go_ret
 exact ⟨rfl,rfl⟩
theorem back_stops (F:Fence) (n:Nat) (h8:F.fn 215) (hro:F.round=none) (hn:1<=n) (Bs sQ g cap len:Nat) (f:Nat->bx) (gG:len<=1000000) (hb:g<sQ) (hBn:Bs<sQ) (w:World) (hn₀:sQ<=w.heap.size)
  (hBs:w.cell? ⟨Bs,0,none⟩=some (.slice (some ⟨g,0,none⟩) len cap)) (cW:len<=cap) (hc:∀ i k v,i<len->(bf (f i))[k]? = some v->w.cell? ⟨g,i*4+k,none⟩=some v) :
  SeqStopsK F n Tryz.prog 215 #[.pointer (some ⟨Bs,0,none⟩)] (fun x:{ j:Nat // j<len }=>#[Value.int .i64 (x.1:Int),gv (f x.1)]) (Below sQ) (fun ys=>ys=fJ len len) (fun pre=>∃ k,k<=len/\pre=fJ len k) len w:=fun l J Jx W hW _ _ hY h0 =>
 back1_in F n h8 hro hn l Bs sQ g cap len f gG hb hBn J Jx hY W ((hW.cell (p:=⟨Bs,0,none⟩) (show Bs<_ by omega)).trans hBs) cW (fun i k v hi hv=>(hW.cell (p:=⟨g,i*4+k,none⟩) (by show g<_;omega)).trans (hc i k v hi hv)) h0
end Ev
namespace Ev
open Go.RowKit Go.Shelf
attribute [local go_sem] Oper.semAt_some
def kC (f:Pe->Option Bool):List Pe->Bool
 | []=>false
 | e::es=>match f e with
  | some b=>b
  | none=>kC f es
theorem firstD_none {f:Pe->Option Bool}:∀ {L:List Pe},(∀ e∈L,f e=none)->kC f L=false
 | [],_=>rfl
 | e::es,h=>by simp only [kC,h e (.head _)];exact firstD_none fun x hx=>h x (.tail _ hx)
theorem firstD_some {f:Pe->Option Bool} {e:Pe} {b:Bool} (he:f e=some b) (M:List Pe):∀ {L:List Pe},(∀ e∈L,f e=none)->kC f (L++e::M)=b
 | [],_=>by simp [kC,he]
 | x::es,h=>by simp only [List.cons_append,kC,h x (.head _)];exact firstD_some he M fun y hy=>h y (.tail _ hy)
def qU (t lo hi j:Int) (e:Pe):Option Bool:=if t-e.time > hi then some false else if t-e.time>=lo/\e.at j=true then some true else none
def pA (t lo hi j k:Int) (e:Pe):Option Bool:=if t-e.time > hi then some false else if t-e.time>=lo/\e.at k=true then some true else if e.at j=false then some false else none
theorem onceF_first (t lo hi j:Int):∀ L,qt t lo hi j L=kC (qU t lo hi j) L
 | []=>rfl
 | e::es=>by
  simp only [qt,kC,qU,onceF_first t lo hi j es]
  by_cases h1:t-e.time > hi
  ·simp [h1]
  ·by_cases h2:t-e.time>=lo/\e.at j=true
   ·simp [h1,h2]
   ·simp [h1,h2]
theorem vJ (t lo hi j k:Int):∀ L,kM t lo hi j k L=kC (pA t lo hi j k) L
 | []=>rfl
 | e::es=>by
  simp only [kM,kC,pA,vJ t lo hi j k es]
  by_cases h1:t-e.time > hi
  ·simp [h1]
  ·by_cases h2:t-e.time>=lo/\e.at k=true
   ·simp [h1,h2]
   ·by_cases h3:e.at j=false
    ·simp [h1,h2,h3]
    ·simp [h1,h2,h3]
theorem downTo_pre (n:Nat):∀ (d k:Nat),k+d<=n->∃ M,fJ n (k+d)=fJ n k++M
 | 0,k,_=>⟨[],by simp⟩
 | d+1,k,h=>by
  obtain ⟨M,hM⟩:=downTo_pre n d k (by omega)
  exact ⟨M++[⟨n-1-(k+d),by omega⟩],by rw [<- Nat.add_assoc,nz (by omega),hM];simp⟩
def cv (E:Nat->Pe) (len:Nat):List Pe:=(fJ len len).map fun x=>E x.1
structure cZ (w:World) (c:bx) (e:Pe):Prop where
 number:c.number=e.number
 time:c.time=e.time
 low : -1000000000000<=e.time/\e.time<=1000000000000
 sl:c.sl=e.so.length
 slen:e.so.length<=1000000
 so:∃ sb,c.so=some ⟨sb,0,none⟩/\sb<w.heap.size/\∀ j b,e.so[j]? = some b->w.cell? ⟨sb,j,none⟩=some (.bool b)
 al:c.al=e.atoms.length
 alen:e.atoms.length<=1000000
 atoms:eI w c.ao e.atoms
theorem cZ.below {w w':World} {c:bx} {e:Pe} (h:cZ w c e) (hb:Below w.heap.size w w'):cZ w' c e:=by
 obtain ⟨sb,s1,s2,s3⟩:=h.so
 exact { h with so:=⟨sb,s1,Nat.lt_of_lt_of_le s2 hb.size,fun j b hj=>by rw [hb.cell (p:=⟨sb,j,none⟩) s2];exact s3 j b hj⟩,atoms:=h.atoms.below hb }
theorem cZ.bit {w:World} {e:Pe} {sb:Nat} (hs:∀ j b,e.so[j]? = some b->w.cell? ⟨sb,j,none⟩=some (.bool b)) {j:Nat} (hj:j<e.so.length):w.cell? ⟨sb,j,none⟩=some (.bool (e.at (j:Int))) :=
 hs _ _ (by rw [List.getElem?_eq_getElem hj];simp [Pe.at,hj])
theorem pW {β:Type} (B:Nat) (cs:Array Value) (t:TypeId) (m:Nat×Nat):Own (fun (_:β) (W:World)=>W.heap[B]? = some (.cells cs t m)):=fun _ W W' row h hg hr=>by
 show W'.heap[B]? = _
 have h':W.heap[B]? = some (.cells cs t m):=h
 rw [hg.block B (Array.getElem?_eq_some_iff.1 h').1 (fun e=>by obtain ⟨o,h1,h2⟩:=hr B e.symm;rw [h'] at h1;cases h1;cases h2)]
 exact h'
def sZ {n:Nat} (f:Pe->Option Bool) (E:Nat->Pe) (pre:List { j:Nat // j<n }):Bool:=match pre.getLast? with
 | some x=>(f (E x.1)).getD false
 | none=>false
theorem jU {n:Nat} (f:Pe->Option Bool) (E:Nat->Pe) (pre:List { j:Nat // j<n }) (x:{ j:Nat // j<n }) {b:Bool} (h:f (E x.1)=some b):sZ f E (pre++[x])=b:=by
 simp [sZ,h]
def NoneD {n:Nat} (f:Pe->Option Bool) (E:Nat->Pe) (pre:List { j:Nat // j<n }):Prop:=∀ x∈pre,f (E x.1)=none
def StopD {n:Nat} (f:Pe->Option Bool) (E:Nat->Pe) (c:Code) (pre:List { j:Nat // j<n }):Prop:=c=.ret/\∃ pre' x b,pre=pre'++[x]/\NoneD f E pre'/\f (E x.1)=some b
theorem NoneD.snoc {n:Nat} {f:Pe->Option Bool} {E:Nat->Pe} {pre:List { j:Nat // j<n }} (h:NoneD f E pre) {x:{ j:Nat // j<n }} (hx:f (E x.1)=none):NoneD f E (pre++[x]):=fun z hz=>by
 rcases List.mem_append.1 hz with hz | hz
 ·exact h z hz
 ·simp at hz;subst hz;exact hx
theorem sX {n:Nat} (f:Pe->Option Bool) (E:Nat->Pe) {pre pre':List { j:Nat // j<n }} {x:{ j:Nat // j<n }} {b:Bool} {k:Nat} (hk:k<=n) (hpre:pre=fJ n k) (he:pre=pre'++[x]) (hn:∀ y∈pre',f (E y.1)=none) (hx:f (E x.1)=some b):kC f (cv E n)=b:=by
 obtain ⟨M,hM⟩:=downTo_pre n (n-k) k (by omega)
 have hM':fJ n n=pre'++x::M:=by
  have:fJ n n=fJ n k++M:=by rw [<- hM];congr 1;omega
  rw [this,<- hpre,he];simp
 unfold cv
 rw [hM',List.map_append,List.map_cons]
 exact firstD_some hx _ (by intro e he;obtain ⟨y,hy,rfl⟩:=List.mem_map.1 he;exact hn y hy)
theorem sW {n:Nat} (f:Pe->Option Bool) (E:Nat->Pe) (h:∀ y∈fJ n n,f (E y.1)=none):kC f (cv E n)=false :=
 firstD_none (by intro e he;obtain ⟨y,hy,rfl⟩:=List.mem_map.1 he;exact h y hy)
set_option maxRecDepth 100000 in
set_option maxHeartbeats 8000000 in
theorem once_in (F:Fence) (n:Nat) (hfn:F.fn 194) (h207:F.fn 207) (h215:F.fn 215) (hro:F.round=none) (hn:6<=n) (op:Int) (name:ByteArray) (lo hi:Int) (l r:Nat) (g cap m:Nat) (C:Nat->bx) (E:Nat->Pe) (w:World) (hm:m+1<=1000000) (hg:g<w.heap.size) (cW:m+1<=cap)
  (hc:∀ i k v,i<m+1->(bf (C i))[k]? = some v->w.cell? ⟨g,i*4+k,none⟩=some v) (hE:∀ i,i<m+1->cZ w (C i) (E i)) (hlE:∀ i,i<m+1->l<(E i).so.length) :
  CallsIn F n Tryz.prog 194 #[.agg #[.int .i32 op,.string name,.int .i64 lo,.int .i64 hi,.int .i64 (l:Int),.int .i64 (r:Int)],.slice (some ⟨g,0,none⟩) (m+1) cap] w fun e W'=>e=.returned (.bool (qt (E m).time lo hi l (cv E (m+1))))/\Below w.heap.size w W':=by
 have h1:1<=n:=by omega
 rw [onceF_first]
 have q1:w.cell? ⟨g,m*4+1,none⟩=some (.int .i64 (E m).time):=by rw [<- (hE m (by omega)).time];exact hc m 1 _ (by omega) rfl
 have hlow:=(hE m (by omega)).low
 refine callsIn_of_wp_marks Tryz.func194 rfl hfn ?_ hro
 simp only [Tryz.ntmps194,List.size_toArray,List.length_cons,List.length_nil,Nat.reduceAdd,Nat.reduceSub,Array.replicate_succ,Array.replicate_zero,List.push_toArray,List.append_toArray,List.nil_append,List.cons_append]
 generalize hNow:(E m).time=now at *
 gi_wp2_with (gi_at_call 207;refine (backward_in F (n-1) h207 hro _ _ _ _).mono ?_;rintro e w' ⟨rfl,rfl⟩)
 have hB0:Below w.heap.size w ((((w.alloc (.cells #[.int .i32 op,.string name,.int .i64 lo,.int .i64 hi,.int .i64 (l:Int),.int .i64 (r:Int)] 226)).alloc (.cells #[.bool false] 4)).alloc (.cells #[.int .i64 now] 3)).alloc (.cells #[.slice (some ⟨g,0,none⟩) (m+1) cap] 146)):=((((Below.refl _ w).alloc (Nat.le_refl _) _).alloc (by simp) _).alloc (by simp;omega) _).alloc (by simp;omega) _
 have nB:((((w.alloc (.cells #[.int .i32 op,.string name,.int .i64 lo,.int .i64 hi,.int .i64 (l:Int),.int .i64 (r:Int)] 226)).alloc (.cells #[.bool false] 4)).alloc (.cells #[.int .i64 now] 3)).alloc (.cells #[.slice (some ⟨g,0,none⟩) (m+1) cap] 146)).heap[w.heap.size]? = some (.cells #[.int .i32 op,.string name,.int .i64 lo,.int .i64 hi,.int .i64 (l:Int),.int .i64 (r:Int)] 226 (0,0)):=by
  rw [Below.heap_alloc _ _ _ (by simp;omega),Below.heap_alloc _ _ _ (by simp;omega),Below.heap_alloc _ _ _ (by simp)];exact aB _ _ _ rfl
 have bR:=((Boxed.new (w.alloc (.cells #[.int .i32 op,.string name,.int .i64 lo,.int .i64 hi,.int .i64 (l:Int),.int .i64 (r:Int)] 226)) 4 (.bool false)).alloc (.cells #[.int .i64 now] 3)).alloc (.cells #[.slice (some ⟨g,0,none⟩) (m+1) cap] 146)
 have bN:=(Boxed.new ((w.alloc (.cells #[.int .i32 op,.string name,.int .i64 lo,.int .i64 hi,.int .i64 (l:Int),.int .i64 (r:Int)] 226)).alloc (.cells #[.bool false] 4)) 3 (.int .i64 now)).alloc (.cells #[.slice (some ⟨g,0,none⟩) (m+1) cap] 146)
 have bS:=Boxed.new (((w.alloc (.cells #[.int .i32 op,.string name,.int .i64 lo,.int .i64 hi,.int .i64 (l:Int),.int .i64 (r:Int)] 226)).alloc (.cells #[.bool false] 4)).alloc (.cells #[.int .i64 now] 3)) 146 (.slice (some ⟨g,0,none⟩) (m+1) cap)
 simp only [World.size_alloc] at bR bN bS
 have oK:((((w.alloc (.cells #[.int .i32 op,.string name,.int .i64 lo,.int .i64 hi,.int .i64 (l:Int),.int .i64 (r:Int)] 226)).alloc (.cells #[.bool false] 4)).alloc (.cells #[.int .i64 now] 3)).alloc (.cells #[.slice (some ⟨g,0,none⟩) (m+1) cap] 146)).heap.size=w.heap.size+4:=by simp
 obtain ⟨W0,hW0⟩:∃ W0,(((w.alloc (.cells #[.int .i32 op,.string name,.int .i64 lo,.int .i64 hi,.int .i64 (l:Int),.int .i64 (r:Int)] 226)).alloc (.cells #[.bool false] 4)).alloc (.cells #[.int .i64 now] 3)).alloc (.cells #[.slice (some ⟨g,0,none⟩) (m+1) cap] 146)=W0:=⟨_,rfl⟩
 rw [hW0] at hB0 nB bR bN bS oK ⊢
 clear hW0
 refine wpIn_rangeFunc_ownH hro h1 (gf:=215) (lb:=#[.pointer (some ⟨w.heap.size+1+1+1,0,none⟩)]) rfl h215 (enters_of Tryz.func215 (by kernel_rfl) rfl)
  (back_stops F (n-1) h215 hro (by omega) (w.heap.size+1+1+1) W0.heap.size g cap (m+1) C hm (by omega) (by omega) W0 (Nat.le_refl _) bS.cell cW (fun i k v hi hv=>(hB0.cell (p:=⟨g,i*4+k,none⟩) hg).trans (hc i k v hi hv))) belowK_t (belowK_b (Nat.le_refl _)) (Below.refl _ _) (fun _=>rfl)
  (fun pre W=>((NoneD (qU now lo hi l) E pre/\Boxed W (w.heap.size+1) 4 (.bool false))/\(W.heap[w.heap.size]? = some (.cells #[.int .i32 op,.string name,.int .i64 lo,.int .i64 hi,.int .i64 (l:Int),.int .i64 (r:Int)] 226 (0,0))/\(Boxed W (w.heap.size+1+1) 3 (.int .i64 now)/\Boxed W (w.heap.size+1+1+1) 146 (.slice (some ⟨g,0,none⟩) (m+1) cap))))/\Below w.heap.size w W)
  (fun c pre W=>(StopD (qU now lo hi l) E c pre/\Boxed W (w.heap.size+1) 4 (.bool (sZ (qU now lo hi l) E pre)))/\Below w.heap.size w W)
  (OwnFrom.and (OwnFrom.and (OwnFrom.and (ownFrom_pure _ _) (Own.from (boxed_own _ _ _) _)) (OwnFrom.and (Own.from (pW _ _ _ _) _) (OwnFrom.and (Own.from (boxed_own _ _ _) _) (Own.from (boxed_own _ _ _) _)))) (ownFrom_below (Nat.le_refl _) (by omega)))
  (fun c=>OwnFrom.and (OwnFrom.and (ownFrom_pure _ _) (Own.from (boxed_own _ _ (fun pre=>Value.bool (sZ (qU now lo hi l) E pre))) _)) (ownFrom_below (Nat.le_refl _) (by omega)))
  ⟨⟨⟨fun _ h=>by simp at h,bR⟩,nB,bN,bS⟩,hB0⟩
  (fun x a' W=>∃ Bx,w.heap.size+1+1<Bx/\W.heap[Bx]? = some (.cells #[.int .i64 (C x.1).number,.int .i64 (C x.1).time,.slice (C x.1).ao (C x.1).al (C x.1).ac,.slice (C x.1).so (C x.1).sl (C x.1).sc] 159 (0,0))/\a'={ tmps:=#[.agg #[.int .i32 op,.string name,.int .i64 lo,.int .i64 hi,.int .i64 (l:Int),.int .i64 (r:Int)],.slice (some ⟨g,0,none⟩) (m+1) cap,.pointer (some ⟨w.heap.size,0,none⟩),undef,.pointer (some ⟨w.heap.size+1,0,none⟩),.pointer (some ⟨w.heap.size+1+1,0,none⟩),undef,.pointer (some ⟨Bx,0,none⟩),undef,.slice (some ⟨g,0,none⟩) (m+1) cap,.slice (some ⟨g,0,none⟩) (m+1) cap,.int .i64 ((m:Int)+1),.int .i64 (m:Int),.pointer (some ⟨g,m*4,none⟩),.pointer (some ⟨g,m*4+1,none⟩),.int .i64 now,.slice (some ⟨g,0,none⟩) (m+1) cap,.func (.func 215) #[] #[.pointer (some ⟨w.heap.size+1+1+1,0,none⟩)],.int .i64 (x.1:Int),gv (C x.1),undef,undef,undef,undef,undef,undef,undef,undef,undef,undef,undef,undef,undef,undef,undef,undef,undef,undef,undef,undef,undef,undef],defers:=[] })
  (fun x a' _ X Y row hs hg hr=>by obtain ⟨Bx,e1,e2,e3⟩:=hs;exact ⟨Bx,e1,pW Bx _ 159 (0,0) () X Y row e2 hg (fun r e=>(hr r e).2),e3⟩)
  ?assign ?body ?done ?stop
 case assign =>
  rintro lp pre x W K ⟨⟨⟨hp,pz⟩,nB1,bN1,bS1⟩,nY⟩ hK
  have hlt1:=bS1.lt
  simp only [gv]
  gi_wp2
  exact hK _ _ ((KeepsOthers.alloc _ _).from _) ((Below.refl _ W).alloc (by omega) _) ⟨⟨⟨hp,pz.alloc _⟩,(Below.heap_alloc _ _ _ (by omega)).trans nB1,bN1.alloc _,bS1.alloc _⟩,nY.alloc nY.size _⟩ ⟨W.heap.size,by omega,aB _ _ _ rfl,rfl⟩
 case body =>
  rintro lp pre x a' W hlp ⟨rr,hrr⟩ ⟨⟨⟨hp,pz⟩,nB1,bN1,bS1⟩,nY⟩ ⟨Bx,hBx,hX,rfl⟩ cz
  have hEx:=hE x.1 x.2
  obtain ⟨sb,s1,s2,s3⟩:=hEx.so
  have hlx:=hlE x.1 x.2
  have bl:W.cell? ⟨sb,l,none⟩=some (.bool ((E x.1).at (l:Int))):=(nY.cell (p:=⟨sb,l,none⟩) s2).trans (cZ.bit s3 hlx)
  have tE:=hEx.time
  have tl:=hEx.low
  have sE:=hEx.sl
  have sle:=hEx.slen
  rw [tE,s1,sE] at hX
  have cN:=bN1.cell
  have cR:=pz.cell
  have fR:=pz.frozen
  have cX1:=ae (i:=1) hX rfl
  have cX3:=ae (i:=3) hX rfl
  have k2:=ae (i:=2) nB1 rfl
  have k3:=ae (i:=3) nB1 rfl
  have k4:=ae (i:=4) nB1 rfl
  have k5:=ae (i:=5) nB1 rfl
  have nZ:qU now lo hi l (E x.1)=(if now-(E x.1).time > hi then some false else if now-(E x.1).time>=lo/\(E x.1).at (l:Int)=true then some true else none):=rfl
  have Hn:Hid (∀ b,qU now lo hi l (E x.1)=some b->sZ (qU now lo hi l) E (pre++[x])=b):=fun b hb=>jU _ _ _ _ hb
  have Hw:Hid (∀ b W',qU now lo hi l (E x.1)=some b->KeepsFrom W0.heap.size W W'->Boxed W' (w.heap.size+1) 4 (.bool b)->Below w.heap.size w W'->KeepsFrom W0.heap.size W W'/\(StopD (qU now lo hi l) E .ret (pre++[x])/\Boxed W' (w.heap.size+1) 4 (.bool (sZ (qU now lo hi l) E (pre++[x]))))/\Below w.heap.size w W'):=fun b W' hb h1 h2 h3=>⟨h1,⟨⟨rfl,pre,x,b,rfl,hp,hb⟩,by rw [jU _ _ _ _ hb];exact h2⟩,h3⟩
  have Hg:Hid (NoneD (qU now lo hi l) E pre):=hp
  have Hv:=Hw
  rw [oK] at Hv
  clear hE hc hp tE s1 sE s3 hX hEx nB hB0 bS bN bR q1
  generalize (E x.1).time=t1 at *
  generalize (E x.1).so.length=sl at *
  generalize hbl:(E x.1).at (l:Int)=b1 at *
  by_cases d1:now-t1 > hi
  ·have hd:qU now lo hi l (E x.1)=some false:=by rw [nZ,if_pos d1]
   clear nZ hbl
   gi_wp2
   first | exact Hw.out false _ hd ((KeepsOthers.setCell _ _ _).from _) (pz.set _) (nY.setCell (p:=⟨w.heap.size+1,0,none⟩) (by simp) _) | exact Hv.out false _ hd ((KeepsOthers.setCell _ _ _).from _) (pz.set _) (nY.setCell (p:=⟨w.heap.size+1,0,none⟩) (by simp) _)
  ·by_cases d2:now-t1>=lo
   ·cases b1 with
    | true =>
     have hd:qU now lo hi l (E x.1)=some true:=by rw [nZ,if_neg d1,if_pos ⟨d2,rfl⟩]
     clear nZ hbl
     gi_wp2
     first | exact Hw.out true _ hd ((KeepsOthers.setCell _ _ _).from _) (pz.set _) (nY.setCell (p:=⟨w.heap.size+1,0,none⟩) (by simp) _) | exact Hv.out true _ hd ((KeepsOthers.setCell _ _ _).from _) (pz.set _) (nY.setCell (p:=⟨w.heap.size+1,0,none⟩) (by simp) _)
    | false =>
     have hd:qU now lo hi l (E x.1)=none:=by rw [nZ,if_neg d1,if_neg (fun h=>by cases h.2)]
     clear nZ hbl
     gi_wp2
     exact ⟨KeepsFrom.refl _ _,Below.refl _ _,⟨⟨Hg.out.snoc hd,pz⟩,nB1,bN1,bS1⟩,nY⟩
   ·have hd:qU now lo hi l (E x.1)=none:=by rw [nZ,if_neg d1,if_neg (fun h=>d2 h.1)]
    clear nZ hbl
    gi_wp2
    exact ⟨KeepsFrom.refl _ _,Below.refl _ _,⟨⟨Hg.out.snoc hd,pz⟩,nB1,bN1,bS1⟩,nY⟩
 case done =>
  rintro D zs W hD rfl ⟨⟨⟨hp,pz⟩,nB1,bN1,bS1⟩,nY⟩ hK
  have cR:=pz.cell
  have fR:=pz.frozen
  gi_wp2
  have hK':=(KeepsOthers.setCell W ⟨w.heap.size+1,0,none⟩ (.bool false)).same D _ hK rfl
  refine ⟨by simp,.inl ⟨_,_,rfl,run_takeDeferred hK',?_⟩⟩
  have hc5:=cell_kept (pz.set (.bool false)).cell (grownBy_putObj' _ D (.deferred none)) (fun r e=>by cases e;exact ⟨_,hK',rfl⟩)
  refine ⟨.bool false,?_,by rw [sW _ _ hp],(nY.setCell (p:=⟨w.heap.size+1,0,none⟩) (by simp) _).trans (belowK_b (w:=w) (Nat.le_refl _) _ D _ _ (by omega) hK' rfl rfl)⟩
  simp [results,Tryz.f194,go_sem,hc5]
 case stop =>
  rintro D c pre W hD ⟨k,hk,hpre⟩ ⟨⟨⟨rfl,pre',x,b,e1,e2,e3⟩,pz⟩,nY⟩ hK
  rw [e1,jU _ _ _ _ e3] at pz
  gi_wp2
  refine ⟨by simp,.inl ⟨_,_,rfl,run_takeDeferred hK,?_⟩⟩
  have hc5:=cell_kept pz.cell (grownBy_putObj' _ D (.deferred none)) (fun r e=>by cases e;exact ⟨_,hK,rfl⟩)
  refine ⟨.bool b,?_,by rw [sX _ _ hk hpre e1 e2 e3],nY.trans (belowK_b (w:=w) (Nat.le_refl _) W D _ _ (by omega) hK rfl rfl)⟩
  simp [results,Tryz.f194,go_sem,hc5]
end Ev
namespace Ev
open Go.RowKit Go.Shelf
attribute [local go_sem] Oper.semAt_some
set_option maxRecDepth 100000 in
set_option maxHeartbeats 8000000 in
theorem since_in (F:Fence) (n:Nat) (hfn:F.fn 195) (h207:F.fn 207) (h215:F.fn 215) (hro:F.round=none) (hn:6<=n) (op:Int) (name:ByteArray) (lo hi:Int) (l r:Nat) (g cap m:Nat) (C:Nat->bx) (E:Nat->Pe) (w:World) (hm:m+1<=1000000) (hg:g<w.heap.size) (cW:m+1<=cap)
  (hc:∀ i k v,i<m+1->(bf (C i))[k]? = some v->w.cell? ⟨g,i*4+k,none⟩=some v) (hE:∀ i,i<m+1->cZ w (C i) (E i)) (hlE:∀ i,i<m+1->l<(E i).so.length) (hrE:∀ i,i<m+1->r<(E i).so.length) :
  CallsIn F n Tryz.prog 195 #[.agg #[.int .i32 op,.string name,.int .i64 lo,.int .i64 hi,.int .i64 (l:Int),.int .i64 (r:Int)],.slice (some ⟨g,0,none⟩) (m+1) cap] w fun e W'=>e=.returned (.bool (kM (E m).time lo hi l r (cv E (m+1))))/\Below w.heap.size w W':=by
 have h1:1<=n:=by omega
 rw [vJ]
 have q1:w.cell? ⟨g,m*4+1,none⟩=some (.int .i64 (E m).time):=by rw [<- (hE m (by omega)).time];exact hc m 1 _ (by omega) rfl
 have hlow:=(hE m (by omega)).low
 refine callsIn_of_wp_marks Tryz.func195 rfl hfn ?_ hro
 simp only [Tryz.ntmps195,List.size_toArray,List.length_cons,List.length_nil,Nat.reduceAdd,Nat.reduceSub,Array.replicate_succ,Array.replicate_zero,List.push_toArray,List.append_toArray,List.nil_append,List.cons_append]
 generalize hNow:(E m).time=now at *
 gi_wp2_with (gi_at_call 207;refine (backward_in F (n-1) h207 hro _ _ _ _).mono ?_;rintro e w' ⟨rfl,rfl⟩)
 have hB0:Below w.heap.size w ((((w.alloc (.cells #[.int .i32 op,.string name,.int .i64 lo,.int .i64 hi,.int .i64 (l:Int),.int .i64 (r:Int)] 226)).alloc (.cells #[.bool false] 4)).alloc (.cells #[.int .i64 now] 3)).alloc (.cells #[.slice (some ⟨g,0,none⟩) (m+1) cap] 146)):=((((Below.refl _ w).alloc (Nat.le_refl _) _).alloc (by simp) _).alloc (by simp;omega) _).alloc (by simp;omega) _
 have nB:((((w.alloc (.cells #[.int .i32 op,.string name,.int .i64 lo,.int .i64 hi,.int .i64 (l:Int),.int .i64 (r:Int)] 226)).alloc (.cells #[.bool false] 4)).alloc (.cells #[.int .i64 now] 3)).alloc (.cells #[.slice (some ⟨g,0,none⟩) (m+1) cap] 146)).heap[w.heap.size]? = some (.cells #[.int .i32 op,.string name,.int .i64 lo,.int .i64 hi,.int .i64 (l:Int),.int .i64 (r:Int)] 226 (0,0)):=by
  rw [Below.heap_alloc _ _ _ (by simp;omega),Below.heap_alloc _ _ _ (by simp;omega),Below.heap_alloc _ _ _ (by simp)];exact aB _ _ _ rfl
 have bR:=((Boxed.new (w.alloc (.cells #[.int .i32 op,.string name,.int .i64 lo,.int .i64 hi,.int .i64 (l:Int),.int .i64 (r:Int)] 226)) 4 (.bool false)).alloc (.cells #[.int .i64 now] 3)).alloc (.cells #[.slice (some ⟨g,0,none⟩) (m+1) cap] 146)
 have bN:=(Boxed.new ((w.alloc (.cells #[.int .i32 op,.string name,.int .i64 lo,.int .i64 hi,.int .i64 (l:Int),.int .i64 (r:Int)] 226)).alloc (.cells #[.bool false] 4)) 3 (.int .i64 now)).alloc (.cells #[.slice (some ⟨g,0,none⟩) (m+1) cap] 146)
 have bS:=Boxed.new (((w.alloc (.cells #[.int .i32 op,.string name,.int .i64 lo,.int .i64 hi,.int .i64 (l:Int),.int .i64 (r:Int)] 226)).alloc (.cells #[.bool false] 4)).alloc (.cells #[.int .i64 now] 3)) 146 (.slice (some ⟨g,0,none⟩) (m+1) cap)
 simp only [World.size_alloc] at bR bN bS
 have oK:((((w.alloc (.cells #[.int .i32 op,.string name,.int .i64 lo,.int .i64 hi,.int .i64 (l:Int),.int .i64 (r:Int)] 226)).alloc (.cells #[.bool false] 4)).alloc (.cells #[.int .i64 now] 3)).alloc (.cells #[.slice (some ⟨g,0,none⟩) (m+1) cap] 146)).heap.size=w.heap.size+4:=by simp
 obtain ⟨W0,hW0⟩:∃ W0,(((w.alloc (.cells #[.int .i32 op,.string name,.int .i64 lo,.int .i64 hi,.int .i64 (l:Int),.int .i64 (r:Int)] 226)).alloc (.cells #[.bool false] 4)).alloc (.cells #[.int .i64 now] 3)).alloc (.cells #[.slice (some ⟨g,0,none⟩) (m+1) cap] 146)=W0:=⟨_,rfl⟩
 rw [hW0] at hB0 nB bR bN bS oK ⊢
 clear hW0
 refine wpIn_rangeFunc_ownH hro h1 (gf:=215) (lb:=#[.pointer (some ⟨w.heap.size+1+1+1,0,none⟩)]) rfl h215 (enters_of Tryz.func215 (by kernel_rfl) rfl)
  (back_stops F (n-1) h215 hro (by omega) (w.heap.size+1+1+1) W0.heap.size g cap (m+1) C hm (by omega) (by omega) W0 (Nat.le_refl _) bS.cell cW (fun i k v hi hv=>(hB0.cell (p:=⟨g,i*4+k,none⟩) hg).trans (hc i k v hi hv))) belowK_t (belowK_b (Nat.le_refl _)) (Below.refl _ _) (fun _=>rfl)
  (fun pre W=>((NoneD (pA now lo hi l r) E pre/\Boxed W (w.heap.size+1) 4 (.bool false))/\(W.heap[w.heap.size]? = some (.cells #[.int .i32 op,.string name,.int .i64 lo,.int .i64 hi,.int .i64 (l:Int),.int .i64 (r:Int)] 226 (0,0))/\(Boxed W (w.heap.size+1+1) 3 (.int .i64 now)/\Boxed W (w.heap.size+1+1+1) 146 (.slice (some ⟨g,0,none⟩) (m+1) cap))))/\Below w.heap.size w W)
  (fun c pre W=>(StopD (pA now lo hi l r) E c pre/\Boxed W (w.heap.size+1) 4 (.bool (sZ (pA now lo hi l r) E pre)))/\Below w.heap.size w W)
  (OwnFrom.and (OwnFrom.and (OwnFrom.and (ownFrom_pure _ _) (Own.from (boxed_own _ _ _) _)) (OwnFrom.and (Own.from (pW _ _ _ _) _) (OwnFrom.and (Own.from (boxed_own _ _ _) _) (Own.from (boxed_own _ _ _) _)))) (ownFrom_below (Nat.le_refl _) (by omega)))
  (fun c=>OwnFrom.and (OwnFrom.and (ownFrom_pure _ _) (Own.from (boxed_own _ _ (fun pre=>Value.bool (sZ (pA now lo hi l r) E pre))) _)) (ownFrom_below (Nat.le_refl _) (by omega)))
  ⟨⟨⟨fun _ h=>by simp at h,bR⟩,nB,bN,bS⟩,hB0⟩
  (fun x a' W=>∃ Bx,w.heap.size+1+1<Bx/\W.heap[Bx]? = some (.cells #[.int .i64 (C x.1).number,.int .i64 (C x.1).time,.slice (C x.1).ao (C x.1).al (C x.1).ac,.slice (C x.1).so (C x.1).sl (C x.1).sc] 159 (0,0))/\a'={ tmps:=#[.agg #[.int .i32 op,.string name,.int .i64 lo,.int .i64 hi,.int .i64 (l:Int),.int .i64 (r:Int)],.slice (some ⟨g,0,none⟩) (m+1) cap,.pointer (some ⟨w.heap.size,0,none⟩),undef,.pointer (some ⟨w.heap.size+1,0,none⟩),.pointer (some ⟨w.heap.size+1+1,0,none⟩),undef,.pointer (some ⟨Bx,0,none⟩),undef,.slice (some ⟨g,0,none⟩) (m+1) cap,.slice (some ⟨g,0,none⟩) (m+1) cap,.int .i64 ((m:Int)+1),.int .i64 (m:Int),.pointer (some ⟨g,m*4,none⟩),.pointer (some ⟨g,m*4+1,none⟩),.int .i64 now,.slice (some ⟨g,0,none⟩) (m+1) cap,.func (.func 215) #[] #[.pointer (some ⟨w.heap.size+1+1+1,0,none⟩)],.int .i64 (x.1:Int),gv (C x.1),undef,undef,undef,undef,undef,undef,undef,undef,undef,undef,undef,undef,undef,undef,undef,undef,undef,undef,undef,undef,undef,undef,undef,undef,undef,undef,undef,undef,undef],defers:=[] })
  (fun x a' _ X Y row hs hg hr=>by obtain ⟨Bx,e1,e2,e3⟩:=hs;exact ⟨Bx,e1,pW Bx _ 159 (0,0) () X Y row e2 hg (fun r e=>(hr r e).2),e3⟩)
  ?assign ?body ?done ?stop
 case assign =>
  rintro lp pre x W K ⟨⟨⟨hp,pz⟩,nB1,bN1,bS1⟩,nY⟩ hK
  have hlt1:=bS1.lt
  simp only [gv]
  gi_wp2
  exact hK _ _ ((KeepsOthers.alloc _ _).from _) ((Below.refl _ W).alloc (by omega) _) ⟨⟨⟨hp,pz.alloc _⟩,(Below.heap_alloc _ _ _ (by omega)).trans nB1,bN1.alloc _,bS1.alloc _⟩,nY.alloc nY.size _⟩ ⟨W.heap.size,by omega,aB _ _ _ rfl,rfl⟩
 case body =>
  rintro lp pre x a' W hlp ⟨rr,hrr⟩ ⟨⟨⟨hp,pz⟩,nB1,bN1,bS1⟩,nY⟩ ⟨Bx,hBx,hX,rfl⟩ cz
  have hEx:=hE x.1 x.2
  obtain ⟨sb,s1,s2,s3⟩:=hEx.so
  have hlx:=hlE x.1 x.2
  have bl:W.cell? ⟨sb,l,none⟩=some (.bool ((E x.1).at (l:Int))):=(nY.cell (p:=⟨sb,l,none⟩) s2).trans (cZ.bit s3 hlx)
  have hrx:=hrE x.1 x.2
  have br:W.cell? ⟨sb,r,none⟩=some (.bool ((E x.1).at (r:Int))):=(nY.cell (p:=⟨sb,r,none⟩) s2).trans (cZ.bit s3 hrx)
  have tE:=hEx.time
  have tl:=hEx.low
  have sE:=hEx.sl
  have sle:=hEx.slen
  rw [tE,s1,sE] at hX
  have cN:=bN1.cell
  have cR:=pz.cell
  have fR:=pz.frozen
  have cX1:=ae (i:=1) hX rfl
  have cX3:=ae (i:=3) hX rfl
  have k2:=ae (i:=2) nB1 rfl
  have k3:=ae (i:=3) nB1 rfl
  have k4:=ae (i:=4) nB1 rfl
  have k5:=ae (i:=5) nB1 rfl
  have nZ:pA now lo hi l r (E x.1)=(if now-(E x.1).time > hi then some false else if now-(E x.1).time>=lo/\(E x.1).at (r:Int)=true then some true else if (E x.1).at (l:Int)=false then some false else none):=rfl
  have Hn:Hid (∀ b,pA now lo hi l r (E x.1)=some b->sZ (pA now lo hi l r) E (pre++[x])=b):=fun b hb=>jU _ _ _ _ hb
  have Hw:Hid (∀ b W',pA now lo hi l r (E x.1)=some b->KeepsFrom W0.heap.size W W'->Boxed W' (w.heap.size+1) 4 (.bool b)->Below w.heap.size w W'->KeepsFrom W0.heap.size W W'/\(StopD (pA now lo hi l r) E .ret (pre++[x])/\Boxed W' (w.heap.size+1) 4 (.bool (sZ (pA now lo hi l r) E (pre++[x]))))/\Below w.heap.size w W'):=fun b W' hb h1 h2 h3=>⟨h1,⟨⟨rfl,pre,x,b,rfl,hp,hb⟩,by rw [jU _ _ _ _ hb];exact h2⟩,h3⟩
  have Hg:Hid (NoneD (pA now lo hi l r) E pre):=hp
  have Hv:=Hw
  rw [oK] at Hv
  clear hE hc hp tE s1 sE s3 hX hEx nB hB0 bS bN bR q1
  generalize (E x.1).time=t1 at *
  generalize (E x.1).so.length=sl at *
  generalize hbl:(E x.1).at (l:Int)=b1 at *
  generalize hbr:(E x.1).at (r:Int)=b2 at *
  by_cases d1:now-t1 > hi
  ·have hd:pA now lo hi l r (E x.1)=some false:=by rw [nZ,if_pos d1]
   clear nZ hbl hbr
   gi_wp2
   first | exact Hw.out false _ hd ((KeepsOthers.setCell _ _ _).from _) (pz.set _) (nY.setCell (p:=⟨w.heap.size+1,0,none⟩) (by simp) _) | exact Hv.out false _ hd ((KeepsOthers.setCell _ _ _).from _) (pz.set _) (nY.setCell (p:=⟨w.heap.size+1,0,none⟩) (by simp) _)
  ·by_cases d2:now-t1>=lo
   ·cases b2 with
    | true =>
     have hd:pA now lo hi l r (E x.1)=some true:=by rw [nZ,if_neg d1,if_pos ⟨d2,rfl⟩]
     clear nZ hbl hbr
     gi_wp2
     first | exact Hw.out true _ hd ((KeepsOthers.setCell _ _ _).from _) (pz.set _) (nY.setCell (p:=⟨w.heap.size+1,0,none⟩) (by simp) _) | exact Hv.out true _ hd ((KeepsOthers.setCell _ _ _).from _) (pz.set _) (nY.setCell (p:=⟨w.heap.size+1,0,none⟩) (by simp) _)
    | false =>
     cases b1 with
     | true =>
      have hd:pA now lo hi l r (E x.1)=none:=by rw [nZ,if_neg d1,if_neg (fun h=>by cases h.2),if_neg (by simp)]
      clear nZ hbl hbr
      gi_wp2
      exact ⟨KeepsFrom.refl _ _,Below.refl _ _,⟨⟨Hg.out.snoc hd,pz⟩,nB1,bN1,bS1⟩,nY⟩
     | false =>
      have hd:pA now lo hi l r (E x.1)=some false:=by rw [nZ,if_neg d1,if_neg (fun h=>by cases h.2),if_pos rfl]
      clear nZ hbl hbr
      gi_wp2
      first | exact Hw.out false _ hd ((KeepsOthers.setCell _ _ _).from _) (pz.set _) (nY.setCell (p:=⟨w.heap.size+1,0,none⟩) (by simp) _) | exact Hv.out false _ hd ((KeepsOthers.setCell _ _ _).from _) (pz.set _) (nY.setCell (p:=⟨w.heap.size+1,0,none⟩) (by simp) _)
   ·cases b1 with
    | true =>
     have hd:pA now lo hi l r (E x.1)=none:=by rw [nZ,if_neg d1,if_neg (fun h=>d2 h.1),if_neg (by simp)]
     clear nZ hbl hbr
     gi_wp2
     exact ⟨KeepsFrom.refl _ _,Below.refl _ _,⟨⟨Hg.out.snoc hd,pz⟩,nB1,bN1,bS1⟩,nY⟩
    | false =>
     have hd:pA now lo hi l r (E x.1)=some false:=by rw [nZ,if_neg d1,if_neg (fun h=>d2 h.1),if_pos rfl]
     clear nZ hbl hbr
     gi_wp2
     first | exact Hw.out false _ hd ((KeepsOthers.setCell _ _ _).from _) (pz.set _) (nY.setCell (p:=⟨w.heap.size+1,0,none⟩) (by simp) _) | exact Hv.out false _ hd ((KeepsOthers.setCell _ _ _).from _) (pz.set _) (nY.setCell (p:=⟨w.heap.size+1,0,none⟩) (by simp) _)
 case done =>
  rintro D zs W hD rfl ⟨⟨⟨hp,pz⟩,nB1,bN1,bS1⟩,nY⟩ hK
  have cR:=pz.cell
  have fR:=pz.frozen
  gi_wp2
  have hK':=(KeepsOthers.setCell W ⟨w.heap.size+1,0,none⟩ (.bool false)).same D _ hK rfl
  refine ⟨by simp,.inl ⟨_,_,rfl,run_takeDeferred hK',?_⟩⟩
  have hc5:=cell_kept (pz.set (.bool false)).cell (grownBy_putObj' _ D (.deferred none)) (fun r e=>by cases e;exact ⟨_,hK',rfl⟩)
  refine ⟨.bool false,?_,by rw [sW _ _ hp],(nY.setCell (p:=⟨w.heap.size+1,0,none⟩) (by simp) _).trans (belowK_b (w:=w) (Nat.le_refl _) _ D _ _ (by omega) hK' rfl rfl)⟩
  simp [results,Tryz.f195,go_sem,hc5]
 case stop =>
  rintro D c pre W hD ⟨k,hk,hpre⟩ ⟨⟨⟨rfl,pre',x,b,e1,e2,e3⟩,pz⟩,nY⟩ hK
  rw [e1,jU _ _ _ _ e3] at pz
  gi_wp2
  refine ⟨by simp,.inl ⟨_,_,rfl,run_takeDeferred hK,?_⟩⟩
  have hc5:=cell_kept pz.cell (grownBy_putObj' _ D (.deferred none)) (fun r e=>by cases e;exact ⟨_,hK,rfl⟩)
  refine ⟨.bool b,?_,by rw [sX _ _ hk hpre e1 e2 e3],nY.trans (belowK_b (w:=w) (Nat.le_refl _) W D _ _ (by omega) hK rfl rfl)⟩
  simp [results,Tryz.f195,go_sem,hc5]
end Ev
namespace Ev
open Go.RowKit Go.Deep
theorem pB (f:Nat->Pe) (n:Nat):∀ k,k<=n->(fJ n k).map (fun x=>f x.1)=(List.range k).map (fun j=>f (n-1-j))
 | 0,_=>rfl
 | k+1,h=>by rw [nz (by omega),List.map_append,pB f n k (by omega),List.range_succ,List.map_append];rfl
theorem tv (E:Nat->Pe) (m:Nat):cv E (m+1)=E m::cv E m:=by
 unfold cv
 rw [pB E _ _ (Nat.le_refl _),pB E _ _ (Nat.le_refl _),List.range_succ_eq_map,List.map_cons,List.map_map]
 congr 1
 apply List.map_congr_left
 intro j hj
 simp at hj
 show E _=E _
 congr 1
 omega
theorem containsS_any (A:List ByteArray) (x:ByteArray):Lib.containsS A x=A.any (fun y=>decide (y=x)):=by
 rw [Bool.eq_iff_iff,Lib.containsS_iff]
 simp
set_option maxHeartbeats 2000000 in
theorem before_any (op:Int) (name:ByteArray) (lo hi:Int) (l r:Nat) (g cap m:Nat) (C:Nat->bx) (E:Nat->Pe) (w:World) (hm:m+1<=1000000) (hg:g<w.heap.size) (cW:m+1<=cap)
  (hc:∀ i k v,i<m+1->(bf (C i))[k]? = some v->w.cell? ⟨g,i*4+k,none⟩=some v) (hE:∀ i,i<m+1->cZ w (C i) (E i)) (hlE:∀ i,i<m+1->l<(E i).so.length) :
  Calls Tryz.prog 193 #[.agg #[.int .i32 op,.string name,.int .i64 lo,.int .i64 hi,.int .i64 (l:Int),.int .i64 (r:Int)],.slice (some ⟨g,0,none⟩) (m+1) cap] w fun e W'=>e=.returned (.bool (beforeF (E m).time lo hi l (cv E m)))/\Below w.heap.size w W':=by
 cases m with
 | zero =>
  go_enter Tryz.func193,Tryz.ntmps193
  go_wp2_with fail
  go_ret
  exact ⟨rfl,(Below.refl _ _).al _⟩
 | succ j =>
  have e1:beforeF (E (j+1)).time lo hi l (cv E (j+1))=(decide (lo<=(E (j+1)).time-(E j).time)&&decide ((E (j+1)).time-(E j).time<=hi)&&(E j).at (l:Int)):=by rw [tv];rfl
  rw [e1]
  clear e1
  have hN:=hE (j+1) (by omega)
  have hJ:=hE j (by omega)
  have hlow:=hN.low
  have hlow2:=hJ.low
  have hlx:=hlE j (by omega)
  obtain ⟨sb,s1,s2,s3⟩:=hJ.so
  have bl:w.cell? ⟨sb,l,none⟩=some (.bool ((E j).at (l:Int))):=cZ.bit s3 hlx
  have q1:w.cell? ⟨g,(j+1)*4+1,none⟩=some (.int .i64 (E (j+1)).time):=by rw [<- hN.time];exact hc (j+1) 1 _ (by omega) rfl
  have p0:w.cell? ⟨g,j*4,none⟩=some (.int .i64 (C j).number):=hc j 0 _ (by omega) rfl
  have p1:w.cell? ⟨g,j*4+1,none⟩=some (.int .i64 (E j).time):=by rw [<- hJ.time];exact hc j 1 _ (by omega) rfl
  have p2:w.cell? ⟨g,j*4+2,none⟩=some (.slice (C j).ao (C j).al (C j).ac):=hc j 2 _ (by omega) rfl
  have p3:w.cell? ⟨g,j*4+3,none⟩=some (.slice (some ⟨sb,0,none⟩) (E j).so.length (C j).sc):=by rw [<- s1,<- hJ.sl];exact hc j 3 _ (by omega) rfl
  have hsl:=hJ.slen
  clear hE hc hlE hN hJ s1 s3
  generalize (E j).at (l:Int)=b1 at *
  generalize (E j).so.length=sl at *
  generalize (E (j+1)).time=now at *
  generalize (E j).time=t1 at *
  generalize C j=c at *
  go_enter Tryz.func193,Tryz.ntmps193
  go_wp2_with fail
  have cB:Below w.heap.size w ((w.alloc (.cells #[.int .i32 op,.string name,.int .i64 lo,.int .i64 hi,.int .i64 (l:Int),.int .i64 (r:Int)] 226)).alloc (.cells #[.int .i64 c.number,.int .i64 t1,.slice c.ao c.al c.ac,.slice (some ⟨sb,0,none⟩) sl c.sc] 159)):=((Below.refl _ _).al _).al _
  have nB:((w.alloc (.cells #[.int .i32 op,.string name,.int .i64 lo,.int .i64 hi,.int .i64 (l:Int),.int .i64 (r:Int)] 226)).alloc (.cells #[.int .i64 c.number,.int .i64 t1,.slice c.ao c.al c.ac,.slice (some ⟨sb,0,none⟩) sl c.sc] 159)).heap[w.heap.size]? = some (.cells #[.int .i32 op,.string name,.int .i64 lo,.int .i64 hi,.int .i64 (l:Int),.int .i64 (r:Int)] 226 (0,0)):=(Below.heap_alloc _ _ _ (by simp)).trans (aB _ _ _ rfl)
  have nE:((w.alloc (.cells #[.int .i32 op,.string name,.int .i64 lo,.int .i64 hi,.int .i64 (l:Int),.int .i64 (r:Int)] 226)).alloc (.cells #[.int .i64 c.number,.int .i64 t1,.slice c.ao c.al c.ac,.slice (some ⟨sb,0,none⟩) sl c.sc] 159)).heap[w.heap.size+1]? = some (.cells #[.int .i64 c.number,.int .i64 t1,.slice c.ao c.al c.ac,.slice (some ⟨sb,0,none⟩) sl c.sc] 159 (0,0)):=aB _ _ _ (by simp)
  generalize ((w.alloc (.cells #[.int .i32 op,.string name,.int .i64 lo,.int .i64 hi,.int .i64 (l:Int),.int .i64 (r:Int)] 226)).alloc (.cells #[.int .i64 c.number,.int .i64 t1,.slice c.ao c.al c.ac,.slice (some ⟨sb,0,none⟩) sl c.sc] 159))=W2 at cB nB nE ⊢
  have z1:=(cB.cell (p:=⟨g,(j+1)*4+1,none⟩) hg).trans q1
  have z2:=(cB.cell (p:=⟨sb,l,none⟩) s2).trans bl
  have k2:=ae (i:=2) nB rfl
  have k3:=ae (i:=3) nB rfl
  have k4:=ae (i:=4) nB rfl
  have e1:=ae (i:=1) nE rfl
  have e3:=ae (i:=3) nE rfl
  clear q1 bl p0 p1 p2 p3 nB nE
  go_region
  by_cases d1:lo<=now-t1
  ·by_cases d2:now-t1<=hi
   ·go_wp2_with fail
    go_ret
    exact ⟨by simp [d1,d2],by first | exact cB | exact cB.drew⟩
   ·go_wp2_with fail
    go_ret
    exact ⟨by simp;intro h;omega,by first | exact cB | exact cB.drew⟩
  ·go_wp2_with fail
   go_ret
   exact ⟨by simp;intro h;omega,by first | exact cB | exact cB.drew⟩
def ib (op:Int):Prop:=op=116\/op=97\/op=172\/op=8743\/op=89\/op=79\/op=83
set_option maxRecDepth 100000 in
set_option maxHeartbeats 4000000 in
theorem says_any (op:Int) (name:ByteArray) (lo hi:Int) (l r:Nat) (g cap m:Nat) (C:Nat->bx) (E:Nat->Pe) (w:World) (aN:ib op) (hm:m+1<=1000000) (hg:g<w.heap.size) (cW:m+1<=cap)
  (hc:∀ i k v,i<m+1->(bf (C i))[k]? = some v->w.cell? ⟨g,i*4+k,none⟩=some v) (hE:∀ i,i<m+1->cZ w (C i) (E i)) (hlE:∀ i,i<m+1->l<(E i).so.length) (hrE:∀ i,i<m+1->r<(E i).so.length) :
  Calls Tryz.prog 169 #[.agg #[.int .i32 op,.string name,.int .i64 lo,.int .i64 hi,.int .i64 (l:Int),.int .i64 (r:Int)],.slice (some ⟨g,0,none⟩) (m+1) cap] w fun e W'=>e=.returned (.bool (jn ⟨op,name,lo,hi,l,r⟩ (E m) (cv E m)))/\Below w.heap.size w W':=by
 have hN:=hE m (by omega)
 obtain ⟨sb,s1,s2,s3⟩:=hN.so
 have bl:w.cell? ⟨sb,l,none⟩=some (.bool ((E m).at (l:Int))):=cZ.bit s3 (hlE m (by omega))
 have br:w.cell? ⟨sb,r,none⟩=some (.bool ((E m).at (r:Int))):=cZ.bit s3 (hrE m (by omega))
 have hll:=hlE m (by omega)
 have hrl:=hrE m (by omega)
 have p0:w.cell? ⟨g,m*4,none⟩=some (.int .i64 (C m).number):=hc m 0 _ (by omega) rfl
 have p1:w.cell? ⟨g,m*4+1,none⟩=some (.int .i64 (C m).time):=hc m 1 _ (by omega) rfl
 have p2:w.cell? ⟨g,m*4+2,none⟩=some (.slice (C m).ao (E m).atoms.length (C m).ac):=by rw [<- hN.al];exact hc m 2 _ (by omega) rfl
 have p3:w.cell? ⟨g,m*4+3,none⟩=some (.slice (some ⟨sb,0,none⟩) (E m).so.length (C m).sc):=by rw [<- s1,<- hN.sl];exact hc m 3 _ (by omega) rfl
 have hsl:=hN.slen
 have hal:=hN.alen
 have tb:∀ w',Below w.heap.size w w'->(∀ i k v,i<m+1->(bf (C i))[k]? = some v->w'.cell? ⟨g,i*4+k,none⟩=some v)/\(∀ i,i<m+1->cZ w' (C i) (E i))/\g<w'.heap.size:=fun w' hb=>⟨fun i k v hi hv=>(hb.cell (p:=⟨g,i*4+k,none⟩) hg).trans (hc i k v hi hv),fun i hi=>(hE i hi).below hb,Nat.lt_of_lt_of_le hg hb.size⟩
 have HB:Hid (∀ w',Below w.heap.size w w'->Calls Tryz.prog 193 #[.agg #[.int .i32 op,.string name,.int .i64 lo,.int .i64 hi,.int .i64 (l:Int),.int .i64 (r:Int)],.slice (some ⟨g,0,none⟩) (m+1) cap] w' fun e W'=>e=.returned (.bool (beforeF (E m).time lo hi l (cv E m)))/\Below w'.heap.size w' W'):=fun w' hb=>by
  obtain ⟨t1,t2,t3⟩:=tb w' hb
  exact before_any op name lo hi l r g cap m C E w' hm t3 cW t1 t2 hlE
 have HO:Hid (∀ w',Below w.heap.size w w'->Calls Tryz.prog 194 #[.agg #[.int .i32 op,.string name,.int .i64 lo,.int .i64 hi,.int .i64 (l:Int),.int .i64 (r:Int)],.slice (some ⟨g,0,none⟩) (m+1) cap] w' fun e W'=>e=.returned (.bool (qt (E m).time lo hi l (E m::cv E m)))/\Below w'.heap.size w' W'):=fun w' hb=>by
  obtain ⟨t1,t2,t3⟩:=tb w' hb
  have:=(callsIn_wide (n:=6)).1 (once_in Fence.wide 6 trivial trivial trivial rfl (by omega) op name lo hi l r g cap m C E w' hm t3 cW t1 t2 hlE)
  rwa [tv] at this
 have HS:Hid (∀ w',Below w.heap.size w w'->Calls Tryz.prog 195 #[.agg #[.int .i32 op,.string name,.int .i64 lo,.int .i64 hi,.int .i64 (l:Int),.int .i64 (r:Int)],.slice (some ⟨g,0,none⟩) (m+1) cap] w' fun e W'=>e=.returned (.bool (kM (E m).time lo hi l r (E m::cv E m)))/\Below w'.heap.size w' W'):=fun w' hb=>by
  obtain ⟨t1,t2,t3⟩:=tb w' hb
  have:=(callsIn_wide (n:=6)).1 (since_in Fence.wide 6 trivial trivial trivial rfl (by omega) op name lo hi l r g cap m C E w' hm t3 cW t1 t2 hlE hrE)
  rwa [tv] at this
 have HC:Hid (∀ w',Below w.heap.size w w'->Calls Tryz.prog 168 #[.slice (C m).ao (E m).atoms.length (C m).ac,.string name] w' fun e w''=>e=.returned (.bool ((E m).atoms.any (fun y=>decide (y=name))))/\w''=w'):=fun w' hb=>by
  have:=uw w' (C m).ao (E m).atoms (C m).ac (E m).atoms.length name (hN.atoms.below hb) (Nat.le_refl _) hal
  rwa [List.take_length,containsS_any] at this
 generalize oH:jn ⟨op,name,lo,hi,l,r⟩ (E m) (cv E m)=res
 clear tb hc hE hlE hrE hN s1 s3
 generalize hO:qt (E m).time lo hi l (E m::cv E m)=vO at *
 generalize hS:kM (E m).time lo hi l r (E m::cv E m)=vS at *
 generalize hBf:beforeF (E m).time lo hi l (cv E m)=vB at *
 generalize hA:(E m).atoms.any (fun y=>decide (y=name))=vA at *
 generalize hL:(E m).at (l:Int)=vL at *
 generalize hR:(E m).at (r:Int)=vR at *
 generalize (E m).atoms.length=al at *
 generalize (E m).so.length=sl at *
 have W2b:Below w.heap.size w ((w.alloc (.cells #[.int .i32 op,.string name,.int .i64 lo,.int .i64 hi,.int .i64 (l:Int),.int .i64 (r:Int)] 226)).alloc (.cells #[.int .i64 (C m).number,.int .i64 (C m).time,.slice (C m).ao al (C m).ac,.slice (some ⟨sb,0,none⟩) sl (C m).sc] 159)):=((Below.refl _ _).al _).al _
 have z1:=(W2b.cell (p:=⟨sb,l,none⟩) s2).trans bl
 have z2:=(W2b.cell (p:=⟨sb,r,none⟩) s2).trans br
 rcases aN with rfl | rfl | rfl | rfl | rfl | rfl | rfl
 ·have:res=true:=by rw [<- oH];rfl
  subst this
  clear hO hS hBf hA hL hR oH
  go_enter Tryz.func169,Tryz.ntmps169
  go_wp2_with fail
  go_ret
  exact ⟨rfl,W2b⟩
 ·have:res=vA:=by rw [<- oH,<- hA];rfl
  subst this
  clear hO hS hBf hA hL hR oH
  go_enter Tryz.func169,Tryz.ntmps169
  go_wp2_with fail
  refine (HC.out _ W2b).mono ?_
  rintro e w3 ⟨rfl,rfl⟩
  go_wp2_with fail
  go_ret
  exact ⟨rfl,W2b⟩
 ·have:res=!vL:=by rw [<- oH,<- hL];rfl
  subst this
  clear hO hS hBf hA hL hR oH
  go_enter Tryz.func169,Tryz.ntmps169
  go_wp2_with fail
  go_ret
  exact ⟨rfl,W2b⟩
 ·have:res=(vL&&vR):=by rw [<- oH,<- hL,<- hR];rfl
  subst this
  clear hO hS hBf hA hL hR oH
  cases vL
  ·go_enter Tryz.func169,Tryz.ntmps169
   go_wp2_with fail
   go_ret
   exact ⟨rfl,W2b⟩
  ·go_enter Tryz.func169,Tryz.ntmps169
   go_wp2_with fail
   go_ret
   exact ⟨rfl,W2b⟩
 ·have:res=vB:=by rw [<- oH,<- hBf];rfl
  subst this
  clear hO hS hBf hA hL hR oH
  go_enter Tryz.func169,Tryz.ntmps169
  go_wp2_with fail
  refine (HB.out _ W2b).mono ?_
  rintro e w3 ⟨rfl,pU⟩
  go_wp2_with fail
  go_ret
  exact ⟨rfl,W2b.tr pU⟩
 ·have:res=vO:=by rw [<- oH,<- hO];rfl
  subst this
  clear hO hS hBf hA hL hR oH
  go_enter Tryz.func169,Tryz.ntmps169
  go_wp2_with fail
  refine (HO.out _ W2b).mono ?_
  rintro e w3 ⟨rfl,pU⟩
  go_wp2_with fail
  go_ret
  exact ⟨rfl,W2b.tr pU⟩
 ·have:res=vS:=by rw [<- oH,<- hS];rfl
  subst this
  clear hO hS hBf hA hL hR oH
  go_enter Tryz.func169,Tryz.ntmps169
  go_wp2_with fail
  refine (HS.out _ W2b).mono ?_
  rintro e w3 ⟨rfl,pU⟩
  go_wp2_with fail
  go_ret
  exact ⟨rfl,W2b.tr pU⟩
end Ev
namespace Ev
open Go
section
variable {P : Program} {ops : Array Oper} {Q : Exit → Act → World → Prop} {md : Region.Mode} {S : World → Prop} {fin : Nat}
def bh (P:Program) (md:Region.Mode) (ops:Array Oper) (Q:Exit->Act->World->Prop) (S:World->Prop) (fin:Nat):Nat->Array Bool->Act->World->Prop
 | 0,listed,a,w=>Region.ready md ops listed=[]/\Q .normal a w
 | fuel+1,listed,a,w=>(Region.ready md ops listed=[]->Q .normal a w)/\
  ∀ i∈Region.ready md ops listed,wpOp P ops Q i (fun a' w'=>(i≠fin->S w')/\bh P md ops Q S fin fuel (listed.setIfInBounds i true) a' w') a w
theorem bh.any:∀ (fuel:Nat) (listed:Array Bool) (a:Act) (w:World),bh P md ops Q S fin fuel listed a w->wpAny P md ops Q fuel listed a w
 | 0,_,_,_,h=>h
 | fuel+1,_,_,_,h=>⟨h.1,fun i hi=>wpOp_mono (fun a' w' k=>bh.any fuel _ a' w' k.2) (h.2 i hi)⟩
theorem bh.first {i:Nat} {oi:Oper} {v:Value} (hi:ops[i]? = some oi) (hsel:∀ (j:Nat) (o:Oper) cs b,ops[j]? = some o->o.op≠.select cs b) (bH:∀ o,ops[fin]? = some o->∃ e∈o.after,Region.binds md e=true/\e.on=i)
  (hQ:∀ c a w,Q (.panic c) (a.put oi.dst v) w->Q (.panic c) a w):∀ (fuel:Nat) (listed:Array Bool) (a:Act) (w:World),
   (∀ j oj,ops[j]? = some oj->j≠i->listed.getD j true=false->(∀ e∈oj.after,Region.binds md e=true->e.on≠i)->oi.apart ops oj=true)->
   i∈Region.ready md ops listed->YieldsIf P ops S oi v a->S w->bh P md ops Q S fin fuel (listed.setIfInBounds i true) (a.put oi.dst v) w->bh P md ops Q S fin (fuel+1) listed a w:=by
 intro fuel
 induction fuel with
 | zero =>
  intro listed a w _ hr hy hS H
  refine ⟨fun h=>(by rw [h] at hr;cases hr),fun j hj=>?_⟩
  by_cases mO:j=i
  ·subst mO;exact hy.wpOp hi hS ⟨fun _=>hS,H⟩
  ·have:=ready_mono hj mO
   rw [H.1] at this
   cases this
 | succ fuel ih =>
  intro listed a w hfree hr hy hS H
  refine ⟨fun h=>(by rw [h] at hr;cases hr),fun j hj=>?_⟩
  by_cases mO:j=i
  ·subst mO;exact hy.wpOp hi hS ⟨fun _=>hS,H⟩
  ·obtain ⟨hjun,oj,hoj,nc⟩:=mem_ready.1 hj
   have hnot:∀ e∈oj.after,Region.binds md e=true->e.on≠i:=fun e he hb heq=>by
    have h1:=nc e he hb
    have h0:=(mem_ready.1 hr).1
    rw [heq] at h1
    rcases Nat.lt_or_ge i listed.size with h' | h'
    ·simp [h'] at h0 h1;rw [h0] at h1;cases h1
    ·simp [Array.getElem?_eq_none h'] at h1
   have hjf:j≠fin:=by
    rintro rfl
    obtain ⟨e,he,hb,heq⟩:=bH oj hoj
    exact hnot e he hb heq
   have h2:=wpOp_putIf hoj (hfree j oj hoj mO hjun hnot) (fun cs b=>hsel i oi cs b hi) (fun cs b=>hsel j oj cs b hoj) hQ hy (H.2 j (ready_mono hj mO))
   refine wpOp_mono (fun a' w' h3=>⟨h3.2.1,ih (listed.setIfInBounds j true) a' w' (fun k ok hk hki hun hno=>hfree k ok hk hki ?_ hno) (ready_mono hr (Ne.symm mO)) h3.1 (h3.2.1 hjf) ?_⟩) h2
   ·by_cases n9:j=k
    ·subst n9;exact hjun
    ·rw [getD_set_ne true n9] at hun;exact hun
   ·rw [Array.setIfInBounds_comm _ _ mO]
    exact h3.2.2
theorem bh.take (i:Nat) {oi:Oper} {v:Value} {fuel:Nat} {listed:Array Bool} {a:Act} {w:World} (hi:ops[i]? = some oi) (hs:Region.noSelect ops=true) (hf:Region.free md ops listed i=true) (hr:(Region.ready md ops listed).contains i=true)
  (bH:((ops[fin]?).map fun o=>o.after.any fun e=>Region.binds md e&&e.on==i).getD true=true) (hQ:∀ c a w,Q (.panic c) (a.put oi.dst v) w->Q (.panic c) a w)
  (hw:Region.wanted oi (yielded ops a.tmps)=true) (hy:∀ w,S w->(execOp a.eval oi).run P w=.ok (.value v) w) (hS:S w) (h:bh P md ops Q S fin fuel (listed.setIfInBounds i true) (a.put oi.dst v) w):bh P md ops Q S fin (fuel+1) listed a w :=
 bh.first hi (Region.noSelect_spec hs) (fun o ho=>by
  rw [ho] at bH
  simp only [Option.map_some,Option.getD_some] at bH
  obtain ⟨e,he,hb⟩:=Array.any_eq_true'.1 bH
  simp only [Bool.and_eq_true,beq_iff_eq] at hb
  exact ⟨e,he,hb.1,hb.2⟩) hQ fuel listed a w (Region.free_spec hi hf) (by simpa using hr) (.inl ⟨hw,hy⟩) hS h
theorem bh.one {i:Nat} {o:Oper} {fuel:Nat} {listed:Array Bool} {a:Act} {w:World} (hr:Region.ready md ops listed=[i]) (ho:ops[i]? = some o) (hw:Region.wanted o (yielded ops a.tmps)=true)
  (h:Oper.wp P o a w (fun a' w'=>(i≠fin->S w')/\bh P md ops Q S fin fuel (listed.setIfInBounds i true) a' w') Q):bh P md ops Q S fin (fuel+1) listed a w :=
 ⟨fun h0=>(by rw [hr] at h0;cases h0),fun j hj=>by
  rw [hr] at hj;simp at hj;subst hj
  unfold wpOp
  simp only [ho,hw,if_true]
  exact .inl h⟩
theorem bh.op {i:Nat} {o:Oper} {fuel:Nat} {listed:Array Bool} {a:Act} {w:World} (hr:Region.ready md ops listed=[i]) (ho:ops[i]? = some o) (hw:Region.wanted o (yielded ops a.tmps)=true)
  (h:∀ K:Act->World->Prop,(∀ a' w',((i≠fin->S w')/\bh P md ops Q S fin fuel (listed.setIfInBounds i true) a' w')->K a' w')->Oper.wp P o a w K Q):bh P md ops Q S fin (fuel+1) listed a w :=
 bh.one hr ho hw (h _ fun _ _ x=>x)
theorem bh.two {i j:Nat} {oi oj:Oper} {fuel:Nat} {listed:Array Bool} {a:Act} {w:World} (hr:Region.ready md ops listed=[i,j]) (hoi:ops[i]? = some oi) (hwi:Region.wanted oi (yielded ops a.tmps)=true) (hoj:ops[j]? = some oj) (hwj:Region.wanted oj (yielded ops a.tmps)=true)
  (h1:∀ K:Act->World->Prop,(∀ a' w',((i≠fin->S w')/\bh P md ops Q S fin fuel (listed.setIfInBounds i true) a' w')->K a' w')->Oper.wp P oi a w K Q)
  (h2:∀ K:Act->World->Prop,(∀ a' w',((j≠fin->S w')/\bh P md ops Q S fin fuel (listed.setIfInBounds j true) a' w')->K a' w')->Oper.wp P oj a w K Q):bh P md ops Q S fin (fuel+1) listed a w :=
 ⟨fun h0=>(by rw [hr] at h0;cases h0),fun q hq=>by
  rw [hr] at hq
  simp at hq
  rcases hq with rfl | rfl
  ·unfold wpOp
   simp only [hoi,hwi,if_true]
   exact .inl (h1 _ fun _ _ x=>x)
  ·unfold wpOp
   simp only [hoj,hwj,if_true]
   exact .inl (h2 _ fun _ _ x=>x)⟩
theorem bh.done {listed:Array Bool} {a:Act} {w:World} (hr:Region.ready md ops listed=[]) (h:Q .normal a w):∀ fuel,bh P md ops Q S fin fuel listed a w
 | 0=>⟨hr,h⟩
 | _+1=>⟨fun _=>h,fun i hi=>by rw [hr] at hi;cases hi⟩
theorem bh.begin {id:Nat} {a:Act} {w:World} (hm:P.follows .mixedOrders=true) (h:bh P .any ops Q S fin ops.size (Array.replicate ops.size false) a w.drew):(Code.region id ops true).wp P Q a w :=
 wp_region_any hm (bh.any _ _ _ _ h)
end
end Ev
end Go.Proofs.YtpbbmagjhkakgaaGreatDoor
