import Derived.Test.YtpbbmagjhkakgaaGreatDoorEvRepToEvOnce
import Derived.OrdersHeld
import Derived.Conc.CompanyMem
namespace Go.Proofs.YtpbbmagjhkakgaaGreatDoor.Ev
open Go.RowKit Go.Shelf
attribute [local go_sem] Oper.semAt_some
set_option maxRecDepth 100000 in
set_option maxHeartbeats 8000000 in
theorem since_in (F:Fence) (n:Nat) (hfn:F.fn 195) (h207:F.fn 207) (h215:F.fn 215) (hro:F.round=none) (hn:6<=n) (op:Int) (name:ByteArray) (lo hi:Int) (l r:Nat) (g cap m:Nat) (C:Nat->EvC) (E:Nat->Pe) (w:World) (hm:m+1<=1000000) (hg:g<w.heap.size) (hcap:m+1<=cap)
  (hc:∀ i k v,i<m+1->(evCells (C i))[k]? = some v->w.cell? ⟨g,i*4+k,none⟩=some v) (hE:∀ i,i<m+1->EvIn w (C i) (E i)) (hlE:∀ i,i<m+1->l<(E i).so.length) (hrE:∀ i,i<m+1->r<(E i).so.length) :
  CallsIn F n Tryz.prog 195 #[.agg #[.int .i32 op,.string name,.int .i64 lo,.int .i64 hi,.int .i64 (l:Int),.int .i64 (r:Int)],.slice (some ⟨g,0,none⟩) (m+1) cap] w fun e W'=>e=.returned (.bool (sinceF (E m).time lo hi l r (backL E (m+1))))/\Below w.heap.size w W':=by
 have h1:1<=n:=by omega
 rw [sinceF_first]
 have q1:w.cell? ⟨g,m*4+1,none⟩=some (.int .i64 (E m).time):=by rw [<- (hE m (by omega)).time];exact hc m 1 _ (by omega) rfl
 have hlow:=(hE m (by omega)).low
 refine callsIn_of_wp_marks Tryz.func195 rfl hfn ?_ hro
 simp only [Tryz.ntmps195,List.size_toArray,List.length_cons,List.length_nil,Nat.reduceAdd,Nat.reduceSub,Array.replicate_succ,Array.replicate_zero,List.push_toArray,List.append_toArray,List.nil_append,List.cons_append]
 generalize hNow:(E m).time=now at *
 gi_wp2_with (gi_at_call 207;refine (backward_in F (n-1) h207 hro _ _ _ _).mono ?_;rintro e w' ⟨rfl,rfl⟩)
 have hB0:Below w.heap.size w ((((w.alloc (.cells #[.int .i32 op,.string name,.int .i64 lo,.int .i64 hi,.int .i64 (l:Int),.int .i64 (r:Int)] 226)).alloc (.cells #[.bool false] 4)).alloc (.cells #[.int .i64 now] 3)).alloc (.cells #[.slice (some ⟨g,0,none⟩) (m+1) cap] 146)):=((((Below.refl _ w).alloc (Nat.le_refl _) _).alloc (by simp) _).alloc (by simp;omega) _).alloc (by simp;omega) _
 have nB:((((w.alloc (.cells #[.int .i32 op,.string name,.int .i64 lo,.int .i64 hi,.int .i64 (l:Int),.int .i64 (r:Int)] 226)).alloc (.cells #[.bool false] 4)).alloc (.cells #[.int .i64 now] 3)).alloc (.cells #[.slice (some ⟨g,0,none⟩) (m+1) cap] 146)).heap[w.heap.size]? = some (.cells #[.int .i32 op,.string name,.int .i64 lo,.int .i64 hi,.int .i64 (l:Int),.int .i64 (r:Int)] 226 (0,0)):=by
  rw [Below.heap_alloc _ _ _ (by simp;omega),Below.heap_alloc _ _ _ (by simp;omega),Below.heap_alloc _ _ _ (by simp)];exact heap_new _ _ _ rfl
 have bR:=((Boxed.new (w.alloc (.cells #[.int .i32 op,.string name,.int .i64 lo,.int .i64 hi,.int .i64 (l:Int),.int .i64 (r:Int)] 226)) 4 (.bool false)).alloc (.cells #[.int .i64 now] 3)).alloc (.cells #[.slice (some ⟨g,0,none⟩) (m+1) cap] 146)
 have bN:=(Boxed.new ((w.alloc (.cells #[.int .i32 op,.string name,.int .i64 lo,.int .i64 hi,.int .i64 (l:Int),.int .i64 (r:Int)] 226)).alloc (.cells #[.bool false] 4)) 3 (.int .i64 now)).alloc (.cells #[.slice (some ⟨g,0,none⟩) (m+1) cap] 146)
 have bS:=Boxed.new (((w.alloc (.cells #[.int .i32 op,.string name,.int .i64 lo,.int .i64 hi,.int .i64 (l:Int),.int .i64 (r:Int)] 226)).alloc (.cells #[.bool false] 4)).alloc (.cells #[.int .i64 now] 3)) 146 (.slice (some ⟨g,0,none⟩) (m+1) cap)
 simp only [World.size_alloc] at bR bN bS
 have hsz:((((w.alloc (.cells #[.int .i32 op,.string name,.int .i64 lo,.int .i64 hi,.int .i64 (l:Int),.int .i64 (r:Int)] 226)).alloc (.cells #[.bool false] 4)).alloc (.cells #[.int .i64 now] 3)).alloc (.cells #[.slice (some ⟨g,0,none⟩) (m+1) cap] 146)).heap.size=w.heap.size+4:=by simp
 obtain ⟨W0,hW0⟩:∃ W0,(((w.alloc (.cells #[.int .i32 op,.string name,.int .i64 lo,.int .i64 hi,.int .i64 (l:Int),.int .i64 (r:Int)] 226)).alloc (.cells #[.bool false] 4)).alloc (.cells #[.int .i64 now] 3)).alloc (.cells #[.slice (some ⟨g,0,none⟩) (m+1) cap] 146)=W0:=⟨_,rfl⟩
 rw [hW0] at hB0 nB bR bN bS hsz ⊢
 clear hW0
 refine wpIn_rangeFunc_ownH hro h1 (gf:=215) (lb:=#[.pointer (some ⟨w.heap.size+1+1+1,0,none⟩)]) rfl h215 (enters_of Tryz.func215 (by kernel_rfl) rfl)
  (back_stops F (n-1) h215 hro (by omega) (w.heap.size+1+1+1) W0.heap.size g cap (m+1) C hm (by omega) (by omega) W0 (Nat.le_refl _) bS.cell hcap (fun i k v hi hv=>(hB0.cell (p:=⟨g,i*4+k,none⟩) hg).trans (hc i k v hi hv))) belowK_t (belowK_b (Nat.le_refl _)) (Below.refl _ _) (fun _=>rfl)
  (fun pre W=>((NoneD (decS now lo hi l r) E pre/\Boxed W (w.heap.size+1) 4 (.bool false))/\(W.heap[w.heap.size]? = some (.cells #[.int .i32 op,.string name,.int .i64 lo,.int .i64 hi,.int .i64 (l:Int),.int .i64 (r:Int)] 226 (0,0))/\(Boxed W (w.heap.size+1+1) 3 (.int .i64 now)/\Boxed W (w.heap.size+1+1+1) 146 (.slice (some ⟨g,0,none⟩) (m+1) cap))))/\Below w.heap.size w W)
  (fun c pre W=>(StopD (decS now lo hi l r) E c pre/\Boxed W (w.heap.size+1) 4 (.bool (lastD (decS now lo hi l r) E pre)))/\Below w.heap.size w W)
  (OwnFrom.and (OwnFrom.and (OwnFrom.and (ownFrom_pure _ _) (Own.from (boxed_own _ _ _) _)) (OwnFrom.and (Own.from (heapIs_own _ _ _ _) _) (OwnFrom.and (Own.from (boxed_own _ _ _) _) (Own.from (boxed_own _ _ _) _)))) (ownFrom_below (Nat.le_refl _) (by omega)))
  (fun c=>OwnFrom.and (OwnFrom.and (ownFrom_pure _ _) (Own.from (boxed_own _ _ (fun pre=>Value.bool (lastD (decS now lo hi l r) E pre))) _)) (ownFrom_below (Nat.le_refl _) (by omega)))
  ⟨⟨⟨fun _ h=>by simp at h,bR⟩,nB,bN,bS⟩,hB0⟩
  (fun x a' W=>∃ Bx,w.heap.size+1+1<Bx/\W.heap[Bx]? = some (.cells #[.int .i64 (C x.1).number,.int .i64 (C x.1).time,.slice (C x.1).ao (C x.1).al (C x.1).ac,.slice (C x.1).so (C x.1).sl (C x.1).sc] 159 (0,0))/\a'={ tmps:=#[.agg #[.int .i32 op,.string name,.int .i64 lo,.int .i64 hi,.int .i64 (l:Int),.int .i64 (r:Int)],.slice (some ⟨g,0,none⟩) (m+1) cap,.pointer (some ⟨w.heap.size,0,none⟩),undef,.pointer (some ⟨w.heap.size+1,0,none⟩),.pointer (some ⟨w.heap.size+1+1,0,none⟩),undef,.pointer (some ⟨Bx,0,none⟩),undef,.slice (some ⟨g,0,none⟩) (m+1) cap,.slice (some ⟨g,0,none⟩) (m+1) cap,.int .i64 ((m:Int)+1),.int .i64 (m:Int),.pointer (some ⟨g,m*4,none⟩),.pointer (some ⟨g,m*4+1,none⟩),.int .i64 now,.slice (some ⟨g,0,none⟩) (m+1) cap,.func (.func 215) #[] #[.pointer (some ⟨w.heap.size+1+1+1,0,none⟩)],.int .i64 (x.1:Int),evVal (C x.1),undef,undef,undef,undef,undef,undef,undef,undef,undef,undef,undef,undef,undef,undef,undef,undef,undef,undef,undef,undef,undef,undef,undef,undef,undef,undef,undef,undef,undef],defers:=[] })
  (fun x a' _ X Y row hs hg hr=>by obtain ⟨Bx,e1,e2,e3⟩:=hs;exact ⟨Bx,e1,heapIs_own Bx _ 159 (0,0) () X Y row e2 hg (fun r e=>(hr r e).2),e3⟩)
  ?assign ?body ?done ?stop
 case assign =>
  rintro lp pre x W K ⟨⟨⟨hp,bR1⟩,nB1,bN1,bS1⟩,hB1⟩ hK
  have hlt1:=bS1.lt
  simp only [evVal]
  gi_wp2
  exact hK _ _ ((KeepsOthers.alloc _ _).from _) ((Below.refl _ W).alloc (by omega) _) ⟨⟨⟨hp,bR1.alloc _⟩,(Below.heap_alloc _ _ _ (by omega)).trans nB1,bN1.alloc _,bS1.alloc _⟩,hB1.alloc hB1.size _⟩ ⟨W.heap.size,by omega,heap_new _ _ _ rfl,rfl⟩
 case body =>
  rintro lp pre x a' W hlp ⟨rr,hrr⟩ ⟨⟨⟨hp,bR1⟩,nB1,bN1,bS1⟩,hB1⟩ ⟨Bx,hBx,hX,rfl⟩ hlt
  have hEx:=hE x.1 x.2
  obtain ⟨sb,s1,s2,s3⟩:=hEx.so
  have hlx:=hlE x.1 x.2
  have bl:W.cell? ⟨sb,l,none⟩=some (.bool ((E x.1).at (l:Int))):=(hB1.cell (p:=⟨sb,l,none⟩) s2).trans (EvIn.bit s3 hlx)
  have hrx:=hrE x.1 x.2
  have br:W.cell? ⟨sb,r,none⟩=some (.bool ((E x.1).at (r:Int))):=(hB1.cell (p:=⟨sb,r,none⟩) s2).trans (EvIn.bit s3 hrx)
  have tE:=hEx.time
  have tl:=hEx.low
  have sE:=hEx.sl
  have sle:=hEx.slen
  rw [tE,s1,sE] at hX
  have cN:=bN1.cell
  have cR:=bR1.cell
  have fR:=bR1.frozen
  have cX1:=cell_at (i:=1) hX rfl
  have cX3:=cell_at (i:=3) hX rfl
  have k2:=cell_at (i:=2) nB1 rfl
  have k3:=cell_at (i:=3) nB1 rfl
  have k4:=cell_at (i:=4) nB1 rfl
  have k5:=cell_at (i:=5) nB1 rfl
  have hdec:decS now lo hi l r (E x.1)=(if now-(E x.1).time > hi then some false else if now-(E x.1).time>=lo/\(E x.1).at (r:Int)=true then some true else if (E x.1).at (l:Int)=false then some false else none):=rfl
  have Hn:Hid (∀ b,decS now lo hi l r (E x.1)=some b->lastD (decS now lo hi l r) E (pre++[x])=b):=fun b hb=>lastD_snoc _ _ _ _ hb
  have Hw:Hid (∀ b W',decS now lo hi l r (E x.1)=some b->KeepsFrom W0.heap.size W W'->Boxed W' (w.heap.size+1) 4 (.bool b)->Below w.heap.size w W'->KeepsFrom W0.heap.size W W'/\(StopD (decS now lo hi l r) E .ret (pre++[x])/\Boxed W' (w.heap.size+1) 4 (.bool (lastD (decS now lo hi l r) E (pre++[x]))))/\Below w.heap.size w W'):=fun b W' hb h1 h2 h3=>⟨h1,⟨⟨rfl,pre,x,b,rfl,hp,hb⟩,by rw [lastD_snoc _ _ _ _ hb];exact h2⟩,h3⟩
  have Hg:Hid (NoneD (decS now lo hi l r) E pre):=hp
  have Hv:=Hw
  rw [hsz] at Hv
  clear hE hc hp tE s1 sE s3 hX hEx nB hB0 bS bN bR q1
  generalize (E x.1).time=t1 at *
  generalize (E x.1).so.length=sl at *
  generalize hbl:(E x.1).at (l:Int)=b1 at *
  generalize hbr:(E x.1).at (r:Int)=b2 at *
  by_cases d1:now-t1 > hi
  ·have hd:decS now lo hi l r (E x.1)=some false:=by rw [hdec,if_pos d1]
   clear hdec hbl hbr
   gi_wp2
   first | exact Hw.out false _ hd ((KeepsOthers.setCell _ _ _).from _) (bR1.set _) (hB1.setCell (p:=⟨w.heap.size+1,0,none⟩) (by simp) _) | exact Hv.out false _ hd ((KeepsOthers.setCell _ _ _).from _) (bR1.set _) (hB1.setCell (p:=⟨w.heap.size+1,0,none⟩) (by simp) _)
  ·by_cases d2:now-t1>=lo
   ·cases b2 with
    | true =>
     have hd:decS now lo hi l r (E x.1)=some true:=by rw [hdec,if_neg d1,if_pos ⟨d2,rfl⟩]
     clear hdec hbl hbr
     gi_wp2
     first | exact Hw.out true _ hd ((KeepsOthers.setCell _ _ _).from _) (bR1.set _) (hB1.setCell (p:=⟨w.heap.size+1,0,none⟩) (by simp) _) | exact Hv.out true _ hd ((KeepsOthers.setCell _ _ _).from _) (bR1.set _) (hB1.setCell (p:=⟨w.heap.size+1,0,none⟩) (by simp) _)
    | false =>
     cases b1 with
     | true =>
      have hd:decS now lo hi l r (E x.1)=none:=by rw [hdec,if_neg d1,if_neg (fun h=>by cases h.2),if_neg (by simp)]
      clear hdec hbl hbr
      gi_wp2
      exact ⟨KeepsFrom.refl _ _,Below.refl _ _,⟨⟨Hg.out.snoc hd,bR1⟩,nB1,bN1,bS1⟩,hB1⟩
     | false =>
      have hd:decS now lo hi l r (E x.1)=some false:=by rw [hdec,if_neg d1,if_neg (fun h=>by cases h.2),if_pos rfl]
      clear hdec hbl hbr
      gi_wp2
      first | exact Hw.out false _ hd ((KeepsOthers.setCell _ _ _).from _) (bR1.set _) (hB1.setCell (p:=⟨w.heap.size+1,0,none⟩) (by simp) _) | exact Hv.out false _ hd ((KeepsOthers.setCell _ _ _).from _) (bR1.set _) (hB1.setCell (p:=⟨w.heap.size+1,0,none⟩) (by simp) _)
   ·cases b1 with
    | true =>
     have hd:decS now lo hi l r (E x.1)=none:=by rw [hdec,if_neg d1,if_neg (fun h=>d2 h.1),if_neg (by simp)]
     clear hdec hbl hbr
     gi_wp2
     exact ⟨KeepsFrom.refl _ _,Below.refl _ _,⟨⟨Hg.out.snoc hd,bR1⟩,nB1,bN1,bS1⟩,hB1⟩
    | false =>
     have hd:decS now lo hi l r (E x.1)=some false:=by rw [hdec,if_neg d1,if_neg (fun h=>d2 h.1),if_pos rfl]
     clear hdec hbl hbr
     gi_wp2
     first | exact Hw.out false _ hd ((KeepsOthers.setCell _ _ _).from _) (bR1.set _) (hB1.setCell (p:=⟨w.heap.size+1,0,none⟩) (by simp) _) | exact Hv.out false _ hd ((KeepsOthers.setCell _ _ _).from _) (bR1.set _) (hB1.setCell (p:=⟨w.heap.size+1,0,none⟩) (by simp) _)
 case done =>
  rintro D zs W hD rfl ⟨⟨⟨hp,bR1⟩,nB1,bN1,bS1⟩,hB1⟩ hK
  have cR:=bR1.cell
  have fR:=bR1.frozen
  gi_wp2
  have hK':=(KeepsOthers.setCell W ⟨w.heap.size+1,0,none⟩ (.bool false)).same D _ hK rfl
  refine ⟨by simp,.inl ⟨_,_,rfl,run_takeDeferred hK',?_⟩⟩
  have hc5:=cell_kept (bR1.set (.bool false)).cell (grownBy_putObj' _ D (.deferred none)) (fun r e=>by cases e;exact ⟨_,hK',rfl⟩)
  refine ⟨.bool false,?_,by rw [first_of_done _ _ hp],(hB1.setCell (p:=⟨w.heap.size+1,0,none⟩) (by simp) _).trans (belowK_b (w:=w) (Nat.le_refl _) _ D _ _ (by omega) hK' rfl rfl)⟩
  simp [results,Tryz.f195,go_sem,hc5]
 case stop =>
  rintro D c pre W hD ⟨k,hk,hpre⟩ ⟨⟨⟨rfl,pre',x,b,e1,e2,e3⟩,bR1⟩,hB1⟩ hK
  rw [e1,lastD_snoc _ _ _ _ e3] at bR1
  gi_wp2
  refine ⟨by simp,.inl ⟨_,_,rfl,run_takeDeferred hK,?_⟩⟩
  have hc5:=cell_kept bR1.cell (grownBy_putObj' _ D (.deferred none)) (fun r e=>by cases e;exact ⟨_,hK,rfl⟩)
  refine ⟨.bool b,?_,by rw [first_of_stop _ _ hk hpre e1 e2 e3],hB1.trans (belowK_b (w:=w) (Nat.le_refl _) W D _ _ (by omega) hK rfl rfl)⟩
  simp [results,Tryz.f195,go_sem,hc5]
end Go.Proofs.YtpbbmagjhkakgaaGreatDoor.Ev
namespace Go.Proofs.YtpbbmagjhkakgaaGreatDoor.Ev
open Go.RowKit Go.Deep
theorem downTo_map (f:Nat->Pe) (n:Nat):∀ k,k<=n->(downTo n k).map (fun x=>f x.1)=(List.range k).map (fun j=>f (n-1-j))
 | 0,_=>rfl
 | k+1,h=>by rw [downTo_succ (by omega),List.map_append,downTo_map f n k (by omega),List.range_succ,List.map_append];rfl
theorem backL_succ (E:Nat->Pe) (m:Nat):backL E (m+1)=E m::backL E m:=by
 unfold backL
 rw [downTo_map E _ _ (Nat.le_refl _),downTo_map E _ _ (Nat.le_refl _),List.range_succ_eq_map,List.map_cons,List.map_map]
 congr 1
 apply List.map_congr_left
 intro j hj
 simp at hj
 show E _=E _
 congr 1
 omega
theorem containsS_any (A:List ByteArray) (x:ByteArray):Lib.containsS A x=A.any (fun y=>decide (y=x)):=by
 rw [Bool.eq_iff_iff,Lib.containsS_iff]
 simp
set_option maxHeartbeats 2000000 in
theorem before_any (op:Int) (name:ByteArray) (lo hi:Int) (l r:Nat) (g cap m:Nat) (C:Nat->EvC) (E:Nat->Pe) (w:World) (hm:m+1<=1000000) (hg:g<w.heap.size) (hcap:m+1<=cap)
  (hc:∀ i k v,i<m+1->(evCells (C i))[k]? = some v->w.cell? ⟨g,i*4+k,none⟩=some v) (hE:∀ i,i<m+1->EvIn w (C i) (E i)) (hlE:∀ i,i<m+1->l<(E i).so.length) :
  Calls Tryz.prog 193 #[.agg #[.int .i32 op,.string name,.int .i64 lo,.int .i64 hi,.int .i64 (l:Int),.int .i64 (r:Int)],.slice (some ⟨g,0,none⟩) (m+1) cap] w fun e W'=>e=.returned (.bool (beforeF (E m).time lo hi l (backL E m)))/\Below w.heap.size w W':=by
 cases m with
 | zero =>
  go_enter Tryz.func193,Tryz.ntmps193
  go_wp2_with fail
  go_ret
  exact ⟨rfl,(Below.refl _ _).al _⟩
 | succ j =>
  have e1:beforeF (E (j+1)).time lo hi l (backL E (j+1))=(decide (lo<=(E (j+1)).time-(E j).time)&&decide ((E (j+1)).time-(E j).time<=hi)&&(E j).at (l:Int)):=by rw [backL_succ];rfl
  rw [e1]
  clear e1
  have hN:=hE (j+1) (by omega)
  have hJ:=hE j (by omega)
  have hlow:=hN.low
  have hlow2:=hJ.low
  have hlx:=hlE j (by omega)
  obtain ⟨sb,s1,s2,s3⟩:=hJ.so
  have bl:w.cell? ⟨sb,l,none⟩=some (.bool ((E j).at (l:Int))):=EvIn.bit s3 hlx
  have q1:w.cell? ⟨g,(j+1)*4+1,none⟩=some (.int .i64 (E (j+1)).time):=by rw [<- hN.time];exact hc (j+1) 1 _ (by omega) rfl
  have p0:w.cell? ⟨g,j*4,none⟩=some (.int .i64 (C j).number):=hc j 0 _ (by omega) rfl
  have p1:w.cell? ⟨g,j*4+1,none⟩=some (.int .i64 (E j).time):=by rw [<- hJ.time];exact hc j 1 _ (by omega) rfl
  have p2:w.cell? ⟨g,j*4+2,none⟩=some (.slice (C j).ao (C j).al (C j).ac):=hc j 2 _ (by omega) rfl
  have p3:w.cell? ⟨g,j*4+3,none⟩=some (.slice (some ⟨sb,0,none⟩) (E j).so.length (C j).sc):=by rw [<- s1,<- hJ.sl];exact hc j 3 _ (by omega) rfl
  have hsl:=hJ.slen
  clear hE hc hlE hN hJ s1 s3
  generalize (E j).at (l:Int)=b1 at *
  generalize (E j).so.length=sl at *
  generalize (E (j+1)).time=now at *
  generalize (E j).time=t1 at *
  generalize C j=c at *
  go_enter Tryz.func193,Tryz.ntmps193
  go_wp2_with fail
  have hb2:Below w.heap.size w ((w.alloc (.cells #[.int .i32 op,.string name,.int .i64 lo,.int .i64 hi,.int .i64 (l:Int),.int .i64 (r:Int)] 226)).alloc (.cells #[.int .i64 c.number,.int .i64 t1,.slice c.ao c.al c.ac,.slice (some ⟨sb,0,none⟩) sl c.sc] 159)):=((Below.refl _ _).al _).al _
  have nB:((w.alloc (.cells #[.int .i32 op,.string name,.int .i64 lo,.int .i64 hi,.int .i64 (l:Int),.int .i64 (r:Int)] 226)).alloc (.cells #[.int .i64 c.number,.int .i64 t1,.slice c.ao c.al c.ac,.slice (some ⟨sb,0,none⟩) sl c.sc] 159)).heap[w.heap.size]? = some (.cells #[.int .i32 op,.string name,.int .i64 lo,.int .i64 hi,.int .i64 (l:Int),.int .i64 (r:Int)] 226 (0,0)):=(Below.heap_alloc _ _ _ (by simp)).trans (heap_new _ _ _ rfl)
  have nE:((w.alloc (.cells #[.int .i32 op,.string name,.int .i64 lo,.int .i64 hi,.int .i64 (l:Int),.int .i64 (r:Int)] 226)).alloc (.cells #[.int .i64 c.number,.int .i64 t1,.slice c.ao c.al c.ac,.slice (some ⟨sb,0,none⟩) sl c.sc] 159)).heap[w.heap.size+1]? = some (.cells #[.int .i64 c.number,.int .i64 t1,.slice c.ao c.al c.ac,.slice (some ⟨sb,0,none⟩) sl c.sc] 159 (0,0)):=heap_new _ _ _ (by simp)
  generalize ((w.alloc (.cells #[.int .i32 op,.string name,.int .i64 lo,.int .i64 hi,.int .i64 (l:Int),.int .i64 (r:Int)] 226)).alloc (.cells #[.int .i64 c.number,.int .i64 t1,.slice c.ao c.al c.ac,.slice (some ⟨sb,0,none⟩) sl c.sc] 159))=W2 at hb2 nB nE ⊢
  have z1:=(hb2.cell (p:=⟨g,(j+1)*4+1,none⟩) hg).trans q1
  have z2:=(hb2.cell (p:=⟨sb,l,none⟩) s2).trans bl
  have k2:=cell_at (i:=2) nB rfl
  have k3:=cell_at (i:=3) nB rfl
  have k4:=cell_at (i:=4) nB rfl
  have e1:=cell_at (i:=1) nE rfl
  have e3:=cell_at (i:=3) nE rfl
  clear q1 bl p0 p1 p2 p3 nB nE
  go_region
  by_cases d1:lo<=now-t1
  ·by_cases d2:now-t1<=hi
   ·go_wp2_with fail
    go_ret
    exact ⟨by simp [d1,d2],by first | exact hb2 | exact hb2.drew⟩
   ·go_wp2_with fail
    go_ret
    exact ⟨by simp;intro h;omega,by first | exact hb2 | exact hb2.drew⟩
  ·go_wp2_with fail
   go_ret
   exact ⟨by simp;intro h;omega,by first | exact hb2 | exact hb2.drew⟩
def CoreOp (op:Int):Prop:=op=116\/op=97\/op=172\/op=8743\/op=89\/op=79\/op=83
set_option maxRecDepth 100000 in
set_option maxHeartbeats 4000000 in
theorem says_any (op:Int) (name:ByteArray) (lo hi:Int) (l r:Nat) (g cap m:Nat) (C:Nat->EvC) (E:Nat->Pe) (w:World) (hop:CoreOp op) (hm:m+1<=1000000) (hg:g<w.heap.size) (hcap:m+1<=cap)
  (hc:∀ i k v,i<m+1->(evCells (C i))[k]? = some v->w.cell? ⟨g,i*4+k,none⟩=some v) (hE:∀ i,i<m+1->EvIn w (C i) (E i)) (hlE:∀ i,i<m+1->l<(E i).so.length) (hrE:∀ i,i<m+1->r<(E i).so.length) :
  Calls Tryz.prog 169 #[.agg #[.int .i32 op,.string name,.int .i64 lo,.int .i64 hi,.int .i64 (l:Int),.int .i64 (r:Int)],.slice (some ⟨g,0,none⟩) (m+1) cap] w fun e W'=>e=.returned (.bool (saysF ⟨op,name,lo,hi,l,r⟩ (E m) (backL E m)))/\Below w.heap.size w W':=by
 have hN:=hE m (by omega)
 obtain ⟨sb,s1,s2,s3⟩:=hN.so
 have bl:w.cell? ⟨sb,l,none⟩=some (.bool ((E m).at (l:Int))):=EvIn.bit s3 (hlE m (by omega))
 have br:w.cell? ⟨sb,r,none⟩=some (.bool ((E m).at (r:Int))):=EvIn.bit s3 (hrE m (by omega))
 have hll:=hlE m (by omega)
 have hrl:=hrE m (by omega)
 have p0:w.cell? ⟨g,m*4,none⟩=some (.int .i64 (C m).number):=hc m 0 _ (by omega) rfl
 have p1:w.cell? ⟨g,m*4+1,none⟩=some (.int .i64 (C m).time):=hc m 1 _ (by omega) rfl
 have p2:w.cell? ⟨g,m*4+2,none⟩=some (.slice (C m).ao (E m).atoms.length (C m).ac):=by rw [<- hN.al];exact hc m 2 _ (by omega) rfl
 have p3:w.cell? ⟨g,m*4+3,none⟩=some (.slice (some ⟨sb,0,none⟩) (E m).so.length (C m).sc):=by rw [<- s1,<- hN.sl];exact hc m 3 _ (by omega) rfl
 have hsl:=hN.slen
 have hal:=hN.alen
 have tb:∀ w',Below w.heap.size w w'->(∀ i k v,i<m+1->(evCells (C i))[k]? = some v->w'.cell? ⟨g,i*4+k,none⟩=some v)/\(∀ i,i<m+1->EvIn w' (C i) (E i))/\g<w'.heap.size:=fun w' hb=>⟨fun i k v hi hv=>(hb.cell (p:=⟨g,i*4+k,none⟩) hg).trans (hc i k v hi hv),fun i hi=>(hE i hi).below hb,Nat.lt_of_lt_of_le hg hb.size⟩
 have HB:Hid (∀ w',Below w.heap.size w w'->Calls Tryz.prog 193 #[.agg #[.int .i32 op,.string name,.int .i64 lo,.int .i64 hi,.int .i64 (l:Int),.int .i64 (r:Int)],.slice (some ⟨g,0,none⟩) (m+1) cap] w' fun e W'=>e=.returned (.bool (beforeF (E m).time lo hi l (backL E m)))/\Below w'.heap.size w' W'):=fun w' hb=>by
  obtain ⟨t1,t2,t3⟩:=tb w' hb
  exact before_any op name lo hi l r g cap m C E w' hm t3 hcap t1 t2 hlE
 have HO:Hid (∀ w',Below w.heap.size w w'->Calls Tryz.prog 194 #[.agg #[.int .i32 op,.string name,.int .i64 lo,.int .i64 hi,.int .i64 (l:Int),.int .i64 (r:Int)],.slice (some ⟨g,0,none⟩) (m+1) cap] w' fun e W'=>e=.returned (.bool (onceF (E m).time lo hi l (E m::backL E m)))/\Below w'.heap.size w' W'):=fun w' hb=>by
  obtain ⟨t1,t2,t3⟩:=tb w' hb
  have:=(callsIn_wide (n:=6)).1 (once_in Fence.wide 6 trivial trivial trivial rfl (by omega) op name lo hi l r g cap m C E w' hm t3 hcap t1 t2 hlE)
  rwa [backL_succ] at this
 have HS:Hid (∀ w',Below w.heap.size w w'->Calls Tryz.prog 195 #[.agg #[.int .i32 op,.string name,.int .i64 lo,.int .i64 hi,.int .i64 (l:Int),.int .i64 (r:Int)],.slice (some ⟨g,0,none⟩) (m+1) cap] w' fun e W'=>e=.returned (.bool (sinceF (E m).time lo hi l r (E m::backL E m)))/\Below w'.heap.size w' W'):=fun w' hb=>by
  obtain ⟨t1,t2,t3⟩:=tb w' hb
  have:=(callsIn_wide (n:=6)).1 (since_in Fence.wide 6 trivial trivial trivial rfl (by omega) op name lo hi l r g cap m C E w' hm t3 hcap t1 t2 hlE hrE)
  rwa [backL_succ] at this
 have HC:Hid (∀ w',Below w.heap.size w w'->Calls Tryz.prog 168 #[.slice (C m).ao (E m).atoms.length (C m).ac,.string name] w' fun e w''=>e=.returned (.bool ((E m).atoms.any (fun y=>decide (y=name))))/\w''=w'):=fun w' hb=>by
  have:=contains_any w' (C m).ao (E m).atoms (C m).ac (E m).atoms.length name (hN.atoms.below hb) (Nat.le_refl _) hal
  rwa [List.take_length,containsS_any] at this
 generalize hres:saysF ⟨op,name,lo,hi,l,r⟩ (E m) (backL E m)=res
 clear tb hc hE hlE hrE hN s1 s3
 generalize hO:onceF (E m).time lo hi l (E m::backL E m)=vO at *
 generalize hS:sinceF (E m).time lo hi l r (E m::backL E m)=vS at *
 generalize hBf:beforeF (E m).time lo hi l (backL E m)=vB at *
 generalize hA:(E m).atoms.any (fun y=>decide (y=name))=vA at *
 generalize hL:(E m).at (l:Int)=vL at *
 generalize hR:(E m).at (r:Int)=vR at *
 generalize (E m).atoms.length=al at *
 generalize (E m).so.length=sl at *
 have W2b:Below w.heap.size w ((w.alloc (.cells #[.int .i32 op,.string name,.int .i64 lo,.int .i64 hi,.int .i64 (l:Int),.int .i64 (r:Int)] 226)).alloc (.cells #[.int .i64 (C m).number,.int .i64 (C m).time,.slice (C m).ao al (C m).ac,.slice (some ⟨sb,0,none⟩) sl (C m).sc] 159)):=((Below.refl _ _).al _).al _
 have z1:=(W2b.cell (p:=⟨sb,l,none⟩) s2).trans bl
 have z2:=(W2b.cell (p:=⟨sb,r,none⟩) s2).trans br
 rcases hop with rfl | rfl | rfl | rfl | rfl | rfl | rfl
 ·have:res=true:=by rw [<- hres];rfl
  subst this
  clear hO hS hBf hA hL hR hres
  go_enter Tryz.func169,Tryz.ntmps169
  go_wp2_with fail
  go_ret
  exact ⟨rfl,W2b⟩
 ·have:res=vA:=by rw [<- hres,<- hA];rfl
  subst this
  clear hO hS hBf hA hL hR hres
  go_enter Tryz.func169,Tryz.ntmps169
  go_wp2_with fail
  refine (HC.out _ W2b).mono ?_
  rintro e w3 ⟨rfl,rfl⟩
  go_wp2_with fail
  go_ret
  exact ⟨rfl,W2b⟩
 ·have:res=!vL:=by rw [<- hres,<- hL];rfl
  subst this
  clear hO hS hBf hA hL hR hres
  go_enter Tryz.func169,Tryz.ntmps169
  go_wp2_with fail
  go_ret
  exact ⟨rfl,W2b⟩
 ·have:res=(vL&&vR):=by rw [<- hres,<- hL,<- hR];rfl
  subst this
  clear hO hS hBf hA hL hR hres
  cases vL
  ·go_enter Tryz.func169,Tryz.ntmps169
   go_wp2_with fail
   go_ret
   exact ⟨rfl,W2b⟩
  ·go_enter Tryz.func169,Tryz.ntmps169
   go_wp2_with fail
   go_ret
   exact ⟨rfl,W2b⟩
 ·have:res=vB:=by rw [<- hres,<- hBf];rfl
  subst this
  clear hO hS hBf hA hL hR hres
  go_enter Tryz.func169,Tryz.ntmps169
  go_wp2_with fail
  refine (HB.out _ W2b).mono ?_
  rintro e w3 ⟨rfl,hb3⟩
  go_wp2_with fail
  go_ret
  exact ⟨rfl,W2b.tr hb3⟩
 ·have:res=vO:=by rw [<- hres,<- hO];rfl
  subst this
  clear hO hS hBf hA hL hR hres
  go_enter Tryz.func169,Tryz.ntmps169
  go_wp2_with fail
  refine (HO.out _ W2b).mono ?_
  rintro e w3 ⟨rfl,hb3⟩
  go_wp2_with fail
  go_ret
  exact ⟨rfl,W2b.tr hb3⟩
 ·have:res=vS:=by rw [<- hres,<- hS];rfl
  subst this
  clear hO hS hBf hA hL hR hres
  go_enter Tryz.func169,Tryz.ntmps169
  go_wp2_with fail
  refine (HS.out _ W2b).mono ?_
  rintro e w3 ⟨rfl,hb3⟩
  go_wp2_with fail
  go_ret
  exact ⟨rfl,W2b.tr hb3⟩
end Go.Proofs.YtpbbmagjhkakgaaGreatDoor.Ev
namespace Go.Proofs.YtpbbmagjhkakgaaGreatDoor.Ev
open Go
section
variable {P : Program} {ops : Array Oper} {Q : Exit → Act → World → Prop} {md : Region.Mode} {S : World → Prop} {fin : Nat}
def AnyF (P:Program) (md:Region.Mode) (ops:Array Oper) (Q:Exit->Act->World->Prop) (S:World->Prop) (fin:Nat):Nat->Array Bool->Act->World->Prop
 | 0,listed,a,w=>Region.ready md ops listed=[]/\Q .normal a w
 | fuel+1,listed,a,w=>(Region.ready md ops listed=[]->Q .normal a w)/\
  ∀ i∈Region.ready md ops listed,wpOp P ops Q i (fun a' w'=>(i≠fin->S w')/\AnyF P md ops Q S fin fuel (listed.setIfInBounds i true) a' w') a w
theorem AnyF.any:∀ (fuel:Nat) (listed:Array Bool) (a:Act) (w:World),AnyF P md ops Q S fin fuel listed a w->wpAny P md ops Q fuel listed a w
 | 0,_,_,_,h=>h
 | fuel+1,_,_,_,h=>⟨h.1,fun i hi=>wpOp_mono (fun a' w' k=>AnyF.any fuel _ a' w' k.2) (h.2 i hi)⟩
theorem AnyF.first {i:Nat} {oi:Oper} {v:Value} (hi:ops[i]? = some oi) (hsel:∀ (j:Nat) (o:Oper) cs b,ops[j]? = some o->o.op≠.select cs b) (hfin:∀ o,ops[fin]? = some o->∃ e∈o.after,Region.binds md e=true/\e.on=i)
  (hQ:∀ c a w,Q (.panic c) (a.put oi.dst v) w->Q (.panic c) a w):∀ (fuel:Nat) (listed:Array Bool) (a:Act) (w:World),
   (∀ j oj,ops[j]? = some oj->j≠i->listed.getD j true=false->(∀ e∈oj.after,Region.binds md e=true->e.on≠i)->oi.apart ops oj=true)->
   i∈Region.ready md ops listed->YieldsIf P ops S oi v a->S w->AnyF P md ops Q S fin fuel (listed.setIfInBounds i true) (a.put oi.dst v) w->AnyF P md ops Q S fin (fuel+1) listed a w:=by
 intro fuel
 induction fuel with
 | zero =>
  intro listed a w _ hr hy hS H
  refine ⟨fun h=>(by rw [h] at hr;cases hr),fun j hj=>?_⟩
  by_cases hji:j=i
  ·subst hji;exact hy.wpOp hi hS ⟨fun _=>hS,H⟩
  ·have:=ready_mono hj hji
   rw [H.1] at this
   cases this
 | succ fuel ih =>
  intro listed a w hfree hr hy hS H
  refine ⟨fun h=>(by rw [h] at hr;cases hr),fun j hj=>?_⟩
  by_cases hji:j=i
  ·subst hji;exact hy.wpOp hi hS ⟨fun _=>hS,H⟩
  ·obtain ⟨hjun,oj,hoj,hall⟩:=mem_ready.1 hj
   have hnot:∀ e∈oj.after,Region.binds md e=true->e.on≠i:=fun e he hb heq=>by
    have h1:=hall e he hb
    have h0:=(mem_ready.1 hr).1
    rw [heq] at h1
    rcases Nat.lt_or_ge i listed.size with h' | h'
    ·simp [h'] at h0 h1;rw [h0] at h1;cases h1
    ·simp [Array.getElem?_eq_none h'] at h1
   have hjf:j≠fin:=by
    rintro rfl
    obtain ⟨e,he,hb,heq⟩:=hfin oj hoj
    exact hnot e he hb heq
   have h2:=wpOp_putIf hoj (hfree j oj hoj hji hjun hnot) (fun cs b=>hsel i oi cs b hi) (fun cs b=>hsel j oj cs b hoj) hQ hy (H.2 j (ready_mono hj hji))
   refine wpOp_mono (fun a' w' h3=>⟨h3.2.1,ih (listed.setIfInBounds j true) a' w' (fun k ok hk hki hun hno=>hfree k ok hk hki ?_ hno) (ready_mono hr (Ne.symm hji)) h3.1 (h3.2.1 hjf) ?_⟩) h2
   ·by_cases hjk:j=k
    ·subst hjk;exact hjun
    ·rw [getD_set_ne true hjk] at hun;exact hun
   ·rw [Array.setIfInBounds_comm _ _ hji]
    exact h3.2.2
theorem AnyF.take (i:Nat) {oi:Oper} {v:Value} {fuel:Nat} {listed:Array Bool} {a:Act} {w:World} (hi:ops[i]? = some oi) (hs:Region.noSelect ops=true) (hf:Region.free md ops listed i=true) (hr:(Region.ready md ops listed).contains i=true)
  (hfin:((ops[fin]?).map fun o=>o.after.any fun e=>Region.binds md e&&e.on==i).getD true=true) (hQ:∀ c a w,Q (.panic c) (a.put oi.dst v) w->Q (.panic c) a w)
  (hw:Region.wanted oi (yielded ops a.tmps)=true) (hy:∀ w,S w->(execOp a.eval oi).run P w=.ok (.value v) w) (hS:S w) (h:AnyF P md ops Q S fin fuel (listed.setIfInBounds i true) (a.put oi.dst v) w):AnyF P md ops Q S fin (fuel+1) listed a w :=
 AnyF.first hi (Region.noSelect_spec hs) (fun o ho=>by
  rw [ho] at hfin
  simp only [Option.map_some,Option.getD_some] at hfin
  obtain ⟨e,he,hb⟩:=Array.any_eq_true'.1 hfin
  simp only [Bool.and_eq_true,beq_iff_eq] at hb
  exact ⟨e,he,hb.1,hb.2⟩) hQ fuel listed a w (Region.free_spec hi hf) (by simpa using hr) (.inl ⟨hw,hy⟩) hS h
theorem AnyF.one {i:Nat} {o:Oper} {fuel:Nat} {listed:Array Bool} {a:Act} {w:World} (hr:Region.ready md ops listed=[i]) (ho:ops[i]? = some o) (hw:Region.wanted o (yielded ops a.tmps)=true)
  (h:Oper.wp P o a w (fun a' w'=>(i≠fin->S w')/\AnyF P md ops Q S fin fuel (listed.setIfInBounds i true) a' w') Q):AnyF P md ops Q S fin (fuel+1) listed a w :=
 ⟨fun h0=>(by rw [hr] at h0;cases h0),fun j hj=>by
  rw [hr] at hj;simp at hj;subst hj
  unfold wpOp
  simp only [ho,hw,if_true]
  exact .inl h⟩
theorem AnyF.op {i:Nat} {o:Oper} {fuel:Nat} {listed:Array Bool} {a:Act} {w:World} (hr:Region.ready md ops listed=[i]) (ho:ops[i]? = some o) (hw:Region.wanted o (yielded ops a.tmps)=true)
  (h:∀ K:Act->World->Prop,(∀ a' w',((i≠fin->S w')/\AnyF P md ops Q S fin fuel (listed.setIfInBounds i true) a' w')->K a' w')->Oper.wp P o a w K Q):AnyF P md ops Q S fin (fuel+1) listed a w :=
 AnyF.one hr ho hw (h _ fun _ _ x=>x)
theorem AnyF.two {i j:Nat} {oi oj:Oper} {fuel:Nat} {listed:Array Bool} {a:Act} {w:World} (hr:Region.ready md ops listed=[i,j]) (hoi:ops[i]? = some oi) (hwi:Region.wanted oi (yielded ops a.tmps)=true) (hoj:ops[j]? = some oj) (hwj:Region.wanted oj (yielded ops a.tmps)=true)
  (h1:∀ K:Act->World->Prop,(∀ a' w',((i≠fin->S w')/\AnyF P md ops Q S fin fuel (listed.setIfInBounds i true) a' w')->K a' w')->Oper.wp P oi a w K Q)
  (h2:∀ K:Act->World->Prop,(∀ a' w',((j≠fin->S w')/\AnyF P md ops Q S fin fuel (listed.setIfInBounds j true) a' w')->K a' w')->Oper.wp P oj a w K Q):AnyF P md ops Q S fin (fuel+1) listed a w :=
 ⟨fun h0=>(by rw [hr] at h0;cases h0),fun q hq=>by
  rw [hr] at hq
  simp at hq
  rcases hq with rfl | rfl
  ·unfold wpOp
   simp only [hoi,hwi,if_true]
   exact .inl (h1 _ fun _ _ x=>x)
  ·unfold wpOp
   simp only [hoj,hwj,if_true]
   exact .inl (h2 _ fun _ _ x=>x)⟩
theorem AnyF.done {listed:Array Bool} {a:Act} {w:World} (hr:Region.ready md ops listed=[]) (h:Q .normal a w):∀ fuel,AnyF P md ops Q S fin fuel listed a w
 | 0=>⟨hr,h⟩
 | _+1=>⟨fun _=>h,fun i hi=>by rw [hr] at hi;cases hi⟩
theorem AnyF.begin {id:Nat} {a:Act} {w:World} (hm:P.follows .mixedOrders=true) (h:AnyF P .any ops Q S fin ops.size (Array.replicate ops.size false) a w.drew):(Code.region id ops true).wp P Q a w :=
 wp_region_any hm (AnyF.any _ _ _ _ h)
end
end Go.Proofs.YtpbbmagjhkakgaaGreatDoor.Ev
namespace Go.Proofs.YtpbbmagjhkakgaaGreatDoor.Ev
open Go.RowKit Go.Deep
theorem wp_append_own {P:Program} {o:Oper} {a:Act} {w:World} {K:Act->World->Prop} {Q:Exit->Act->World->Prop} (s x:Operand) (t:TypeId) (hop:o.op=Op.call { callee:=Callee.builtin Builtin.append,args:=#[s,x],argTypes:=#[t,t] })
  (base:Nat) (e:TypeId) (i:TypeInfo) (z:Value) (size bytes:Nat) (h1:P.underlying t=some (.slice e)) (h2:P.info? e=some i) (h3:i.zero=some z) (h4:i.size=size) (h5:i.bytes=bytes) (h6:z.cells.size=size) (h7:0<size)
  (v:Value) (n:Nat) (xs:List Value) (hs:a.eval s=v) (hown:w.ownsRow base e size v n xs) (ad:Addr) (m c:Nat) (news:List Value) (hx:a.eval x=.slice (some ad) m c) (hn:news.length=m*size) (hc:∀ j u,news[j]? = some u->w.cell? (ad.add j)=some u) (h1c:∀ u∈news,u.oneCell'=true)
  (b1:n+m<=maxLen) (b2:(n+m)*bytes<=140737488355328) (hb:base<=w.heap.size)
  (hK:∀ v' w',w'.ownsRow base e size v' (n+m) (xs++news)->w.grownBy w' v.ownBlock->(v'.ownBlock=v.ownBlock\/v'.ownBlock=some w.heap.size)->K (a.put o.dst v') w'):Oper.wp P o a w K Q:=by
 obtain ⟨v',w',hrun,r1,r2,_,r3⟩:=run_append_own_at (P:=P) w base t o.type e i z size bytes h1 h2 h3 h4 h5 h6 h7 v n xs hown ad m c news hn hc h1c b1 b2 hb
 unfold Oper.wp
 simp [execOp,hop,resolve,invoke,builtin,hs,hx,hrun,Result.andThen]
 exact hK v' w' r1 r2 r3
structure EvOff (g:Nat) (c:EvC):Prop where
 so:∀ a,c.so=some a->a.block≠g
 ao:∀ a,c.ao=some a->a.block≠g
theorem EvIn.only {g:Nat} {w w':World} {c:EvC} {e:Pe} (h:EvIn w c e) (ho:EvOff g c) (hb:Only g w w'):EvIn w' c e:=by
 obtain ⟨sb,s1,s2,s3⟩:=h.so
 have hsb:sb≠g:=ho.so _ s1
 refine { h with so:=⟨sb,s1,Nat.lt_of_lt_of_le s2 hb.size,fun j b hj=>?_⟩,atoms:=fun hne=>?_ }
 ·rw [World.cell?_of_block (hb.block sb s2 hsb)];exact s3 j b hj
 ·obtain ⟨b,off,h1,h2,h3⟩:=h.atoms hne
  exact ⟨b,off,h1,Nat.lt_of_lt_of_le h2 hb.size,fun j hj=>by rw [World.cell?_of_block (hb.block b h2 (ho.ao _ h1))];exact h3 j hj⟩
def NodesIn (w:World) (no:Option Addr) (K:List Key):Prop:=K≠[]->∃ nb,no=some ⟨nb,0,none⟩/\nb<w.heap.size/\∀ (i:Nat) (k:Key),K[i]? = some k->w.cell? ⟨nb,i*6,none⟩=some (.int .i32 k.op)/\w.cell? ⟨nb,i*6+1,none⟩=some (.string k.name)/\w.cell? ⟨nb,i*6+2,none⟩=some (.int .i64 k.lo)/\w.cell? ⟨nb,i*6+3,none⟩=some (.int .i64 k.hi)/\w.cell? ⟨nb,i*6+4,none⟩=some (.int .i64 k.l)/\w.cell? ⟨nb,i*6+5,none⟩=some (.int .i64 k.r)
theorem infoBool:(Tryz.prog.info? 4).map (fun i=>(i.zero,i.size,i.bytes))=some (some (.bool false),1,1):=by kernel_rfl
def bitsV (L:List Bool):List Value:=L.map Value.bool
structure EvPre (w:World) (c:EvC) (e:Pe):Prop where
 number:c.number=e.number
 time:c.time=e.time
 low : -1000000000000<=e.time/\e.time<=1000000000000
 al:c.al=e.atoms.length
 alen:e.atoms.length<=1000000
 atoms:StrsIn w c.ao e.atoms
theorem EvPre.only {g:Nat} {w w':World} {c:EvC} {e:Pe} (h:EvPre w c e) (ho:∀ a,c.ao=some a->a.block≠g) (hb:Only g w w'):EvPre w' c e :=
 ⟨h.number,h.time,h.low,h.al,h.alen,fun hne=>by
  obtain ⟨b,off,h1,h2,h3⟩:=h.atoms hne
  exact ⟨b,off,h1,Nat.lt_of_lt_of_le h2 hb.size,fun j hj=>by rw [World.cell?_of_block (hb.block b h2 (ho _ h1))];exact h3 j hj⟩⟩
def EvC.withSo (c:EvC) (sb sl sc:Nat):EvC:={ c with so:=some ⟨sb,0,none⟩,sl:=sl,sc:=sc }
theorem bits_cell {w:World} {B sb sc:Nat} {L:List Bool} (h:w.ownsRow B 4 1 (.slice (some ⟨sb,0,none⟩) L.length sc) L.length (bitsV L)):∀ j b,L[j]? = some b->w.cell? ⟨sb,j,none⟩=some (.bool b):=fun j b hj =>
 row_cell h rfl (by simp [bitsV,hj])
theorem EvPre.with {w:World} {c:EvC} {e:Pe} {B sb sc:Nat} (h:EvPre w c e) {L:List Bool} (hL:L.length<=1000000) (ho:w.ownsRow B 4 1 (.slice (some ⟨sb,0,none⟩) L.length sc) L.length (bitsV L)):EvIn w (c.withSo sb L.length sc) { e with so:=L } :=
 { number:=h.number,time:=h.time,low:=h.low,sl:=rfl,slen:=hL,so:=⟨sb,rfl,(ho.lt sb rfl).2,bits_cell ho⟩,al:=h.al,alen:=h.alen,atoms:=h.atoms }
theorem set_heap {w:World} {k i:Nat} {v:Value} {cs:Array Value} {t:TypeId} {m:Nat×Nat} (h:w.heap[k]? = some (.cells cs t m)):(w.setCell ⟨k,i,none⟩ v).heap[k]? = some (.cells (cs.setIfInBounds i v) t m):=by
 simp [World.setCell,Array.getElem?_modify,h,Array.setIfInBounds_def]
theorem backL_congr {E F:Nat->Pe} {m:Nat} (h:∀ i,i<m->E i=F i):backL E m=backL F m:=by
 unfold backL
 exact List.map_congr_left fun x _=>h x.1 x.2
structure WorkAt (g m:Nat) (cg:Array Value) (w wr:World) (e:Pe) (sb sc:Nat):Prop where
 row:wr.heap[g]? = some (.cells (cg.setIfInBounds (m*4+3) (.slice (some ⟨sb,0,none⟩) e.so.length sc)) 159 (0,0))
 own:wr.ownsRow (w.heap.size+1) 4 1 (.slice (some ⟨sb,0,none⟩) e.so.length sc) e.so.length (bitsV e.so)
 only:Only g w wr
 res:wr.heap[w.heap.size]? = some (.cells #[.int .i64 0,.int .i64 0,.slice none 0 0,.slice none 0 0] 159 (0,0))
theorem WorkAt.ne {g m:Nat} {cg:Array Value} {w wr:World} {e:Pe} {sb sc:Nat} (h:WorkAt g m cg w wr e sb sc):sb≠g:=by
 rintro rfl
 obtain ⟨h1,⟨h2,_⟩ | ⟨g',cap,cur,e1,_,e2,_⟩⟩:=h.own
 ·cases h2
 ·cases e1;have:=h.row;rw [e2] at this;cases this
set_option maxRecDepth 100000 in
set_option maxHeartbeats 8000000 in
theorem workOut_any (no:Option Addr) (ncap:Nat) (K:List Key) (g cap m:Nat) (cg:Array Value) (C:Nat->EvC) (E:Nat->Pe) (w:World) (hm:m+1<=1000000) (hcap:m+1<=cap) (hK:K.length<=1000) (hnc:K.length<=ncap)
  (hg:w.heap[g]? = some (.cells cg 159 (0,0))) (hc:∀ i k v,i<m+1->(evCells (C i))[k]? = some v->cg[i*4+k]? = some v) (hN:NodesIn w no K) (hng:∀ a,no=some a->a.block≠g) (hop:∀ k∈K,CoreOp k.op) (hA:Ahead K)
  (hE:∀ i,i<m->EvIn w (C i) (E i)) (hrow:∀ i,i<m->(E i).so.length=K.length+1) (hoff:∀ i,i<m->EvOff g (C i)) (hM:EvPre w (C m) (E m)) (hMo:∀ a,(C m).ao=some a->a.block≠g) :
  Calls Tryz.prog 132 #[.slice no K.length ncap,.slice (some ⟨g,0,none⟩) (m+1) cap] w fun e W'=>∃ sb sc cur,e=.returned (evVal ((C m).withSo sb (K.length+1) sc))/\w.heap.size<=sb/\Only g w W'/\
   W'.heap[g]? = some (.cells (cg.setIfInBounds (m*4+3) (.slice (some ⟨sb,0,none⟩) (K.length+1) sc)) 159 (0,0))/\W'.heap[sb]? = some (.cells cur 4 (0,0))/\EvIn W' ((C m).withSo sb (K.length+1) sc) (workF (backL E m) K (E m).bare):=by
 have p3:w.cell? ⟨g,m*4+3,none⟩=some (.slice (C m).so (C m).sl (C m).sc):=cell_at hg (hc m 3 _ (by omega) rfl)
 have f3:w.frozen? ⟨g,m*4+3,none⟩=false:=Lib.frozen_of_heap hg _
 have hgl:=heap_lt hg
 obtain ⟨i0,hi,hz0,hz1,hz2⟩:=info_parts infoBool
 have hmk:∀ w:World,(Instr.makeSlice 157 (.int .i64 1) (.int .i64 (1+(K.length:Int)))).run Tryz.prog w=.ok (.slice (some ⟨w.heap.size,0,none⟩) 1 (K.length+1)) (w.alloc (.cells (madeCells (Value.bool false).cells (K.length+1)) 4)):=fun w=>by
  have:=run_makeSlice (P:=Tryz.prog) w 157 4 i0 _ Tryz.underlying157 hi hz0 .i64 .i64 1 (1+(K.length:Int)) (by omega) (by omega) (by rw [hz1];omega) (by rw [hz2];omega) (by omega)
  rw [this,hz1]
  have e1:(1+(K.length:Int)).toNat=K.length+1:=by omega
  rw [e1]
  simp
 have hbare:(E m).bare.so.length=1:=rfl
 generalize hn:K.length=n at *
 have hWst:WorkAt g m cg w (((w.setCell ⟨g,m*4+3,none⟩ (.slice (some ⟨w.heap.size+1,0,none⟩) 1 (n+1))).alloc (.cells #[.int .i64 0,.int .i64 0,.slice none 0 0,.slice none 0 0] 159)).alloc (.cells (madeCells #[.bool false] (n+1)) 4)) (workF (backL E m) (K.take 0) (E m).bare) (w.heap.size+1) (n+1):=by
  have hss:(w.setCell ⟨g,m*4+3,none⟩ (.slice (some ⟨w.heap.size+1,0,none⟩) 1 (n+1))).heap.size=w.heap.size:=by simp [World.setCell]
  have e0:(workF (backL E m) (K.take 0) (E m).bare)=(E m).bare:=rfl
  rw [e0]
  refine ⟨?_,⟨rfl,.inr ⟨w.heap.size+1,n+1,_,rfl,Nat.le_refl _,heap_new _ _ _ (by simp [World.setCell]),by simp [Pe.bare],by unfold maxLen;omega,by simp [size_madeCells],?_⟩⟩,(((Only.refl g w).setCell (p:=⟨g,m*4+3,none⟩) (.inl rfl) _).alloc _).alloc _,?_⟩
  ·rw [Below.heap_alloc _ _ _ (by simp [World.setCell];omega),Below.heap_alloc _ _ _ (by simp [World.setCell];omega)];exact set_heap hg
  ·rw [toList_madeCells_one];rfl
  ·rw [Below.heap_alloc _ _ _ (by simp [World.setCell])];exact heap_new _ _ _ (by simp [World.setCell])
 go_enter Tryz.func132,Tryz.ntmps132
 go_wp2_with fail
 generalize (((w.setCell ⟨g,m*4+3,none⟩ (.slice (some ⟨w.heap.size+1,0,none⟩) 1 (n+1))).alloc (.cells #[.int .i64 0,.int .i64 0,.slice none 0 0,.slice none 0 0] 159)).alloc (.cells (madeCells #[.bool false] (n+1)) 4))=Wst at hWst ⊢
 clear hmk p3 f3
 go_loopw [22] (fun iv wr=>∃ (j:Nat) (sb sc:Nat),iv=.int .i64 j/\j<=n/\WorkAt g m cg w wr (workF (backL E m) (K.take j) (E m).bare) sb sc) (fun iv _=>n-(intOf iv).toNat)
 case atStart=>exact ⟨0,_,_,rfl,Nat.zero_le _,hWst⟩
 case round =>
  clear hWst
  obtain ⟨j,sb,sc,rfl,hjn,hW⟩:=hrel
  obtain ⟨w1,w2,w3,w4,_⟩:=workF_same (backL E m) (K.take j) (E m).bare
  have hlen:(workF (backL E m) (K.take j) (E m).bare).so.length=j+1:=by rw [w4,List.length_take,hbare];omega
  have hEj:(workF (backL E m) (K.take j) (E m).bare)={ E m with so:=(workF (backL E m) (K.take j) (E m).bare).so }:=by
   have:∀ a b:Pe,a.number=b.number->a.time=b.time->a.atoms=b.atoms->a={ b with so:=a.so }:=fun a b h1 h2 h3=>by cases a;cases b;simp at h1 h2 h3;simp [h1,h2,h3]
   exact this _ _ w1 w2 w3
  by_cases hj:j<n
  ·have hjl:j<K.length:=by omega
   have hkget:K[j]? = some K[j]:=List.getElem?_eq_getElem hjl
   obtain ⟨nb,rfl,hnb,hnk⟩:=hN (by intro h;rw [h] at hjl;simp at hjl)
   have hnbg:nb≠g:=hng _ rfl
   have hkop:=hop _ (List.mem_of_getElem? hkget)
   obtain ⟨a1,a2,a3,a4⟩:=hA j _ hkget
   obtain ⟨c0,c1,c2,c3,c4,c5⟩:=hnk j _ hkget
   have hsnoc:workF (backL E m) (K.take (j+1)) (E m).bare=(workF (backL E m) (K.take j) (E m).bare).add (saysF K[j] (workF (backL E m) (K.take j) (E m).bare) (backL E m)):=by
    rw [<- List.take_append_getElem hjl,workF_snoc]
   generalize K[j]=k at *
   obtain ⟨ln,hln⟩:∃ ln:Nat,k.l=(ln:Int):=⟨k.l.toNat,by omega⟩
   obtain ⟨rn,hrn⟩:∃ rn:Nat,k.r=(rn:Int):=⟨k.r.toNat,by omega⟩
   rw [hln] at c4 a2
   rw [hrn] at c5 a4
   have hkey:k=⟨k.op,k.name,k.lo,k.hi,(ln:Int),(rn:Int)⟩:=by rw [<- hln,<- hrn]
   generalize hej:workF (backL E m) (K.take j) (E m).bare=ej at *
   have hO:∀ b,b<w.heap.size->b≠g->wr.heap[b]? = w.heap[b]?:=hW.only.block
   have d0:wr.cell? ⟨nb,j*6,none⟩=some (.int .i32 k.op):=(World.cell?_of_block (hO nb hnb hnbg)).trans c0
   have d1:wr.cell? ⟨nb,j*6+1,none⟩=some (.string k.name):=(World.cell?_of_block (hO nb hnb hnbg)).trans c1
   have d2:wr.cell? ⟨nb,j*6+2,none⟩=some (.int .i64 k.lo):=(World.cell?_of_block (hO nb hnb hnbg)).trans c2
   have d3:wr.cell? ⟨nb,j*6+3,none⟩=some (.int .i64 k.hi):=(World.cell?_of_block (hO nb hnb hnbg)).trans c3
   have d4:wr.cell? ⟨nb,j*6+4,none⟩=some (.int .i64 (ln:Int)):=(World.cell?_of_block (hO nb hnb hnbg)).trans c4
   have d5:wr.cell? ⟨nb,j*6+5,none⟩=some (.int .i64 (rn:Int)):=(World.cell?_of_block (hO nb hnb hnbg)).trans c5
   have HS:Hid (∀ w',Below wr.heap.size wr w'->Calls Tryz.prog 169 #[.agg #[.int .i32 k.op,.string k.name,.int .i64 k.lo,.int .i64 k.hi,.int .i64 (ln:Int),.int .i64 (rn:Int)],.slice (some ⟨g,0,none⟩) (m+1) cap] w' fun e W'=>e=.returned (.bool (saysF k ej (backL E m)))/\Below w'.heap.size w' W'):=fun w' hb=>by
    have hrow':=hb.heapOf hW.row
    have hcw:∀ i q v,i<m+1->(evCells (if i=m then (C m).withSo sb (j+1) sc else C i))[q]? = some v->w'.cell? ⟨g,i*4+q,none⟩=some v:=fun i q v hi hv=>by
     refine cell_at hrow' ?_
     rw [hlen]
     by_cases him:i=m
     ·subst him
      rw [if_pos rfl] at hv
      have h3:=hc i 3 _ hi (show (evCells (C i))[3]? = some _ from rfl)
      have h3l:i*4+3<cg.size:=(Array.getElem?_eq_some_iff.1 h3).1
      rcases q with _ | _ | _ | _ | q
      ·rw [Array.getElem?_setIfInBounds_ne (by omega)];exact hc i 0 v hi hv
      ·rw [Array.getElem?_setIfInBounds_ne (by omega)];exact hc i 1 v hi hv
      ·rw [Array.getElem?_setIfInBounds_ne (by omega)];exact hc i 2 v hi hv
      ·have hv':some (.slice (some ⟨sb,0,none⟩) (j+1) sc)=some v:=hv
       rw [Array.getElem?_setIfInBounds_self_of_lt h3l];exact hv'
      ·simp [evCells] at hv
     ·rw [if_neg him] at hv
      have hq:q<4:=by have:=(List.getElem?_eq_some_iff.1 hv).1;simpa [evCells] using this
      rw [Array.getElem?_setIfInBounds_ne (by omega)];exact hc i q v hi hv
    have hEw:∀ i,i<m+1->EvIn w' (if i=m then (C m).withSo sb (j+1) sc else C i) (if i=m then ej else E i):=fun i hi=>by
     by_cases him:i=m
     ·rw [if_pos him,if_pos him]
      have h1:=(hM.only (g:=g) hMo (hW.only.trans (Only.of_below hb))).with (L:=ej.so) (by rw [hlen];omega) (own_heap hW.own fun b hbb=>hb.block b (hW.own.lt b hbb).2)
      rw [hlen,<- hEj] at h1
      exact h1
     ·rw [if_neg him,if_neg him]
      exact (hE i (by omega)).only (hoff i (by omega)) (hW.only.trans (Only.of_below hb))
    have hlr:∀ (x:Nat),x<=j->∀ i,i<m+1->x<(if i=m then ej else E i).so.length:=fun x hx i hi=>by
     by_cases him:i=m
     ·rw [if_pos him,hlen];omega
     ·rw [if_neg him,hrow i (by omega)];omega
    have:=says_any k.op k.name k.lo k.hi ln rn g cap m (fun i=>if i=m then (C m).withSo sb (j+1) sc else C i) (fun i=>if i=m then ej else E i) w' hkop hm (Nat.lt_of_lt_of_le (heap_lt hW.row) hb.size) hcap hcw hEw (hlr ln (by omega)) (hlr rn (by omega))
    rw [if_pos rfl,<- hkey,backL_congr (F:=E) (fun i hi=>by rw [if_neg (by omega)])] at this
    exact this
   have hsb:=hW.ne
   have hrow1:=hW.row
   have hown1:=hW.own
   have hon1:=hW.only
   have hres1:=hW.res
   rw [hlen] at hrow1 hown1
   have hgl1:=heap_lt hrow1
   have h3l:m*4+3<cg.size:=(Array.getElem?_eq_some_iff.1 (hc m 3 _ (by omega) rfl)).1
   generalize hbit:saysF k ej (backL E m)=bit at *
   have Hsnoc:Hid _:=hsnoc
   clear hE hrow hoff hM hMo hN hng hop hA hc hW hnk c0 c1 c2 c3 c4 c5 hO hEj hkey hsnoc
   go_wp2_with fail
   have hX:(wr.alloc (.cells #[.int .i32 k.op,.string k.name,.int .i64 k.lo,.int .i64 k.hi,.int .i64 (ln:Int),.int .i64 (rn:Int)] 226)).heap[wr.heap.size]? = some (.cells #[.int .i32 k.op,.string k.name,.int .i64 k.lo,.int .i64 k.hi,.int .i64 (ln:Int),.int .i64 (rn:Int)] 226 (0,0)):=heap_new _ _ _ rfl
   have hb1:Below wr.heap.size wr (wr.alloc (.cells #[.int .i32 k.op,.string k.name,.int .i64 k.lo,.int .i64 k.hi,.int .i64 (ln:Int),.int .i64 (rn:Int)] 226)):=(Below.refl _ _).al _
   have hsz1:(wr.alloc (.cells #[.int .i32 k.op,.string k.name,.int .i64 k.lo,.int .i64 k.hi,.int .i64 (ln:Int),.int .i64 (rn:Int)] 226)).heap.size=wr.heap.size+1:=by simp
   generalize (wr.alloc (.cells #[.int .i32 k.op,.string k.name,.int .i64 k.lo,.int .i64 k.hi,.int .i64 (ln:Int),.int .i64 (rn:Int)] 226))=W1 at hX hb1 hsz1 ⊢
   generalize hXe:wr.heap.size=X at *
   have Hst:Hid (∀ w',Below W1.heap.size W1 w'->(fun w'=>w'.cell? ⟨g,m*4+3,none⟩=some (.slice (some ⟨sb,0,none⟩) (j+1) sc)/\w'.cell? ⟨X,0,none⟩=some (.int .i32 k.op)/\w'.cell? ⟨X,1,none⟩=some (.string k.name)/\w'.cell? ⟨X,2,none⟩=some (.int .i64 k.lo)/\w'.cell? ⟨X,3,none⟩=some (.int .i64 k.hi)/\w'.cell? ⟨X,4,none⟩=some (.int .i64 (ln:Int))/\w'.cell? ⟨X,5,none⟩=some (.int .i64 (rn:Int))) w'):=fun w' hb=>by
    have hx:=hb.heapOf hX
    have hr:=hb.heapOf ((hb1.block g hgl1).trans hrow1)
    exact ⟨cell_at hr (by rw [Array.getElem?_setIfInBounds_self_of_lt h3l]),cell_at hx rfl,cell_at hx rfl,cell_at hx rfl,cell_at hx rfl,cell_at hx rfl,cell_at hx rfl⟩
   have hS0:=Hst.out _ (Below.refl _ W1).drew
   refine AnyF.begin (S:=(fun w'=>w'.cell? ⟨g,m*4+3,none⟩=some (.slice (some ⟨sb,0,none⟩) (j+1) sc)/\w'.cell? ⟨X,0,none⟩=some (.int .i32 k.op)/\w'.cell? ⟨X,1,none⟩=some (.string k.name)/\w'.cell? ⟨X,2,none⟩=some (.int .i64 k.lo)/\w'.cell? ⟨X,3,none⟩=some (.int .i64 k.hi)/\w'.cell? ⟨X,4,none⟩=some (.int .i64 (ln:Int))/\w'.cell? ⟨X,5,none⟩=some (.int .i64 (rn:Int)))) (fin:=12) (by kernel_rfl) ?_
   simp only [List.size_toArray,List.length_cons,List.length_nil,Nat.reduceAdd,Nat.zero_add]
   refine AnyF.take 0 (v:=?v0) rfl (by decide +kernel) (by decide +kernel) (by decide +kernel) (by decide +kernel) (fun _ _ _ h=>h) (by rfl) (fun w' hS=>Go.Conc.run_eq_of ?r0) hS0 ?_
   case r0 =>
    intro K' hK'
    obtain ⟨y0,y1,y2,y3,y4,y5,y6⟩:=hS
    go_simp
    exact hK'
   try walk_nrm
   refine AnyF.take 1 (v:=?v1) rfl (by decide +kernel) (by decide +kernel) (by decide +kernel) (by decide +kernel) (fun _ _ _ h=>h) (by rfl) (fun w' hS=>Go.Conc.run_eq_of ?r1) hS0 ?_
   case r1 =>
    intro K' hK'
    obtain ⟨y0,y1,y2,y3,y4,y5,y6⟩:=hS
    go_simp
    exact hK'
   try walk_nrm
   refine AnyF.take 2 (v:=?v2) rfl (by decide +kernel) (by decide +kernel) (by decide +kernel) (by decide +kernel) (fun _ _ _ h=>h) (by rfl) (fun w' hS=>Go.Conc.run_eq_of ?r2) hS0 ?_
   case r2 =>
    intro K' hK'
    obtain ⟨y0,y1,y2,y3,y4,y5,y6⟩:=hS
    go_simp
    exact hK'
   try walk_nrm
   refine AnyF.take 3 (v:=?v3) rfl (by decide +kernel) (by decide +kernel) (by decide +kernel) (by decide +kernel) (fun _ _ _ h=>h) (by rfl) (fun w' hS=>Go.Conc.run_eq_of ?r3) hS0 ?_
   case r3 =>
    intro K' hK'
    obtain ⟨y0,y1,y2,y3,y4,y5,y6⟩:=hS
    go_simp
    exact hK'
   try walk_nrm
   refine AnyF.take 4 (v:=?v4) rfl (by decide +kernel) (by decide +kernel) (by decide +kernel) (by decide +kernel) (fun _ _ _ h=>h) (by rfl) (fun w' hS=>Go.Conc.run_eq_of ?r4) hS0 ?_
   case r4 =>
    intro K' hK'
    obtain ⟨y0,y1,y2,y3,y4,y5,y6⟩:=hS
    go_simp
    exact hK'
   try walk_nrm
   refine AnyF.take 5 (v:=?v5) rfl (by decide +kernel) (by decide +kernel) (by decide +kernel) (by decide +kernel) (fun _ _ _ h=>h) (by rfl) (fun w' hS=>Go.Conc.run_eq_of ?r5) hS0 ?_
   case r5 =>
    intro K' hK'
    obtain ⟨y0,y1,y2,y3,y4,y5,y6⟩:=hS
    go_simp
    exact hK'
   try walk_nrm
   refine AnyF.take 6 (v:=?v6) rfl (by decide +kernel) (by decide +kernel) (by decide +kernel) (by decide +kernel) (fun _ _ _ h=>h) (by rfl) (fun w' hS=>Go.Conc.run_eq_of ?r6) hS0 ?_
   case r6 =>
    intro K' hK'
    obtain ⟨y0,y1,y2,y3,y4,y5,y6⟩:=hS
    go_simp
    exact hK'
   try walk_nrm
   refine AnyF.one (i:=7) (by decide +kernel) rfl (by rfl) ?_
   unfold Oper.wp
   rw [Go.Conc.run_call_body (f:=169) (args:=#[.tmp 31,.tmp 32]) (ats:=#[226,146]) rfl Tryz.func169 (by decide) rfl]
   simp only [Oper.upon,List.map_toArray,List.map_cons,List.map_nil]
   change Calls Tryz.prog 169 #[.agg #[.int .i32 k.op,.string k.name,.int .i64 k.lo,.int .i64 k.hi,.int .i64 (ln:Int),.int .i64 (rn:Int)],.slice (some ⟨g,0,none⟩) (m+1) cap] W1.drew _
   refine (HS.out W1.drew hb1.drew).mono ?_
   rintro e w1 ⟨rfl,hb2⟩
   replace hb2:Below W1.heap.size W1 w1:=(Below.refl _ W1).drew.trans hb2
   refine ⟨fun _=>Hst.out _ hb2,?_⟩
   try walk_nrm
   refine AnyF.op (i:=8) (by decide +kernel) rfl (by rfl) (fun K' hK'=>?_)
   unfold Oper.wp
   go_simp
   refine hK' _ _ ⟨fun _=>Hst.out _ (hb2.al _),?_⟩
   clear hK' K'
   try walk_nrm
   have hown2:(w1.alloc (.cells #[.bool bit] 4)).ownsRow (w.heap.size+1) 4 1 (.slice (some ⟨sb,0,none⟩) (j+1) sc) (j+1) (bitsV ej.so):=by
    have o1:=own_heap hown1 (w':=W1) fun b hbb=>hb1.block b (by have:=(hown1.lt b hbb).2;omega)
    have o2:=own_heap o1 (w':=w1) fun b hbb=>hb2.block b (o1.lt b hbb).2
    exact o2.alloc _
   have hww:w.heap.size+1<=w1.heap.size:=by have:=(hown1.lt sb rfl);have:=hb2.size;omega
   refine AnyF.one (i:=9) (by decide +kernel) rfl (by rfl) (wp_append_own (.tmp 30) (.tmp 34) 157 rfl (w.heap.size+1) 4 i0 _ 1 1 Tryz.underlying157 hi hz0 hz1 hz2 rfl (by decide) (.slice (some ⟨sb,0,none⟩) (j+1) sc) (j+1) (bitsV ej.so) rfl hown2 ⟨w1.heap.size,0,none⟩ 1 1 [.bool bit] rfl rfl (cell_one_new w1 _ 4) (by simp [Value.oneCell']) (by unfold maxLen;omega) (by omega) (by simp;omega) ?_)
   intro v' w2 hown' hgrow hor
   obtain ⟨sb2,sc2,rfl⟩:=ownsRow_succ hown'
   have hXsb:X≠sb:=by have:=(hown1.lt sb rfl).2;omega
   have hgg:w2.heap[g]? = some (.cells (cg.setIfInBounds (m*4+3) (.slice (some ⟨sb,0,none⟩) (j+1) sc)) 159 (0,0)):=by
    have h1:=(hb2.al (.cells #[.bool bit] 4)).heapOf ((hb1.block g hgl1).trans hrow1)
    rw [hgrow.block g (heap_lt h1) (fun e=>hsb (by cases e;rfl))];exact h1
   have hxx:w2.heap[X]? = some (.cells #[.int .i32 k.op,.string k.name,.int .i64 k.lo,.int .i64 k.hi,.int .i64 (ln:Int),.int .i64 (rn:Int)] 226 (0,0)):=by
    have h1:=(hb2.al (.cells #[.bool bit] 4)).heapOf hX
    rw [hgrow.block X (heap_lt h1) (fun e=>hXsb (by cases e;rfl))];exact h1
   have hS2:(fun w'=>w'.cell? ⟨g,m*4+3,none⟩=some (.slice (some ⟨sb,0,none⟩) (j+1) sc)/\w'.cell? ⟨X,0,none⟩=some (.int .i32 k.op)/\w'.cell? ⟨X,1,none⟩=some (.string k.name)/\w'.cell? ⟨X,2,none⟩=some (.int .i64 k.lo)/\w'.cell? ⟨X,3,none⟩=some (.int .i64 k.hi)/\w'.cell? ⟨X,4,none⟩=some (.int .i64 (ln:Int))/\w'.cell? ⟨X,5,none⟩=some (.int .i64 (rn:Int))) w2:=⟨cell_at hgg (by rw [Array.getElem?_setIfInBounds_self_of_lt h3l]),cell_at hxx rfl,cell_at hxx rfl,cell_at hxx rfl,cell_at hxx rfl,cell_at hxx rfl,cell_at hxx rfl⟩
   have hsbl:=(hown1.lt sb rfl).1
   have hon2:Only g w w2:=by
    have o1:Only g w (w1.alloc (.cells #[.bool bit] 4)):=((hon1.trans (Only.of_below (hXe▸hb1))).trans (Only.of_below hb2)).alloc _
    exact ⟨hgrow.os.trans o1.os,hgrow.tape.trans o1.tape,hgrow.output.trans o1.output,Nat.le_trans o1.size hgrow.size,fun b hb hbg=>(hgrow.block b (Nat.lt_of_lt_of_le hb o1.size) (fun e=>absurd (show b=sb by simpa [Value.ownBlock] using e) (by omega))).trans (o1.block b hb hbg)⟩
   have hres2:w2.heap[w.heap.size]? = some (.cells #[.int .i64 0,.int .i64 0,.slice none 0 0,.slice none 0 0] 159 (0,0)):=by
    have h1:=(hb2.al (.cells #[.bool bit] 4)).heapOf ((hb1.block _ (by have:=heap_lt hres1;omega)).trans hres1)
    rw [hgrow.block _ (heap_lt h1) (fun e=>absurd (show w.heap.size=sb by simpa [Value.ownBlock] using e) (by omega))];exact h1
   have hsb2:sb2≠g:=by
    rintro rfl
    obtain ⟨_,⟨h2,_⟩ | ⟨g',cap',cur,e1,_,e2,_⟩⟩:=hown'
    ·cases h2
    ·cases e1;rw [hgg] at e2;cases e2
   refine ⟨fun _=>hS2,?_⟩
   try walk_nrm
   refine AnyF.op (i:=10) (by decide +kernel) rfl (by rfl) (fun K' hK'=>?_)
   unfold Oper.wp
   go_simp
   refine hK' _ _ ⟨fun _=>hS2,?_⟩
   clear hK' K'
   try walk_nrm
   refine AnyF.op (i:=11) (by decide +kernel) rfl (by rfl) (fun K' hK'=>?_)
   unfold Oper.wp
   go_simp
   refine hK' _ _ ⟨fun _=>hS2,?_⟩
   clear hK' K'
   try walk_nrm
   refine AnyF.op (i:=12) (by decide +kernel) rfl (by rfl) (fun K' hK'=>?_)
   unfold Oper.wp
   have hc3:=hS2.1
   have hf3:w2.frozen? ⟨g,m*4+3,none⟩=false:=Lib.frozen_of_heap hgg _
   go_simp
   refine hK' _ _ ⟨fun x=>absurd rfl x,?_⟩
   clear hK' K'
   refine AnyF.done (by decide +kernel) ?_ _
   try walk_nrm
   have hfin:WorkAt g m cg w (w2.setCell ⟨g,m*4+3,none⟩ (.slice (some ⟨sb2,0,none⟩) (j+1+1) sc2)) (workF (backL E m) (K.take (j+1)) (E m).bare) sb2 sc2:=by
    rw [Hsnoc.out]
    have hl2:(ej.add bit).so.length=j+1+1:=by simp [Pe.add,hlen]
    refine ⟨?_,?_,hon2.setCell (p:=⟨g,m*4+3,none⟩) (.inl rfl) _,?_⟩
    ·rw [hl2]
     have:=set_heap (i:=m*4+3) (v:=.slice (some ⟨sb2,0,none⟩) (j+1+1) sc2) hgg
     rwa [Array.setIfInBounds_setIfInBounds] at this
    ·rw [hl2]
     have e1:bitsV (ej.add bit).so=bitsV ej.so++[.bool bit]:=by simp [bitsV,Pe.add]
     rw [e1]
     exact own_heap hown' fun b hbb=>Below.heap_setCell _ _ _ _ (by cases hbb;exact fun e=>hsb2 e)
    ·rw [Below.heap_setCell _ _ _ _ (by show w.heap.size≠g;omega)];exact hres2
   go_wp2_with fail
   go_roundw
   case rel=>exact ⟨j+1,sb2,sc2,by go_num,by omega,hfin⟩
   case measure=>simp only [intOf];omega
  ·obtain rfl:j=n:=by omega
   have hMw:=(hM.only (g:=g) hMo hW.only).with (L:=(workF (backL E m) (K.take j) (E m).bare).so) (by rw [hlen];omega) hW.own
   rw [hlen,<- hEj,List.take_of_length_le (by omega)] at hMw
   have hrow1:=hW.row
   have hown1:=hW.own
   have hon1:=hW.only
   have hres1:=hW.res
   have hsb:=hW.ne
   have hsbl:=(hown1.lt sb rfl).1
   rw [hlen] at hrow1 hown1
   have h3:=hc m 3 _ (by omega) (show (evCells (C m))[3]? = some _ from rfl)
   have h3l:m*4+3<cg.size:=(Array.getElem?_eq_some_iff.1 h3).1
   have p0:wr.cell? ⟨g,m*4,none⟩=some (.int .i64 (C m).number):=cell_at hrow1 (by rw [Array.getElem?_setIfInBounds_ne (by omega)];exact hc m 0 _ (by omega) rfl)
   have p1:wr.cell? ⟨g,m*4+1,none⟩=some (.int .i64 (C m).time):=cell_at hrow1 (by rw [Array.getElem?_setIfInBounds_ne (by omega)];exact hc m 1 _ (by omega) rfl)
   have p2:wr.cell? ⟨g,m*4+2,none⟩=some (.slice (C m).ao (C m).al (C m).ac):=cell_at hrow1 (by rw [Array.getElem?_setIfInBounds_ne (by omega)];exact hc m 2 _ (by omega) rfl)
   have p3:wr.cell? ⟨g,m*4+3,none⟩=some (.slice (some ⟨sb,0,none⟩) (j+1) sc):=cell_at hrow1 (by rw [Array.getElem?_setIfInBounds_self_of_lt h3l])
   have r0:=cell_at (i:=0) hres1 rfl
   have r1:=cell_at (i:=1) hres1 rfl
   have r2:=cell_at (i:=2) hres1 rfl
   have r3:=cell_at (i:=3) hres1 rfl
   have fz:∀ q,wr.frozen? ⟨w.heap.size,q,none⟩=false:=fun q=>Lib.frozen_of_heap hres1 q
   have HM:Hid (StrsIn w (C m).ao (E m).atoms):=hM.atoms
   have HMo:Hid (∀ a,(C m).ao=some a->a.block≠g):=hMo
   clear hE hrow hoff hM hMo hN hng hop hA hc hW hEj
   go_wp2_with fail
   have hR:=set_heap (i:=3) (v:=.slice (some ⟨sb,0,none⟩) (j+1) sc) (set_heap (i:=2) (v:=.slice (C m).ao (C m).al (C m).ac) (set_heap (i:=1) (v:=.int .i64 (C m).time) (set_heap (i:=0) (v:=.int .i64 (C m).number) hres1)))
   simp only [List.setIfInBounds_toArray,List.set_cons_zero,List.set_cons_succ] at hR
   have hoth:∀ b,b≠w.heap.size->(((((wr.setCell ⟨w.heap.size,0,none⟩ (.int .i64 (C m).number)).setCell ⟨w.heap.size,1,none⟩ (.int .i64 (C m).time)).setCell ⟨w.heap.size,2,none⟩ (.slice (C m).ao (C m).al (C m).ac)).setCell ⟨w.heap.size,3,none⟩ (.slice (some ⟨sb,0,none⟩) (j+1) sc))).heap[b]? = wr.heap[b]?:=fun b hb=>by
    rw [Below.heap_setCell _ _ _ _ hb,Below.heap_setCell _ _ _ _ hb,Below.heap_setCell _ _ _ _ hb,Below.heap_setCell _ _ _ _ hb]
   have hO4:Only w.heap.size wr (((((wr.setCell ⟨w.heap.size,0,none⟩ (.int .i64 (C m).number)).setCell ⟨w.heap.size,1,none⟩ (.int .i64 (C m).time)).setCell ⟨w.heap.size,2,none⟩ (.slice (C m).ao (C m).al (C m).ac)).setCell ⟨w.heap.size,3,none⟩ (.slice (some ⟨sb,0,none⟩) (j+1) sc))):=((((Only.refl _ wr).setCell (p:=⟨w.heap.size,0,none⟩) (.inl rfl) _).setCell (p:=⟨w.heap.size,1,none⟩) (.inl rfl) _).setCell (p:=⟨w.heap.size,2,none⟩) (.inl rfl) _).setCell (p:=⟨w.heap.size,3,none⟩) (.inl rfl) _
   generalize (((((wr.setCell ⟨w.heap.size,0,none⟩ (.int .i64 (C m).number)).setCell ⟨w.heap.size,1,none⟩ (.int .i64 (C m).time)).setCell ⟨w.heap.size,2,none⟩ (.slice (C m).ao (C m).al (C m).ac)).setCell ⟨w.heap.size,3,none⟩ (.slice (some ⟨sb,0,none⟩) (j+1) sc)))=W4 at hR hoth hO4 ⊢
   obtain ⟨_,⟨h2,_⟩ | ⟨g',cap',cur,e1,_,e2,_⟩⟩:=hown1
   ·cases h2
   cases e1
   have q0:=cell_at (i:=0) hR rfl
   have q1:=cell_at (i:=1) hR rfl
   have q2:=cell_at (i:=2) hR rfl
   have q3:=cell_at (i:=3) hR rfl
   have hgne:g≠w.heap.size:=by omega
   refine ⟨rfl,evVal ((C m).withSo sb (j+1) sc),?_,sb,sc,cur,rfl,by omega,⟨hO4.os.trans hon1.os,hO4.tape.trans hon1.tape,hO4.output.trans hon1.output,Nat.le_trans hon1.size hO4.size,fun b hb hbg=>(hoth b (by omega)).trans (hon1.block b hb hbg)⟩,(hoth g hgne).trans hrow1,(hoth sb (by omega)).trans e2,?_⟩
   ·simp [results,Tryz.f132,go_sem,loadVar,evVal,EvC.withSo,q0,q1,q2,q3]
   ·obtain ⟨sb',s1,s2,s3⟩:=hMw.so
    have hse:sb'=sb:=by have:some (⟨sb,0,none⟩:Addr)=some ⟨sb',0,none⟩:=s1;simp at this;exact this.symm
    subst hse
    have hats:(workF (backL E m) K (E m).bare).atoms=(E m).atoms:=(workF_same (backL E m) K (E m).bare).2.2.1
    refine { hMw with so:=⟨sb',s1,Nat.lt_of_lt_of_le s2 hO4.size,fun q b hq=>?_⟩,atoms:=?_ }
    ·rw [World.cell?_of_block (hoth sb' (by omega))];exact s3 q b hq
    ·rw [hats]
     intro hne
     obtain ⟨b,off,h1,h2,h3⟩:=HM.out hne
     refine ⟨b,off,h1,Nat.lt_of_lt_of_le h2 (Nat.le_trans hon1.size hO4.size),fun q hq=>?_⟩
     rw [World.cell?_of_block (hoth b (by omega)),World.cell?_of_block (hon1.block b h2 (HMo.out _ h1))];exact h3 q hq
end Go.Proofs.YtpbbmagjhkakgaaGreatDoor.Ev
