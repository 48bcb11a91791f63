import Derived.Test.YtpbbmagjhkakgaaGreatDoorTabToExpect
import Derived.Test.YtpbbmagjhkakgaaGreatDoorShelfToPureScan
namespace Go.Proofs.YtpbbmagjhkakgaaGreatDoor
open Go.RowKit
def WindowEnd (rb:Nat) (w:World) (res:Option ((Int×Int)×List Tok)) (e:Ending) (w':World):Prop :=
 Only rb w w'/\((∃ a b r,res=some ((a,b),r)/\e=.returned (.tuple #[.agg #[.int .i64 a,.int .i64 b],.nilIface])/\RdAt 208 rb w' r)
  \/(res=none/\∃ fa,e=.returned (.tuple #[.agg #[.int .i64 0,.int .i64 0],.iface 201 (.pointer (some fa))])))
set_option maxHeartbeats 400000 in
theorem window_none (rb:Nat) (ts:List Tok) (op:Int) (w:World) (h:RdAt 208 rb w ts) (hw:winB op=false) :
  Calls Tryz.prog 186 #[.pointer (some ⟨rb,0,none⟩),.int .i32 op] w (WindowEnd rb w (windowF op ts)):=by
 have hF:windowF op ts=some ((0,0),ts):=by unfold windowF;rw [hw];rfl
 rw [hF]
 clear hF
 go_enter Tryz.func186,Tryz.ntmps186
 go_wp2_with fail
 refine (hasWindow_any op _).mono ?_
 rintro e w1 ⟨rfl,rfl⟩
 go_wp2_with fail
 refine bodyPost_ret (v:=.tuple #[.agg #[.int .i64 0,.int .i64 0],.nilIface]) (by simp [results,Tryz.results186,go_sem]) rfl ⟨?_,.inl ⟨0,0,ts,rfl,rfl,?_⟩⟩
 ·exact (Only.refl _ _).alloc _
 ·exact h.alloc _
set_option maxHeartbeats 2000000 in
theorem window_some (rb:Nat) (ts:List Tok) (op:Int) (w:World) (h:RdAt 208 rb w ts) (he:Ends ts) (hw:winB op=true) (hg:ConvAt w) (hrb:14<=rb) :
  Calls Tryz.prog 186 #[.pointer (some ⟨rb,0,none⟩),.int .i32 op] w (WindowEnd rb w (windowF op ts)):=by
 have hrl:=h.lt
 obtain ⟨t0,r0,hts⟩:=he.cons
 obtain ⟨v,hv,htk⟩:=id h
 rw [hts] at htk
 obtain ⟨tb,off,cap,hvv,htb,hcap,hmax,hx1,hp1,hx2,hx3⟩:=toks_head htk
 clear hx1 hx2 hx3
 subst hvv
 have hc:w.cell? ⟨rb,0,none⟩=some (.slice (some ⟨tb,off,none⟩) (r0.length+1) cap):=cell_at hv rfl
 have htl:tb<w.heap.size:=by omega
 generalize t0.place=pl at hp1
 clear htk hv hts
 have hF:Hid (windowF op ts=match expectF 91 ts with
  | none=>none
  | some t1=>match numF t1 with
   | none=>none
   | some (a,t2)=>match expectF 44 t2 with
    | none=>none
    | some t3=>match numF t3 with
     | none=>none
     | some (b,t4)=>match expectF 93 t4 with
      | none=>none
      | some t5=>if b<a then none else some ((a,b),t5)):=by show _=_;unfold windowF;rw [hw];rfl
 generalize windowF op ts=res at *
 go_enter Tryz.func186,Tryz.ntmps186
 go_wp2_with fail
 refine (hasWindow_any op _).mono ?_
 rintro e w1 ⟨rfl,rfl⟩
 go_wp2_with fail
 have k0:=heap_new w (.cells #[.int .i64 0,.int .i64 0] 140 (0,0)) _ rfl
 have g0:ConvAt (w.alloc (.cells #[.int .i64 0,.int .i64 0] 140)):=hg.below ((Below.refl _ _).al _)
 have o0:Only rb w (w.alloc (.cells #[.int .i64 0,.int .i64 0] 140)):=(Only.refl _ _).alloc _
 clear hc hp1 hcap hmax htb htl hg
 have hr0:=h.alloc (.cells #[.int .i64 0,.int .i64 0] 140)
 have e0:=he
 clear h he
 refine (expect_any rb ts 91 _ _ hr0 e0).mono ?_
 rintro e w1 ⟨ho1,⟨t1,h1,rfl,hr1⟩ | ⟨h1,fa,rfl⟩⟩
 rotate_left
 ·have k1:=ho1.heap k0 (by omega)
  have o1:=o0.trans ho1
  clear ho1
  have c0:=cell_at (i:=0) k1 rfl
  have c1:=cell_at (i:=1) k1 rfl
  have f0:w1.frozen? ⟨w.heap.size,0,none⟩=false:=Lib.frozen_of_heap k1 0
  have f1:w1.frozen? ⟨w.heap.size,1,none⟩=false:=Lib.frozen_of_heap k1 1
  clear k0 k1
  go_wp2_with fail
  refine bodyPost_ret (v:=.tuple #[.agg #[.int .i64 0,.int .i64 0],.iface 201 (.pointer (some fa))]) (by simp [results,Tryz.results186,go_sem,c0,c1]) rfl ⟨?_,.inr ⟨by rw [hF.out];simp only [h1],fa,rfl⟩⟩
  exact (o1.setCell (p:=⟨w.heap.size,0,none⟩) (.inr (Nat.le_refl _)) _).setCell (p:=⟨w.heap.size,1,none⟩) (.inr (Nat.le_refl _)) _
 have k1:=ho1.heap k0 (by omega)
 have o1:=o0.trans ho1
 have g1:=g0.only ho1 hrb
 have e1:=(e0.expect h1).1
 clear k0 o0 g0 hr0 e0 ho1
 go_wp2_with fail
 refine (number_any rb t1 _ hr1 e1 g1 hrb).mono ?_
 rintro e w2 ⟨ho2,⟨a,t2,h2,rfl,hr2⟩ | ⟨h2,fa,rfl⟩⟩
 rotate_left
 ·have k2:=ho2.heap k1 (by omega)
  have o2:=o1.trans ho2
  clear ho2
  have c0:=cell_at (i:=0) k2 rfl
  have c1:=cell_at (i:=1) k2 rfl
  have f0:w2.frozen? ⟨w.heap.size,0,none⟩=false:=Lib.frozen_of_heap k2 0
  have f1:w2.frozen? ⟨w.heap.size,1,none⟩=false:=Lib.frozen_of_heap k2 1
  clear k1 k2
  go_wp2_with fail
  refine bodyPost_ret (v:=.tuple #[.agg #[.int .i64 0,.int .i64 0],.iface 201 (.pointer (some fa))]) (by simp [results,Tryz.results186,go_sem,c0,c1]) rfl ⟨?_,.inr ⟨by rw [hF.out];simp only [h1,h2],fa,rfl⟩⟩
  exact (o2.setCell (p:=⟨w.heap.size,0,none⟩) (.inr (Nat.le_refl _)) _).setCell (p:=⟨w.heap.size,1,none⟩) (.inr (Nat.le_refl _)) _
 have k2:=ho2.heap k1 (by omega)
 have o2:=o1.trans ho2
 have g2:=g1.only ho2 hrb
 have e2:=(e1.num h2).1
 clear k1 o1 g1 hr1 e1 ho2
 go_wp2_with fail
 refine (expect_any rb t2 44 _ _ hr2 e2).mono ?_
 rintro e w3 ⟨ho3,⟨t3,h3,rfl,hr3⟩ | ⟨h3,fa,rfl⟩⟩
 rotate_left
 ·have k3:=ho3.heap k2 (by omega)
  have o3:=o2.trans ho3
  clear ho3
  have c0:=cell_at (i:=0) k3 rfl
  have c1:=cell_at (i:=1) k3 rfl
  have f0:w3.frozen? ⟨w.heap.size,0,none⟩=false:=Lib.frozen_of_heap k3 0
  have f1:w3.frozen? ⟨w.heap.size,1,none⟩=false:=Lib.frozen_of_heap k3 1
  clear k2 k3
  go_wp2_with fail
  refine bodyPost_ret (v:=.tuple #[.agg #[.int .i64 0,.int .i64 0],.iface 201 (.pointer (some fa))]) (by simp [results,Tryz.results186,go_sem,c0,c1]) rfl ⟨?_,.inr ⟨by rw [hF.out];simp only [h1,h2,h3],fa,rfl⟩⟩
  exact (o3.setCell (p:=⟨w.heap.size,0,none⟩) (.inr (Nat.le_refl _)) _).setCell (p:=⟨w.heap.size,1,none⟩) (.inr (Nat.le_refl _)) _
 have k3:=ho3.heap k2 (by omega)
 have o3:=o2.trans ho3
 have g3:=g2.only ho3 hrb
 have e3:=(e2.expect h3).1
 clear k2 o2 g2 hr2 e2 ho3
 go_wp2_with fail
 refine (number_any rb t3 _ hr3 e3 g3 hrb).mono ?_
 rintro e w4 ⟨ho4,⟨b,t4,h4,rfl,hr4⟩ | ⟨h4,fa,rfl⟩⟩
 rotate_left
 ·have k4:=ho4.heap k3 (by omega)
  have o4:=o3.trans ho4
  clear ho4
  have c0:=cell_at (i:=0) k4 rfl
  have c1:=cell_at (i:=1) k4 rfl
  have f0:w4.frozen? ⟨w.heap.size,0,none⟩=false:=Lib.frozen_of_heap k4 0
  have f1:w4.frozen? ⟨w.heap.size,1,none⟩=false:=Lib.frozen_of_heap k4 1
  clear k3 k4
  go_wp2_with fail
  refine bodyPost_ret (v:=.tuple #[.agg #[.int .i64 0,.int .i64 0],.iface 201 (.pointer (some fa))]) (by simp [results,Tryz.results186,go_sem,c0,c1]) rfl ⟨?_,.inr ⟨by rw [hF.out];simp only [h1,h2,h3,h4],fa,rfl⟩⟩
  exact (o4.setCell (p:=⟨w.heap.size,0,none⟩) (.inr (Nat.le_refl _)) _).setCell (p:=⟨w.heap.size,1,none⟩) (.inr (Nat.le_refl _)) _
 have k4:=ho4.heap k3 (by omega)
 have o4:=o3.trans ho4
 have g4:=g3.only ho4 hrb
 have e4:=(e3.num h4).1
 clear k3 o3 g3 hr3 e3 ho4
 go_wp2_with fail
 refine (expect_any rb t4 93 _ _ hr4 e4).mono ?_
 rintro e w5 ⟨ho5,⟨t5,h5,rfl,hr5⟩ | ⟨h5,fa,rfl⟩⟩
 rotate_left
 ·have k5:=ho5.heap k4 (by omega)
  have o5:=o4.trans ho5
  clear ho5
  have c0:=cell_at (i:=0) k5 rfl
  have c1:=cell_at (i:=1) k5 rfl
  have f0:w5.frozen? ⟨w.heap.size,0,none⟩=false:=Lib.frozen_of_heap k5 0
  have f1:w5.frozen? ⟨w.heap.size,1,none⟩=false:=Lib.frozen_of_heap k5 1
  clear k4 k5
  go_wp2_with fail
  refine bodyPost_ret (v:=.tuple #[.agg #[.int .i64 0,.int .i64 0],.iface 201 (.pointer (some fa))]) (by simp [results,Tryz.results186,go_sem,c0,c1]) rfl ⟨?_,.inr ⟨by rw [hF.out];simp only [h1,h2,h3,h4,h5],fa,rfl⟩⟩
  exact (o5.setCell (p:=⟨w.heap.size,0,none⟩) (.inr (Nat.le_refl _)) _).setCell (p:=⟨w.heap.size,1,none⟩) (.inr (Nat.le_refl _)) _
 have k5:=ho5.heap k4 (by omega)
 have o5:=o4.trans ho5
 have g5:=g4.only ho5 hrb
 have e5:=(e4.expect h5).1
 clear k4 o4 g4 hr4 e4 ho5
 have c0:=cell_at (i:=0) k5 rfl
 have c1:=cell_at (i:=1) k5 rfl
 have f0:w5.frozen? ⟨w.heap.size,0,none⟩=false:=Lib.frozen_of_heap k5 0
 have f1:w5.frozen? ⟨w.heap.size,1,none⟩=false:=Lib.frozen_of_heap k5 1
 have hlt:w.heap.size<w5.heap.size:=heap_lt k5
 have hF2:Hid (res=if b<a then none else some ((a,b),t5)):=by show _=_;rw [hF.out];simp only [h1,h2,h3,h4,h5]
 clear hF h1 h2 h3 h4 h5
 by_cases hba:b<a
 ·go_wp2_with fail
  refine bodyPost_ret (v:=.tuple #[.agg #[.int .i64 0,.int .i64 0],.iface 201 (.pointer (some ⟨w5.heap.size,0,none⟩))]) (by simp [results,Tryz.results186,go_sem,c0,c1,hlt]) rfl ⟨?_,.inr ⟨by rw [hF2.out,if_pos hba],_,rfl⟩⟩
  exact ((o5.setCell (p:=⟨w.heap.size,0,none⟩) (.inr (Nat.le_refl _)) _).setCell (p:=⟨w.heap.size,1,none⟩) (.inr (Nat.le_refl _)) _).alloc _
 ·go_wp2_with fail
  refine bodyPost_ret (v:=.tuple #[.agg #[.int .i64 a,.int .i64 b],.nilIface]) (by simp [results,Tryz.results186,go_sem,c0,c1]) rfl ⟨?_,.inl ⟨a,b,t5,by rw [hF2.out,if_neg (by omega)],rfl,?_⟩⟩
  ·exact (o5.setCell (p:=⟨w.heap.size,0,none⟩) (.inr (Nat.le_refl _)) _).setCell (p:=⟨w.heap.size,1,none⟩) (.inr (Nat.le_refl _)) _
  ·exact (hr5.setCell (p:=⟨w.heap.size,0,none⟩) hrl _).setCell (p:=⟨w.heap.size,1,none⟩) hrl _
theorem window_any (rb:Nat) (ts:List Tok) (op:Int) (w:World) (h:RdAt 208 rb w ts) (he:Ends ts) (hg:ConvAt w) (hrb:14<=rb) :
  Calls Tryz.prog 186 #[.pointer (some ⟨rb,0,none⟩),.int .i32 op] w (WindowEnd rb w (windowF op ts)):=by
 cases hw:winB op with
 | true=>exact window_some rb ts op w h he hw hg hrb
 | false=>exact window_none rb ts op w h hw
end Go.Proofs.YtpbbmagjhkakgaaGreatDoor
namespace Go.Proofs.YtpbbmagjhkakgaaGreatDoor
open Go.RowKit Go.Deep
def SentEnd (rb:Nat) (w:World) (res:Option (BT Pay×List Tok)) (e:Ending) (w':World):Prop :=
 Only rb w w'/\((∃ x r v,res=some (x,r)/\e=.returned (.tuple #[v,.nilIface])/\SentAt 143 (rb+1) w' x v/\RdAt 208 rb w' r)
  \/(res=none/\∃ fa,e=.returned (.tuple #[.pointer none,.iface 201 (.pointer (some fa))])))
def SentOK (n:Nat) (f:List Tok->Option (BT Pay×List Tok)):Prop :=
 ∀ (rb:Nat) (ts:List Tok) (w:World),RdAt 208 rb w ts->Ends ts->ConvAt w->14<=rb->ts.length<=n->
  Calls Tryz.prog 114 #[.pointer (some ⟨rb,0,none⟩)] w (SentEnd rb w (f ts))
set_option maxHeartbeats 800000 in
theorem single_any (n:Nat) (f:List Tok->Option (BT Pay×List Tok)) (ih:SentOK n f) (rb:Nat) (ts:List Tok) (op:Int) (w:World) (h:RdAt 208 rb w ts) (he:Ends ts) (hg:ConvAt w) (hrb:14<=rb) (hn:ts.length<=n) :
  Calls Tryz.prog 157 #[.pointer (some ⟨rb,0,none⟩),.int .i32 op] w (SentEnd rb w (singleF f op ts)):=by
 have hF:Hid (singleF f op ts=match windowF op ts with
  | none=>none
  | some ((a,b),t1)=>match f t1 with
   | none=>none
   | some (p,t2)=>some (mk op ByteArray.empty a b p .nil,t2)):=rfl
 generalize singleF f op ts=res at *
 have hrl:=h.lt
 go_enter Tryz.func157,Tryz.ntmps157
 go_wp2_with fail
 refine (window_any rb ts op w h he hg hrb).mono ?_
 rintro e w1 ⟨ho1,⟨a,b,t1,h1,rfl,hr1⟩ | ⟨h1,fa,rfl⟩⟩
 rotate_left
 ·go_wp2_with fail
  go_ret2
  exact ⟨ho1.alloc _,.inr ⟨by rw [hF.out];simp only [h1],fa,rfl⟩⟩
 obtain ⟨e1,l1⟩:=he.window h1
 have g1:ConvAt (w1.alloc (.cells #[.int .i64 a,.int .i64 b] 140)):=(hg.only ho1 hrb).below ((Below.refl _ _).al _)
 have k1:=heap_new w1 (.cells #[.int .i64 a,.int .i64 b] 140 (0,0)) _ rfl
 have hl1:=ho1.size
 go_wp2_with fail
 refine (ih rb t1 _ (hr1.alloc _) e1 g1 hrb (by omega)).mono ?_
 rintro e w2 ⟨ho2,⟨x,t2,v,h2,rfl,hx,hr2⟩ | ⟨h2,fa,rfl⟩⟩
 rotate_left
 ·have o2:=(ho1.alloc _).trans ho2
  clear k1 g1 ho2 h hg
  go_wp2_with fail
  go_ret2
  exact ⟨o2,.inr ⟨by rw [hF.out];simp only [h1,h2],fa,rfl⟩⟩
 have o2:=(ho1.alloc _).trans ho2
 have k2:=ho2.heap k1 (by omega)
 have c0:=cell_at (i:=0) k2 rfl
 have c1:=cell_at (i:=1) k2 rfl
 have hF2:Hid (res=some (mk op ByteArray.empty a b x .nil,t2)):=by show _=_;rw [hF.out];simp only [h1,h2]
 have hl2:=o2.size
 clear k1 k2 g1 ho2 ho1 h hg hF h1 h2
 obtain ⟨vv,rfl⟩:∃ vv,v=Value.pointer vv:=by
  cases x with
  | nil=>exact ⟨_,hx⟩
  | node _ _ _ _ _=>obtain ⟨b,_,_,hb,_⟩:=hx;exact ⟨_,hb⟩
 go_wp2_with fail
 go_ret2
 refine ⟨o2.alloc _,.inl ⟨_,_,_,hF2.out,rfl,?_,hr2.alloc _⟩⟩
 exact sent_mk (by omega) (heap_new _ _ _ rfl) (hx.below ((Below.refl _ _).al _)) rfl
theorem mid_cases (sg:Int):((sg=8743\/sg=8744\/sg=83)/\((sg != 8743)=false\/((sg != 8743)=true/\(sg != 8744)=false)\/((sg != 8743)=true/\(sg != 8744)=true/\(sg != 83)=false)))
  \/(¬ (sg=8743\/sg=8744\/sg=83)/\(sg != 8743)=true/\(sg != 8744)=true/\(sg != 83)=true):=by
 by_cases h1:sg=8743
 ·subst h1;exact .inl ⟨.inl rfl,.inl rfl⟩
 ·by_cases h2:sg=8744
  ·subst h2;exact .inl ⟨.inr (.inl rfl),.inr (.inl ⟨rfl,rfl⟩)⟩
  ·by_cases h3:sg=83
   ·subst h3;exact .inl ⟨.inr (.inr rfl),.inr (.inr ⟨rfl,rfl,rfl⟩)⟩
   ·exact .inr ⟨by simp [h1,h2,h3],by simp [h1],by simp [h2],by simp [h3]⟩
set_option maxHeartbeats 2000000 in
theorem pair_any (n:Nat) (f:List Tok->Option (BT Pay×List Tok)) (ih:SentOK n f) (hk:Keeps f) (rb:Nat) (ts:List Tok) (w:World) (h:RdAt 208 rb w ts) (he:Ends ts) (hg:ConvAt w) (hrb:14<=rb) (hn:ts.length<=n) :
  Calls Tryz.prog 156 #[.pointer (some ⟨rb,0,none⟩)] w (SentEnd rb w (pairF f ts)):=by
 have hF:Hid (pairF f ts=match f ts with
  | none=>none
  | some (p,t1) =>
   if (takeF t1).1.sign=8743\/(takeF t1).1.sign=8744\/(takeF t1).1.sign=83 then
    match windowF (takeF t1).1.sign (takeF t1).2 with
    | none=>none
    | some ((a,b),t2)=>match f t2 with
     | none=>none
     | some (q,t3)=>match expectF 41 t3 with
      | none=>none
      | some t4=>some (mk (takeF t1).1.sign ByteArray.empty a b p q,t4)
   else none):=rfl
 generalize pairF f ts=res at *
 have hrl:=h.lt
 go_enter Tryz.func156,Tryz.ntmps156
 go_wp2_with fail
 refine (ih rb ts w h he hg hrb hn).mono ?_
 rintro e w1 ⟨ho1,⟨x,t1,v,h1,rfl,hx1,hr1⟩ | ⟨h1,fa,rfl⟩⟩
 rotate_left
 ·go_wp2_with fail
  go_ret2
  exact ⟨ho1,.inr ⟨by rw [hF.out];simp only [h1],fa,rfl⟩⟩
 obtain ⟨e1,l1⟩:=hk _ _ _ he h1
 have g1:=hg.only ho1 hrb
 have z1:=ho1.size
 obtain ⟨vx,rfl⟩:=sent_ptr hx1
 clear h hg
 go_wp2_with fail
 refine (take_any rb t1 _ hr1 e1).mono ?_
 rintro e w2 ⟨rfl,ho2,hr2⟩
 obtain ⟨e2,l2,_⟩:=e1.take
 have hF2:Hid (res=if (takeF t1).1.sign=8743\/(takeF t1).1.sign=8744\/(takeF t1).1.sign=83 then
    match windowF (takeF t1).1.sign (takeF t1).2 with
    | none=>none
    | some ((a,b),t2)=>match f t2 with
     | none=>none
     | some (q,t3)=>match expectF 41 t3 with
      | none=>none
      | some t4=>some (mk (takeF t1).1.sign ByteArray.empty a b x q,t4)
   else none):=by show _=_;rw [hF.out];simp only [h1]
 have hx2:=hx1.only ho2 (by omega)
 have o2:=ho1.trans ho2
 have g2:=g1.only ho2 hrb
 clear hF h1 ho1 hr1 e1 hx1 g1 ho2
 generalize (takeF t1).2=u1 at *
 generalize (takeF t1).1.sign=sg at *
 generalize (takeF t1).1.place=pl at *
 generalize (takeF t1).1.word=wd at *
 have z2:=o2.size
 rcases mid_cases sg with ⟨hop,hq⟩ | ⟨hop,q1,q2,q3⟩
 rotate_left
 ·have hF3:Hid (res=none):=by show _=_;rw [hF2.out,if_neg hop]
  clear hF2 hop
  go_wp2_with fail
  go_region
  all_goals go_wp2
  all_goals go_ret2
  all_goals exact ⟨by repeat (first | exact o2 | refine Only.drew ?_ | refine Only.alloc ?_ _),.inr ⟨hF3.out,_,rfl⟩⟩
 have hF3:Hid (res=match windowF sg u1 with
    | none=>none
    | some ((a,b),t2)=>match f t2 with
     | none=>none
     | some (q,t3)=>match expectF 41 t3 with
      | none=>none
      | some t4=>some (mk sg ByteArray.empty a b x q,t4)):=by show _=_;rw [hF2.out,if_pos hop]
 have k2:=heap_new w2 (.cells #[.int .i32 sg,.int .i64 pl,.string wd] 260 (0,0)) _ rfl
 have g2':ConvAt (w2.alloc (.cells #[.int .i32 sg,.int .i64 pl,.string wd] 260 (0,0))):=g2.below ((Below.refl _ _).al _)
 have hx2':=hx2.below ((Below.refl _ _).al (.cells #[.int .i32 sg,.int .i64 pl,.string wd] 260 (0,0)))
 clear hF2 hop g2 hx2
 rcases hq with q1 | ⟨q1,q2⟩ | ⟨q1,q2,q3⟩
 all_goals
  go_wp2_with fail
  refine (window_any rb u1 sg _ (hr2.alloc _) e2 g2' hrb).mono ?_
  rintro e w3 ⟨ho3,⟨a,b,t3,h3,rfl,hr3⟩ | ⟨h3,fa,rfl⟩⟩
  rotate_left
  ·have o3:=(o2.alloc _).trans ho3
   clear hx2' k2 g2' ho3
   go_wp2_with fail
   go_ret2
   exact ⟨o3.alloc _,.inr ⟨by rw [hF3.out];simp only [h3],fa,rfl⟩⟩
  obtain ⟨e3,l3⟩:=e2.window h3
  have o3:=(o2.alloc _).trans ho3
  have g3:ConvAt (w3.alloc (.cells #[.int .i64 a,.int .i64 b] 140)):=(g2'.only ho3 hrb).below ((Below.refl _ _).al _)
  have k3:=heap_new w3 (.cells #[.int .i64 a,.int .i64 b] 140 (0,0)) _ rfl
  have hx3:=(hx2'.only ho3 (by omega)).below ((Below.refl _ _).al (.cells #[.int .i64 a,.int .i64 b] 140 (0,0)))
  have z3:=o3.size
  clear hx2' k2 g2' ho3 hr2
  go_wp2_with fail
  refine (ih rb t3 _ (hr3.alloc _) e3 g3 hrb (by omega)).mono ?_
  rintro e w4 ⟨ho4,⟨y,t4,vy,h4,rfl,hy4,hr4⟩ | ⟨h4,fa,rfl⟩⟩
  rotate_left
  ·have o4:=(o3.alloc _).trans ho4
   clear hx3 k3 g3 ho4
   go_wp2_with fail
   go_ret2
   exact ⟨o4,.inr ⟨by rw [hF3.out];simp only [h3,h4],fa,rfl⟩⟩
  obtain ⟨e4,l4⟩:=hk _ _ _ e3 h4
  have o4:=(o3.alloc _).trans ho4
  have k4:=ho4.heap k3 (by omega)
  have hx4:=hx3.only ho4 (by omega)
  have z4:=o4.size
  obtain ⟨vy,rfl⟩:=sent_ptr hy4
  clear hx3 k3 g3 ho4 hr3
  go_wp2_with fail
  refine (expect_any rb t4 41 _ _ hr4 e4).mono ?_
  rintro e w5 ⟨ho5,⟨t5,h5,rfl,hr5⟩ | ⟨h5,fa,rfl⟩⟩
  rotate_left
  ·have o5:=o4.trans ho5
   clear hx4 k4 hy4 ho5
   go_wp2_with fail
   go_ret2
   exact ⟨o5,.inr ⟨by rw [hF3.out];simp only [h3,h4,h5],fa,rfl⟩⟩
  have o5:=o4.trans ho5
  have k5:=ho5.heap k4 (by omega)
  have hx5:=hx4.only ho5 (by omega)
  have hy5:=hy4.only ho5 (by omega)
  have z5:=o5.size
  have c0:=cell_at (i:=0) k5 rfl
  have c1:=cell_at (i:=1) k5 rfl
  have hF5:Hid (res=some (mk sg ByteArray.empty a b x y,t5)):=by show _=_;rw [hF3.out];simp only [h3,h4,h5]
  clear hx4 k4 hy4 ho5 k5 hF3 h3 h4 h5
  go_wp2_with fail
  go_ret2
  refine ⟨o5.alloc _,.inl ⟨_,_,_,hF5.out,rfl,?_,hr5.alloc _⟩⟩
  exact sent_mk (by omega) (heap_new _ _ _ rfl) (hx5.below ((Below.refl _ _).al _)) (hy5.below ((Below.refl _ _).al _))
theorem first_cases (sg:Int):(sg=97/\(sg==97)=true)\/(sg=40/\(sg==97)=false/\(sg==40)=true)
  \/((¬ sg=97/\¬ sg=40/\(sg=172\/sg=89\/sg=79\/sg=72))/\(sg==97)=false/\(sg==40)=false/\((sg==172)=true\/((sg==172)=false/\(sg==89)=true)\/((sg==172)=false/\(sg==89)=false/\(sg==79)=true)\/((sg==172)=false/\(sg==89)=false/\(sg==79)=false/\(sg==72)=true)))
  \/((¬ sg=97/\¬ sg=40/\¬ (sg=172\/sg=89\/sg=79\/sg=72))/\(sg==97)=false/\(sg==40)=false/\(sg==172)=false/\(sg==89)=false/\(sg==79)=false/\(sg==72)=false):=by
 by_cases h1:sg=97
 ·exact .inl ⟨h1,by simp [h1]⟩
 by_cases h2:sg=40
 ·exact .inr (.inl ⟨h2,by simp [h2],by simp [h2]⟩)
 by_cases h3:sg=172
 ·exact .inr (.inr (.inl ⟨⟨h1,h2,.inl h3⟩,by simp [h1],by simp [h2],.inl (by simp [h3])⟩))
 by_cases h4:sg=89
 ·exact .inr (.inr (.inl ⟨⟨h1,h2,.inr (.inl h4)⟩,by simp [h1],by simp [h2],.inr (.inl ⟨by simp [h3],by simp [h4]⟩)⟩))
 by_cases h5:sg=79
 ·exact .inr (.inr (.inl ⟨⟨h1,h2,.inr (.inr (.inl h5))⟩,by simp [h1],by simp [h2],.inr (.inr (.inl ⟨by simp [h3],by simp [h4],by simp [h5]⟩))⟩))
 by_cases h6:sg=72
 ·exact .inr (.inr (.inl ⟨⟨h1,h2,.inr (.inr (.inr h6))⟩,by simp [h1],by simp [h2],.inr (.inr (.inr ⟨by simp [h3],by simp [h4],by simp [h5],by simp [h6]⟩))⟩))
 ·exact .inr (.inr (.inr ⟨⟨h1,h2,by simp [h3,h4,h5,h6]⟩,by simp [h1],by simp [h2],by simp [h3],by simp [h4],by simp [h5],by simp [h6]⟩))
theorem word_any (t:Tok) (w:World) (hs:t.word.size<=300) :
  Calls Tryz.prog 155 #[.agg #[.int .i32 t.sign,.int .i64 t.place,.string t.word]] w fun e w'=>Below w.heap.size w w'/\((∃ x v,wordF t=some x/\e=.returned (.tuple #[v,.nilIface])/\SentAt 143 w.heap.size w' x v)\/(wordF t=none/\∃ fa,e=.returned (.tuple #[.pointer none,.iface 201 (.pointer (some fa))]))):=by
 by_cases ht:t.word=trueB
 ·rw [ht]
  refine (word_true t.sign t.place w).mono ?_
  rintro e w' ⟨v,rfl,hx,hb⟩
  exact ⟨hb,.inl ⟨_,v,by unfold wordF;rw [if_pos ht],rfl,hx⟩⟩
 ·have ht':(t.word.toList==[116,114,117,101])=false:=by
   rw [beq_eq_false_iff_ne,Lib.toList_data]
   intro h
   exact ht (bytes_ext h)
  by_cases hl:8<t.word.size
  ·refine (word_long t.sign t.place t.word w ht' hl (by unfold maxLen;omega)).mono ?_
   rintro e w' ⟨fa,rfl,hb⟩
   exact ⟨hb,.inr ⟨by unfold wordF;rw [if_neg ht,if_pos hl],fa,rfl⟩⟩
  ·refine (word_name t.sign t.place t.word w ht' (by omega)).mono ?_
   rintro e w' ⟨v,rfl,hx,hb⟩
   exact ⟨hb,.inl ⟨_,v,by unfold wordF;rw [if_neg ht,if_neg hl],rfl,hx⟩⟩
set_option maxHeartbeats 2000000 in
theorem sentence_step (n:Nat) (f:List Tok->Option (BT Pay×List Tok)) (ih:SentOK n f) (hk:Keeps f):SentOK (n+1) (stepF f):=by
 intro rb ts w h he hg hrb hn
 have hF:Hid (stepF f ts=if (takeF ts).1.sign=97 then (wordF (takeF ts).1).map fun x=>(x,(takeF ts).2)
  else if (takeF ts).1.sign=40 then pairF f (takeF ts).2
  else if (takeF ts).1.sign=172\/(takeF ts).1.sign=89\/(takeF ts).1.sign=79\/(takeF ts).1.sign=72 then singleF f (takeF ts).1.sign (takeF ts).2
  else none):=rfl
 generalize stepF f ts=res at *
 have hrl:=h.lt
 have htk:=take_any rb ts w h he
 obtain ⟨e1,l1,l1'⟩:=he.take
 have hwd:=he.word
 clear he h
 generalize (takeF ts).1=t at *
 generalize (takeF ts).2=u at *
 rcases first_cases t.sign with ⟨hs,q1⟩ | ⟨hs,q1,q2⟩ | ⟨hs,q1,q2,hq⟩ | ⟨hs,q1,q2,q3,q4,q5,q6⟩
 ·have hF1:Hid (res=(wordF t).map fun x=>(x,u)):=by show _=_;rw [hF.out,if_pos hs]
  clear hs hF l1'
  go_enter Tryz.func114,Tryz.ntmps114
  go_wp2_with fail
  refine htk.mono ?_
  rintro e w1 ⟨rfl,ho1,hr1⟩
  have z1:=ho1.size
  go_wp2_with fail
  refine (word_any t _ hwd).mono ?_
  rintro e w2 ⟨hb,⟨x,v,hx,rfl,hxa⟩ | ⟨hx,fa,rfl⟩⟩
  ·have o2:=(ho1.alloc _).tb hb
   have r2:=(hr1.alloc _).below hb
   have hxa':=hxa.low (B':=rb+1) (by simp;omega)
   have hF2:Hid (res=some (x,u)):=by show _=_;rw [hF1.out,hx];rfl
   obtain ⟨vx,rfl⟩:=sent_ptr hxa
   clear hb hxa hx hF1
   go_wp2_with fail
   go_ret2
   exact ⟨o2,.inl ⟨_,_,_,hF2.out,rfl,hxa',r2⟩⟩
  ·have o2:=(ho1.alloc _).tb hb
   have hF2:Hid (res=none):=by show _=_;rw [hF1.out,hx];rfl
   clear hb hx hF1
   go_wp2_with fail
   go_ret2
   exact ⟨o2,.inr ⟨hF2.out,_,rfl⟩⟩
 ·have hF1:Hid (res=pairF f u):=by show _=_;rw [hF.out,if_neg (by omega),if_pos hs]
  have l2:=l1' (by omega)
  have hs':Hid (t.sign=40):=hs
  clear hs hF l1'
  go_enter Tryz.func114,Tryz.ntmps114
  go_wp2_with fail
  refine htk.mono ?_
  rintro e w1 ⟨rfl,ho1,hr1⟩
  have z1:=ho1.size
  go_wp2_with fail
  refine (pair_any n f ih hk rb u _ (hr1.alloc _) e1 ((hg.only ho1 hrb).below ((Below.refl _ _).al _)) hrb (by omega)).mono ?_
  rintro e w2 ⟨ho2,⟨x,r,v,hx,rfl,hxa,hr2⟩ | ⟨hx,fa,rfl⟩⟩
  ·have o2:=(ho1.alloc _).trans ho2
   have hF2:Hid (res=some (x,r)):=by show _=_;rw [hF1.out,hx]
   obtain ⟨vx,rfl⟩:=sent_ptr hxa
   clear ho2 hx hF1
   go_wp2_with fail
   go_ret2
   exact ⟨o2,.inl ⟨_,_,_,hF2.out,rfl,hxa,hr2⟩⟩
  ·have o2:=(ho1.alloc _).trans ho2
   have hF2:Hid (res=none):=by show _=_;rw [hF1.out,hx]
   clear ho2 hx hF1
   go_wp2_with fail
   go_ret2
   exact ⟨o2,.inr ⟨hF2.out,_,rfl⟩⟩
 ·have hF1:Hid (res=singleF f t.sign u):=by show _=_;rw [hF.out,if_neg hs.1,if_neg hs.2.1,if_pos hs.2.2]
  have l2:=l1' (by omega)
  clear hs hF l1'
  rcases hq with q3 | ⟨q3,q4⟩ | ⟨q3,q4,q5⟩ | ⟨q3,q4,q5,q6⟩
  all_goals
   go_enter Tryz.func114,Tryz.ntmps114
   go_wp2_with fail
   refine htk.mono ?_
   rintro e w1 ⟨rfl,ho1,hr1⟩
   have z1:=ho1.size
   go_wp2_with fail
   refine (single_any n f ih rb u t.sign _ (hr1.alloc _) e1 ((hg.only ho1 hrb).below ((Below.refl _ _).al _)) hrb (by omega)).mono ?_
   rintro e w2 ⟨ho2,⟨x,r,v,hx,rfl,hxa,hr2⟩ | ⟨hx,fa,rfl⟩⟩
   ·have o2:=(ho1.alloc _).trans ho2
    have hF2:Hid (res=some (x,r)):=by show _=_;rw [hF1.out,hx]
    obtain ⟨vx,rfl⟩:=sent_ptr hxa
    clear ho2 hx hF1
    go_wp2_with fail
    go_ret2
    exact ⟨o2,.inl ⟨_,_,_,hF2.out,rfl,hxa,hr2⟩⟩
   ·have o2:=(ho1.alloc _).trans ho2
    have hF2:Hid (res=none):=by show _=_;rw [hF1.out,hx]
    clear ho2 hx hF1
    go_wp2_with fail
    go_ret2
    exact ⟨o2,.inr ⟨hF2.out,_,rfl⟩⟩
 ·have hF1:Hid (res=none):=by show _=_;rw [hF.out,if_neg hs.1,if_neg hs.2.1,if_neg hs.2.2]
  clear hs hF l1'
  go_enter Tryz.func114,Tryz.ntmps114
  go_wp2_with fail
  refine htk.mono ?_
  rintro e w1 ⟨rfl,ho1,hr1⟩
  go_wp2_with fail
  go_region
  all_goals go_wp2
  all_goals go_ret2
  all_goals exact ⟨by repeat (first | exact ho1 | refine Only.drew ?_ | refine Only.alloc ?_ _),.inr ⟨hF1.out,_,rfl⟩⟩
theorem sentence_any:∀ n,SentOK n (parseF n)
 | 0=>fun rb ts w h he _ _ hn=>by
  obtain ⟨t,r,rfl⟩:=he.cons
  simp at hn
 | n+1=>sentence_step n (parseF n) (sentence_any n) (keeps_parse n)
end Go.Proofs.YtpbbmagjhkakgaaGreatDoor
namespace Go.Proofs.YtpbbmagjhkakgaaGreatDoor
open Go.RowKit
set_option maxHeartbeats 400000 in
theorem whyNoSign_any (rest:ByteArray) (r:Int) (w:World) :
  Calls Tryz.prog 152 #[.string rest,.int .i32 r] w fun e w'=>(∃ s,e=.returned (.string s))/\w'=w:=by
 by_cases hr:r=65533
 ·subst hr
  go_enter Tryz.func152,Tryz.ntmps152
  go_wp2_with (go_at_call 185;refine (Tryz.strings_HasPrefix _ _ _).mono ?_;rintro e w' ⟨rfl,rfl⟩)
  all_goals go_ret
  all_goals exact ⟨⟨_,rfl⟩,rfl⟩
 ·have hr':(r==65533)=false:=by simp [hr]
  go_enter Tryz.func152,Tryz.ntmps152
  go_wp2_with fail
  go_ret
  exact ⟨⟨_,rfl⟩,rfl⟩
theorem infoTok:(Tryz.prog.info? 260).map (fun i=>(i.zero,i.size,i.bytes))=some (some (.agg #[.int .i32 0,.int .i64 0,.string ⟨#[]⟩]),3,32):=by kernel_rfl
theorem cells_three_new (w:World) (t:Tok) (e:TypeId):∀ j u,(tokCells t)[j]? = some u->(w.alloc (.cells #[.int .i32 t.sign,.int .i64 t.place,.string t.word] e)).cell? ((⟨w.heap.size,0,none⟩:Addr).add j)=some u:=by
 intro j u hj
 have hh:=heap_new w (.cells #[.int .i32 t.sign,.int .i64 t.place,.string t.word] e (0,0)) _ rfl
 have:(⟨w.heap.size,0,none⟩:Addr).add j=⟨w.heap.size,j,none⟩:=by simp [Addr.add];omega
 rw [this]
 exact cell_at hh (by simpa [tokCells] using hj)
theorem tok_one (t:Tok):∀ u,u∈tokCells t->u.oneCell'=true:=by
 intro u hu
 simp [tokCells] at hu
 rcases hu with rfl | rfl | rfl<;>rfl
theorem flat_snoc (ts:List Tok) (t:Tok):((ts++[t]).map tokCells).flatten=(ts.map tokCells).flatten++tokCells t:=by simp
theorem flat_len (ts:List Tok):(ts.map tokCells).flatten.length=ts.length*3:=by
 induction ts with
 | nil=>rfl
 | cons a l ih=>simp only [List.map_cons,List.flatten_cons,List.length_append,ih,List.length_cons];simp [tokCells];omega
theorem own_slice {w:World} {base size n:Nat} {e:TypeId} {v:Value} {xs:List Value} (h:w.ownsRow base e size v n xs) (hn:0<n):∃ g cap,v=.slice (some ⟨g,0,none⟩) n cap/\base<=g/\g<w.heap.size/\n<=cap/\cap<=maxLen:=by
 obtain ⟨_,⟨_,hz⟩ | ⟨g,cap,cur,hv,hg,hh,hn,hm,hs,ht⟩⟩:=h
 ·omega
 ·exact ⟨g,cap,hv,hg,heap_lt hh,hn,hm⟩
theorem iter_grown {w W w2:World} {o:Obj} {s:ByteArray} {p n:Nat} {e:TypeId} {size:Nat} {v:Value} {xs:List Value} (hit:W.heap[w.heap.size]? = some (.stringIter s p)) (hown:W.ownsRow (w.heap.size+1) e size v n xs) (hg:(W.alloc o).grownBy w2 v.ownBlock) :
  w2.heap[w.heap.size]? = some (.stringIter s p):=by
 have hl:=heap_lt hit
 rw [hg.block _ (by simp;omega) (fun h=>by have:=(hown.lt _ h.symm).1;omega),Lib.alloc_old W o _ hl]
 exact hit
theorem toks_of_own {base:Nat} {w:World} {v:Value} {ts:List Tok} (h:w.ownsRow base 260 3 v ts.length (ts.map tokCells).flatten) (hne:ts≠[]):ToksAt w.heap.size w v ts:=by
 obtain ⟨hl,⟨_,hz⟩ | ⟨g,cap,cur,hv,hg,hh,hn,hm,hs,ht⟩⟩:=h
 ·exact absurd (List.length_eq_zero_iff.1 hz) hne
 ·refine ⟨g,0,cap,cur,_,_,cur.toList.drop (ts.length*3),hv,heap_lt hh,hh,hn,hm,?_⟩
  rw [<- ht,List.drop_zero,List.take_append_drop]
def ScanEnd (w:World) (res:Option (List Tok)) (e:Ending) (w':World):Prop :=
 Below w.heap.size w w'/\((∃ ts v,res=some ts/\e=.returned (.tuple #[v,.nilIface])/\ToksAt w'.heap.size w' v ts/\Ends ts/\ts.length<=305)
  \/(res=none/\∃ fa,e=.returned (.tuple #[.slice none 0 0,.iface 201 (.pointer (some fa))])))
set_option maxHeartbeats 4000000 in
set_option maxRecDepth 100000 in
theorem scan_any (s:ByteArray) (w:World) (hs:s.size<=300) :
  Calls Tryz.prog 113 #[.string s] w (ScanEnd w (scanF s s.size 0 32 [])):=by
 generalize hres:scanF s s.size 0 32 []=res
 go_enter Tryz.func113,Tryz.ntmps113
 go_wp2
 go_loopw [4,5] (fun v l wr=>∃ (pos b:Nat) (last:Int) (toks:List Tok),wr.heap[w.heap.size]? = some (.stringIter s pos)/\wr.ownsRow (w.heap.size+1) 260 3 v toks.length (toks.map tokCells).flatten/\l=.int .i32 last/\Below w.heap.size w wr/\Hid (scanF s b pos last toks=res)/\s.size<=pos+b/\Mid pos last toks/\pos<=304) (fun _ _ wr=>s.size-wr.iterPos w.heap.size)
 case atStart =>
  refine ⟨0,s.size,32,[],?_,World.ownsRow_nil _ _ _ _,rfl,?_,hres,by omega,Mid.start,by omega⟩
  ·exact World.iter_heap w s 0
  ·exact (Below.refl _ _).al (.stringIter s 0)
 case round =>
  clear hres
  obtain ⟨pos,b,last,toks,hit,hown,rfl,hbw,hsc,hfu,hmid,hpos⟩:=hrel
  have hlen:=hmid.len
  by_cases hp:pos<s.size
  ·have hnx:∀ ty,(Instr.next (.pointer (some ⟨w.heap.size,0,none⟩)) true ty).run Tryz.prog wr=_:=fun ty=>Lib.run_next_any_at wr w.heap.size s pos ty hit hp
   have hwd:=width_pos s pos hp
   have hwl:=width_le s pos
   obtain ⟨f,rfl⟩:∃ f,b=f+1:=⟨b-1,by omega⟩
   have hit2:=Lib.iterAt_heap wr w.heap.size s pos (pos+(Utf8.decode s pos).2) hit
   have hbw2:=Lib.below_iterAt hbw (k:=w.heap.size) (Nat.le_refl _) s (pos+(Utf8.decode s pos).2)
   have hown2:=ownsRow_iterAt hown (k:=w.heap.size) (by omega) s (pos+(Utf8.decode s pos).2)
   have hS:Hid (res=(if signF (Utf8.decode s pos).1 = -2 then none
    else if signF (Utf8.decode s pos).1=last/\joinsB (signF (Utf8.decode s pos).1)=true then
     scanF s f (pos+(Utf8.decode s pos).2) (signF (Utf8.decode s pos).1) (growF s pos toks)
    else if signF (Utf8.decode s pos).1=32 then scanF s f (pos+(Utf8.decode s pos).2) (signF (Utf8.decode s pos).1) toks
    else scanF s f (pos+(Utf8.decode s pos).2) (signF (Utf8.decode s pos).1) (toks++[⟨signF (Utf8.decode s pos).1,pos,Utf8.encode (Utf8.decode s pos).1⟩]))):=by
    show _=_
    rw [<- hsc.out]
    show scanF s (f+1) pos last toks=_
    rw [scanF,if_pos hp]
   have hm:Hid (wr.iterPos w.heap.size=pos):=iterPos_of hit
   have hsg:=signF_ne (Utf8.decode s pos).1
   go_wp2_with fail
   refine (signOf_any _ _).mono ?_
   rintro e w1 ⟨rfl,rfl⟩
   clear hnx hit hown hbw hsc
   generalize wr.iterAt w.heap.size s (pos+(Utf8.decode s pos).2)=W at *
   generalize ((Utf8.decode s pos).1:Int)=r at *
   generalize (Utf8.decode s pos).2=wid at *
   generalize signF r=sg at *
   by_cases h2:sg = -2
   ·have hR:Hid (res=none):=by show _=_;rw [hS.out,if_pos h2]
    subst h2
    clear hS
    go_wp2_with fail
    refine (whyNoSign_any _ _ _).mono ?_
    rintro e w1 ⟨⟨str,rfl⟩,rfl⟩
    go_wp2_with fail
    go_ret2
    exact ⟨hbw2.al _,.inr ⟨hR.out,_,rfl⟩⟩
   ·have q1:(sg==-2)=false:=by simp [h2]
    have hs1:sg≠-1:=by omega
    by_cases hj:sg=last/\joinsB sg=true
    ·have hR:Hid (res=scanF s f (pos+wid) sg (growF s pos toks)):=by show _=_;rw [hS.out,if_neg h2,if_pos hj]
     obtain ⟨hl,hjb⟩:=hj
     subst hl
     obtain ⟨ts,t,rfl⟩:∃ ts t,toks=ts++[t]:=⟨toks.dropLast,toks.getLast (hmid.join hjb),(List.dropLast_concat_getLast (hmid.join hjb)).symm⟩
     rw [growF_snoc] at hR
     obtain ⟨g,cap,hv,hg1,hg2,hcap,hmax⟩:=own_slice hown2 (by simp)
     subst hv
     simp only [List.length_append,List.length_cons,List.length_nil,Nat.zero_add] at *
     have cp:W.cell? ⟨g,ts.length*3+1,none⟩=some (.int .i64 t.place):=by
      rw [hown2.cellAt _ (by omega),flat_snoc,List.getElem?_append_right (by rw [flat_len];omega),flat_len]
      simp [tokCells]
     have cw:W.cell? ⟨g,ts.length*3+2,none⟩=some (.string t.word):=by
      rw [hown2.cellAt _ (by omega),flat_snoc,List.getElem?_append_right (by rw [flat_len];omega),flat_len]
      simp [tokCells]
     have fw:W.frozen? ⟨g,ts.length*3+2,none⟩=false:=hown2.frozenAt _
     have htp:=hmid.each t (by simp)
     obtain ⟨_,_,hp0,hp1⟩:=htp
     unfold maxLen at hmax
     go_wp2_with fail
     refine (joins_any _ _).mono ?_
     rintro e w1 ⟨rfl,rfl⟩
     clear hS h2 hsg
     go_wp2_with fail
     have hR':Hid (scanF s f (pos+wid) sg (ts++[⟨t.sign,t.place,s.extract t.place.toNat (pos+1)⟩])=res):=hR.out.symm
     have hit3:(w1.setCell ⟨g,ts.length*3+2,none⟩ (.string (s.extract t.place.toNat (pos+1)))).heap[w.heap.size]? = some (.stringIter s (pos+wid)):=by
      rw [Below.heap_setCell _ _ _ _ (by show w.heap.size≠g;omega)];exact hit2
     refine ⟨⟨pos+wid,f,sg,ts++[⟨t.sign,t.place,s.extract t.place.toNat (pos+1)⟩],hit3,?_,rfl,?_,hR',by omega,hmid.grow (by omega) hs,by omega⟩,?_⟩
     ·have:=(hown2.stored (ts.length*3+2) (.string (s.extract t.place.toNat (pos+1)))).1
      rw [flat_snoc] at this
      rw [flat_snoc]
      rw [List.set_append_right _ _ (by rw [flat_len];omega),flat_len] at this
      have e2:ts.length*3+2-ts.length*3=2:=by omega
      rw [e2] at this
      simpa [tokCells] using this
     ·exact hbw2.setCell (p:=⟨g,ts.length*3+2,none⟩) (by show w.heap.size<=g;omega) _
     ·rw [iterPos_of hit3,hm.out];omega
    ·have hR:Hid (res=if sg=32 then scanF s f (pos+wid) sg toks else scanF s f (pos+wid) sg (toks++[⟨sg,pos,Utf8.encode r⟩])):=by show _=_;rw [hS.out,if_neg h2,if_neg hj]
     clear hS h2 hsg
     have hj2:(sg==last)=false\/((sg==last)=true/\joinsB sg=false):=by
      by_cases hl:sg=last
      ·exact .inr ⟨by simp [hl],by cases hb:joinsB sg with | true=>exact absurd ⟨hl,hb⟩ hj | false=>rfl⟩
      ·exact .inl (by simp [hl])
     clear hj
     obtain ⟨i0,hi,hz0,hz1,hz2⟩:=info_parts infoTok
     by_cases h32:sg=32
     ·have hR2:Hid (scanF s f (pos+wid) 32 toks=res):=by show _=_;rw [hR.out,if_pos h32,h32]
      subst h32
      clear hR
      have hm3:=hmid.blank (p2:=pos+wid) (by omega)
      rcases hj2 with hj2 | ⟨hj2,hj3⟩
      ·go_wp2_with fail
       exact ⟨⟨pos+wid,f,32,toks,hit2,hown2,rfl,hbw2,hR2,by omega,hm3,by omega⟩,by rw [iterPos_of hit2,hm.out];omega⟩
      ·go_wp2_with fail
       refine (joins_any _ _).mono ?_
       rintro e w1 ⟨rfl,rfl⟩
       go_wp2_with fail
       exact ⟨⟨pos+wid,f,32,toks,hit2,hown2,rfl,hbw2,hR2,by omega,hm3,by omega⟩,by rw [iterPos_of hit2,hm.out];omega⟩
     ·have hR2:Hid (scanF s f (pos+wid) sg (toks++[⟨sg,pos,Utf8.encode r⟩])=res):=by show _=_;rw [hR.out,if_neg h32]
      have q3:(sg != 32)=true:=by simp [h32]
      clear hR h32
      rcases hj2 with hj2 | ⟨hj2,hj3⟩
      ·go_wp2_with (at_builtin;refine wpList_append_own _ rfl _ _ 204 rfl (w.heap.size+1) 260 i0 _ 3 32 Tryz.underlying204 hi hz0 hz1 hz2 rfl (by decide) _ _ _ rfl (hown2.alloc _) ⟨W.heap.size,0,none⟩ 1 1 (tokCells ⟨sg,pos,Utf8.encode r⟩) rfl rfl ?c1 ?c2 ?c3 ?c4 ?c5 ?_)
       case c1=>exact cells_three_new W ⟨sg,pos,Utf8.encode r⟩ _
       case c2=>exact tok_one _
       case c3=>unfold maxLen;omega
       case c4=>omega
       case c5=>have:=hbw2.size;have:=heap_lt hit2;simp;omega
       intro v' w2 hown' hgrow _
       go_wp2_with fail
       have hit3:=iter_grown hit2 hown2 hgrow
       refine ⟨⟨pos+wid,f,sg,toks++[⟨sg,pos,Utf8.encode r⟩],hit3,?_,rfl,?_,hR2,by omega,hmid.more (by omega) hs1,by omega⟩,?_⟩
       ·rw [flat_snoc];simpa using hown'
       ·exact (hbw2.al _).grown hgrow (by have:=hbw2.size;simp;omega) (fun k hk=>by have:=(hown2.lt k hk).1;omega)
       ·rw [iterPos_of hit3,hm.out];omega
      ·go_wp2_with fail
       refine (joins_any _ _).mono ?_
       rintro e w1 ⟨rfl,rfl⟩
       go_wp2_with (at_builtin;refine wpList_append_own _ rfl _ _ 204 rfl (w.heap.size+1) 260 i0 _ 3 32 Tryz.underlying204 hi hz0 hz1 hz2 rfl (by decide) _ _ _ rfl (hown2.alloc _) ⟨w1.heap.size,0,none⟩ 1 1 (tokCells ⟨sg,pos,Utf8.encode r⟩) rfl rfl ?c1 ?c2 ?c3 ?c4 ?c5 ?_)
       case c1=>exact cells_three_new w1 ⟨sg,pos,Utf8.encode r⟩ _
       case c2=>exact tok_one _
       case c3=>unfold maxLen;omega
       case c4=>omega
       case c5=>have:=hbw2.size;have:=heap_lt hit2;simp;omega
       intro v' w2 hown' hgrow _
       go_wp2_with fail
       have hit3:=iter_grown hit2 hown2 hgrow
       refine ⟨⟨pos+wid,f,sg,toks++[⟨sg,pos,Utf8.encode r⟩],hit3,?_,rfl,?_,hR2,by omega,hmid.more (by omega) hs1,by omega⟩,?_⟩
       ·rw [flat_snoc];simpa using hown'
       ·exact (hbw2.al _).grown hgrow (by have:=hbw2.size;simp;omega) (fun k hk=>by have:=(hown2.lt k hk).1;omega)
       ·rw [iterPos_of hit3,hm.out];omega
  ·have hnx:∀ ty,(Instr.next (.pointer (some ⟨w.heap.size,0,none⟩)) true ty).run Tryz.prog wr=_:=fun ty=>Lib.run_next_end_at wr w.heap.size s pos ty hit hp
   have hR:Hid (res=some (toks++[endTok s])):=by show _=_;rw [<- hsc.out,scanF_end s b pos last toks hp]
   have hends:=hmid.ends s
   obtain ⟨i0,hi,hz0,hz1,hz2⟩:=info_parts infoTok
   clear hsc
   go_wp2_with (at_builtin;refine wpList_append_own _ rfl _ _ 204 rfl (w.heap.size+1) 260 i0 _ 3 32 Tryz.underlying204 hi hz0 hz1 hz2 rfl (by decide) _ _ _ rfl (hown.alloc _) ⟨wr.heap.size,0,none⟩ 1 1 (tokCells (endTok s)) rfl rfl ?c1 ?c2 ?c3 ?c4 ?c5 ?_)
   case c1=>exact cells_three_new wr (endTok s) _
   case c2=>exact tok_one _
   case c3=>unfold maxLen;omega
   case c4=>omega
   case c5=>have:=heap_lt hit;simp;omega
   intro v' w2 hown' hgrow _
   go_wp2_with fail
   go_ret2
   have hown3:w2.ownsRow (w.heap.size+1) 260 3 v' (toks++[endTok s]).length ((toks++[endTok s]).map tokCells).flatten:=by rw [flat_snoc];simpa using hown'
   refine ⟨?_,.inl ⟨_,_,hR.out,rfl,toks_of_own hown3 (by simp),hends,by simp;omega⟩⟩
   exact (hbw.al _).grown hgrow (by have:=hbw.size;simp;omega) (fun k hk=>by have:=(hown.lt k hk).1;omega)
end Go.Proofs.YtpbbmagjhkakgaaGreatDoor
