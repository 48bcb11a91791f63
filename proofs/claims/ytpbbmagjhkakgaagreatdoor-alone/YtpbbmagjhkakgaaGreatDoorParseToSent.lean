import Derived.Test.YtpbbmagjhkakgaaGreatDoorPureNumToWindow
namespace Go.Proofs.YtpbbmagjhkakgaaGreatDoor
open Go.RowKit Go.Deep
def SentEnd (rb:Nat) (w:World) (res:Option (BT aO×List Tok)) (e:Ending) (w':World):Prop :=
 Only rb w w'/\((∃ x r v,res=some (x,r)/\e=.returned (.tuple #[v,.nilIface])/\aC 143 (rb+1) w' x v/\gj 208 rb w' r)
  \/(res=none/\∃ fa,e=.returned (.tuple #[.pointer none,.iface 201 (.pointer (some fa))])))
def SentOK (n:Nat) (f:List Tok->Option (BT aO×List Tok)):Prop :=
 ∀ (rb:Nat) (ts:List Tok) (w:World),gj 208 rb w ts->Ends ts->eh w->14<=rb->ts.length<=n->
  Calls Tryz.prog 114 #[.pointer (some ⟨rb,0,none⟩)] w (SentEnd rb w (f ts))
set_option maxHeartbeats 800000 in
theorem single_any (n:Nat) (f:List Tok->Option (BT aO×List Tok)) (ih:SentOK n f) (rb:Nat) (ts:List Tok) (op:Int) (w:World) (h:gj 208 rb w ts) (he:Ends ts) (hg:eh w) (qx:14<=rb) (hn:ts.length<=n) :
  Calls Tryz.prog 157 #[.pointer (some ⟨rb,0,none⟩),.int .i32 op] w (SentEnd rb w (gO f op ts)):=by
 have hF:Hid (gO f op ts=match bX op ts with
  | none=>none
  | some ((a,b),t1)=>match f t1 with
   | none=>none
   | some (p,t2)=>some (mk op ByteArray.empty a b p .nil,t2)):=rfl
 generalize gO f op ts=res at *
 have hrl:=h.lt
 go_enter Tryz.func157,Tryz.ntmps157
 go_wp2_with fail
 refine (window_any rb ts op w h he hg qx).mono ?_
 rintro e w1 ⟨kK,⟨a,b,t1,h1,rfl,hr1⟩ | ⟨h1,fa,rfl⟩⟩
 rotate_left
 ·go_wp2_with fail
  go_ret2
  exact ⟨kK.alloc _,.inr ⟨by rw [hF.out];simp only [h1],fa,rfl⟩⟩
 obtain ⟨e1,l1⟩:=he.window h1
 have g1:eh (w1.alloc (.cells #[.int .i64 a,.int .i64 b] 140)):=(hg.only kK qx).below ((Below.refl _ _).al _)
 have k1:=aB w1 (.cells #[.int .i64 a,.int .i64 b] 140 (0,0)) _ rfl
 have hl1:=kK.size
 go_wp2_with fail
 refine (ih rb t1 _ (hr1.alloc _) e1 g1 qx (by omega)).mono ?_
 rintro e w2 ⟨jE,⟨x,t2,v,h2,rfl,hx,u7⟩ | ⟨h2,fa,rfl⟩⟩
 rotate_left
 ·have o2:=(kK.alloc _).trans jE
  clear k1 g1 jE h hg
  go_wp2_with fail
  go_ret2
  exact ⟨o2,.inr ⟨by rw [hF.out];simp only [h1,h2],fa,rfl⟩⟩
 have o2:=(kK.alloc _).trans jE
 have k2:=jE.heap k1 (by omega)
 have c0:=ae (i:=0) k2 rfl
 have c1:=ae (i:=1) k2 rfl
 have hF2:Hid (res=some (mk op ByteArray.empty a b x .nil,t2)):=by show _=_;rw [hF.out];simp only [h1,h2]
 have hl2:=o2.size
 clear k1 k2 g1 jE kK h hg hF h1 h2
 obtain ⟨vv,rfl⟩:∃ vv,v=Value.pointer vv:=by
  cases x with
  | nil=>exact ⟨_,hx⟩
  | node _ _ _ _ _=>obtain ⟨b,_,_,hb,_⟩:=hx;exact ⟨_,hb⟩
 go_wp2_with fail
 go_ret2
 refine ⟨o2.alloc _,.inl ⟨_,_,_,hF2.out,rfl,?_,u7.alloc _⟩⟩
 exact lA (by omega) (aB _ _ _ rfl) (hx.below ((Below.refl _ _).al _)) rfl
theorem mid_cases (sg:Int):((sg=8743\/sg=8744\/sg=83)/\((sg != 8743)=false\/((sg != 8743)=true/\(sg != 8744)=false)\/((sg != 8743)=true/\(sg != 8744)=true/\(sg != 83)=false)))
  \/(¬ (sg=8743\/sg=8744\/sg=83)/\(sg != 8743)=true/\(sg != 8744)=true/\(sg != 83)=true):=by
 by_cases h1:sg=8743
 ·subst h1;exact .inl ⟨.inl rfl,.inl rfl⟩
 ·by_cases h2:sg=8744
  ·subst h2;exact .inl ⟨.inr (.inl rfl),.inr (.inl ⟨rfl,rfl⟩)⟩
  ·by_cases h3:sg=83
   ·subst h3;exact .inl ⟨.inr (.inr rfl),.inr (.inr ⟨rfl,rfl,rfl⟩)⟩
   ·exact .inr ⟨by simp [h1,h2,h3],by simp [h1],by simp [h2],by simp [h3]⟩
set_option maxHeartbeats 2000000 in
theorem pair_any (n:Nat) (f:List Tok->Option (BT aO×List Tok)) (ih:SentOK n f) (hk:sU f) (rb:Nat) (ts:List Tok) (w:World) (h:gj 208 rb w ts) (he:Ends ts) (hg:eh w) (qx:14<=rb) (hn:ts.length<=n) :
  Calls Tryz.prog 156 #[.pointer (some ⟨rb,0,none⟩)] w (SentEnd rb w (oW f ts)):=by
 have hF:Hid (oW f ts=match f ts with
  | none=>none
  | some (p,t1) =>
   if (aH t1).1.sign=8743\/(aH t1).1.sign=8744\/(aH t1).1.sign=83 then
    match bX (aH t1).1.sign (aH t1).2 with
    | none=>none
    | some ((a,b),t2)=>match f t2 with
     | none=>none
     | some (q,t3)=>match bm 41 t3 with
      | none=>none
      | some t4=>some (mk (aH t1).1.sign ByteArray.empty a b p q,t4)
   else none):=rfl
 generalize oW f ts=res at *
 have hrl:=h.lt
 go_enter Tryz.func156,Tryz.ntmps156
 go_wp2_with fail
 refine (ih rb ts w h he hg qx hn).mono ?_
 rintro e w1 ⟨kK,⟨x,t1,v,h1,rfl,qy,hr1⟩ | ⟨h1,fa,rfl⟩⟩
 rotate_left
 ·go_wp2_with fail
  go_ret2
  exact ⟨kK,.inr ⟨by rw [hF.out];simp only [h1],fa,rfl⟩⟩
 obtain ⟨e1,l1⟩:=hk _ _ _ he h1
 have g1:=hg.only kK qx
 have z1:=kK.size
 obtain ⟨vx,rfl⟩:=gZ qy
 clear h hg
 go_wp2_with fail
 refine (ky rb t1 _ hr1 e1).mono ?_
 rintro e w2 ⟨rfl,jE,u7⟩
 obtain ⟨e2,l2,_⟩:=e1.take
 have hF2:Hid (res=if (aH t1).1.sign=8743\/(aH t1).1.sign=8744\/(aH t1).1.sign=83 then
    match bX (aH t1).1.sign (aH t1).2 with
    | none=>none
    | some ((a,b),t2)=>match f t2 with
     | none=>none
     | some (q,t3)=>match bm 41 t3 with
      | none=>none
      | some t4=>some (mk (aH t1).1.sign ByteArray.empty a b x q,t4)
   else none):=by show _=_;rw [hF.out];simp only [h1]
 have hx2:=qy.only jE (by omega)
 have o2:=kK.trans jE
 have g2:=g1.only jE qx
 clear hF h1 kK hr1 e1 qy g1 jE
 generalize (aH t1).2=u1 at *
 generalize (aH t1).1.sign=sg at *
 generalize (aH t1).1.place=pl at *
 generalize (aH t1).1.word=wd at *
 have z2:=o2.size
 rcases mid_cases sg with ⟨aN,hq⟩ | ⟨aN,q1,q2,q3⟩
 rotate_left
 ·have hF3:Hid (res=none):=by show _=_;rw [hF2.out,if_neg aN]
  clear hF2 aN
  go_wp2_with fail
  go_region
  all_goals go_wp2
  all_goals go_ret2
  all_goals exact ⟨by repeat (first | exact o2 | refine Only.drew ?_ | refine Only.alloc ?_ _),.inr ⟨hF3.out,_,rfl⟩⟩
 have hF3:Hid (res=match bX sg u1 with
    | none=>none
    | some ((a,b),t2)=>match f t2 with
     | none=>none
     | some (q,t3)=>match bm 41 t3 with
      | none=>none
      | some t4=>some (mk sg ByteArray.empty a b x q,t4)):=by show _=_;rw [hF2.out,if_pos aN]
 have k2:=aB w2 (.cells #[.int .i32 sg,.int .i64 pl,.string wd] 260 (0,0)) _ rfl
 have g2':eh (w2.alloc (.cells #[.int .i32 sg,.int .i64 pl,.string wd] 260 (0,0))):=g2.below ((Below.refl _ _).al _)
 have hx2':=hx2.below ((Below.refl _ _).al (.cells #[.int .i32 sg,.int .i64 pl,.string wd] 260 (0,0)))
 clear hF2 aN g2 hx2
 rcases hq with q1 | ⟨q1,q2⟩ | ⟨q1,q2,q3⟩
 all_goals
  go_wp2_with fail
  refine (window_any rb u1 sg _ (u7.alloc _) e2 g2' qx).mono ?_
  rintro e w3 ⟨n_,⟨a,b,t3,h3,rfl,hr3⟩ | ⟨h3,fa,rfl⟩⟩
  rotate_left
  ·have o3:=(o2.alloc _).trans n_
   clear hx2' k2 g2' n_
   go_wp2_with fail
   go_ret2
   exact ⟨o3.alloc _,.inr ⟨by rw [hF3.out];simp only [h3],fa,rfl⟩⟩
  obtain ⟨e3,l3⟩:=e2.window h3
  have o3:=(o2.alloc _).trans n_
  have g3:eh (w3.alloc (.cells #[.int .i64 a,.int .i64 b] 140)):=(g2'.only n_ qx).below ((Below.refl _ _).al _)
  have k3:=aB w3 (.cells #[.int .i64 a,.int .i64 b] 140 (0,0)) _ rfl
  have hx3:=(hx2'.only n_ (by omega)).below ((Below.refl _ _).al (.cells #[.int .i64 a,.int .i64 b] 140 (0,0)))
  have z3:=o3.size
  clear hx2' k2 g2' n_ u7
  go_wp2_with fail
  refine (ih rb t3 _ (hr3.alloc _) e3 g3 qx (by omega)).mono ?_
  rintro e w4 ⟨ho4,⟨y,t4,vy,h4,rfl,hy4,hr4⟩ | ⟨h4,fa,rfl⟩⟩
  rotate_left
  ·have o4:=(o3.alloc _).trans ho4
   clear hx3 k3 g3 ho4
   go_wp2_with fail
   go_ret2
   exact ⟨o4,.inr ⟨by rw [hF3.out];simp only [h3,h4],fa,rfl⟩⟩
  obtain ⟨e4,l4⟩:=hk _ _ _ e3 h4
  have o4:=(o3.alloc _).trans ho4
  have k4:=ho4.heap k3 (by omega)
  have hx4:=hx3.only ho4 (by omega)
  have z4:=o4.size
  obtain ⟨vy,rfl⟩:=gZ hy4
  clear hx3 k3 g3 ho4 hr3
  go_wp2_with fail
  refine (mA rb t4 41 _ _ hr4 e4).mono ?_
  rintro e w5 ⟨ho5,⟨t5,h5,rfl,hr5⟩ | ⟨h5,fa,rfl⟩⟩
  rotate_left
  ·have o5:=o4.trans ho5
   clear hx4 k4 hy4 ho5
   go_wp2_with fail
   go_ret2
   exact ⟨o5,.inr ⟨by rw [hF3.out];simp only [h3,h4,h5],fa,rfl⟩⟩
  have o5:=o4.trans ho5
  have k5:=ho5.heap k4 (by omega)
  have hx5:=hx4.only ho5 (by omega)
  have hy5:=hy4.only ho5 (by omega)
  have z5:=o5.size
  have c0:=ae (i:=0) k5 rfl
  have c1:=ae (i:=1) k5 rfl
  have hF5:Hid (res=some (mk sg ByteArray.empty a b x y,t5)):=by show _=_;rw [hF3.out];simp only [h3,h4,h5]
  clear hx4 k4 hy4 ho5 k5 hF3 h3 h4 h5
  go_wp2_with fail
  go_ret2
  refine ⟨o5.alloc _,.inl ⟨_,_,_,hF5.out,rfl,?_,hr5.alloc _⟩⟩
  exact lA (by omega) (aB _ _ _ rfl) (hx5.below ((Below.refl _ _).al _)) (hy5.below ((Below.refl _ _).al _))
theorem first_cases (sg:Int):(sg=97/\(sg==97)=true)\/(sg=40/\(sg==97)=false/\(sg==40)=true)
  \/((¬ sg=97/\¬ sg=40/\(sg=172\/sg=89\/sg=79\/sg=72))/\(sg==97)=false/\(sg==40)=false/\((sg==172)=true\/((sg==172)=false/\(sg==89)=true)\/((sg==172)=false/\(sg==89)=false/\(sg==79)=true)\/((sg==172)=false/\(sg==89)=false/\(sg==79)=false/\(sg==72)=true)))
  \/((¬ sg=97/\¬ sg=40/\¬ (sg=172\/sg=89\/sg=79\/sg=72))/\(sg==97)=false/\(sg==40)=false/\(sg==172)=false/\(sg==89)=false/\(sg==79)=false/\(sg==72)=false):=by
 by_cases h1:sg=97
 ·exact .inl ⟨h1,by simp [h1]⟩
 by_cases h2:sg=40
 ·exact .inr (.inl ⟨h2,by simp [h2],by simp [h2]⟩)
 by_cases h3:sg=172
 ·exact .inr (.inr (.inl ⟨⟨h1,h2,.inl h3⟩,by simp [h1],by simp [h2],.inl (by simp [h3])⟩))
 by_cases h4:sg=89
 ·exact .inr (.inr (.inl ⟨⟨h1,h2,.inr (.inl h4)⟩,by simp [h1],by simp [h2],.inr (.inl ⟨by simp [h3],by simp [h4]⟩)⟩))
 by_cases h5:sg=79
 ·exact .inr (.inr (.inl ⟨⟨h1,h2,.inr (.inr (.inl h5))⟩,by simp [h1],by simp [h2],.inr (.inr (.inl ⟨by simp [h3],by simp [h4],by simp [h5]⟩))⟩))
 by_cases h6:sg=72
 ·exact .inr (.inr (.inl ⟨⟨h1,h2,.inr (.inr (.inr h6))⟩,by simp [h1],by simp [h2],.inr (.inr (.inr ⟨by simp [h3],by simp [h4],by simp [h5],by simp [h6]⟩))⟩))
 ·exact .inr (.inr (.inr ⟨⟨h1,h2,by simp [h3,h4,h5,h6]⟩,by simp [h1],by simp [h2],by simp [h3],by simp [h4],by simp [h5],by simp [h6]⟩))
theorem word_any (t:Tok) (w:World) (hs:t.word.size<=300) :
  Calls Tryz.prog 155 #[.agg #[.int .i32 t.sign,.int .i64 t.place,.string t.word]] w fun e w'=>Below w.heap.size w w'/\((∃ x v,jr t=some x/\e=.returned (.tuple #[v,.nilIface])/\aC 143 w.heap.size w' x v)\/(jr t=none/\∃ fa,e=.returned (.tuple #[.pointer none,.iface 201 (.pointer (some fa))]))):=by
 by_cases ht:t.word=vU
 ·rw [ht]
  refine (word_true t.sign t.place w).mono ?_
  rintro e w' ⟨v,rfl,hx,hb⟩
  exact ⟨hb,.inl ⟨_,v,by unfold jr;rw [if_pos ht],rfl,hx⟩⟩
 ·have ht':(t.word.toList==[116,114,117,101])=false:=by
   rw [beq_eq_false_iff_ne,Lib.toList_data]
   intro h
   exact ht (rX h)
  by_cases hl:8<t.word.size
  ·refine (word_long t.sign t.place t.word w ht' hl (by unfold maxLen;omega)).mono ?_
   rintro e w' ⟨fa,rfl,hb⟩
   exact ⟨hb,.inr ⟨by unfold jr;rw [if_neg ht,if_pos hl],fa,rfl⟩⟩
  ·refine (word_name t.sign t.place t.word w ht' (by omega)).mono ?_
   rintro e w' ⟨v,rfl,hx,hb⟩
   exact ⟨hb,.inl ⟨_,v,by unfold jr;rw [if_neg ht,if_neg hl],rfl,hx⟩⟩
set_option maxHeartbeats 2000000 in
theorem sentence_step (n:Nat) (f:List Tok->Option (BT aO×List Tok)) (ih:SentOK n f) (hk:sU f):SentOK (n+1) (jG f):=by
 intro rb ts w h he hg qx hn
 have hF:Hid (jG f ts=if (aH ts).1.sign=97 then (jr (aH ts).1).map fun x=>(x,(aH ts).2)
  else if (aH ts).1.sign=40 then oW f (aH ts).2
  else if (aH ts).1.sign=172\/(aH ts).1.sign=89\/(aH ts).1.sign=79\/(aH ts).1.sign=72 then gO f (aH ts).1.sign (aH ts).2
  else none):=rfl
 generalize jG f ts=res at *
 have hrl:=h.lt
 have rE:=ky rb ts w h he
 obtain ⟨e1,l1,l1'⟩:=he.take
 have hwd:=he.word
 clear he h
 generalize (aH ts).1=t at *
 generalize (aH ts).2=u at *
 rcases first_cases t.sign with ⟨hs,q1⟩ | ⟨hs,q1,q2⟩ | ⟨hs,q1,q2,hq⟩ | ⟨hs,q1,q2,q3,q4,q5,q6⟩
 ·have hF1:Hid (res=(jr t).map fun x=>(x,u)):=by show _=_;rw [hF.out,if_pos hs]
  clear hs hF l1'
  go_enter Tryz.func114,Tryz.ntmps114
  go_wp2_with fail
  refine rE.mono ?_
  rintro e w1 ⟨rfl,kK,hr1⟩
  have z1:=kK.size
  go_wp2_with fail
  refine (word_any t _ hwd).mono ?_
  rintro e w2 ⟨hb,⟨x,v,hx,rfl,qz⟩ | ⟨hx,fa,rfl⟩⟩
  ·have o2:=(kK.alloc _).tb hb
   have r2:=(hr1.alloc _).below hb
   have hxa':=qz.low (B':=rb+1) (by simp;omega)
   have hF2:Hid (res=some (x,u)):=by show _=_;rw [hF1.out,hx];rfl
   obtain ⟨vx,rfl⟩:=gZ qz
   clear hb qz hx hF1
   go_wp2_with fail
   go_ret2
   exact ⟨o2,.inl ⟨_,_,_,hF2.out,rfl,hxa',r2⟩⟩
  ·have o2:=(kK.alloc _).tb hb
   have hF2:Hid (res=none):=by show _=_;rw [hF1.out,hx];rfl
   clear hb hx hF1
   go_wp2_with fail
   go_ret2
   exact ⟨o2,.inr ⟨hF2.out,_,rfl⟩⟩
 ·have hF1:Hid (res=oW f u):=by show _=_;rw [hF.out,if_neg (by omega),if_pos hs]
  have l2:=l1' (by omega)
  have qp:Hid (t.sign=40):=hs
  clear hs hF l1'
  go_enter Tryz.func114,Tryz.ntmps114
  go_wp2_with fail
  refine rE.mono ?_
  rintro e w1 ⟨rfl,kK,hr1⟩
  have z1:=kK.size
  go_wp2_with fail
  refine (pair_any n f ih hk rb u _ (hr1.alloc _) e1 ((hg.only kK qx).below ((Below.refl _ _).al _)) qx (by omega)).mono ?_
  rintro e w2 ⟨jE,⟨x,r,v,hx,rfl,qz,u7⟩ | ⟨hx,fa,rfl⟩⟩
  ·have o2:=(kK.alloc _).trans jE
   have hF2:Hid (res=some (x,r)):=by show _=_;rw [hF1.out,hx]
   obtain ⟨vx,rfl⟩:=gZ qz
   clear jE hx hF1
   go_wp2_with fail
   go_ret2
   exact ⟨o2,.inl ⟨_,_,_,hF2.out,rfl,qz,u7⟩⟩
  ·have o2:=(kK.alloc _).trans jE
   have hF2:Hid (res=none):=by show _=_;rw [hF1.out,hx]
   clear jE hx hF1
   go_wp2_with fail
   go_ret2
   exact ⟨o2,.inr ⟨hF2.out,_,rfl⟩⟩
 ·have hF1:Hid (res=gO f t.sign u):=by show _=_;rw [hF.out,if_neg hs.1,if_neg hs.2.1,if_pos hs.2.2]
  have l2:=l1' (by omega)
  clear hs hF l1'
  rcases hq with q3 | ⟨q3,q4⟩ | ⟨q3,q4,q5⟩ | ⟨q3,q4,q5,q6⟩
  all_goals
   go_enter Tryz.func114,Tryz.ntmps114
   go_wp2_with fail
   refine rE.mono ?_
   rintro e w1 ⟨rfl,kK,hr1⟩
   have z1:=kK.size
   go_wp2_with fail
   refine (single_any n f ih rb u t.sign _ (hr1.alloc _) e1 ((hg.only kK qx).below ((Below.refl _ _).al _)) qx (by omega)).mono ?_
   rintro e w2 ⟨jE,⟨x,r,v,hx,rfl,qz,u7⟩ | ⟨hx,fa,rfl⟩⟩
   ·have o2:=(kK.alloc _).trans jE
    have hF2:Hid (res=some (x,r)):=by show _=_;rw [hF1.out,hx]
    obtain ⟨vx,rfl⟩:=gZ qz
    clear jE hx hF1
    go_wp2_with fail
    go_ret2
    exact ⟨o2,.inl ⟨_,_,_,hF2.out,rfl,qz,u7⟩⟩
   ·have o2:=(kK.alloc _).trans jE
    have hF2:Hid (res=none):=by show _=_;rw [hF1.out,hx]
    clear jE hx hF1
    go_wp2_with fail
    go_ret2
    exact ⟨o2,.inr ⟨hF2.out,_,rfl⟩⟩
 ·have hF1:Hid (res=none):=by show _=_;rw [hF.out,if_neg hs.1,if_neg hs.2.1,if_neg hs.2.2]
  clear hs hF l1'
  go_enter Tryz.func114,Tryz.ntmps114
  go_wp2_with fail
  refine rE.mono ?_
  rintro e w1 ⟨rfl,kK,hr1⟩
  go_wp2_with fail
  go_region
  all_goals go_wp2
  all_goals go_ret2
  all_goals exact ⟨by repeat (first | exact kK | refine Only.drew ?_ | refine Only.alloc ?_ _),.inr ⟨hF1.out,_,rfl⟩⟩
theorem vG:∀ n,SentOK n (gT n)
 | 0=>fun rb ts w h he _ _ hn=>by
  obtain ⟨t,r,rfl⟩:=he.cons
  simp at hn
 | n+1=>sentence_step n (gT n) (vG n) (nG n)
end Go.Proofs.YtpbbmagjhkakgaaGreatDoor
