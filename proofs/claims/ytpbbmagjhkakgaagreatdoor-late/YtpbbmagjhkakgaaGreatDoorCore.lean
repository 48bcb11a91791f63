
import Derived.Test.YtpbbmagjhkakgaaGreatDoorShelfToPureScan
import Derived.Test.YtpbbmagjhkakgaaGreatDoorPureTreeToPureTab
import Derived.Test.YtpbbmagjhkakgaaGreatDoorProg
import Derived.Deep.RegionHeld
namespace Go.Proofs.YtpbbmagjhkakgaaGreatDoor
open Go.RowKit Go.Deep
set_option maxHeartbeats 400000 in
theorem not_any (x:BT Pay) (hx:x≠.nil) (v:Value) (Bt:Nat) (w:World) (hs:SentAt 143 Bt w x v) (hBt:Bt<=w.heap.size) :
  Calls Tryz.prog 123 #[v] w fun e w'=>∃ p,e=.returned (.pointer p)/\SentAt 143 Bt w' (notT x) (.pointer p)/\Below w.heap.size w w':=by
 cases x with
 | nil=>exact absurd rfl hx
 | node b0 o0 a l r =>
  have hs':=hs
  obtain ⟨sb,vl,vr,rfl,hB,hh,hl,hr⟩:=hs
  have c0:=cell_at (i:=0) hh rfl
  have c4:=cell_at (i:=4) hh rfl
  obtain ⟨pl,rfl⟩:=sent_ptr hl
  by_cases ho:a.op=172
  ·have hN:notT (.node b0 o0 a l r)=l:=by simp [notT,ho]
   rw [hN]
   have q:(a.op==172)=true:=by simp [ho]
   clear ho hN
   go_enter Tryz.func123,Tryz.ntmps123
   go_wp2_with fail
   go_ret
   exact ⟨_,rfl,hl,Below.refl _ _⟩
  ·have hN:notT (.node b0 o0 a l r)=mk 172 ByteArray.empty 0 0 (.node b0 o0 a l r) .nil:=by simp [notT,ho]
   rw [hN]
   have q:(a.op==172)=false:=by simp [ho]
   clear ho hN
   go_enter Tryz.func123,Tryz.ntmps123
   go_wp2_with fail
   go_ret
   exact ⟨_,rfl,sent_mk hBt (heap_new _ _ _ rfl) (SentAt.below hs' ((Below.refl _ _).al _)) rfl,(Below.refl _ _).al _⟩
def OfOK (x:BT Pay):Prop:=∀ (v:Value) (Bt:Nat) (w:World),SentAt 143 Bt w x v->Good x->Bt<=w.heap.size->
 Calls Tryz.prog 84 #[v] w fun e w'=>∃ p,e=.returned (.pointer p)/\SentAt 143 Bt w' (coreT x) (.pointer p)/\Below w.heap.size w w'
def Stands (w:World) (sb:Nat) (a:Pay) (vl vr:Value) (w':World):Prop :=
 w'.cell? ⟨sb,0,none⟩=some (.int .i32 a.op)/\w'.cell? ⟨sb,2,none⟩=some (.int .i64 a.lo)/\w'.cell? ⟨sb,3,none⟩=some (.int .i64 a.hi)/\w'.cell? ⟨sb,4,none⟩=some vl/\w'.cell? ⟨sb,5,none⟩=some vr/\Below w.heap.size w w'
theorem stands_of {w w':World} {sb:Nat} {a:Pay} {vl vr:Value} (hh:w.heap[sb]? = some (.cells #[.int .i32 a.op,.string a.name,.int .i64 a.lo,.int .i64 a.hi,vl,vr] 143 (0,0))) (hb:Below w.heap.size w w'):Stands w sb a vl vr w':=by
 have h:=hb.heapOf hh
 exact ⟨cell_at h rfl,cell_at h rfl,cell_at h rfl,cell_at h rfl,cell_at h rfl,hb⟩
set_option maxHeartbeats 2000000 in
theorem of_pair (b0 o0:Nat) (a:Pay) (l r:BT Pay) (hop:a.op=8743\/a.op=83) (il:OfOK l) (ir:OfOK r) (gl:Good l) (gr:Good r) (v:Value) (Bt:Nat) (w:World) (hs:SentAt 143 Bt w (.node b0 o0 a l r) v) (hBt:Bt<=w.heap.size) :
  Calls Tryz.prog 84 #[v] w fun e w'=>∃ p,e=.returned (.pointer p)/\SentAt 143 Bt w' (mk a.op ByteArray.empty a.lo a.hi (coreT l) (coreT r)) (.pointer p)/\Below w.heap.size w w':=by
 obtain ⟨sb,vl,vr,rfl,hB,hh,hl,hr⟩:=hs
 have hst:∀ w',Below w.heap.size w w'->Stands w sb a vl vr w':=fun w' h=>stands_of hh h
 have Hst:Hid (∀ w',Below w.heap.size w w'->Stands w sb a vl vr w'):=hst
 have c0:=cell_at (i:=0) hh rfl
 have hq:(a.op==116)=false/\(a.op==97)=false/\(a.op==172)=false/\(a.op==8744)=false/\(a.op==72)=false/\(a.op==89)=false/\(a.op==79)=false:=by
  rcases hop with h1 | h1<;>rw [h1]<;>decide
 obtain ⟨q1,q2,q3,q4,q5,q6,q7⟩:=hq
 clear hst hop hh
 go_enter Tryz.func84,Tryz.ntmps84
 go_wp2_with fail
 go_region_held (fun w'=>w'.cell? ⟨sb,0,none⟩=some (.int .i32 a.op)/\w'.cell? ⟨sb,2,none⟩=some (.int .i64 a.lo)/\w'.cell? ⟨sb,3,none⟩=some (.int .i64 a.hi)/\w'.cell? ⟨sb,4,none⟩=some vl/\w'.cell? ⟨sb,5,none⟩=some vr/\Below w.heap.size w w')
  ((refine Hst.out _ ?_;first | exact (Below.refl _ _).drew | exact (Below.refl w.heap.size w).drew.trans hb1 | exact ((Below.refl w.heap.size w).drew.trans hb1).tr hb2 | exact (((Below.refl w.heap.size w).drew.trans hb1).tr hb2).al _))
  (first
   | (go_at_call_of 84 (vl);refine (il vl Bt _ ?_ gl ?_).mono ?_;exact hl.below (Below.refl _ _).drew;exact hBt;rintro e w1 ⟨v1,rfl,hs1,hb1⟩)
   | (go_at_call_of 84 (vr);refine (ir vr Bt _ ?_ gr ?_).mono ?_;exact hr.below ((Below.refl w.heap.size w).drew.trans hb1);exact Nat.le_trans hBt hb1.size;rintro e w2 ⟨v2,rfl,hs2,hb2⟩))
 all_goals go_wp2_with fail
 all_goals go_ret
 all_goals exact ⟨_,rfl,sent_mk (Nat.le_trans hBt (Nat.le_trans hb1.size hb2.size)) (heap_new _ _ _ rfl) ((hs1.below hb2).below ((Below.refl _ _).al _)) (hs2.below ((Below.refl _ _).al _)),(((Below.refl w.heap.size w).drew.trans hb1).tr hb2).al _⟩
set_option maxHeartbeats 4000000 in
theorem of_not (b0 o0:Nat) (a:Pay) (l r:BT Pay) (hop:a.op=172) (il:OfOK l) (gl:Good l) (v:Value) (Bt:Nat) (w:World) (hs:SentAt 143 Bt w (.node b0 o0 a l r) v) (hBt:Bt<=w.heap.size) :
  Calls Tryz.prog 84 #[v] w fun e w'=>∃ p,e=.returned (.pointer p)/\SentAt 143 Bt w' (notT (coreT l)) (.pointer p)/\Below w.heap.size w w':=by
 obtain ⟨sb,vl,vr,rfl,hB,hh,hl,hr⟩:=hs
 have hst:∀ w',Below w.heap.size w w'->Stands w sb a vl vr w':=fun w' h=>stands_of hh h
 have Hst:Hid (∀ w',Below w.heap.size w w'->Stands w sb a vl vr w'):=hst
 have c0:=cell_at (i:=0) hh rfl
 have c4:=cell_at (i:=4) hh rfl
 have hq:(a.op==116)=false/\(a.op==97)=false/\(a.op==172)=true:=by
  rw [hop];decide
 obtain ⟨q1,q2,q3⟩:=hq
 clear hst hop hh
 go_enter Tryz.func84,Tryz.ntmps84
 go_wp2_with fail
 refine (il vl Bt _ hl gl hBt).mono ?_
 rintro e w1 ⟨p1,rfl,hs1,hb1⟩
 go_wp2_with fail
 refine (not_any (coreT l) (good_core gl).ne _ Bt _ hs1 (Nat.le_trans hBt hb1.size)).mono ?_
 rintro e w2 ⟨p2,rfl,hs2,hb2⟩
 go_wp2_with fail
 go_ret
 exact ⟨_,rfl,hs2,hb1.tr hb2⟩
set_option maxHeartbeats 4000000 in
theorem of_one (b0 o0:Nat) (a:Pay) (l r:BT Pay) (hop:a.op=89\/a.op=79) (il:OfOK l) (gl:Good l) (v:Value) (Bt:Nat) (w:World) (hs:SentAt 143 Bt w (.node b0 o0 a l r) v) (hBt:Bt<=w.heap.size) :
  Calls Tryz.prog 84 #[v] w fun e w'=>∃ p,e=.returned (.pointer p)/\SentAt 143 Bt w' (mk a.op ByteArray.empty a.lo a.hi (coreT l) .nil) (.pointer p)/\Below w.heap.size w w':=by
 obtain ⟨sb,vl,vr,rfl,hB,hh,hl,hr⟩:=hs
 have hst:∀ w',Below w.heap.size w w'->Stands w sb a vl vr w':=fun w' h=>stands_of hh h
 have Hst:Hid (∀ w',Below w.heap.size w w'->Stands w sb a vl vr w'):=hst
 have c0:=cell_at (i:=0) hh rfl
 have hq:(a.op==116)=false/\(a.op==97)=false/\(a.op==172)=false/\(a.op==8744)=false/\(a.op==72)=false/\((a.op==89)=true\/((a.op==89)=false/\(a.op==79)=true)):=by
  rcases hop with h1 | h1<;>rw [h1]<;>decide
 obtain ⟨q1,q2,q3,q4,q5,hq⟩:=hq
 clear hst hop hh
 rcases hq with q6 | ⟨q6,q7⟩
 all_goals
  go_enter Tryz.func84,Tryz.ntmps84
  go_wp2_with fail
  go_region_held (fun w'=>w'.cell? ⟨sb,0,none⟩=some (.int .i32 a.op)/\w'.cell? ⟨sb,2,none⟩=some (.int .i64 a.lo)/\w'.cell? ⟨sb,3,none⟩=some (.int .i64 a.hi)/\w'.cell? ⟨sb,4,none⟩=some vl/\w'.cell? ⟨sb,5,none⟩=some vr/\Below w.heap.size w w')
   ((refine Hst.out _ ?_;first | exact (Below.refl _ _).drew | exact (Below.refl w.heap.size w).drew.trans hb1 | exact ((Below.refl w.heap.size w).drew.trans hb1).al _))
   (first
    | (go_at_call_of 84 (vl);refine (il vl Bt _ ?_ gl ?_).mono ?_;exact hl.below (Below.refl _ _).drew;exact hBt;rintro e w1 ⟨v1,rfl,hs1,hb1⟩))
  all_goals go_wp2_with fail
  all_goals go_ret
  all_goals exact ⟨_,rfl,sent_mk (Nat.le_trans hBt hb1.size) (heap_new _ _ _ rfl) (hs1.below ((Below.refl _ _).al _)) rfl,((Below.refl w.heap.size w).drew.trans hb1).al _⟩
set_option maxHeartbeats 4000000 in
theorem of_always (b0 o0:Nat) (a:Pay) (l r:BT Pay) (hop:a.op=72) (il:OfOK l) (gl:Good l) (v:Value) (Bt:Nat) (w:World) (hs:SentAt 143 Bt w (.node b0 o0 a l r) v) (hBt:Bt<=w.heap.size) :
  Calls Tryz.prog 84 #[v] w fun e w'=>∃ p,e=.returned (.pointer p)/\SentAt 143 Bt w' (notT (mk 79 ByteArray.empty a.lo a.hi (notT (coreT l)) .nil)) (.pointer p)/\Below w.heap.size w w':=by
 obtain ⟨sb,vl,vr,rfl,hB,hh,hl,hr⟩:=hs
 have hst:∀ w',Below w.heap.size w w'->Stands w sb a vl vr w':=fun w' h=>stands_of hh h
 have Hst:Hid (∀ w',Below w.heap.size w w'->Stands w sb a vl vr w'):=hst
 have c0:=cell_at (i:=0) hh rfl
 have hq:(a.op==116)=false/\(a.op==97)=false/\(a.op==172)=false/\(a.op==8744)=false/\(a.op==72)=true:=by
  rw [hop];decide
 obtain ⟨q1,q2,q3,q4,q5⟩:=hq
 clear hst hop hh
 have ne1:=(good_core gl).ne
 have ne2:mk 79 ByteArray.empty a.lo a.hi (notT (coreT l)) .nil≠.nil:=by intro h;cases h
 go_enter Tryz.func84,Tryz.ntmps84
 go_wp2_with fail
 go_region_held (fun w'=>w'.cell? ⟨sb,0,none⟩=some (.int .i32 a.op)/\w'.cell? ⟨sb,2,none⟩=some (.int .i64 a.lo)/\w'.cell? ⟨sb,3,none⟩=some (.int .i64 a.hi)/\w'.cell? ⟨sb,4,none⟩=some vl/\w'.cell? ⟨sb,5,none⟩=some vr/\Below w.heap.size w w')
  ((refine Hst.out _ ?_;first | exact (Below.refl _ _).drew | exact (Below.refl w.heap.size w).drew.trans hb1 | exact ((Below.refl w.heap.size w).drew.trans hb1).tr hb2 | exact (((Below.refl w.heap.size w).drew.trans hb1).tr hb2).al _ | exact ((((Below.refl w.heap.size w).drew.trans hb1).tr hb2).al _).tr hb3))
  (first
   | (go_at_call_of 84 (vl);refine (il vl Bt _ ?_ gl ?_).mono ?_;exact hl.below (Below.refl _ _).drew;exact hBt;rintro e w1 ⟨v1,rfl,hs1,hb1⟩)
   | (go_at_call_of 123 (Value.pointer v1);refine (not_any (coreT l) ne1 _ Bt _ hs1 ?_).mono ?_;exact Nat.le_trans hBt hb1.size;rintro e w2 ⟨v2,rfl,hs2,hb2⟩)
   | (go_at_call 123;refine (not_any _ ne2 _ Bt _ (sent_mk (Nat.le_trans hBt (Nat.le_trans hb1.size hb2.size)) (heap_new _ _ _ rfl) (hs2.below ((Below.refl _ _).al _)) rfl) ?_).mono ?_;exact Nat.le_trans hBt (Nat.le_trans hb1.size (Nat.le_trans hb2.size (by simp)));rintro e w3 ⟨v3,rfl,hs3,hb3⟩))
 all_goals go_wp2_with fail
 all_goals go_ret
 all_goals exact ⟨_,rfl,hs3,((((Below.refl w.heap.size w).drew.trans hb1).tr hb2).al _).tr hb3⟩
set_option maxHeartbeats 4000000 in
theorem of_or (b0 o0:Nat) (a:Pay) (l r:BT Pay) (hop:a.op=8744) (il:OfOK l) (ir:OfOK r) (gl:Good l) (gr:Good r) (v:Value) (Bt:Nat) (w:World) (hs:SentAt 143 Bt w (.node b0 o0 a l r) v) (hBt:Bt<=w.heap.size) :
  Calls Tryz.prog 84 #[v] w fun e w'=>∃ p,e=.returned (.pointer p)/\SentAt 143 Bt w' (notT (mk 8743 ByteArray.empty 0 0 (notT (coreT l)) (notT (coreT r)))) (.pointer p)/\Below w.heap.size w w':=by
 obtain ⟨sb,vl,vr,rfl,hB,hh,hl,hr⟩:=hs
 have hst:∀ w',Below w.heap.size w w'->Stands w sb a vl vr w':=fun w' h=>stands_of hh h
 have Hst:Hid (∀ w',Below w.heap.size w w'->Stands w sb a vl vr w'):=hst
 have c0:=cell_at (i:=0) hh rfl
 have hq:(a.op==116)=false/\(a.op==97)=false/\(a.op==172)=false/\(a.op==8744)=true:=by
  rw [hop];decide
 obtain ⟨q1,q2,q3,q4⟩:=hq
 clear hst hop hh
 have ne1:=(good_core gl).ne
 have ne2:=(good_core gr).ne
 have ne3:mk 8743 ByteArray.empty 0 0 (notT (coreT l)) (notT (coreT r))≠.nil:=by intro h;cases h
 go_enter Tryz.func84,Tryz.ntmps84
 go_wp2_with fail
 go_region_held (fun w'=>w'.cell? ⟨sb,0,none⟩=some (.int .i32 a.op)/\w'.cell? ⟨sb,2,none⟩=some (.int .i64 a.lo)/\w'.cell? ⟨sb,3,none⟩=some (.int .i64 a.hi)/\w'.cell? ⟨sb,4,none⟩=some vl/\w'.cell? ⟨sb,5,none⟩=some vr/\Below w.heap.size w w')
  ((refine Hst.out _ ?_;first | exact (Below.refl _ _).drew | exact (Below.refl w.heap.size w).drew.trans hb1 | exact ((Below.refl w.heap.size w).drew.trans hb1).tr hb2 | exact (((Below.refl w.heap.size w).drew.trans hb1).tr hb2).tr hb3 | exact ((((Below.refl w.heap.size w).drew.trans hb1).tr hb2).tr hb3).tr hb4 | exact (((((Below.refl w.heap.size w).drew.trans hb1).tr hb2).tr hb3).tr hb4).al _ | exact ((((((Below.refl w.heap.size w).drew.trans hb1).tr hb2).tr hb3).tr hb4).al _).tr hb5))
  (first
   | (go_at_call_of 84 (vl);refine (il vl Bt _ ?_ gl ?_).mono ?_;exact hl.below (Below.refl _ _).drew;exact hBt;rintro e w1 ⟨v1,rfl,hs1,hb1⟩)
   | (go_at_call_of 123 (Value.pointer v1);refine (not_any (coreT l) ne1 _ Bt _ hs1 ?_).mono ?_;exact Nat.le_trans hBt hb1.size;rintro e w2 ⟨v2,rfl,hs2,hb2⟩)
   | (go_at_call_of 84 (vr);refine (ir vr Bt _ ?_ gr ?_).mono ?_;exact hr.below (((Below.refl w.heap.size w).drew.trans hb1).tr hb2);exact Nat.le_trans hBt (Nat.le_trans hb1.size hb2.size);rintro e w3 ⟨v3,rfl,hs3,hb3⟩)
   | (go_at_call_of 123 (Value.pointer v3);refine (not_any (coreT r) ne2 _ Bt _ hs3 ?_).mono ?_;exact Nat.le_trans hBt (Nat.le_trans hb1.size (Nat.le_trans hb2.size hb3.size));rintro e w4 ⟨v4,rfl,hs4,hb4⟩)
   | (go_at_call 123;refine (not_any _ ne3 _ Bt _ (sent_mk (Nat.le_trans hBt (Nat.le_trans hb1.size (Nat.le_trans hb2.size (Nat.le_trans hb3.size hb4.size)))) (heap_new _ _ _ rfl) (((hs2.below hb3).below hb4).below ((Below.refl _ _).al _)) (hs4.below ((Below.refl _ _).al _))) ?_).mono ?_;exact Nat.le_trans hBt (Nat.le_trans hb1.size (Nat.le_trans hb2.size (Nat.le_trans hb3.size (Nat.le_trans hb4.size (by simp)))));rintro e w5 ⟨v5,rfl,hs5,hb5⟩))
 all_goals go_wp2_with fail
 all_goals go_ret
 all_goals exact ⟨_,rfl,hs5,((((((Below.refl w.heap.size w).drew.trans hb1).tr hb2).tr hb3).tr hb4).al _).tr hb5⟩
set_option maxHeartbeats 400000 in
theorem of_leaf (b0 o0:Nat) (a:Pay) (l r:BT Pay) (hop:a.op=116\/a.op=97) (v:Value) (Bt:Nat) (w:World) (hs:SentAt 143 Bt w (.node b0 o0 a l r) v) :
  Calls Tryz.prog 84 #[v] w fun e w'=>∃ p,e=.returned (.pointer p)/\SentAt 143 Bt w' (.node b0 o0 a l r) (.pointer p)/\Below w.heap.size w w':=by
 have hs':=hs
 obtain ⟨sb,vl,vr,rfl,hB,hh,hl,hr⟩:=hs
 have c0:=cell_at (i:=0) hh rfl
 rcases hop with hop | hop
 all_goals
  rw [hop] at c0
  clear hop
  go_enter Tryz.func84,Tryz.ntmps84
  go_wp2_with fail
  go_ret
  exact ⟨_,rfl,hs',Below.refl _ _⟩
theorem of_any:∀ x:BT Pay,OfOK x:=by
 intro x
 induction x with
 | nil=>intro _ _ _ _ h;exact h.elim
 | node b0 o0 a l r il ir =>
  intro v Bt w hs hg hBt
  unfold coreT
  rcases hg with ⟨h1,_⟩ | ⟨h1,_⟩ | ⟨h1,h2,h3,h4,gl,gr⟩ | ⟨h1,h2,h3,h4,gl,hr⟩
  ·rw [if_pos (.inl h1)];exact of_leaf b0 o0 a l r (.inl h1) v Bt w hs
  ·rw [if_pos (.inr h1)];exact of_leaf b0 o0 a l r (.inr h1) v Bt w hs
  ·rw [if_neg (by omega),if_neg (by omega)]
   by_cases h8:a.op=8744
   ·rw [if_pos h8];exact of_or b0 o0 a l r h8 il ir gl gr v Bt w hs hBt
   ·rw [if_neg h8,if_neg (by omega),if_neg (by omega)]
    exact of_pair b0 o0 a l r (by omega) il ir gl gr v Bt w hs hBt
  ·rw [if_neg (by omega)]
   by_cases h8:a.op=172
   ·rw [if_pos h8];exact of_not b0 o0 a l r h8 il gl v Bt w hs hBt
   ·rw [if_neg h8,if_neg (by omega)]
    by_cases h9:a.op=72
    ·rw [if_pos h9];exact of_always b0 o0 a l r h9 il gl v Bt w hs hBt
    ·rw [if_neg h9,if_pos (by omega)];exact of_one b0 o0 a l r (by omega) il gl v Bt w hs hBt
end Go.Proofs.YtpbbmagjhkakgaaGreatDoor
