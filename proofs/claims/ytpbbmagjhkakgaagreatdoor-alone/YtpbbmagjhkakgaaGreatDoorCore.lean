import Derived.Test.YtpbbmagjhkakgaaGreatDoorPureToLfTape
import Derived.Test.YtpbbmagjhkakgaaGreatDoorProg
import Derived.Deep.RegionHeld
namespace Go.Proofs.YtpbbmagjhkakgaaGreatDoor
open Go.RowKit Go.Deep
set_option maxHeartbeats 400000 in
theorem sk (x:BT aO) (hx:x≠.nil) (v:Value) (Bt:Nat) (w:World) (hs:aC 143 Bt w x v) (uW:Bt<=w.heap.size) :
  Calls Tryz.prog 123 #[v] w fun e w'=>∃ p,e=.returned (.pointer p)/\aC 143 Bt w' (bQ x) (.pointer p)/\Below w.heap.size w w':=by
 cases x with
 | nil=>exact absurd rfl hx
 | node b0 o0 a l r =>
  have qp:=hs
  obtain ⟨sb,vl,vr,rfl,hB,hh,hl,hr⟩:=hs
  have c0:=ae (i:=0) hh rfl
  have c4:=ae (i:=4) hh rfl
  obtain ⟨pl,rfl⟩:=gZ hl
  by_cases ho:a.op=172
  ·have hN:bQ (.node b0 o0 a l r)=l:=by simp [bQ,ho]
   rw [hN]
   have q:(a.op==172)=true:=by simp [ho]
   clear ho hN
   go_enter Tryz.func123,Tryz.ntmps123
   go_wp2_with fail
   go_ret
   exact ⟨_,rfl,hl,Below.refl _ _⟩
  ·have hN:bQ (.node b0 o0 a l r)=mk 172 ByteArray.empty 0 0 (.node b0 o0 a l r) .nil:=by simp [bQ,ho]
   rw [hN]
   have q:(a.op==172)=false:=by simp [ho]
   clear ho hN
   go_enter Tryz.func123,Tryz.ntmps123
   go_wp2_with fail
   go_ret
   exact ⟨_,rfl,lA uW (aB _ _ _ rfl) (aC.below qp ((Below.refl _ _).al _)) rfl,(Below.refl _ _).al _⟩
def OfOK (x:BT aO):Prop:=∀ (v:Value) (Bt:Nat) (w:World),aC 143 Bt w x v->Good x->Bt<=w.heap.size->
 Calls Tryz.prog 84 #[v] w fun e w'=>∃ p,e=.returned (.pointer p)/\aC 143 Bt w' (ak x) (.pointer p)/\Below w.heap.size w w'
def ml (w:World) (sb:Nat) (a:aO) (vl vr:Value) (w':World):Prop :=
 w'.cell? ⟨sb,0,none⟩=some (.int .i32 a.op)/\w'.cell? ⟨sb,2,none⟩=some (.int .i64 a.lo)/\w'.cell? ⟨sb,3,none⟩=some (.int .i64 a.hi)/\w'.cell? ⟨sb,4,none⟩=some vl/\w'.cell? ⟨sb,5,none⟩=some vr/\Below w.heap.size w w'
theorem oZ {w w':World} {sb:Nat} {a:aO} {vl vr:Value} (hh:w.heap[sb]? = some (.cells #[.int .i32 a.op,.string a.name,.int .i64 a.lo,.int .i64 a.hi,vl,vr] 143 (0,0))) (hb:Below w.heap.size w w'):ml w sb a vl vr w':=by
 have h:=hb.aE hh
 exact ⟨ae h rfl,ae h rfl,ae h rfl,ae h rfl,ae h rfl,hb⟩
set_option maxHeartbeats 2000000 in
theorem of_pair (b0 o0:Nat) (a:aO) (l r:BT aO) (aN:a.op=8743\/a.op=83) (il:OfOK l) (ir:OfOK r) (gl:Good l) (gr:Good r) (v:Value) (Bt:Nat) (w:World) (hs:aC 143 Bt w (.node b0 o0 a l r) v) (uW:Bt<=w.heap.size) :
  Calls Tryz.prog 84 #[v] w fun e w'=>∃ p,e=.returned (.pointer p)/\aC 143 Bt w' (mk a.op ByteArray.empty a.lo a.hi (ak l) (ak r)) (.pointer p)/\Below w.heap.size w w':=by
 obtain ⟨sb,vl,vr,rfl,hB,hh,hl,hr⟩:=hs
 have df:∀ w',Below w.heap.size w w'->ml w sb a vl vr w':=fun w' h=>oZ hh h
 have kj:Hid (∀ w',Below w.heap.size w w'->ml w sb a vl vr w'):=df
 have c0:=ae (i:=0) hh rfl
 have hq:(a.op==116)=false/\(a.op==97)=false/\(a.op==172)=false/\(a.op==8744)=false/\(a.op==72)=false/\(a.op==89)=false/\(a.op==79)=false:=by
  rcases aN with h1 | h1<;>rw [h1]<;>decide
 obtain ⟨q1,q2,q3,q4,q5,q6,q7⟩:=hq
 clear df aN hh
 go_enter Tryz.func84,Tryz.ntmps84
 go_wp2_with fail
 go_region_held (fun w'=>w'.cell? ⟨sb,0,none⟩=some (.int .i32 a.op)/\w'.cell? ⟨sb,2,none⟩=some (.int .i64 a.lo)/\w'.cell? ⟨sb,3,none⟩=some (.int .i64 a.hi)/\w'.cell? ⟨sb,4,none⟩=some vl/\w'.cell? ⟨sb,5,none⟩=some vr/\Below w.heap.size w w')
  ((refine kj.out _ ?_;first | exact (Below.refl _ _).drew | exact (Below.refl w.heap.size w).drew.trans a_ | exact ((Below.refl w.heap.size w).drew.trans a_).tr cB | exact (((Below.refl w.heap.size w).drew.trans a_).tr cB).al _))
  (first
   | (go_at_call_of 84 (vl);refine (il vl Bt _ ?_ gl ?_).mono ?_;exact hl.below (Below.refl _ _).drew;exact uW;rintro e w1 ⟨v1,rfl,kS,a_⟩)
   | (go_at_call_of 84 (vr);refine (ir vr Bt _ ?_ gr ?_).mono ?_;exact hr.below ((Below.refl w.heap.size w).drew.trans a_);exact Nat.le_trans uW a_.size;rintro e w2 ⟨v2,rfl,oJ,cB⟩))
 all_goals go_wp2_with fail
 all_goals go_ret
 all_goals exact ⟨_,rfl,lA (Nat.le_trans uW (Nat.le_trans a_.size cB.size)) (aB _ _ _ rfl) ((kS.below cB).below ((Below.refl _ _).al _)) (oJ.below ((Below.refl _ _).al _)),(((Below.refl w.heap.size w).drew.trans a_).tr cB).al _⟩
set_option maxHeartbeats 4000000 in
theorem of_not (b0 o0:Nat) (a:aO) (l r:BT aO) (aN:a.op=172) (il:OfOK l) (gl:Good l) (v:Value) (Bt:Nat) (w:World) (hs:aC 143 Bt w (.node b0 o0 a l r) v) (uW:Bt<=w.heap.size) :
  Calls Tryz.prog 84 #[v] w fun e w'=>∃ p,e=.returned (.pointer p)/\aC 143 Bt w' (bQ (ak l)) (.pointer p)/\Below w.heap.size w w':=by
 obtain ⟨sb,vl,vr,rfl,hB,hh,hl,hr⟩:=hs
 have df:∀ w',Below w.heap.size w w'->ml w sb a vl vr w':=fun w' h=>oZ hh h
 have kj:Hid (∀ w',Below w.heap.size w w'->ml w sb a vl vr w'):=df
 have c0:=ae (i:=0) hh rfl
 have c4:=ae (i:=4) hh rfl
 have hq:(a.op==116)=false/\(a.op==97)=false/\(a.op==172)=true:=by
  rw [aN];decide
 obtain ⟨q1,q2,q3⟩:=hq
 clear df aN hh
 go_enter Tryz.func84,Tryz.ntmps84
 go_wp2_with fail
 refine (il vl Bt _ hl gl uW).mono ?_
 rintro e w1 ⟨p1,rfl,kS,a_⟩
 go_wp2_with fail
 refine (sk (ak l) (cA gl).ne _ Bt _ kS (Nat.le_trans uW a_.size)).mono ?_
 rintro e w2 ⟨p2,rfl,oJ,cB⟩
 go_wp2_with fail
 go_ret
 exact ⟨_,rfl,oJ,a_.tr cB⟩
set_option maxHeartbeats 4000000 in
theorem of_one (b0 o0:Nat) (a:aO) (l r:BT aO) (aN:a.op=89\/a.op=79) (il:OfOK l) (gl:Good l) (v:Value) (Bt:Nat) (w:World) (hs:aC 143 Bt w (.node b0 o0 a l r) v) (uW:Bt<=w.heap.size) :
  Calls Tryz.prog 84 #[v] w fun e w'=>∃ p,e=.returned (.pointer p)/\aC 143 Bt w' (mk a.op ByteArray.empty a.lo a.hi (ak l) .nil) (.pointer p)/\Below w.heap.size w w':=by
 obtain ⟨sb,vl,vr,rfl,hB,hh,hl,hr⟩:=hs
 have df:∀ w',Below w.heap.size w w'->ml w sb a vl vr w':=fun w' h=>oZ hh h
 have kj:Hid (∀ w',Below w.heap.size w w'->ml w sb a vl vr w'):=df
 have c0:=ae (i:=0) hh rfl
 have hq:(a.op==116)=false/\(a.op==97)=false/\(a.op==172)=false/\(a.op==8744)=false/\(a.op==72)=false/\((a.op==89)=true\/((a.op==89)=false/\(a.op==79)=true)):=by
  rcases aN with h1 | h1<;>rw [h1]<;>decide
 obtain ⟨q1,q2,q3,q4,q5,hq⟩:=hq
 clear df aN hh
 rcases hq with q6 | ⟨q6,q7⟩
 all_goals
  go_enter Tryz.func84,Tryz.ntmps84
  go_wp2_with fail
  go_region_held (fun w'=>w'.cell? ⟨sb,0,none⟩=some (.int .i32 a.op)/\w'.cell? ⟨sb,2,none⟩=some (.int .i64 a.lo)/\w'.cell? ⟨sb,3,none⟩=some (.int .i64 a.hi)/\w'.cell? ⟨sb,4,none⟩=some vl/\w'.cell? ⟨sb,5,none⟩=some vr/\Below w.heap.size w w')
   ((refine kj.out _ ?_;first | exact (Below.refl _ _).drew | exact (Below.refl w.heap.size w).drew.trans a_ | exact ((Below.refl w.heap.size w).drew.trans a_).al _))
   (first
    | (go_at_call_of 84 (vl);refine (il vl Bt _ ?_ gl ?_).mono ?_;exact hl.below (Below.refl _ _).drew;exact uW;rintro e w1 ⟨v1,rfl,kS,a_⟩))
  all_goals go_wp2_with fail
  all_goals go_ret
  all_goals exact ⟨_,rfl,lA (Nat.le_trans uW a_.size) (aB _ _ _ rfl) (kS.below ((Below.refl _ _).al _)) rfl,((Below.refl w.heap.size w).drew.trans a_).al _⟩
set_option maxHeartbeats 4000000 in
theorem of_always (b0 o0:Nat) (a:aO) (l r:BT aO) (aN:a.op=72) (il:OfOK l) (gl:Good l) (v:Value) (Bt:Nat) (w:World) (hs:aC 143 Bt w (.node b0 o0 a l r) v) (uW:Bt<=w.heap.size) :
  Calls Tryz.prog 84 #[v] w fun e w'=>∃ p,e=.returned (.pointer p)/\aC 143 Bt w' (bQ (mk 79 ByteArray.empty a.lo a.hi (bQ (ak l)) .nil)) (.pointer p)/\Below w.heap.size w w':=by
 obtain ⟨sb,vl,vr,rfl,hB,hh,hl,hr⟩:=hs
 have df:∀ w',Below w.heap.size w w'->ml w sb a vl vr w':=fun w' h=>oZ hh h
 have kj:Hid (∀ w',Below w.heap.size w w'->ml w sb a vl vr w'):=df
 have c0:=ae (i:=0) hh rfl
 have hq:(a.op==116)=false/\(a.op==97)=false/\(a.op==172)=false/\(a.op==8744)=false/\(a.op==72)=true:=by
  rw [aN];decide
 obtain ⟨q1,q2,q3,q4,q5⟩:=hq
 clear df aN hh
 have ne1:=(cA gl).ne
 have ne2:mk 79 ByteArray.empty a.lo a.hi (bQ (ak l)) .nil≠.nil:=by intro h;cases h
 go_enter Tryz.func84,Tryz.ntmps84
 go_wp2_with fail
 go_region_held (fun w'=>w'.cell? ⟨sb,0,none⟩=some (.int .i32 a.op)/\w'.cell? ⟨sb,2,none⟩=some (.int .i64 a.lo)/\w'.cell? ⟨sb,3,none⟩=some (.int .i64 a.hi)/\w'.cell? ⟨sb,4,none⟩=some vl/\w'.cell? ⟨sb,5,none⟩=some vr/\Below w.heap.size w w')
  ((refine kj.out _ ?_;first | exact (Below.refl _ _).drew | exact (Below.refl w.heap.size w).drew.trans a_ | exact ((Below.refl w.heap.size w).drew.trans a_).tr cB | exact (((Below.refl w.heap.size w).drew.trans a_).tr cB).al _ | exact ((((Below.refl w.heap.size w).drew.trans a_).tr cB).al _).tr pU))
  (first
   | (go_at_call_of 84 (vl);refine (il vl Bt _ ?_ gl ?_).mono ?_;exact hl.below (Below.refl _ _).drew;exact uW;rintro e w1 ⟨v1,rfl,kS,a_⟩)
   | (go_at_call_of 123 (Value.pointer v1);refine (sk (ak l) ne1 _ Bt _ kS ?_).mono ?_;exact Nat.le_trans uW a_.size;rintro e w2 ⟨v2,rfl,oJ,cB⟩)
   | (go_at_call 123;refine (sk _ ne2 _ Bt _ (lA (Nat.le_trans uW (Nat.le_trans a_.size cB.size)) (aB _ _ _ rfl) (oJ.below ((Below.refl _ _).al _)) rfl) ?_).mono ?_;exact Nat.le_trans uW (Nat.le_trans a_.size (Nat.le_trans cB.size (by simp)));rintro e w3 ⟨v3,rfl,hs3,pU⟩))
 all_goals go_wp2_with fail
 all_goals go_ret
 all_goals exact ⟨_,rfl,hs3,((((Below.refl w.heap.size w).drew.trans a_).tr cB).al _).tr pU⟩
set_option maxHeartbeats 4000000 in
theorem of_or (b0 o0:Nat) (a:aO) (l r:BT aO) (aN:a.op=8744) (il:OfOK l) (ir:OfOK r) (gl:Good l) (gr:Good r) (v:Value) (Bt:Nat) (w:World) (hs:aC 143 Bt w (.node b0 o0 a l r) v) (uW:Bt<=w.heap.size) :
  Calls Tryz.prog 84 #[v] w fun e w'=>∃ p,e=.returned (.pointer p)/\aC 143 Bt w' (bQ (mk 8743 ByteArray.empty 0 0 (bQ (ak l)) (bQ (ak r)))) (.pointer p)/\Below w.heap.size w w':=by
 obtain ⟨sb,vl,vr,rfl,hB,hh,hl,hr⟩:=hs
 have df:∀ w',Below w.heap.size w w'->ml w sb a vl vr w':=fun w' h=>oZ hh h
 have kj:Hid (∀ w',Below w.heap.size w w'->ml w sb a vl vr w'):=df
 have c0:=ae (i:=0) hh rfl
 have hq:(a.op==116)=false/\(a.op==97)=false/\(a.op==172)=false/\(a.op==8744)=true:=by
  rw [aN];decide
 obtain ⟨q1,q2,q3,q4⟩:=hq
 clear df aN hh
 have ne1:=(cA gl).ne
 have ne2:=(cA gr).ne
 have ne3:mk 8743 ByteArray.empty 0 0 (bQ (ak l)) (bQ (ak r))≠.nil:=by intro h;cases h
 go_enter Tryz.func84,Tryz.ntmps84
 go_wp2_with fail
 go_region_held (fun w'=>w'.cell? ⟨sb,0,none⟩=some (.int .i32 a.op)/\w'.cell? ⟨sb,2,none⟩=some (.int .i64 a.lo)/\w'.cell? ⟨sb,3,none⟩=some (.int .i64 a.hi)/\w'.cell? ⟨sb,4,none⟩=some vl/\w'.cell? ⟨sb,5,none⟩=some vr/\Below w.heap.size w w')
  ((refine kj.out _ ?_;first | exact (Below.refl _ _).drew | exact (Below.refl w.heap.size w).drew.trans a_ | exact ((Below.refl w.heap.size w).drew.trans a_).tr cB | exact (((Below.refl w.heap.size w).drew.trans a_).tr cB).tr pU | exact ((((Below.refl w.heap.size w).drew.trans a_).tr cB).tr pU).tr hb4 | exact (((((Below.refl w.heap.size w).drew.trans a_).tr cB).tr pU).tr hb4).al _ | exact ((((((Below.refl w.heap.size w).drew.trans a_).tr cB).tr pU).tr hb4).al _).tr hb5))
  (first
   | (go_at_call_of 84 (vl);refine (il vl Bt _ ?_ gl ?_).mono ?_;exact hl.below (Below.refl _ _).drew;exact uW;rintro e w1 ⟨v1,rfl,kS,a_⟩)
   | (go_at_call_of 123 (Value.pointer v1);refine (sk (ak l) ne1 _ Bt _ kS ?_).mono ?_;exact Nat.le_trans uW a_.size;rintro e w2 ⟨v2,rfl,oJ,cB⟩)
   | (go_at_call_of 84 (vr);refine (ir vr Bt _ ?_ gr ?_).mono ?_;exact hr.below (((Below.refl w.heap.size w).drew.trans a_).tr cB);exact Nat.le_trans uW (Nat.le_trans a_.size cB.size);rintro e w3 ⟨v3,rfl,hs3,pU⟩)
   | (go_at_call_of 123 (Value.pointer v3);refine (sk (ak r) ne2 _ Bt _ hs3 ?_).mono ?_;exact Nat.le_trans uW (Nat.le_trans a_.size (Nat.le_trans cB.size pU.size));rintro e w4 ⟨v4,rfl,hs4,hb4⟩)
   | (go_at_call 123;refine (sk _ ne3 _ Bt _ (lA (Nat.le_trans uW (Nat.le_trans a_.size (Nat.le_trans cB.size (Nat.le_trans pU.size hb4.size)))) (aB _ _ _ rfl) (((oJ.below pU).below hb4).below ((Below.refl _ _).al _)) (hs4.below ((Below.refl _ _).al _))) ?_).mono ?_;exact Nat.le_trans uW (Nat.le_trans a_.size (Nat.le_trans cB.size (Nat.le_trans pU.size (Nat.le_trans hb4.size (by simp)))));rintro e w5 ⟨v5,rfl,hs5,hb5⟩))
 all_goals go_wp2_with fail
 all_goals go_ret
 all_goals exact ⟨_,rfl,hs5,((((((Below.refl w.heap.size w).drew.trans a_).tr cB).tr pU).tr hb4).al _).tr hb5⟩
set_option maxHeartbeats 400000 in
theorem of_leaf (b0 o0:Nat) (a:aO) (l r:BT aO) (aN:a.op=116\/a.op=97) (v:Value) (Bt:Nat) (w:World) (hs:aC 143 Bt w (.node b0 o0 a l r) v) :
  Calls Tryz.prog 84 #[v] w fun e w'=>∃ p,e=.returned (.pointer p)/\aC 143 Bt w' (.node b0 o0 a l r) (.pointer p)/\Below w.heap.size w w':=by
 have qp:=hs
 obtain ⟨sb,vl,vr,rfl,hB,hh,hl,hr⟩:=hs
 have c0:=ae (i:=0) hh rfl
 rcases aN with aN | aN
 all_goals
  rw [aN] at c0
  clear aN
  go_enter Tryz.func84,Tryz.ntmps84
  go_wp2_with fail
  go_ret
  exact ⟨_,rfl,qp,Below.refl _ _⟩
theorem of_any:∀ x:BT aO,OfOK x:=by
 intro x
 induction x with
 | nil=>intro _ _ _ _ h;exact h.elim
 | node b0 o0 a l r il ir =>
  intro v Bt w hs hg uW
  unfold ak
  rcases hg with ⟨h1,_⟩ | ⟨h1,_⟩ | ⟨h1,h2,h3,h4,gl,gr⟩ | ⟨h1,h2,h3,h4,gl,hr⟩
  ·rw [if_pos (.inl h1)];exact of_leaf b0 o0 a l r (.inl h1) v Bt w hs
  ·rw [if_pos (.inr h1)];exact of_leaf b0 o0 a l r (.inr h1) v Bt w hs
  ·rw [if_neg (by omega),if_neg (by omega)]
   by_cases h8:a.op=8744
   ·rw [if_pos h8];exact of_or b0 o0 a l r h8 il ir gl gr v Bt w hs uW
   ·rw [if_neg h8,if_neg (by omega),if_neg (by omega)]
    exact of_pair b0 o0 a l r (by omega) il ir gl gr v Bt w hs uW
  ·rw [if_neg (by omega)]
   by_cases h8:a.op=172
   ·rw [if_pos h8];exact of_not b0 o0 a l r h8 il gl v Bt w hs uW
   ·rw [if_neg h8,if_neg (by omega)]
    by_cases h9:a.op=72
    ·rw [if_pos h9];exact of_always b0 o0 a l r h9 il gl v Bt w hs uW
    ·rw [if_neg h9,if_pos (by omega)];exact of_one b0 o0 a l r (by omega) il gl v Bt w hs uW
end Go.Proofs.YtpbbmagjhkakgaaGreatDoor
