import Derived.Test.YtpbbmagjhkakgaaGreatDoorPureToLfTape
import Derived.Test.YtpbbmagjhkakgaaGreatDoorProg
import Derived.Deep.QuietTactic
import Derived.Deep.RegionWith
import Derived.BigQuiet
namespace Go.Proofs.YtpbbmagjhkakgaaGreatDoor
open Go.RowKit Go.Deep
theorem aC.drewN {S:TypeId} {B:Nat} {w:World} {x:BT aO} {v:Value} (h:aC S B w x v) (n:Nat):aC S B (w.drewN n) x v :=
 aC.heap (w:=w) (w':=w.drewN n) (fun _ _ _ hc=>hc) h
set_option maxHeartbeats 1000000 in
theorem depth_any:∀ (x:BT aO) (v:Value) (B:Nat) (w:World),aC 143 B w x v->aK x<=400->
  Calls Tryz.prog 116 #[v] w fun e w'=>e=.returned (.int .i64 (aK x))/\∃ n,w'=w.drewN n:=by
 intro x
 induction x with
 | nil =>
  intro v B w h _
  subst h
  go_enter Tryz.func116,Tryz.ntmps116
  go_wp2_with fail
  go_ret
  exact ⟨rfl,0,rfl⟩
 | node b0 o0 a l r ihl ihr =>
  intro v B w h hd
  obtain ⟨b,vl,vr,rfl,hB,hh,hl,hr⟩:=h
  have c4:=ae (i:=4) hh rfl
  have c5:=ae (i:=5) hh rfl
  have dl:aK l<=399:=by simp only [aK] at hd;omega
  have dr:aK r<=399:=by simp only [aK] at hd;omega
  have hD:Hid (aK (.node b0 o0 a l r)=1+max (aK l) (aK r)):=rfl
  generalize aK (.node b0 o0 a l r)=D at *
  have il:=fun W (hW:aC 143 B W l vl)=>ihl vl B W hW (by omega)
  have ir:=fun W (hW:aC 143 B W r vr)=>ihr vr B W hW (by omega)
  have Il:Hid (∀ W,aC 143 B W l vl->_):=il
  have Ir:Hid (∀ W,aC 143 B W r vr->_):=ir
  generalize aK l=p at *
  generalize aK r=q at *
  clear il ir ihl ihr hh
  go_enter Tryz.func116,Tryz.ntmps116
  go_wp2_with fail
  go_quiet (first
   | (go_at_call_of 116 (vl);exact Calls.quiet_of (Il.out _ (hl.drewN _)))
   | (go_at_call_of 116 (vr);exact Calls.quiet_of (Ir.out _ (hr.drewN _))))
  go_wp2_with fail
  all_goals go_ret
  all_goals exact ⟨ret_int (by rw [hD.out]<;>omega),_,rfl⟩
set_option maxHeartbeats 1000000 in
theorem reach_any:∀ (x:BT aO) (v:Value) (B:Nat) (w:World),aC 143 B w x v->aK x<=400->WinOK x->
  Calls Tryz.prog 42 #[v] w fun e w'=>e=.returned (.int .i64 (ax x))/\∃ n,w'=w.drewN n:=by
 intro x
 induction x with
 | nil =>
  intro v B w h _ _
  subst h
  go_enter Tryz.func42,Tryz.ntmps42
  go_wp2_with fail
  go_ret
  exact ⟨rfl,0,rfl⟩
 | node b0 o0 a l r ihl ihr =>
  intro v B w h hd hw
  obtain ⟨b,vl,vr,rfl,hB,hh,hl,hr⟩:=h
  obtain ⟨⟨l8,tR,hw3⟩,wl,wr'⟩:=hw
  have c3:=ae (i:=3) hh rfl
  have c4:=ae (i:=4) hh rfl
  have c5:=ae (i:=5) hh rfl
  have dl:aK l<=399:=by simp only [aK] at hd;omega
  have dr:aK r<=399:=by simp only [aK] at hd;omega
  have bl:=ly wl
  have br:=ly wr'
  have hD:Hid (ax (.node b0 o0 a l r)=a.hi+max (ax l) (ax r)):=rfl
  generalize ax (.node b0 o0 a l r)=D at *
  have il:=fun W (hW:aC 143 B W l vl)=>ihl vl B W hW (by omega) wl
  have ir:=fun W (hW:aC 143 B W r vr)=>ihr vr B W hW (by omega) wr'
  have Il:Hid (∀ W,aC 143 B W l vl->_):=il
  have Ir:Hid (∀ W,aC 143 B W r vr->_):=ir
  have p1:0<=ax l:=bl.1
  have p2:ax l<=399000000:=by omega
  have q1:0<=ax r:=br.1
  have q2:ax r<=399000000:=by omega
  clear bl br il ir ihl ihr hh hd dl dr wl wr'
  generalize ax l=p at *
  generalize ax r=q at *
  have hx:0<=a.hi:=by omega
  generalize a.hi=hi at *
  go_enter Tryz.func42,Tryz.ntmps42
  go_wp2_with fail
  go_quiet (first
   | (go_at_call_of 42 (vl);exact Calls.quiet_of (Il.out _ (hl.drewN _)))
   | (go_at_call_of 42 (vr);exact Calls.quiet_of (Ir.out _ (hr.drewN _))))
  go_wp2_with fail
  all_goals go_ret
  all_goals exact ⟨ret_int (by rw [hD.out]<;>omega),_,rfl⟩
end Go.Proofs.YtpbbmagjhkakgaaGreatDoor
