
import Derived.Test.YtpbbmagjhkakgaaGreatDoorShelfToPureScan
import Derived.Test.YtpbbmagjhkakgaaGreatDoorPureTreeToPureTab
import Derived.Test.YtpbbmagjhkakgaaGreatDoorProg
import Derived.Deep.QuietTactic
import Derived.Deep.RegionWith
import Derived.BigQuiet
namespace Go.Proofs.YtpbbmagjhkakgaaGreatDoor
open Go.RowKit Go.Deep
theorem SentAt.drewN {S:TypeId} {B:Nat} {w:World} {x:BT Pay} {v:Value} (h:SentAt S B w x v) (n:Nat):SentAt S B (w.drewN n) x v :=
 SentAt.heap (w:=w) (w':=w.drewN n) (fun _ _ _ hc=>hc) h
set_option maxHeartbeats 1000000 in
theorem depth_any:∀ (x:BT Pay) (v:Value) (B:Nat) (w:World),SentAt 143 B w x v->depthT x<=400->
  Calls Tryz.prog 116 #[v] w fun e w'=>e=.returned (.int .i64 (depthT x))/\∃ n,w'=w.drewN n:=by
 intro x
 induction x with
 | nil =>
  intro v B w h _
  subst h
  go_enter Tryz.func116,Tryz.ntmps116
  go_wp2_with fail
  go_ret
  exact ⟨rfl,0,rfl⟩
 | node b0 o0 a l r ihl ihr =>
  intro v B w h hd
  obtain ⟨b,vl,vr,rfl,hB,hh,hl,hr⟩:=h
  have c4:=cell_at (i:=4) hh rfl
  have c5:=cell_at (i:=5) hh rfl
  have dl:depthT l<=399:=by simp only [depthT] at hd;omega
  have dr:depthT r<=399:=by simp only [depthT] at hd;omega
  have hD:Hid (depthT (.node b0 o0 a l r)=1+max (depthT l) (depthT r)):=rfl
  generalize depthT (.node b0 o0 a l r)=D at *
  have il:=fun W (hW:SentAt 143 B W l vl)=>ihl vl B W hW (by omega)
  have ir:=fun W (hW:SentAt 143 B W r vr)=>ihr vr B W hW (by omega)
  have Il:Hid (∀ W,SentAt 143 B W l vl->_):=il
  have Ir:Hid (∀ W,SentAt 143 B W r vr->_):=ir
  generalize depthT l=p at *
  generalize depthT r=q at *
  clear il ir ihl ihr hh
  go_enter Tryz.func116,Tryz.ntmps116
  go_wp2_with fail
  go_quiet (first
   | (go_at_call_of 116 (vl);exact Calls.quiet_of (Il.out _ (hl.drewN _)))
   | (go_at_call_of 116 (vr);exact Calls.quiet_of (Ir.out _ (hr.drewN _))))
  go_wp2_with fail
  all_goals go_ret
  all_goals exact ⟨ret_int (by rw [hD.out]<;>omega),_,rfl⟩
set_option maxHeartbeats 1000000 in
theorem reach_any:∀ (x:BT Pay) (v:Value) (B:Nat) (w:World),SentAt 143 B w x v->depthT x<=400->WinOK x->
  Calls Tryz.prog 42 #[v] w fun e w'=>e=.returned (.int .i64 (reachT x))/\∃ n,w'=w.drewN n:=by
 intro x
 induction x with
 | nil =>
  intro v B w h _ _
  subst h
  go_enter Tryz.func42,Tryz.ntmps42
  go_wp2_with fail
  go_ret
  exact ⟨rfl,0,rfl⟩
 | node b0 o0 a l r ihl ihr =>
  intro v B w h hd hw
  obtain ⟨b,vl,vr,rfl,hB,hh,hl,hr⟩:=h
  obtain ⟨⟨hw1,hw2,hw3⟩,wl,wr'⟩:=hw
  have c3:=cell_at (i:=3) hh rfl
  have c4:=cell_at (i:=4) hh rfl
  have c5:=cell_at (i:=5) hh rfl
  have dl:depthT l<=399:=by simp only [depthT] at hd;omega
  have dr:depthT r<=399:=by simp only [depthT] at hd;omega
  have bl:=reachT_bound wl
  have br:=reachT_bound wr'
  have hD:Hid (reachT (.node b0 o0 a l r)=a.hi+max (reachT l) (reachT r)):=rfl
  generalize reachT (.node b0 o0 a l r)=D at *
  have il:=fun W (hW:SentAt 143 B W l vl)=>ihl vl B W hW (by omega) wl
  have ir:=fun W (hW:SentAt 143 B W r vr)=>ihr vr B W hW (by omega) wr'
  have Il:Hid (∀ W,SentAt 143 B W l vl->_):=il
  have Ir:Hid (∀ W,SentAt 143 B W r vr->_):=ir
  have p1:0<=reachT l:=bl.1
  have p2:reachT l<=399000000:=by omega
  have q1:0<=reachT r:=br.1
  have q2:reachT r<=399000000:=by omega
  clear bl br il ir ihl ihr hh hd dl dr wl wr'
  generalize reachT l=p at *
  generalize reachT r=q at *
  have hx:0<=a.hi:=by omega
  generalize a.hi=hi at *
  go_enter Tryz.func42,Tryz.ntmps42
  go_wp2_with fail
  go_quiet (first
   | (go_at_call_of 42 (vl);exact Calls.quiet_of (Il.out _ (hl.drewN _)))
   | (go_at_call_of 42 (vr);exact Calls.quiet_of (Ir.out _ (hr.drewN _))))
  go_wp2_with fail
  all_goals go_ret
  all_goals exact ⟨ret_int (by rw [hD.out]<;>omega),_,rfl⟩
end Go.Proofs.YtpbbmagjhkakgaaGreatDoor
