import Derived.Test.YtpbbmagjhkakgaaGreatDoorParseToSent
import Derived.Test.YtpbbmagjhkakgaaGreatDoorScan
import Derived.Test.YtpbbmagjhkakgaaGreatDoorTree
namespace Go.Proofs.YtpbbmagjhkakgaaGreatDoor
open Go.RowKit Go.Deep
def ReadEnd (w:World) (res:Option (BT aO)×Int) (e:Ending) (w':World):Prop :=
 Below w.heap.size w w'/\((∃ x v,res=(some x,0)/\e=.returned (.tuple #[v,.nilIface])/\aC 143 w.heap.size w' x v/\aK x<=12)
  \/(res=(none,1)/\∃ fa,e=.returned (.tuple #[.pointer none,.iface 201 (.pointer (some fa))]))
  \/(res=(none,2)/\∃ fa,e=.returned (.tuple #[.pointer none,.iface 130 (.pointer (some fa))])))
set_option maxHeartbeats 400000 in
theorem read_long (s:ByteArray) (w:World) (hs:300<s.size) (hm:s.size<=maxLen):Calls Tryz.prog 74 #[.string s] w (ReadEnd w (cI s)):=by
 have hR:cI s=(none,1):=by unfold cI;rw [if_pos hs]
 rw [hR]
 unfold maxLen at hm
 clear hR
 go_enter Tryz.func74,Tryz.ntmps74
 go_wp2_with fail
 go_ret2
 exact ⟨(Below.refl _ _).al _,.inr (.inl ⟨rfl,_,rfl⟩)⟩
set_option maxHeartbeats 1000000 in
theorem read_short (s:ByteArray) (w:World) (hs:s.size<=300) (hg:eh w) (l9:14<=w.heap.size):Calls Tryz.prog 74 #[.string s] w (ReadEnd w (cI s)):=by
 have hR:Hid (cI s=match cJ s s.size 0 32 [] with
  | none=>(none,1)
  | some ts=>match gT ts.length ts with
   | none=>(none,1)
   | some (x,r)=>match bm (-1) r with
    | none=>(none,1)
    | some _=>if 12<aK x then (none,2) else (some x,0)):=by show _=_;unfold cI;rw [if_neg (by omega)];rfl
 generalize cI s=res at *
 go_enter Tryz.func74,Tryz.ntmps74
 go_wp2_with fail
 refine (scan_any s w hs).mono ?_
 rintro e w1 ⟨a_,⟨ts,v,h1,rfl,ht1,he1,hl1⟩ | ⟨h1,fa,rfl⟩⟩
 rotate_left
 ·go_wp2_with fail
  go_ret2
  exact ⟨a_,.inr (.inl ⟨by rw [hR.out];simp only [h1],_,rfl⟩)⟩
 have z1:=a_.size
 obtain ⟨tb,off,cap,cs,te,tm,tail,hv,htb,hx⟩:=id ht1
 rw [hv] at ht1
 rw [hv]
 clear hx hv
 have hr1:gj 208 w1.heap.size (w1.alloc (.cells #[.slice (some ⟨tb,off,none⟩) ts.length cap] 208 (0,0))) ts :=
  ⟨_,aB _ _ _ rfl,ht1.only (s:=w1.heap.size) ((Only.refl _ _).alloc _) (Nat.le_refl _)⟩
 have g1:eh (w1.alloc (.cells #[.slice (some ⟨tb,off,none⟩) ts.length cap] 208 (0,0))):=(hg.below a_).below ((Below.refl _ _).al _)
 clear ht1
 go_wp2_with fail
 refine (vG ts.length w1.heap.size ts _ hr1 he1 g1 (by omega) (Nat.le_refl _)).mono ?_
 rintro e w2 ⟨jE,⟨x,r,v,h2,rfl,hx2,u7⟩ | ⟨h2,fa,rfl⟩⟩
 rotate_left
 ·have b2:=(a_.al (.cells #[.slice (some ⟨tb,off,none⟩) ts.length cap] 208 (0,0))).trans (jE.below z1 (by simp;omega))
  clear hr1 g1 jE
  go_wp2_with fail
  go_ret2
  exact ⟨b2,.inr (.inl ⟨by rw [hR.out];simp only [h1,h2],_,rfl⟩)⟩
 have b2:=(a_.al (.cells #[.slice (some ⟨tb,off,none⟩) ts.length cap] 208 (0,0))).trans (jE.below z1 (by simp;omega))
 obtain ⟨e2,l2⟩:=nG _ _ _ _ he1 h2
 have d2:=tj _ _ _ _ h2
 obtain ⟨vx,rfl⟩:=gZ hx2
 clear hr1 g1 jE he1
 go_wp2_with fail
 refine (mA w1.heap.size r (-1) _ _ u7 e2).mono ?_
 rintro e w3 ⟨n_,⟨t3,h3,rfl,hr3⟩ | ⟨h3,fa,rfl⟩⟩
 rotate_left
 ·have b3:=b2.trans (n_.below z1 (by have:=b2.size;omega))
  clear u7 n_
  go_wp2_with fail
  go_ret2
  exact ⟨b3,.inr (.inl ⟨by rw [hR.out];simp only [h1,h2,h3],_,rfl⟩)⟩
 have b3:=b2.trans (n_.below z1 (by have:=b2.size;omega))
 have hx3:=(hx2.only n_ (by omega)).low (B':=w.heap.size) (by omega)
 have hR3:Hid (res=if 12<aK x then (none,2) else (some x,0)):=by show _=_;rw [hR.out];simp only [h1,h2,h3]
 clear u7 n_ hx2 hr3 hR h1 h2 h3 b2
 go_wp2_with fail
 refine (depth_any x _ _ _ hx3 (by omega)).mono ?_
 rintro e w4 ⟨rfl,n4,rfl⟩
 have b4:Below w.heap.size w (w3.drewN n4):=below_drewN b3 n4
 have hx4:=hx3.drewN n4
 by_cases hd:12<aK x
 ·have hR4:Hid (res=(none,2)):=by show _=_;rw [hR3.out,if_pos hd]
  clear hR3 hx3 hx4
  generalize aK x=D at *
  go_wp2_with fail
  go_ret2
  exact ⟨b4.al _,.inr (.inr ⟨hR4.out,_,rfl⟩)⟩
 ·have hR4:Hid (res=(some x,0)):=by show _=_;rw [hR3.out,if_neg hd]
  have hd':aK x<=12:=by omega
  have Hd:Hid (aK x<=12):=hd'
  clear hR3 hx3
  generalize aK x=D at hd hd' d2
  go_wp2_with fail
  go_ret2
  exact ⟨b4,.inl ⟨x,_,hR4.out,rfl,hx4,Hd.out⟩⟩
end Go.Proofs.YtpbbmagjhkakgaaGreatDoor
