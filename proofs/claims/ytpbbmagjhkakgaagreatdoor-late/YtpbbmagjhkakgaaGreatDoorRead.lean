
import Derived.Test.YtpbbmagjhkakgaaGreatDoorWindowToScan
import Derived.Test.YtpbbmagjhkakgaaGreatDoorTree
namespace Go.Proofs.YtpbbmagjhkakgaaGreatDoor
open Go.RowKit Go.Deep
def ReadEnd (w:World) (res:Option (BT Pay)×Int) (e:Ending) (w':World):Prop :=
 Below w.heap.size w w'/\((∃ x v,res=(some x,0)/\e=.returned (.tuple #[v,.nilIface])/\SentAt 143 w.heap.size w' x v/\depthT x<=12)
  \/(res=(none,1)/\∃ fa,e=.returned (.tuple #[.pointer none,.iface 201 (.pointer (some fa))]))
  \/(res=(none,2)/\∃ fa,e=.returned (.tuple #[.pointer none,.iface 130 (.pointer (some fa))])))
set_option maxHeartbeats 400000 in
theorem read_long (s:ByteArray) (w:World) (hs:300<s.size) (hm:s.size<=maxLen):Calls Tryz.prog 74 #[.string s] w (ReadEnd w (readF s)):=by
 have hR:readF s=(none,1):=by unfold readF;rw [if_pos hs]
 rw [hR]
 unfold maxLen at hm
 clear hR
 go_enter Tryz.func74,Tryz.ntmps74
 go_wp2_with fail
 go_ret2
 exact ⟨(Below.refl _ _).al _,.inr (.inl ⟨rfl,_,rfl⟩)⟩
set_option maxHeartbeats 1000000 in
theorem read_short (s:ByteArray) (w:World) (hs:s.size<=300) (hg:ConvAt w) (hw7:14<=w.heap.size):Calls Tryz.prog 74 #[.string s] w (ReadEnd w (readF s)):=by
 have hR:Hid (readF s=match scanF s s.size 0 32 [] with
  | none=>(none,1)
  | some ts=>match parseF ts.length ts with
   | none=>(none,1)
   | some (x,r)=>match expectF (-1) r with
    | none=>(none,1)
    | some _=>if 12<depthT x then (none,2) else (some x,0)):=by show _=_;unfold readF;rw [if_neg (by omega)];rfl
 generalize readF s=res at *
 go_enter Tryz.func74,Tryz.ntmps74
 go_wp2_with fail
 refine (scan_any s w hs).mono ?_
 rintro e w1 ⟨hb1,⟨ts,v,h1,rfl,ht1,he1,hl1⟩ | ⟨h1,fa,rfl⟩⟩
 rotate_left
 ·go_wp2_with fail
  go_ret2
  exact ⟨hb1,.inr (.inl ⟨by rw [hR.out];simp only [h1],_,rfl⟩)⟩
 have z1:=hb1.size
 obtain ⟨tb,off,cap,cs,te,tm,tail,hv,htb,hx⟩:=id ht1
 rw [hv] at ht1
 rw [hv]
 clear hx hv
 have hr1:RdAt 208 w1.heap.size (w1.alloc (.cells #[.slice (some ⟨tb,off,none⟩) ts.length cap] 208 (0,0))) ts :=
  ⟨_,heap_new _ _ _ rfl,ht1.only (s:=w1.heap.size) ((Only.refl _ _).alloc _) (Nat.le_refl _)⟩
 have g1:ConvAt (w1.alloc (.cells #[.slice (some ⟨tb,off,none⟩) ts.length cap] 208 (0,0))):=(hg.below hb1).below ((Below.refl _ _).al _)
 clear ht1
 go_wp2_with fail
 refine (sentence_any ts.length w1.heap.size ts _ hr1 he1 g1 (by omega) (Nat.le_refl _)).mono ?_
 rintro e w2 ⟨ho2,⟨x,r,v,h2,rfl,hx2,hr2⟩ | ⟨h2,fa,rfl⟩⟩
 rotate_left
 ·have b2:=(hb1.al (.cells #[.slice (some ⟨tb,off,none⟩) ts.length cap] 208 (0,0))).trans (ho2.below z1 (by simp;omega))
  clear hr1 g1 ho2
  go_wp2_with fail
  go_ret2
  exact ⟨b2,.inr (.inl ⟨by rw [hR.out];simp only [h1,h2],_,rfl⟩)⟩
 have b2:=(hb1.al (.cells #[.slice (some ⟨tb,off,none⟩) ts.length cap] 208 (0,0))).trans (ho2.below z1 (by simp;omega))
 obtain ⟨e2,l2⟩:=keeps_parse _ _ _ _ he1 h2
 have d2:=shallow_parse _ _ _ _ h2
 obtain ⟨vx,rfl⟩:=sent_ptr hx2
 clear hr1 g1 ho2 he1
 go_wp2_with fail
 refine (expect_any w1.heap.size r (-1) _ _ hr2 e2).mono ?_
 rintro e w3 ⟨ho3,⟨t3,h3,rfl,hr3⟩ | ⟨h3,fa,rfl⟩⟩
 rotate_left
 ·have b3:=b2.trans (ho3.below z1 (by have:=b2.size;omega))
  clear hr2 ho3
  go_wp2_with fail
  go_ret2
  exact ⟨b3,.inr (.inl ⟨by rw [hR.out];simp only [h1,h2,h3],_,rfl⟩)⟩
 have b3:=b2.trans (ho3.below z1 (by have:=b2.size;omega))
 have hx3:=(hx2.only ho3 (by omega)).low (B':=w.heap.size) (by omega)
 have hR3:Hid (res=if 12<depthT x then (none,2) else (some x,0)):=by show _=_;rw [hR.out];simp only [h1,h2,h3]
 clear hr2 ho3 hx2 hr3 hR h1 h2 h3 b2
 go_wp2_with fail
 refine (depth_any x _ _ _ hx3 (by omega)).mono ?_
 rintro e w4 ⟨rfl,n4,rfl⟩
 have b4:Below w.heap.size w (w3.drewN n4):=below_drewN b3 n4
 have hx4:=hx3.drewN n4
 by_cases hd:12<depthT x
 ·have hR4:Hid (res=(none,2)):=by show _=_;rw [hR3.out,if_pos hd]
  clear hR3 hx3 hx4
  generalize depthT x=D at *
  go_wp2_with fail
  go_ret2
  exact ⟨b4.al _,.inr (.inr ⟨hR4.out,_,rfl⟩)⟩
 ·have hR4:Hid (res=(some x,0)):=by show _=_;rw [hR3.out,if_neg hd]
  have hd':depthT x<=12:=by omega
  have Hd:Hid (depthT x<=12):=hd'
  clear hR3 hx3
  generalize depthT x=D at hd hd' d2
  go_wp2_with fail
  go_ret2
  exact ⟨b4,.inl ⟨x,_,hR4.out,rfl,hx4,Hd.out⟩⟩
end Go.Proofs.YtpbbmagjhkakgaaGreatDoor
