import Derived.Test.YtpbbmagjhkakgaaGreatDoorRead
import Derived.Test.YtpbbmagjhkakgaaGreatDoorErrs2
namespace Go.Proofs.YtpbbmagjhkakgaaGreatDoor
open Go.RowKit Go.Deep
structure Glob (w:World):Prop where
 conv:ConvAt w
 ns:∃ eb eo,w.cell? ⟨0,0,none⟩=some (.iface 357 (.pointer (some ⟨eb,eo,none⟩)))
 et:w.cell? ⟨7,0,none⟩=some (.iface 266 (.agg #[.pointer (some ⟨14,89,none⟩)]))
 tab:∃ e m,w.heap[9]? = some (.cells (Lib.pow10Tab.map fun z=>Value.int .u64 z).toArray e m)
theorem Glob.only {s:Nat} {w w':World} (h:Glob w) (ho:Only s w w') (hs:14<=s):Glob w':=by
 obtain ⟨h1,⟨eb,eo,h2⟩,h3,⟨e,m,h4⟩⟩:=h
 have c:∀ k,k<14->k<w.heap.size->w'.cell? ⟨k,0,none⟩=w.cell? ⟨k,0,none⟩:=fun k hk hl=>World.cell?_of_block (w:=w) (a:=⟨k,0,none⟩) (ho.block k hl (by omega))
 exact ⟨h1.only ho hs,⟨eb,eo,by rw [c _ (by decide) (cell_lt h2)];exact h2⟩,by rw [c _ (by decide) (cell_lt h3)];exact h3,⟨e,m,ho.heap h4 (by omega)⟩⟩
theorem Glob.below {w w':World} (h:Glob w) (hb:Below w.heap.size w w'):Glob w':=h.only (s:=14) (Only.of_below hb) (Nat.le_refl _)
def ReadTop (s:ByteArray) (w:World) (res:Option (BT Pay)×Int) (e:Ending) (w':World):Prop :=
 Below w.heap.size w w'/\((∃ x v,res=(some x,0)/\e=.returned (.tuple #[v,.nilIface])/\SentAt 143 w.heap.size w' x v/\depthT x<=12)
  \/(res=(none,1)/\∃ tb fa,e=.returned (.tuple #[.pointer none,.iface 125 (.pointer (some ⟨tb,0,none⟩))])/\w'.heap[tb]? = some (.cells #[.string s,.iface 201 (.pointer (some fa))] 127 (0,0)))
  \/(res=(none,2)/\∃ tb fa,e=.returned (.tuple #[.pointer none,.iface 125 (.pointer (some ⟨tb,0,none⟩))])/\w'.heap[tb]? = some (.cells #[.string s,.iface 130 (.pointer (some fa))] 127 (0,0))))
set_option maxHeartbeats 400000 in
theorem readTop_any (s:ByteArray) (w:World) (hm:s.size<=maxLen) (hg:Glob w) (hw7:14<=w.heap.size):Calls Tryz.prog 39 #[.string s] w (ReadTop s w (readF s)):=by
 have hr:Calls Tryz.prog 74 #[.string s] w (ReadEnd w (readF s)):=by
  by_cases hs:300<s.size
  ·exact read_long s w hs hm
  ·exact read_short s w (by omega) hg.conv hw7
 generalize readF s=res at *
 go_enter Tryz.func39,Tryz.ntmps39
 go_wp2_with fail
 refine hr.mono ?_
 rintro e w1 ⟨hb,⟨x,v,h1,rfl,hx,hd⟩ | ⟨h1,fa,rfl⟩ | ⟨h1,fa,rfl⟩⟩
 ·have H1:Hid (res=(some x,0)):=h1
  obtain ⟨vv,rfl⟩:=sent_ptr hx
  clear h1 hr hg
  go_wp2_with fail
  go_ret2
  exact ⟨hb,.inl ⟨x,_,H1.out,rfl,hx,hd⟩⟩
 ·have H1:Hid (res=(none,1)):=h1
  clear h1 hr hg
  go_wp2_with fail
  go_ret2
  exact ⟨hb.al _,.inr (.inl ⟨H1.out,_,_,rfl,heap_new _ _ _ rfl⟩)⟩
 ·have H1:Hid (res=(none,2)):=h1
  clear h1 hr hg
  go_wp2_with fail
  go_ret2
  exact ⟨hb.al _,.inr (.inr ⟨H1.out,_,_,rfl,heap_new _ _ _ rfl⟩)⟩
set_option maxHeartbeats 400000 in
theorem errno_text (s:ByteArray) (tb:Nat) (fa:Addr) (w:World) (hg:Glob w) (ht:w.heap[tb]? = some (.cells #[.string s,.iface 201 (.pointer (some fa))] 127 (0,0))) :
  Calls Tryz.prog 40 #[.iface 125 (.pointer (some ⟨tb,0,none⟩))] w fun e w'=>e=.returned (.int .i64 1)/\Below w.heap.size w w':=by
 obtain ⟨_,⟨eb,eo,h2⟩,_,_⟩:=hg
 have h1:=cell_at (i:=1) ht rfl
 go_enter Tryz.func40,Tryz.ntmps40
 go_wp2_with fail
 refine (is_fault tb eb eo fa _ h2 h1).mono ?_
 rintro e w1 ⟨rfl,rfl⟩
 go_wp2_with fail
 go_ret
 exact ⟨rfl,Below.refl _ _⟩
set_option maxHeartbeats 400000 in
theorem isA_deep (s:ByteArray) (tb:Nat) (fa:Addr) (w:World) (hg:Glob w) (ht:w.heap[tb]? = some (.cells #[.string s,.iface 130 (.pointer (some fa))] 127 (0,0))) :
  Calls Tryz.prog 76 #[.iface 125 (.pointer (some ⟨tb,0,none⟩))] w fun e w'=>e=.returned (.bool true)/\Below w.heap.size w w':=by
 have hg1:Glob (w.alloc (.cells #[.pointer none] 130)):=hg.below ((Below.refl _ _).al _)
 obtain ⟨_,⟨eb,eo,h2⟩,h3,_⟩:=hg1
 have h1:=cell_at (i:=1) (((Below.refl _ w).al (.cells #[.pointer none] 130 (0,0))).heapOf ht) rfl
 have hk:=heap_new w (.cells #[.pointer none] 130 (0,0)) _ rfl
 go_enter Tryz.func76,Tryz.ntmps76
 go_wp2_with fail
 refine (as_deep tb w.heap.size fa _ h3 h1 hk).mono ?_
 rintro e w2 ⟨rfl,ho⟩
 go_wp2_with fail
 go_ret
 exact ⟨rfl,((Below.refl _ _).al _).trans (ho.below (Nat.le_refl _) (by simp))⟩
set_option maxHeartbeats 400000 in
theorem errno_deep (s:ByteArray) (tb:Nat) (fa:Addr) (w:World) (hg:Glob w) (ht:w.heap[tb]? = some (.cells #[.string s,.iface 130 (.pointer (some fa))] 127 (0,0))) :
  Calls Tryz.prog 40 #[.iface 125 (.pointer (some ⟨tb,0,none⟩))] w fun e w'=>e=.returned (.int .i64 2)/\Below w.heap.size w w':=by
 have hA:=isA_deep s tb fa w hg ht
 obtain ⟨_,⟨eb,eo,h2⟩,h3,_⟩:=hg
 have h1:=cell_at (i:=1) ht rfl
 go_enter Tryz.func40,Tryz.ntmps40
 go_wp2_with fail
 refine (is_deep tb eb eo fa _ h1).mono ?_
 rintro e w1 ⟨rfl,rfl⟩
 go_wp2_with fail
 refine hA.mono ?_
 rintro e w2 ⟨rfl,hb⟩
 go_wp2_with fail
 go_ret
 exact ⟨rfl,hb⟩
end Go.Proofs.YtpbbmagjhkakgaaGreatDoor
