import Derived.Test.YtpbbmagjhkakgaaGreatDoorPureNumToWindow
import Derived.Test.YtpbbmagjhkakgaaGreatDoorRead
import Derived.Test.YtpbbmagjhkakgaaGreatDoorErrs2
import Derived.Test.YtpbbmagjhkakgaaGreatDoorPureToLfTape
import Derived.Test.YtpbbmagjhkakgaaGreatDoorProg
import Derived.Shelf.Strings.BuilderRune
namespace Go.Proofs.YtpbbmagjhkakgaaGreatDoor
section
open Go.Deep (BT)
theorem sw (s:ByteArray) (hs:s.size<=300):∀ (b pos:Nat) (last:Int) (bp ts:List Tok),Mid pos last bp->cJ s b pos last bp=some ts->Ends ts
 | 0,pos,last,bp,ts,hm,h=>by
  simp only [cJ] at h
  injection h with h
  subst h
  exact hm.ends s
 | b+1,pos,last,bp,ts,hm,h=>by
  by_cases hp:pos<s.size
  ·have hw:=width_pos s pos hp
   simp only [cJ] at h
   rw [if_pos hp] at h
   by_cases h2:bM (Utf8.decode s pos).1 = -2
   ·rw [if_pos h2] at h;cases h
   ·rw [if_neg h2] at h
    have hne:bM (Utf8.decode s pos).1≠-1:=by
     rcases signF_ne (Utf8.decode s pos).1 with h | h
     ·exact h
     ·exact absurd h h2
    by_cases h3:bM (Utf8.decode s pos).1=last/\gR (bM (Utf8.decode s pos).1)=true
    ·rw [if_pos h3] at h
     have hnn:=hm.join (by rw [<- h3.1];exact h3.2)
     obtain ⟨ts0,t,rfl⟩:∃ ts0 t,bp=ts0++[t]:=⟨bp.dropLast,bp.getLast hnn,(List.dropLast_concat_getLast hnn).symm⟩
     rw [pT] at h
     exact sw s hs b _ _ _ ts (hm.grow (by omega) hs) h
    ·rw [if_neg h3] at h
     by_cases h4:bM (Utf8.decode s pos).1=32
     ·rw [if_pos h4,h4] at h
      exact sw s hs b _ _ _ ts (hm.blank (by omega)) h
     ·rw [if_neg h4] at h
      exact sw s hs b _ _ _ ts (hm.more (by omega) hne) h
  ·rw [mg s _ pos last bp hp] at h
   injection h with h
   subst h
   exact hm.ends s
theorem iJ {s:ByteArray} {x:BT aO} {n:Int} (h:cI s=(some x,n)):Good x/\mn x/\aK x<=12/\n=0:=by
 have hs:s.size<=300:=by
  refine Nat.le_of_not_lt fun h2=>?_
  rw [readF_long h2] at h
  cases h
 exact ⟨readF_good h (fun ts hts=>sw s hs _ _ _ _ _ Mid.start hts),readF_zero h⟩
theorem eX:∀ {x:BT aO},WinOK x->0<=ax x
 | .nil,_=>by simp [ax]
 | .node _ _ a l r,h=>by
  obtain ⟨h1,h2,h3⟩:=h
  have:=eX h2
  have:=eX h3
  simp only [ax]
  omega
end
section
open Go.RowKit Go.Deep
structure eF (w:World):Prop where
 conv:eh w
 ns:∃ eb eo,w.cell? ⟨0,0,none⟩=some (.iface 357 (.pointer (some ⟨eb,eo,none⟩)))
 et:w.cell? ⟨7,0,none⟩=some (.iface 266 (.agg #[.pointer (some ⟨14,89,none⟩)]))
 tab:∃ e m,w.heap[9]? = some (.cells (Lib.pow10Tab.map fun z=>Value.int .u64 z).toArray e m)
theorem eF.only {s:Nat} {w w':World} (h:eF w) (ho:Only s w w') (hs:14<=s):eF w':=by
 obtain ⟨h1,⟨eb,eo,h2⟩,h3,⟨e,m,h4⟩⟩:=h
 have c:∀ k,k<14->k<w.heap.size->w'.cell? ⟨k,0,none⟩=w.cell? ⟨k,0,none⟩:=fun k hk hl=>World.cell?_of_block (w:=w) (a:=⟨k,0,none⟩) (ho.block k hl (by omega))
 exact ⟨h1.only ho hs,⟨eb,eo,by rw [c _ (by decide) (i_ h2)];exact h2⟩,by rw [c _ (by decide) (i_ h3)];exact h3,⟨e,m,ho.heap h4 (by omega)⟩⟩
theorem eF.below {w w':World} (h:eF w) (hb:Below w.heap.size w w'):eF w':=h.only (s:=14) (Only.aL hb) (Nat.le_refl _)
def ReadTop (s:ByteArray) (w:World) (res:Option (BT aO)×Int) (e:Ending) (w':World):Prop :=
 Below w.heap.size w w'/\((∃ x v,res=(some x,0)/\e=.returned (.tuple #[v,.nilIface])/\aC 143 w.heap.size w' x v/\aK x<=12)
  \/(res=(none,1)/\∃ tb fa,e=.returned (.tuple #[.pointer none,.iface 125 (.pointer (some ⟨tb,0,none⟩))])/\w'.heap[tb]? = some (.cells #[.string s,.iface 201 (.pointer (some fa))] 127 (0,0)))
  \/(res=(none,2)/\∃ tb fa,e=.returned (.tuple #[.pointer none,.iface 125 (.pointer (some ⟨tb,0,none⟩))])/\w'.heap[tb]? = some (.cells #[.string s,.iface 130 (.pointer (some fa))] 127 (0,0))))
set_option maxHeartbeats 400000 in
theorem readTop_any (s:ByteArray) (w:World) (hm:s.size<=maxLen) (hg:eF w) (l9:14<=w.heap.size):Calls Tryz.prog 39 #[.string s] w (ReadTop s w (cI s)):=by
 have hr:Calls Tryz.prog 74 #[.string s] w (ReadEnd w (cI s)):=by
  by_cases hs:300<s.size
  ·exact read_long s w hs hm
  ·exact read_short s w (by omega) hg.conv l9
 generalize cI s=res at *
 go_enter Tryz.func39,Tryz.ntmps39
 go_wp2_with fail
 refine hr.mono ?_
 rintro e w1 ⟨hb,⟨x,v,h1,rfl,hx,hd⟩ | ⟨h1,fa,rfl⟩ | ⟨h1,fa,rfl⟩⟩
 ·have H1:Hid (res=(some x,0)):=h1
  obtain ⟨vv,rfl⟩:=gZ hx
  clear h1 hr hg
  go_wp2_with fail
  go_ret2
  exact ⟨hb,.inl ⟨x,_,H1.out,rfl,hx,hd⟩⟩
 ·have H1:Hid (res=(none,1)):=h1
  clear h1 hr hg
  go_wp2_with fail
  go_ret2
  exact ⟨hb.al _,.inr (.inl ⟨H1.out,_,_,rfl,aB _ _ _ rfl⟩)⟩
 ·have H1:Hid (res=(none,2)):=h1
  clear h1 hr hg
  go_wp2_with fail
  go_ret2
  exact ⟨hb.al _,.inr (.inr ⟨H1.out,_,_,rfl,aB _ _ _ rfl⟩)⟩
theorem below_drewN (w:World) (n:Nat):Below w.heap.size w (w.drewN n):=⟨rfl,rfl,rfl,Nat.le_refl _,fun _ _=>rfl⟩
end
end Go.Proofs.YtpbbmagjhkakgaaGreatDoor
