import Derived.Test.YtpbbmagjhkakgaaGreatDoorA7
import Derived.Test.YtpbbmagjhkakgaaGreatDoorA9
namespace Go.Proofs.YtpbbmagjhkakgaaGreatDoor
set_option maxHeartbeats 1000000
open Tryz Go.RowKit Go.Deep
def IK(w:aC)(res:aR (BT dD)×Int)(e:Ending)(b:aC):Prop:=
 Bl w b/\((∃x v,res=(some x,0)/\e=.returned (.tuple #[v,.nilIface])/\bG 143 w.heap.size b x v/\bD x<=12)
  \/(res=(none,1)/\∃a,e=.returned (.tuple #[.pointer none,.iface 201 (.pointer (some a))]))
  \/(res=(none,2)/\∃a,e=.returned (.tuple #[.pointer none,.iface 130 (.pointer (some a))])))
theorem Rt(s w)(c:300<s.size)(b:s.size<=maxLen):Calls prog 74 #[.string s] w (IK w (cW s)):=by
 let a:cW s=(none,1):=by unfold cW;rw[bY c]
 rw[a];unfold maxLen at b;go_enter func74,ntmps74;go_wp2;go_ret2;exact⟨aV.al _,.inr (.inl ⟨rfl,_,rfl⟩)⟩
theorem Ov(s w)(L:s.size<=300)(K:jA w)(F:14<=w.heap.size):Calls prog 74 #[.string s] w (IK w (cW s)):=by
 have p:Hid (cW s=match eA s s.size 0 32 []with
  |none=>(none,1)
  |some b=>match l_ b.length b with
   |none=>(none,1)
   |some (x,r)=>match cU (-1) r with
    |none=>(none,1)
    |some _=>if 12<bD x then(none,2)else(some x,0)):=by show _=_;unfold cW;rw[bN aA];rfl
 generalize cW s=res at*;go_enter func74,ntmps74;go_wp2_with fail;apply(U6 s w L).mono;rintro e h ⟨a,⟨b,v,j,rfl,f,n,G⟩|⟨j,E,rfl⟩⟩
 rotate_left
 .go_wp2;go_ret2;exact⟨a,.inr (.inl ⟨by rw[p.out];simp only[j],_,rfl⟩)⟩
 have q:=a.size;have⟨tb,off,cap,cs,te,tm,tail,hv,htb,hx⟩:=id f;rw[hv]at f;rw[hv];have t:kB 208 h.heap.size (h.alloc (.cells #[.slice (some (Ad tb off)) b.length cap] 208 (0,0))) b:=
  ⟨_,aQ _ _ _ rfl,f.only (s:=h.heap.size) ((Only.refl _ _).alloc _) aZ⟩
 go_wp2_with fail;apply(Ac b.length h.heap.size b _ t n ((K.below a).below (aV.al _)) aA aZ).mono;rintro e Q ⟨i,⟨x,r,v,g,rfl,k,A⟩|⟨g,E,rfl⟩⟩
 rotate_left
 .go_wp2;go_ret2;exact⟨(a.al (.cells #[.slice (some (Ad tb off)) b.length cap] 208 (0,0))).trans (i.below q bI),.inr (.inl ⟨by rw[p.out];simp only[j,g],_,rfl⟩)⟩
 have o:=(a.al (.cells #[.slice (some (Ad tb off)) b.length cap] 208 (0,0))).trans (i.below q bI);have⟨e2,l2⟩:=qO _ _ _ _ n g;have J:=xH _ _ _ _ g;obtain⟨N,rfl⟩:=gZ k;go_wp2_with fail;apply(pX h.heap.size r (-1) _ _ A e2).mono;rintro e I ⟨d,⟨O,z,rfl,M⟩|⟨z,E,rfl⟩⟩
 rotate_left
 .go_wp2;go_ret2;exact⟨o.trans (d.below q (by have:=o.size;omega)),.inr (.inl ⟨by rw[p.out];simp only[j,g,z],_,rfl⟩)⟩
 have l:=(k.only d aA).low (B':=w.heap.size) aA;have m:Hid (res=if 12<bD x then(none,2)else(some x,0)):=by show _=_;rw[p.out];simp only[j,g,z]
 go_wp2_with fail;apply(QF x _ _ _ l aA).mono;rintro e P ⟨rfl,y,rfl⟩;have C:Bl w (I.drewN y):=below_drewN (o.trans (d.below q (by have:=o.size;omega))) y;have B:=l.drewN y;by_cases u:12<bD x
 .have c:Hid (res=(none,2)):=by show _=_;rw[m.out,bY u]
  generalize bD x=D at*;go_wp2;go_ret2;exact⟨C.al _,.inr (.inr ⟨c.out,_,rfl⟩)⟩
 .have c:Hid (res=(some x,0)):=by show _=_;rw[m.out,bN u]
  have VA:bD x<=12:=aA;have H:=hid VA;generalize bD x=D at u VA J;go_wp2;go_ret2;exact⟨C,.inl ⟨x,_,c.out,rfl,B,H.out⟩⟩
end Go.Proofs.YtpbbmagjhkakgaaGreatDoor
