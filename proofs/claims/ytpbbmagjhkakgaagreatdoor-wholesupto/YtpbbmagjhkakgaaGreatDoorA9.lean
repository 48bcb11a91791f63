import Derived.Test.YtpbbmagjhkakgaaGreatDoorA6
import Derived.BigQuiet
namespace Go.Proofs.YtpbbmagjhkakgaaGreatDoor
set_option maxHeartbeats 1000000
open Tryz Go.RowKit Go.Deep
theorem bG.drewN{S B w x v}(h:bG S B w x v)(n):bG S B (w.drewN n) x v:=
 bG.heap (w:=w) (w':=w.drewN n) (λ_ _ _ a=>a) h
theorem QF:∀x (v B) (w),bG 143 B w x v->bD x<=400->
  Calls prog 116 #[v] w λe A=>e=.returned (Iv (bD x))/\∃n,A=w.drewN n:=by
 intro x
 induction x with
 |nil=>
  intro v B w h _;subst h;go_enter func116,ntmps116;go_wp2;go_ret;exact⟨rfl,0,rfl⟩
 |node k m a l r j f=>
  intro v B w h s;obtain⟨b,c,d,rfl,H,o,t,z⟩:=h;have I:=aD (i:=4) o rfl;have G:=aD (i:=5) o rfl;have F:bD l<=399:=by simp only[bD]at s;omega
  have E:bD r<=399:=by simp only[bD]at s;omega
  have y:Hid (bD (.node k m a l r)=1+max (bD l) (bD r)):=rfl;generalize bD (.node k m a l r)=D at*;have C:Hid (∀W,bG 143 B W l c->_):=λW (g:bG 143 B W l c)=>j c B W g aA;have u:Hid (∀W,bG 143 B W r d->_):=λW (g:bG 143 B W r d)=>f d B W g aA;generalize bD l=p at*;generalize bD r=q at*;go_enter func116,ntmps116;go_wp2;go_quiet(first
   |(go_at_call_of 116 (c);exact Calls.quiet_of (C.out _ (t.drewN _)))
   |(go_at_call_of 116 (d);exact Calls.quiet_of (u.out _ (z.drewN _))))
  go_wp2
  all_goals go_ret
  all_goals exact⟨iH (by rw[y.out]<;>omega),_,rfl⟩
theorem w_:∀x (v B) (w),bG 143 B w x v->bD x<=400->Kf x->
  Calls prog 42 #[v] w λe E=>e=.returned (Iv (bE x))/\∃n,E=w.drewN n:=by
 intro x
 induction x with
 |nil=>
  intro v B w h _ _;subst h;go_enter func42,ntmps42;go_wp2;go_ret;exact⟨rfl,0,rfl⟩
 |node m o a l r k f=>
  intro v B w h s hw;obtain⟨b,c,d,rfl,M,j,t,z⟩:=h;have⟨⟨hw1,hw2,hw3⟩,wl,wr'⟩:=hw;have Q:=aD (i:=3) j rfl;have O:=aD (i:=4) j rfl;have J:=aD (i:=5) j rfl;have I:bD l<=399:=by simp only[bD]at s;omega
  have G:bD r<=399:=by simp only[bD]at s;omega
  have C:=kS wl;have A:=kS wr';have y:Hid (bE (.node m o a l r)=a.hi+max (bE l) (bE r)):=rfl;generalize bE (.node m o a l r)=D at*;have F:Hid (∀W,bG 143 B W l c->_):=λW (g:bG 143 B W l c)=>k c B W g aA wl;have u:Hid (∀W,bG 143 B W r d->_):=λW (g:bG 143 B W r d)=>f d B W g aA wr';have N:=C.1;have K:bE l<=399000000:=aA;have L:=A.1;have P:bE r<=399000000:=aA;generalize bE l=p at*;generalize bE r=q at*;have H:0<=a.hi:=aA;generalize a.hi=hi at*;go_enter func42,ntmps42;go_wp2;go_quiet(first
   |(go_at_call_of 42 (c);exact Calls.quiet_of (F.out _ (t.drewN _)))
   |(go_at_call_of 42 (d);exact Calls.quiet_of (u.out _ (z.drewN _))))
  go_wp2
  all_goals go_ret
  all_goals exact⟨iH (by rw[y.out]<;>omega),_,rfl⟩
end Go.Proofs.YtpbbmagjhkakgaaGreatDoor
