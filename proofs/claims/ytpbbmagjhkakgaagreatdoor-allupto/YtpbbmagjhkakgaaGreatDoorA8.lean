import Derived.Test.YtpbbmagjhkakgaaGreatDoorA5
import Derived.BigQuiet
namespace Go.Proofs.YtpbbmagjhkakgaaGreatDoor
set_option maxHeartbeats 1000000
open Tryz Go.RowKit Go.Deep
theorem bG.drewN{S B w x v}(h:bG S B w x v)(n):bG S B (w.drewN n) x v:=
 bG.heap (w:=w) (w':=w.drewN n) (λ_ _ _ a=>a) h
theorem P5:∀x (v B) (w),bG 143 B w x v->bC x<=400->
  Calls prog 116 #[v] w λe A=>e=.returned (Iv (bC x))/\∃n,A=w.drewN n:=by
 intro x
 induction x with
 |nil=>
  intro v B w h _;subst h;go_enter func116,ntmps116;go_wp2;go_ret;exact⟨rfl,0,rfl⟩
 |node k m a l r j f=>
  intro v B w h s;obtain⟨b,c,d,rfl,H,o,t,z⟩:=h;have I:=aD (i:=4) o rfl;have G:=aD (i:=5) o rfl;have F:bC l<=399:=by simp only[bC]at s;omega
  have E:bC r<=399:=by simp only[bC]at s;omega
  have y:Hid (bC (.node k m a l r)=1+max (bC l) (bC r)):=rfl;generalize bC (.node k m a l r)=D at*;have C:Hid (∀W,bG 143 B W l c->_):=λW (g:bG 143 B W l c)=>j c B W g aA;have u:Hid (∀W,bG 143 B W r d->_):=λW (g:bG 143 B W r d)=>f d B W g aA;generalize bC l=p at*;generalize bC r=q at*;go_enter func116,ntmps116;go_wp2;go_quiet(first
   |(go_at_call_of 116 (c);exact Calls.quiet_of (C.out _ (t.drewN _)))
   |(go_at_call_of 116 (d);exact Calls.quiet_of (u.out _ (z.drewN _))))
  go_wp2
  all_goals go_ret
  all_goals exact⟨iC (by rw[y.out]<;>omega),_,rfl⟩
theorem wG:∀x (v B) (w),bG 143 B w x v->bC x<=400->JN x->
  Calls prog 42 #[v] w λe E=>e=.returned (Iv (bD x))/\∃n,E=w.drewN n:=by
 intro x
 induction x with
 |nil=>
  intro v B w h _ _;subst h;go_enter func42,ntmps42;go_wp2;go_ret;exact⟨rfl,0,rfl⟩
 |node m o a l r k f=>
  intro v B w h s hw;obtain⟨b,c,d,rfl,M,j,t,z⟩:=h;have⟨⟨hw1,hw2,hw3⟩,wl,wr'⟩:=hw;have Q:=aD (i:=3) j rfl;have O:=aD (i:=4) j rfl;have J:=aD (i:=5) j rfl;have I:bC l<=399:=by simp only[bC]at s;omega
  have G:bC r<=399:=by simp only[bC]at s;omega
  have C:=kO wl;have A:=kO wr';have y:Hid (bD (.node m o a l r)=a.hi+max (bD l) (bD r)):=rfl;generalize bD (.node m o a l r)=D at*;have F:Hid (∀W,bG 143 B W l c->_):=λW (g:bG 143 B W l c)=>k c B W g aA wl;have u:Hid (∀W,bG 143 B W r d->_):=λW (g:bG 143 B W r d)=>f d B W g aA wr';have N:=C.1;have K:bD l<=399000000:=aA;have L:=A.1;have P:bD r<=399000000:=aA;generalize bD l=p at*;generalize bD r=q at*;have H:0<=a.hi:=aA;generalize a.hi=hi at*;go_enter func42,ntmps42;go_wp2;go_quiet(first
   |(go_at_call_of 42 (c);exact Calls.quiet_of (F.out _ (t.drewN _)))
   |(go_at_call_of 42 (d);exact Calls.quiet_of (u.out _ (z.drewN _))))
  go_wp2
  all_goals go_ret
  all_goals exact⟨iC (by rw[y.out]<;>omega),_,rfl⟩
end Go.Proofs.YtpbbmagjhkakgaaGreatDoor
