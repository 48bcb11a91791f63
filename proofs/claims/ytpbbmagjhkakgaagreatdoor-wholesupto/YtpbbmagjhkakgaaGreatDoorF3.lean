import Derived.Test.YtpbbmagjhkakgaaGreatDoorE8
import Derived.Test.YtpbbmagjhkakgaaGreatDoorE9
namespace Go.Proofs.YtpbbmagjhkakgaaGreatDoor
set_option maxRecDepth 100000
namespace Ev
open Go.Proofs.Tryz Go.RowKit Go.Deep Go.Maps Lf Go.Conc
noncomputable def Nb:Code:=f11.body.getD .skip
noncomputable def a11:Code:=match Nb with
 |.seq x _=>x
 |_=>.skip
noncomputable def EM:aU Oper:=match Nb with
 |.seq _ (.seq (.region _ x _) _)=>x
 |_=>#[]
theorem Qw:f11.body=some (oX [a11] (.seq (.region 1 EM false) .ret)):=rfl
def Vv(a:aC)(e:Ending)(c:aC):Prop:=e=.returned (.bool true)/\aH (λb=>a.heap.size<=b) a c
theorem Vv.re{b:aC}(e:Ending)(w':aC)(a:Tape)(d:Nat)(h:Vv b e w'):Vv b e (re w' a d):=⟨h.1,h.2.g_ a d⟩
theorem Ya(v:aE)(w:aC)(J:Act->aC->bQ)(a:J ⟨#[v,undef,.bool false,undef,undef,undef],[]⟩ w):kW prog [a11] J ⟨#[v]++Array.replicate 5 undef,[]⟩ w:=by
 replace a:Hid _:=a;simp only[a11,Nb,f11,fD,uK,uL,uO,uM,jq,lq];unfold kW;go_wp2
 try refine⟨rfl,?_⟩
 unfold kW;exact a.out
theorem O_{w:aC}(S:aB n_)(v:aE)(F:yL w S v)(g:S.length<=900000)(l:dP w)(f:cZ w)(k:14<=w.heap.size):
  cI prog 11 #[v] w (Vv w):=by
 apply cI.wX aK Vv.re func11 Qw;refine eX.pieces aK [a11] (λA w'=>A=⟨#[v,undef,.bool false,undef,undef,undef],[]⟩/\∃a d,w'=re w a d) (λA w' a d h=>⟨h.1,a,d,by obtain⟨_,_,rfl⟩:=h.2;rfl⟩) (λa d=>Ya v _ _ ⟨rfl,a,d,rfl⟩) ?_;rintro A G ⟨rfl,a,d,rfl⟩;obtain⟨I,n,d0,t,B⟩:ra EM 0 3 (.move (.tmp 0)):=⟨_,rfl,rfl,rfl,rfl⟩;obtain⟨J,q,E,y,r⟩:ra EM 1 4 (.call {callee:=.value (.func 13),args:=#[.tmp 3,.const (.int .i64 13)],argTypes:=#[22,3]}):=⟨_,rfl,rfl,rfl,rfl⟩;obtain⟨H,o,m,x,p⟩:ra EM 2 5 (.binOp .eql 3 (.tmp 4) (.const (.int .i64 (-1))) 3):=⟨_,rfl,rfl,rfl,rfl⟩;obtain⟨K,C,D,s,z⟩:ra EM 3 2 (.assign (.tmp 5)):=⟨_,rfl,rfl,rfl,rfl⟩;refine eX.seq' aK (λA w'=>A=⟨#[v,undef,.bool true,v,.int .i64 (-1),.bool true],[]⟩/\Vv w (.returned (.bool true)) w') ((?_:eX prog (.region 1 EM false) (λe A w'=>e=.normal/\A=⟨#[v,undef,.bool true,v,.int .i64 (-1),.bool true],[]⟩/\Vv w (.returned (.bool true)) w') _ _).mono ?_) ?_
 .let b:¬LetsOut (λ(e:Exit)(A:Act)(w':aC)=>e=.normal/\A=⟨#[v,undef,.bool true,v,.int .i64 (-1),.bool true],[]⟩/\Vv w (.returned (.bool true)) w'):=λ⟨_,_,h,_⟩=>by cases h
  apply eX.region aK;show iq prog EM _ [0,1,2,3] _ _;refine iq.val aK n B d0 (λ_ _ _ _ _ h=>by cases h.1) b (v:=v) (w':=re w a d) (λa e=>?_) ?_
  .unfold execOp;simp only[t];rfl
  refine iq.call aK q (by simp[Region.wanted,r]) (λa d=>?_) (cI.re (Mg S v 13 F g l f k (Px aG l f k)) a d) (λc w' h=>by cases h.1) (λw' h=>by cases h.1) λu i j=>?_
  .rw[run_call_body y func13 rfl rfl,Dj];rfl
  cases j.1;rw[E];refine iq.val aK o p m (λ_ _ _ _ _ h=>by cases h.1) b (v:=.bool true) (w':=i) (λa e=>?_) ?_
  .unfold execOp;simp only[x];rfl
  refine iq.val aK C z D (λ_ _ _ _ _ h=>by cases h.1) b (v:=.bool true) (w':=i) (λa e=>?_) (iq.nil aK λa d=>⟨rfl,rfl,rfl,j.2.g_ a d⟩);unfold execOp;simp only[s];rfl
 .rintro e A w' ⟨rfl,h⟩;exact h
 .rintro A w' ⟨rfl,h⟩;exact eX.ret aK λa d=>wI (v:=.bool true) (by simp[results,results11]) rfl (Vv.re _ _ a d h)
end Ev
end Go.Proofs.YtpbbmagjhkakgaaGreatDoor
