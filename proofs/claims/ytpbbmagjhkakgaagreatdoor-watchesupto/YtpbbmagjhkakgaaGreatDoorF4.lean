import Derived.Test.YtpbbmagjhkakgaaGreatDoorE9
namespace Go.Proofs.YtpbbmagjhkakgaaGreatDoor
set_option maxRecDepth 100000
namespace Ev
open Go.Proofs.Tryz Go.RowKit Go.Deep Go.Maps Lf Go.Conc
noncomputable def S7:Code:=f5.body.getD .skip
noncomputable def a5:Code:=match S7 with
 |.seq x _=>x
 |_=>.skip
noncomputable def qo:aU Oper:=match S7 with
 |.seq _ (.seq (.region _ x _) _)=>x
 |_=>#[]
theorem S8:f5.body=some (oX [a5] (.seq (.region 1 qo false) .ret)):=rfl
def Vw(a:aC)(e:Ending)(c:aC):Prop:=e=.returned (.bool true)/\aH (λb=>a.heap.size<=b) a c
theorem Vw.re{b:aC}(e:Ending)(w':aC)(a:Tape)(d:Nat)(h:Vw b e w'):Vw b e (re w' a d):=⟨h.1,h.2.g_ a d⟩
theorem ZE(v:aE)(w:aC)(J:Act->aC->bQ)(a:J ⟨#[v,undef,.bool false,undef,undef,undef],[]⟩ w):kW prog [a5] J ⟨#[v]++Array.replicate 5 undef,[]⟩ w:=by
 replace a:Hid _:=a;simp only[a5,S7,f5,fD,uK,uL,uO,uM,jq,lq];unfold kW;go_wp2
 try refine⟨rfl,?_⟩
 unfold kW;exact a.out
theorem Mn{w:aC}(S:aB n_)(v:aE)(F:yL w S v)(g:S.length<=900000)(l:dP w)(f:cZ w)(k:14<=w.heap.size):
  cI prog 5 #[v] w (Vw w):=by
 apply cI.wX aK Vw.re func5 S8;refine eX.pieces aK [a5] (λA w'=>A=⟨#[v,undef,.bool false,undef,undef,undef],[]⟩/\∃a d,w'=re w a d) (λA w' a d h=>⟨h.1,a,d,by obtain⟨_,_,rfl⟩:=h.2;rfl⟩) (λa d=>ZE v _ _ ⟨rfl,a,d,rfl⟩) ?_;rintro A G ⟨rfl,a,d,rfl⟩;obtain⟨I,n,d0,t,B⟩:ra qo 0 3 (.move (.tmp 0)):=⟨_,rfl,rfl,rfl,rfl⟩;obtain⟨J,q,E,y,r⟩:ra qo 1 4 (.call {callee:=.value (.func 13),args:=#[.tmp 3,.const (.int .i64 11)],argTypes:=#[22,3]}):=⟨_,rfl,rfl,rfl,rfl⟩;obtain⟨H,o,m,x,p⟩:ra qo 2 5 (.binOp .eql 3 (.tmp 4) (.const (.int .i64 (-1))) 3):=⟨_,rfl,rfl,rfl,rfl⟩;obtain⟨K,C,D,s,z⟩:ra qo 3 2 (.assign (.tmp 5)):=⟨_,rfl,rfl,rfl,rfl⟩;refine eX.seq' aK (λA w'=>A=⟨#[v,undef,.bool true,v,.int .i64 (-1),.bool true],[]⟩/\Vw w (.returned (.bool true)) w') ((?_:eX prog (.region 1 qo false) (λe A w'=>e=.normal/\A=⟨#[v,undef,.bool true,v,.int .i64 (-1),.bool true],[]⟩/\Vw w (.returned (.bool true)) w') _ _).mono ?_) ?_
 .let b:¬LetsOut (λ(e:Exit)(A:Act)(w':aC)=>e=.normal/\A=⟨#[v,undef,.bool true,v,.int .i64 (-1),.bool true],[]⟩/\Vw w (.returned (.bool true)) w'):=λ⟨_,_,h,_⟩=>by cases h
  apply eX.region aK;show iq prog qo _ [0,1,2,3] _ _;refine iq.val aK n B d0 (λ_ _ _ _ _ h=>by cases h.1) b (v:=v) (w':=re w a d) (λa e=>?_) ?_
  .unfold execOp;simp only[t];rfl
  refine iq.call aK q (by simp[Region.wanted,r]) (λa d=>?_) (cI.re (Mg S v 11 F g l f k (Wa aG aG l f k)) a d) (λc w' h=>by cases h.1) (λw' h=>by cases h.1) λu i j=>?_
  .rw[run_call_body y func13 rfl rfl,Dj];rfl
  cases j.1;rw[E];refine iq.val aK o p m (λ_ _ _ _ _ h=>by cases h.1) b (v:=.bool true) (w':=i) (λa e=>?_) ?_
  .unfold execOp;simp only[x];rfl
  refine iq.val aK C z D (λ_ _ _ _ _ h=>by cases h.1) b (v:=.bool true) (w':=i) (λa e=>?_) (iq.nil aK λa d=>⟨rfl,rfl,rfl,j.2.g_ a d⟩);unfold execOp;simp only[s];rfl
 .rintro e A w' ⟨rfl,h⟩;exact h
 .rintro A w' ⟨rfl,h⟩;exact eX.ret aK λa d=>wI (v:=.bool true) (by simp[results,results5]) rfl (Vw.re _ _ a d h)
end Ev
end Go.Proofs.YtpbbmagjhkakgaaGreatDoor
