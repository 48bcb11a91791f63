/-
  Wholes, proved of every script whose bulk is at most 1,048,576: on every schedule the call returns true, without a data race, the goroutines that it started are done or only leaving, and the script reads as it did; the package-level variables start as the program's text lays them (the tie is given).
-/
import Derived.Test.YtpbbmagjhkakgaaGreatDoorB2
import Derived.Test.YtpbbmagjhkakgaaGreatDoorF1
import Derived.Test.YtpbbmagjhkakgaaGreatDoorF3
namespace Go.Proofs.YtpbbmagjhkakgaaGreatDoor
set_option maxRecDepth 100000
open Go.Proofs.Tryz Go.ChangeShapes Go.WideShapes Go.ChangeAt Go.RowKit Go.Deep Go.Conc Ev Lf
theorem Mr{H:Type}{f:TypeId×aE->H}(W:aC)(base:Nat)(a:aU aE)(n y:aB (DataW H))(c:aB MemPlace)
  (b:∀(j:Nat) t v,f11.params[j]?=some t->a[j]?=some v->Value.okWide prog W .any base t v)
  (u:DataW.Whole f prog f11.params.toList Rows.wholesSpec.vars false W a.toList n y c) (E:Rows.uptoSmall H (n++y)=true) (hL:laidMetH prog Rows.printedRow.laid W):
  ∃M last o i k,runNT prog (M+1) (solo (G (Frame.enter prog 11 a .normal) []) W) #[]=(.ended o i,k)/\runN prog M (solo (G (Frame.enter prog 11 a .normal) []) W)=.next last/\
   step prog last=.ended o i/\Conc.Good prog (λv L=>Rows.wholesSpec.post f prog f11 false true false false W a v L) last o i k:=by
 have d:∀(j:Nat) t v,f11.params[j]?=some t->a[j]?=some v->Value.okWide prog W .any base t v:=b;have Tz:=u;obtain⟨p,q,g,U,rfl,C,I⟩:=u;have B:DataW.TrodAll f prog W 0 (λ_=>true) true f11.params.toList a.toList n p:=g;rw[params11]at B d;obtain⟨z,d0,rfl,rfl,A⟩:=trodAll_one B;obtain⟨rfl,rfl⟩:=trodVars_none U;have V:Rows.uptoBulkAll [d0]<=1048576:=yC E;simp only[Rows.uptoBulkAll]at V;obtain⟨S,D,X⟩:=uh (d 0 22 z rfl rfl) A aA;obtain⟨N,T⟩:=tT hL;have r:=ru hL;clear g b;simp only[CL]at Tz;have m:∀x∈p,x.block<W.heap.size:=Tz.lt;have s:Rows.wholesSpec.fn H ([d0]++[])={results:=[.lit (.bool true)],args:=[d0]}:=by simp[Rows.wholesSpec]
 obtain⟨M,last,o,i,k,Q,O,K,P⟩:=(O_ S z D aA N r T).Yr func11 (t:=2) rfl aL Vv.re λe w h=>⟨_,h.1⟩;refine⟨M,last,o,i,k,Q,O,K,P.mono λv R=>?_⟩;obtain⟨J,l⟩:=R;cases J;replace l:aH (λ_=>False) W _:=l.mono λx F h=>absurd h (sI.2 F);refine⟨_,_,_,[],p,[],Tz,?_,?_,?_,wC l _,λh=>by cases h⟩
 .rw[s];exact trodAll_mk1 (shut_bool underlying4 true)
 .rw[s];exact trodAll_mk1 (yv Ew US Y1 A l m)
 .rw[s];rfl
theorem JW(os:Os){H:Type}(a:TypeId×aE->H):DataW.whole a prog ((World.doorLaid prog 600 os).forCall (λ_ _=>0) ⟨#[],#[.slice none 0 0],[]⟩).memory f11.params.toList Rows.wholesSpec.vars false #[Value.slice none 0 0].toList 8=some ([.nil],[],[]):=aL
theorem Gw(os:Os)(a:os.Started)(H:Type)(enc:TypeId×aE->H)(F:Stop.Interp):
  ReturnsInLeavingWide {} checked os 11 .any ((Rows.OpenSpec.upto Rows.wholesSpec).preRow enc prog f11 Rows.wholesUptoRow.domain false Rows.wholesUptoRow.laid) (((Rows.OpenSpec.upto Rows.wholesSpec).at F).post enc prog f11 false true false false):=by
 refine qj (C:=checked) (s:=Rows.OpenSpec.upto Rows.wholesSpec) Zj a func11
  (witness_row_atRef (enc:=enc) (C:=checked) false (World.doorLaid prog 600 os) #[.slice none 0 0] rfl aL aL aL
   (OpenSpec.preRow_of_cond 8 (JW os enc) aL (λk i=>by cases i;kernel_rfl) aL (D2 os _))) ?_
 intro W base e f h b d g c hL;exact Mr W base e f h b d g (c _ rfl) hL
theorem Pa:Rows.WholesUptoSaid:=
 En 11 f11 ⟨rfl,rfl,rfl⟩ rfl rfl ⟨rfl,rfl,rfl,rfl,rfl,rfl,rfl⟩ rfl rfl rfl rfl rfl JV func11 Gu Mq Mt
  (λos a H b F=>by rw[OpenClaim.pre_eq_preRow];exact Gw os a H b F)
theorem wholes_holds:Rows.WholesUptoCardSaid:=
 oL .later [.data,.data,.data,.handle,.sentinel,.sentinel,.sentinel,.sentinel,.sentinel,.sentinel,.sentinel,.sentinel,.sentinel] true Rows.wholesUptoCard.stood.harness true
  Pa aL wholesUpto_row_tie rfl ⟨rfl,rfl⟩ aL rfl
  (λf c e a=>by
   obtain rfl:f=11:=nD ((show prog.funcNamed "vigil/vigillaw.Wholes"=some 11 from aL).symm.trans e)|>.symm
   obtain rfl:c=f11:=(nD (func11.symm.trans a)).symm
   exact⟨aL,λj t b=>by
    rw[params11]at b
    have d:t=22:=by
     rcases j with _|j
     .simpa using b.symm
     .simp at b
    subst d;exact(show prog.wantsStandIn 22=false by kernel_rfl)⟩)
  (by kernel_rfl)
end Go.Proofs.YtpbbmagjhkakgaaGreatDoor
