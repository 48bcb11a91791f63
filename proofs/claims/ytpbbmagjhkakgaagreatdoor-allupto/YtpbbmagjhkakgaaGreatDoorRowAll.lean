/-
  All, proved of every script whose bulk is at most 1,048,576: on every schedule the call returns true, without a data race, the goroutines that it started are done or only leaving, and the script reads as it did; the package-level variables start as the program's text lays them (the tie is given).
-/
import Derived.Test.YtpbbmagjhkakgaaGreatDoorD1
import Derived.Test.YtpbbmagjhkakgaaGreatDoorE8
import Derived.Test.YtpbbmagjhkakgaaGreatDoorE9
namespace Go.Proofs.YtpbbmagjhkakgaaGreatDoor
set_option maxRecDepth 100000
open Go.Proofs.Tryz Go.ChangeShapes Go.WideShapes Go.ChangeAt Go.RowKit Go.Deep Go.Conc Ev Lf
theorem Sd{H:Type}{g:TypeId×aF->H}(W:aC)(base:Nat)(a:aY aF)(n u:aB (DataW H))(b:aB MemPlace)
  (d:∀(j:Nat) t v,f12.params[j]?=some t->a[j]?=some v->Value.okWide prog W .any base t v)
  (y:DataW.Whole g prog f12.params.toList Rows.allSpec.vars false W a.toList n u b) (C:Rows.uptoSmall H (n++u)=true) (hL:laidMetH prog Rows.printedRow.laid W):
  ∃M last o f i,runNT prog (M+1) (solo (G (Frame.enter prog 12 a .normal) []) W) #[]=(.ended o f,i)/\runN prog M (solo (G (Frame.enter prog 12 a .normal) []) W)=.next last/\
   step prog last=.ended o f/\Conc.Good prog (λv B=>Rows.allSpec.post g prog f12 false true false false W a v B) last o f i:=by
 let c:=d;let hW':=y;obtain⟨p,q,m,D,rfl,F,I⟩:=y;let r:=m;rw[params12]at r c;obtain⟨z,d0,rfl,rfl,s⟩:=trodAll_one r;obtain⟨rfl,rfl⟩:=trodVars_none D;let A:Rows.uptoBulkAll [d0]<=1048576:=Fe C;simp only[Rows.uptoBulkAll]at A;let⟨S,hS,hn⟩:=Jf (c 0 22 z rfl rfl) s aA;let⟨hg,h7⟩:=IE hL;simp only[Ht]at hW';let l:Rows.allSpec.fn H ([d0]++[])={results:=[.lit (.bool true)],args:=[d0]}:=by simp[Rows.allSpec]
 let⟨M,last,o,f,i,r1,r2,r3,r4⟩:=(U_ S z hS aA hg (FU hL) h7).aam func12 (t:=2) rfl aM JB.re λe w h=>⟨_,h.1⟩;refine⟨M,last,o,f,i,r1,r2,r3,r4.mono λv E=>?_⟩;let⟨he,k⟩:=E;cases he;replace k:aI (λ_=>False) W _:=k.mono λx J h=>absurd h (xp.2 J);refine⟨_,_,_,[],p,[],hW',?_,?_,?_,LH k _,λh=>by cases h⟩
 .rw[l];exact trodAll_mk1 (shut_bool underlying4 true)
 .rw[l];exact trodAll_mk1 (Oh Tp Zx aaI s k hW'.lt)
 .rw[l];rfl
theorem PI(os:Os){H:Type}(a:TypeId×aF->H):DataW.whole a prog ((World.doorLaid prog 600 os).forCall (λ_ _=>0) ⟨#[],#[.slice none 0 0],[]⟩).memory f12.params.toList Rows.allSpec.vars false #[Value.slice none 0 0].toList 8=some ([.nil],[],[]):=aM
theorem Ml(os:Os)(a:os.Started)(H:Type)(enc:TypeId×aF->H)(F:Stop.Interp):
  ReturnsInLeavingWide {} checked os 12 .any ((Rows.OpenSpec.upto Rows.allSpec).preRow enc prog f12 Rows.allUptoRow.domain false Rows.allUptoRow.laid) (((Rows.OpenSpec.upto Rows.allSpec).at F).post enc prog f12 false true false false):=by
 refine D' (C:=checked) (s:=Rows.OpenSpec.upto Rows.allSpec) aaP a func12
  (witness_row_atRef (enc:=enc) (C:=checked) false (World.doorLaid prog 600 os) #[.slice none 0 0] rfl aM aM aM
   (OpenSpec.preRow_of_cond 8 (PI os enc) aM (λk f=>by cases f;kernel_rfl) aM (Sw os _))) ?_
 intro W base d h g b e i c hL;exact Sd W base d h g b e i (c _ rfl) hL
theorem U':Rows.AllUptoSaid:=
 Tb 12 f12 ⟨rfl,rfl,rfl⟩ rfl rfl ⟨rfl,rfl,rfl,rfl,rfl,rfl,rfl⟩ rfl rfl rfl rfl rfl PH func12 Mk Sc Se
  (λos a H b F=>by rw[OpenClaim.pre_eq_preRow];exact Ml os a H b F)
theorem all_holds:Rows.AllUptoCardSaid:=
 CS .later [.data,.data,.data,.handle,.sentinel,.sentinel,.sentinel,.sentinel,.sentinel,.sentinel,.sentinel,.sentinel,.sentinel] true Rows.allUptoCard.stood.harness true
  U' aM allUpto_row_tie rfl ⟨rfl,rfl⟩ aM rfl
  (λf c e b=>by
   obtain rfl:f=12:=oW ((show prog.funcNamed "vigil/vigillaw.All"=some 12 from aM).symm.trans e)|>.symm
   obtain rfl:c=f12:=(oW (func12.symm.trans b)).symm
   exact⟨aM,λj t a=>by
    rw[params12]at a
    have d:t=22:=by
     rcases j with _|j
     .simpa using a.symm
     .simp at a
    subst d;exact(show prog.wantsStandIn 22=false by kernel_rfl)⟩)
  (by kernel_rfl)
end Go.Proofs.YtpbbmagjhkakgaaGreatDoor
