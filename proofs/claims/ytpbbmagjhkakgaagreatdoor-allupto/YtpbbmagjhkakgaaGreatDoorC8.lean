import Derived.Test.YtpbbmagjhkakgaaGreatDoorTie
import Derived.Test.YtpbbmagjhkakgaaGreatDoorCards
import Derived.Test.YtpbbmagjhkakgaaGreatDoorA9
import Derived.Test.YtpbbmagjhkakgaaGreatDoorB2
import Derived.ProofKit
import Derived.LaidMore
import Derived.Stop.LaidErr
import Derived.Conc.Holds
namespace Go.Proofs.YtpbbmagjhkakgaaGreatDoor
open Go.Proofs.Tryz Go.ChangeShapes Go.WideShapes Go.ChangeAt Go.RowKit
open Go.ChangeMaps (open_string shut_string)
theorem aaP:ownKnob prog.godebug=none:=aM
theorem zrt:(prog.cutTypes.find? (·.1== "internal/reflectlite.rtype")).map (·.2)=some 266:=aM
theorem Wy:((List.range 386).filter λt=>prog.rowNamed t [101,114,114,111,114])=[89]:=aM
theorem Xh:prog.types.size=386:=aM
theorem ZU:prog.globalNamed "vigil/sentence.ErrNoSentence"=some 0:=aM
theorem gEt:prog.globalNamed "errors.errorType"=some 7:=aM
theorem YV:prog.globalNamed "internal/strconv.uint64pow10"=some 9:=aM
theorem YU:prog.globalNamed "strconv.ErrSyntax"=some 10:=aM
theorem YT:prog.globalNamed "strconv.ErrRange"=some 11:=aM
theorem aal:prog.globalNamed "math/bits.deBruijn64tab"=some 13:=aM
theorem yNs:(prog.globals[0]?).map (·.type)=some 89:=aM
theorem aaN:(prog.globals[10]?).map (·.type)=some 89:=aM
theorem aaM:(prog.globals[11]?).map (·.type)=some 89:=aM
theorem aaO:(prog.globals[9]?).map (·.type)=some 340:=aM
theorem Vc:prog.cellsOf 332=1:=aM
theorem aah:prog.cellsOf 340=20:=aM
theorem Dv:prog.cellsOf 359=1:=aM
theorem Xi:("*errors.errorString":String)= "*"++ "errors.errorString":=aG
theorem tP(u)(h:prog.typeName? 3 u=some "*errors.errorString"):u=357:=
 typeName_ptr_named (nm:= "errors.errorString") (by rw[<-Xi];kernel_rfl) aM aG u (Xi▸h)
theorem pow_eq:(Rows.laid_internal_strconv_uint64pow10:DataW Unit)=Lib.tabData .u64 Lib.pow10Tab:=aM
theorem LO{P}{w:aC}{n g a}(b:P.globalNamed n=some g)(h:w.var? P n=some a):∃e m,w.heap[g]?=some (.cells a e m):=by
 unfold World.var? at h;rw[b]at h;simp only[Option.bind_some]at h;split at h
 .rename_i c e m d;injection h with h;subst h;exact⟨e,m,d⟩
 .cases h
theorem IE {W} (h:laidMetH prog Rows.printedRow.laid W):dW W/\14<=W.heap.size:=by
 have⟨hd,hh⟩:=h;have Y3:=hd.tail.tail;rw[pow_eq]at Y3;have⟨a4,s4,hv4,hc4,_,_⟩:=laid_sentinel Y3.tail YT aaM underlying89 tP underlying357 underlying359 rfl rfl underlying9 Dv BJ;have⟨a3,s3,hv3,hc3,_,_⟩:=laid_sentinel Y3.tail.tail YU aaN underlying89 tP underlying357 underlying359 rfl rfl underlying9 Dv BJ;have⟨a0,s0,Zd,Y0,_,_⟩:=laid_sentinel Y3.tail.tail.tail ZU yNs underlying89 tP underlying357 underlying359 rfl rfl underlying9 Dv BJ;obtain⟨_,_,cs6,_,_,_,_,_,hv6,_⟩:∃g t cs fuel p q,prog.globalNamed "math/bits.deBruijn64tab"=some g/\(prog.globals[g]?).map (·.type)=some t/\W.var? prog "math/bits.deBruijn64tab"=some cs/\(∃x:Nat,x=fuel)/\p=p/\q=(q:List MemPlace):=by
  have⟨ps,⟨g,t,cs,fuel,p,q,h1,h2,h3,_⟩,_⟩:=hd.tail;exact⟨g,t,cs,fuel,p,q,h1,h2,h3,⟨_,rfl⟩,rfl,rfl⟩
 have⟨e6,m6,hp6⟩:=LO aal hv6;have⟨e2,m2,hp2⟩:=LO YV (Lib.tabIs_of_head YV aaO underlying340 underlying332 Vc aah Y3);have⟨b0,o0,sp0⟩:=a0;have RI:=World.cell?_spot Y0;subst RI;have⟨name,u,ty,e1,q2,q3,q4,q5⟩:=hh _ (sA.2 rfl);have en:=(oW e1).symm;subst en;obtain rfl:=oW (zrt.symm.trans q2);have hm:ty∈(List.range 386).filter fun t=>prog.rowNamed t [101,114,114,111,114]:=HZ.2 ⟨zZ.2 (by rw[<-Xh];exact q3),q4⟩;rw[Wy]at hm;obtain rfl:=sA.1 hm;have hth:typeHandle prog 89=.pointer (some (Ad (14) (89))):=aM;rw[hth]at q5;refine⟨⟨⟨⟨_,_,by simpa using World.var?_cell YU hv3 0⟩,⟨_,_,by simpa using World.var?_cell YT hv4 0⟩⟩,⟨b0,o0,by simpa using World.var?_cell ZU Zd 0⟩,by simpa using World.var?_cell gEt q5 0,⟨e2,m2,hp2⟩⟩,aL hp6⟩
theorem Sw(os a):laidMetH prog Rows.printedRow.laid ((World.doorLaid prog 600 os).forCall (λ_ _=>0) ⟨#[],a,[]⟩).memory:=
 laidMetH_of_parts3 (fuel:=8) (laidMet_of_run' 8 aM aM) aM aM
theorem CS(i){p s c}(kinds a b lk)(r:c.holds p s)(hw:c.wfByText s=true)(d:c.laidByTextAt i p kinds a)
  (e:c.start=.entering) (g:c.noBlocks=false/\c.again=false) (o:p.checked.prog.mainIs=some (b.1,b.2.toList)) (q:(!b.1&&b.2.isEmpty&& !lk)=false)
  (n:∀f k,p.checked.prog.funcNamed c.func=some f->p.checked.prog.funcs[f]?=some k->lk=p.checked.prog.looks []/\∀(j:Nat) t,k.params[j]?=some t->p.checked.prog.wantsStandIn t=false)
  (l:true=c.goesBy p.checked.prog):
  Claim7.holds p (.plain s) {stood:={row:=c,standIns:=[],harness:=b,looks:=lk},kinds:=[],alts:=[],goes:=true,laidByText:=true,laidKinds:=kinds,laidTests:=a,laidLooks:=i}:=by
 let m:Claim7.isSixth {stood:={row:=c,standIns:=[],harness:=b,looks:=lk},kinds:=[]}=false:=by simpa[Claim7.isSixth]using q
 exact⟨Claim7.tied_new_at i kinds a (Claim7.new_of_sixth r b lk e g o m n) hw,(λ_ h=>by cases h),d,(λh=>by cases h),l⟩
end Go.Proofs.YtpbbmagjhkakgaaGreatDoor
