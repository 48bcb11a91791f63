import Derived.Test.YtpbbmagjhkakgaaGreatDoorTie
import Derived.Test.YtpbbmagjhkakgaaGreatDoorCards
import Derived.Test.YtpbbmagjhkakgaaGreatDoorB1
import Derived.Test.YtpbbmagjhkakgaaGreatDoorB4
import Derived.ProofKit
import Derived.LaidMore
import Derived.Stop.LaidErr
import Derived.Conc.Holds
namespace Go.Proofs.YtpbbmagjhkakgaaGreatDoor
open Go.Proofs.Tryz Go.ChangeShapes Go.WideShapes Go.ChangeAt Go.RowKit
open Go.ChangeMaps (open_string shut_string)
theorem Zj:ownKnob prog.godebug=none:=aL
theorem zrt:(prog.cutTypes.find? (·.1== "internal/reflectlite.rtype")).map (·.2)=some 266:=aL
theorem Xk:((List.range 386).filter λt=>prog.rowNamed t [101,114,114,111,114])=[89]:=aL
theorem X0:prog.types.size=386:=aL
theorem gNs:prog.globalNamed "vigil/sentence.ErrNoSentence"=some 0:=aL
theorem gEt:prog.globalNamed "errors.errorType"=some 7:=aL
theorem ZT:prog.globalNamed "internal/strconv.uint64pow10"=some 9:=aL
theorem ZS:prog.globalNamed "strconv.ErrSyntax"=some 10:=aL
theorem ZR:prog.globalNamed "strconv.ErrRange"=some 11:=aL
theorem aaM:prog.globalNamed "math/bits.deBruijn64tab"=some 13:=aL
theorem yNs:(prog.globals[0]?).map (·.type)=some 89:=aL
theorem abb:(prog.globals[10]?).map (·.type)=some 89:=aL
theorem aa':(prog.globals[11]?).map (·.type)=some 89:=aL
theorem abd:(prog.globals[9]?).map (·.type)=some 340:=aL
theorem VV:prog.cellsOf 332=1:=aL
theorem aaI:prog.cellsOf 340=20:=aL
theorem DU:prog.cellsOf 359=1:=aL
theorem X1:("*errors.errorString":String)= "*"++ "errors.errorString":=aG
theorem ug(u)(h:prog.typeName? 3 u=some "*errors.errorString"):u=357:=
 typeName_ptr_named (nm:= "errors.errorString") (by rw[<-X1];kernel_rfl) aL aG u (X1▸h)
theorem pow_eq:(Rows.laid_internal_strconv_uint64pow10:DataW Unit)=Lib.tabData .u64 Lib.pow10Tab:=aL
theorem Mi{P}{w:aC}{n g a}(b:P.globalNamed n=some g)(h:w.var? P n=some a):∃e m,w.heap[g]?=some (.cells a e m):=by
 unfold World.var? at h;rw[b]at h;simp only[Option.bind_some]at h;split at h
 .rename_i c e m d;injection h with h;subst h;exact⟨e,m,d⟩
 .cases h
theorem tT {W} (h:laidMetH prog Rows.printedRow.laid W):dP W/\14<=W.heap.size:=by
 have⟨hd,hh⟩:=h;have Z1:=hd.tail.tail;rw[pow_eq]at Z1;have⟨a4,s4,hv4,hc4,_,_⟩:=laid_sentinel Z1.tail ZR aa' underlying89 ug underlying357 underlying359 rfl rfl underlying9 DU B6;have⟨a3,s3,hv3,hc3,_,_⟩:=laid_sentinel Z1.tail.tail ZS abb underlying89 ug underlying357 underlying359 rfl rfl underlying9 DU B6;have⟨a0,s0,hv0,ZY,_,_⟩:=laid_sentinel Z1.tail.tail.tail gNs yNs underlying89 ug underlying357 underlying359 rfl rfl underlying9 DU B6;obtain⟨_,_,cs6,_,_,_,_,_,hv6,_⟩:∃g t cs fuel p q,prog.globalNamed "math/bits.deBruijn64tab"=some g/\(prog.globals[g]?).map (·.type)=some t/\W.var? prog "math/bits.deBruijn64tab"=some cs/\(∃x:Nat,x=fuel)/\p=p/\q=(q:List MemPlace):=by
  have⟨ps,⟨g,t,cs,fuel,p,q,h1,h2,h3,_⟩,_⟩:=hd.tail;exact⟨g,t,cs,fuel,p,q,h1,h2,h3,⟨_,rfl⟩,rfl,rfl⟩
 have⟨e6,m6,hp6⟩:=Mi aaM hv6;have⟨e2,m2,hp2⟩:=Mi ZT (Lib.tabIs_of_head ZT abd underlying340 underlying332 VV aaI Z1);have⟨b0,o0,sp0⟩:=a0;have Sr:=World.cell?_spot ZY;subst Sr;have⟨name,u,ty,e1,q2,q3,q4,q5⟩:=hh _ (sO.2 rfl);have en:=(nD e1).symm;subst en;obtain rfl:=nD (zrt.symm.trans q2);have hm:ty∈(List.range 386).filter fun t=>prog.rowNamed t [101,114,114,111,114]:=Ix.2 ⟨Aq.2 (by rw[<-X0];exact q3),q4⟩;rw[Xk]at hm;obtain rfl:=sO.1 hm;have hth:typeHandle prog 89=.pointer (some (Ad (14) (89))):=aL;rw[hth]at q5;refine⟨⟨⟨⟨_,_,by simpa using World.var?_cell ZS hv3 0⟩,⟨_,_,by simpa using World.var?_cell ZR hv4 0⟩⟩,⟨b0,o0,by simpa using World.var?_cell gNs hv0 0⟩,by simpa using World.var?_cell gEt q5 0,⟨e2,m2,hp2⟩⟩,aN hp6⟩
theorem D2(os a):laidMetH prog Rows.printedRow.laid ((World.doorLaid prog 600 os).forCall (λ_ _=>0) ⟨#[],a,[]⟩).memory:=
 laidMetH_of_parts3 (fuel:=8) (laidMet_of_run' 8 aL aL) aL aL
theorem oL(i){p s c}(kinds a b lk)(r:c.holds p s)(hw:c.wfByText s=true)(d:c.laidByTextAt i p kinds a)
  (e:c.start=.entering) (g:c.noBlocks=false/\c.again=false) (o:p.checked.prog.mainIs=some (b.1,b.2.toList)) (q:(!b.1&&b.2.isEmpty&& !lk)=false)
  (n:∀f k,p.checked.prog.funcNamed c.func=some f->p.checked.prog.funcs[f]?=some k->lk=p.checked.prog.looks []/\∀(j:Nat) t,k.params[j]?=some t->p.checked.prog.wantsStandIn t=false)
  (l:true=c.goesBy p.checked.prog):
  Claim7.holds p (.plain s) {stood:={row:=c,standIns:=[],harness:=b,looks:=lk},kinds:=[],alts:=[],goes:=true,laidByText:=true,laidKinds:=kinds,laidTests:=a,laidLooks:=i}:=by
 let m:Claim7.isSixth {stood:={row:=c,standIns:=[],harness:=b,looks:=lk},kinds:=[]}=false:=by simpa[Claim7.isSixth]using q
 exact⟨Claim7.tied_new_at i kinds a (Claim7.new_of_sixth r b lk e g o m n) hw,(λ_ h=>by cases h),d,(λh=>by cases h),l⟩
end Go.Proofs.YtpbbmagjhkakgaaGreatDoor
