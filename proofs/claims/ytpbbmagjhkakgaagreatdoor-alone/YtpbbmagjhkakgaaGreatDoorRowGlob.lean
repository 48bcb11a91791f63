import Derived.Test.YtpbbmagjhkakgaaGreatDoorRows
import Derived.Test.YtpbbmagjhkakgaaGreatDoorCards
import Derived.Test.YtpbbmagjhkakgaaGreatDoorTie
import Derived.Test.YtpbbmagjhkakgaaGreatDoorPureNumToWindow
import Derived.Test.YtpbbmagjhkakgaaGreatDoorPureEndsToFace2
import Derived.ProofKit
import Derived.ChangeMaps5
import Derived.LaidMore
import Derived.LaidHandle
import Derived.Lib.LaidTab
import Derived.Stop.LaidErr
import Derived.Stop.Joined
import Derived.SevenTiedAt
import Derived.Conc.Holds
namespace Go.Proofs.YtpbbmagjhkakgaaGreatDoor
open Go.ChangeShapes Go.WideShapes Go.ChangeAt Go.RowKit
open Go.ChangeMaps (open_string shut_string)
theorem zown:ownKnob Tryz.prog.godebug=none:=by kernel_rfl
theorem zrt:(Tryz.prog.cutTypes.find? (·.1== "internal/reflectlite.rtype")).map (·.2)=some 266:=by kernel_rfl
theorem zoneRow:((List.range 386).filter fun t=>Tryz.prog.rowNamed t [101,114,114,111,114])=[89]:=by kernel_rfl
theorem zsize:Tryz.prog.types.size=386:=by kernel_rfl
theorem gNs:Tryz.prog.globalNamed "vigil/sentence.ErrNoSentence"=some 0:=by kernel_rfl
theorem gEt:Tryz.prog.globalNamed "errors.errorType"=some 7:=by kernel_rfl
theorem gTab:Tryz.prog.globalNamed "internal/strconv.uint64pow10"=some 9:=by kernel_rfl
theorem gSyn:Tryz.prog.globalNamed "strconv.ErrSyntax"=some 10:=by kernel_rfl
theorem gRng:Tryz.prog.globalNamed "strconv.ErrRange"=some 11:=by kernel_rfl
theorem gB64:Tryz.prog.globalNamed "math/bits.deBruijn64tab"=some 13:=by kernel_rfl
theorem yNs:(Tryz.prog.globals[0]?).map (·.type)=some 89:=by kernel_rfl
theorem ySyn:(Tryz.prog.globals[10]?).map (·.type)=some 89:=by kernel_rfl
theorem yRng:(Tryz.prog.globals[11]?).map (·.type)=some 89:=by kernel_rfl
theorem yTab:(Tryz.prog.globals[9]?).map (·.type)=some 340:=by kernel_rfl
theorem cUint64:Tryz.prog.cellsOf 332=1:=by kernel_rfl
theorem cTab:Tryz.prog.cellsOf 340=20:=by kernel_rfl
theorem cErrS:Tryz.prog.cellsOf 359=1:=by kernel_rfl
theorem zstar:("*errors.errorString":String) = "*"++ "errors.errorString":=by decide
theorem qa (u:TypeId) (h:Tryz.prog.typeName? 3 u=some "*errors.errorString"):u=357 :=
 typeName_ptr_named (nm:= "errors.errorString") (by rw [<- zstar];kernel_rfl) (by kernel_rfl) (by decide) u (by rw [<- zstar];exact h)
theorem pow_eq:(Rows.laid_internal_strconv_uint64pow10:DataW Unit)=Lib.tabData .u64 Lib.pow10Tab:=by kernel_rfl
theorem var_heap {P:Program} {w:World} {n:String} {g:Nat} {cs:Array Value} (hg:P.globalNamed n=some g) (h:w.var? P n=some cs):∃ e m,w.heap[g]? = some (.cells cs e m):=by
 unfold World.var? at h
 rw [hg] at h
 simp only [Option.bind_some] at h
 split at h
 ·rename_i cs' e m hc
  injection h with h
  subst h
  exact ⟨e,m,hc⟩
 ·cases h
theorem glob_of_laid {W:World} (h:laidMetH Tryz.prog Rows.printedRow.laid W):eF W/\14<=W.heap.size:=by
 have h':laidMet Tryz.prog [("math/bits.deBruijn32tab",Rows.laid_math_bits_deBruijn32tab),("math/bits.deBruijn64tab",Rows.laid_math_bits_deBruijn64tab),("internal/strconv.uint64pow10",Rows.laid_internal_strconv_uint64pow10),("strconv.ErrRange",Rows.laid_strconv_ErrRange),("strconv.ErrSyntax",Rows.laid_strconv_ErrSyntax),("vigil/sentence.ErrNoSentence",Rows.laid_vigil_sentence_ErrNoSentence),("vigil/past.ErrTime",Rows.laid_vigil_past_ErrTime),("vigil/past.ErrAtoms",Rows.laid_vigil_past_ErrAtoms),("vigil/watch.ErrNoName",Rows.laid_vigil_watch_ErrNoName),("vigil/watch.ErrTwice",Rows.laid_vigil_watch_ErrTwice),("vigil/watch.ErrNone",Rows.laid_vigil_watch_ErrNone),("vigil/watch.ErrFull",Rows.laid_vigil_watch_ErrFull)] W/\handlesMet Tryz.prog [("errors.errorType",Rows.laid_errors_errorType)] W:=h
 obtain ⟨hd,hh⟩:=h'
 have hd2:=hd.tail.tail
 rw [pow_eq] at hd2
 have htab:=Lib.tabIs_of_head gTab yTab Tryz.underlying340 Tryz.underlying332 cUint64 cTab hd2
 obtain ⟨a4,s4,hv4,hc4,_,_⟩:=laid_sentinel hd2.tail gRng yRng Tryz.underlying89 qa Tryz.underlying357 Tryz.underlying359 rfl rfl Tryz.underlying9 cErrS kcStr
 obtain ⟨a3,s3,hv3,r_,_,_⟩:=laid_sentinel hd2.tail.tail gSyn ySyn Tryz.underlying89 qa Tryz.underlying357 Tryz.underlying359 rfl rfl Tryz.underlying9 cErrS kcStr
 obtain ⟨a0,s0,hv0,lj,_,_⟩:=laid_sentinel hd2.tail.tail.tail gNs yNs Tryz.underlying89 qa Tryz.underlying357 Tryz.underlying359 rfl rfl Tryz.underlying9 cErrS kcStr
 obtain ⟨_,_,cs6,_,_,_,_,_,hv6,_⟩:∃ g t cs fuel p q,Tryz.prog.globalNamed "math/bits.deBruijn64tab"=some g/\(Tryz.prog.globals[g]?).map (·.type)=some t/\W.var? Tryz.prog "math/bits.deBruijn64tab"=some cs/\(∃ x:Nat,x=fuel)/\p=p/\q=(q:List MemPlace):=by
  obtain ⟨ps,⟨g,t,cs,fuel,p,q,h1,h2,h3,_⟩,_⟩:=hd.tail
  exact ⟨g,t,cs,fuel,p,q,h1,h2,h3,⟨_,rfl⟩,rfl,rfl⟩
 obtain ⟨e6,m6,hp6⟩:=var_heap gB64 hv6
 obtain ⟨e2,m2,hp2⟩:=var_heap gTab htab
 obtain ⟨b0,o0,sp0⟩:=a0
 have kT:sp0=none:=World.cell?_spot lj
 subst kT
 obtain ⟨name,u,ty,e1,q2,q3,q4,q5⟩:=hh _ (List.mem_singleton.2 rfl)
 have en:name=[101,114,114,111,114]:=(Option.some.inj e1).symm
 subst en
 obtain rfl:=Option.some.inj (zrt.symm.trans q2)
 have hm:ty∈(List.range 386).filter fun t=>Tryz.prog.rowNamed t [101,114,114,111,114]:=List.mem_filter.2 ⟨List.mem_range.2 (by rw [<- zsize];exact q3),q4⟩
 rw [zoneRow] at hm
 obtain rfl:=List.mem_singleton.1 hm
 have gQ:typeHandle Tryz.prog 89=.pointer (some ⟨14,89,none⟩):=by kernel_rfl
 rw [gQ] at q5
 refine ⟨⟨⟨⟨_,_,by simpa using World.var?_cell gSyn hv3 0⟩,⟨_,_,by simpa using World.var?_cell gRng hv4 0⟩⟩,⟨b0,o0,by simpa using World.var?_cell gNs hv0 0⟩,by simpa using World.var?_cell gEt q5 0,⟨e2,m2,hp2⟩⟩,aw hp6⟩
theorem door_met (os:Os) (args:Array Value):laidMetH Tryz.prog Rows.printedRow.laid ((World.doorLaid Tryz.prog 600 os).forCall (fun _ _=>0) ⟨#[],args,[]⟩).memory :=
 laidMetH_of_parts3 (fuel:=8) (laidMet_of_run' 8 (by kernel_rfl) (by kernel_rfl)) (by kernel_rfl) (by kernel_rfl)
theorem holds_tied_goes (Lk:Looks) {p:Pinned} {s:OpenSpec} {c:OpenClaim} (kinds:List LaidKind) (tests:Bool) (har:Bool×String) (lk:Bool) (hc:c.holds p s) (hw:c.wfByText s=true) (htie:c.laidByTextAt Lk p kinds tests)
  (df:c.start=.entering) (hnb:c.noBlocks=false/\c.again=false) (hm:p.checked.prog.mainIs=some (har.1,har.2.toList)) (hn:(!har.1&&har.2.isEmpty&&!lk)=false)
  (hl:∀ f fn,p.checked.prog.funcNamed c.func=some f->p.checked.prog.funcs[f]? = some fn->lk=p.checked.prog.looks []/\∀ (j:Nat) t,fn.params[j]? = some t->p.checked.prog.wantsStandIn t=false)
  (hg:true=c.goesBy p.checked.prog) :
  Claim7.holds p (.plain s) { stood:={ row:=c,standIns:=[],harness:=har,looks:=lk },kinds:=[],alts:=[],goes:=true,laidByText:=true,laidKinds:=kinds,laidTests:=tests,laidLooks:=Lk }:=by
 have h6:Claim7.isSixth { stood:={ row:=c,standIns:=[],harness:=har,looks:=lk },kinds:=[] }=false:=by simpa [Claim7.isSixth] using hn
 have h1:=Claim7.tied_new_at Lk kinds tests (Claim7.new_of_sixth hc har lk df hnb hm h6 hl) hw
 exact ⟨h1,(fun _ h=>by cases h),htie,(fun h=>by cases h),hg⟩
end Go.Proofs.YtpbbmagjhkakgaaGreatDoor
