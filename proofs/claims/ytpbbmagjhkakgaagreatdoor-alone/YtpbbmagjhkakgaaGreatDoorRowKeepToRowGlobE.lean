import Derived.Test.YtpbbmagjhkakgaaGreatDoorRowGlob
import Derived.Test.YtpbbmagjhkakgaaGreatDoorLfScriptToLfEnd
import Derived.Test.YtpbbmagjhkakgaaGreatDoorEdInvToSmSent
import Derived.Test.YtpbbmagjhkakgaaGreatDoorSmNumToSmRec
import Derived.Test.YtpbbmagjhkakgaaGreatDoorSmOpsToEfForg
import Derived.Test.YtpbbmagjhkakgaaGreatDoorEeNoToSnAtoms
import Derived.Carry
import Derived.Deep.SlicePairs
import Derived.ChangeSlices
import Derived.Stop.LaidTwo
namespace Go.Proofs.YtpbbmagjhkakgaaGreatDoor
section
open Go.ChangeShapes Go.WideShapes Go.ChangeAt Go.RowKit Go.Deep Go.Conc Ev
section
variable {H : Type} {enc : TypeId × Value → H} {w : World}
theorem qD {a:Assume} {C:Checked} {os:Os} {f:FuncId} {fn:Func} {s:ChangeSpec} {conds:List PathCond} {apart fresh handsOn again:Bool} {X:World->Array Value->Prop}
  (hX:∀ (w w':World) (args:Array Value),w.heap=w'.heap->X w args->X w' args)
  (own:ownKnob C.prog.godebug=none) (started:os.Started) (hfn:C.prog.funcs[f]? = some fn)
  (witness:∃ (w:World) (tape:Tape) (i:Input),w.os=os/\(w.forCall tape i).Shaped C.prog/\i.vars=[]/\Input.okWide C.prog (w.forCall tape i) .any w.heap.size f i/\
   ((s.pre enc C.prog fn conds apart (w.forCall tape i).memory i.args/\X (w.forCall tape i).memory i.args)/\sizedMet enc C.prog fn (OpenSpec.ofChange s) apart (w.forCall tape i).memory i.args)/\a.holds C.prog (lone (Frame.enter C.prog f i.args .normal) [] (w.forCall tape i)))
  (runs:∀ (W:World) (base:Nat) (args:Array Value) (ds gs:List (DataW H)) (before:List MemPlace),
   (∀ (j:Nat) t v,fn.params[j]? = some t->args[j]? = some v->Value.okWide C.prog W .any base t v)->
   DataW.Whole enc C.prog fn.params.toList s.vars apart W args.toList ds gs before->
   (DataW.weightsEach C.prog (fn.params.toList++s.plain.varTypes C.prog) (ds++gs)).all (·<=reachBytes)=true->X W args->
   ∃ M last o w' t',runNT C.prog (M+1) (solo (G (Frame.enter C.prog f args .normal) []) W) #[]=(.ended o w',t')/\runN C.prog M (solo (G (Frame.enter C.prog f args .normal) []) W)=.next last/\
    step C.prog last=.ended o w'/\Conc.Good C.prog (fun v W'=>s.post enc C.prog fn apart fresh handsOn again W args v W') last o w' t') :
  ReturnsInLeavingWide a C os f .any (fun w args=>(s.pre enc C.prog fn conds apart w args/\X w args)/\sizedMet enc C.prog fn (OpenSpec.ofChange s) apart w args) (s.post enc C.prog fn apart fresh handsOn again):=by
 refine returnsInLeavingWide_of_good own started witness ?_
 intro w tape i _ _ _ se hpre _
 obtain ⟨_,_,_,fn',hfn',_,_,_,_,hval⟩:=se
 have e:fn'=fn:=Option.some.inj (hfn'.symm.trans hfn)
 subst e
 obtain ⟨⟨⟨ds,gs,before,hw,_⟩,hx⟩,hz⟩:=hpre
 have hw':=DataW.Whole.of_heap (w':=w.forCall tape i) (by rfl) hw
 obtain ⟨M,last,o,w',t',h1,h2,h3,h4⟩:=runs (w.forCall tape i) w.heap.size i.args ds gs before hval hw' (hz.weights hw) (hX _ _ _ (by rfl) hx)
 exact ⟨M,last,o,w',t',h1,h2,h3,h4.mono fun v hp=>ChangeSpec.post_blind hp⟩
theorem spare_below {w w':World} (h:au (fun _=>False) w w'):Below w.heap.size w (Lf.re w' w.tape w'.drawn):=⟨h.os,rfl,h.output,h.size,fun k hk=>h.block k hk id⟩
theorem spare_frame {w w':World} (h:au (fun _=>False) w w') (may:MemPlace->Prop):w.keptBut w' may:=(spare_below h).frame may
theorem spare_same {w w':World} (h:au (fun _=>False) w w') {p:MemPlace} (hp:p.block<w.heap.size):w.sameAt w' p:=(spare_below h).same hp
theorem qe {P:Program} {t:TypeId} (hl:laidOutB P=true) (hr:P.readableRec t=true) (bT:t<P.types.size) {W W':World} {v:Value} {d:DataW H} {ps:List MemPlace}
  (h:DataW.Trod enc P W 0 (fun _=>true) true t v d ps) (hb:au (fun _=>False) W W') (cz:∀ x∈ps,x.block<W.heap.size) :
  DataW.Trod enc P W' 0 (fun b=>decide (b<W.heap.size)) true t v d ps :=
 WideElems.Trod_stays hl hr bT h (fun x hx=>spare_same hb (cz x hx)) (fun x hx=>by simpa using cz x hx)
theorem ve:laidOutB Tryz.prog=true:=by kernel_rfl
theorem rowComes:34<Tryz.prog.types.size:=by rw [zsize];decide
theorem readComes:Tryz.prog.readableRec 34=true:=by kernel_rfl
theorem cCome:Tryz.prog.cellsOf 45=2:=by kernel_rfl
theorem cIntK:Tryz.prog.cellsOf 3=1:=by kernel_rfl
theorem i64_of_wf {n:Int} (h:(Lit.int .i64 n).wf=true):mj n:=by
 simp [Lit.wf,IntKind.min,IntKind.max,IntKind.signed,IntKind.bits] at h
 unfold mj
 omega
set_option maxRecDepth 100000 in
theorem comes_open {r:Reach} {b0:Nat} {v:Value} {d:DataW H} {p:List MemPlace} (hv:Value.okWide Tryz.prog w r b0 34 v) (h:DataW.Trod enc Tryz.prog w 0 (fun _=>true) true 34 v d p) :
  ∃ eo L cap,v=.slice eo (List.length L) cap/\L.length<=9223372036854775807/\(∀ q∈L,mj q.1/\mj q.2)/\gJ w eo L:=by
 obtain ⟨q,l,c,rfl⟩:=okWide_slice Tryz.underlying34 hv
 obtain ⟨fuel,hf⟩:=h
 rcases open_slice_pairs Tryz.underlying34 Tryz.underlying45 cCome rfl rfl cIntK cIntK hf with ⟨h1,_⟩ | ⟨a,len,cap,m,n,V0,V1,D0,D1,P0,P1,h1,_,hl,cW,hm,_,hc⟩
 ·have e:Value.slice q l c=.slice none 0 0:=by simpa [Value.cells] using h1
  rw [e]
  exact ⟨none,[],0,rfl,by simp,by simp,fun x=>absurd rfl x⟩
 ·have e:Value.slice q l c=.slice (some a) len cap:=by simpa [Value.cells] using h1
  rw [e]
  have hmc:m=cap:=by simpa using hm
  subst hmc
  have each:∀ i,∃ q:Int×Int,i<len->mj q.1/\mj q.2/\w.cell? (a.add (i*2))=some (.int .i64 q.1)/\w.cell? (a.add (i*2+1))=some (.int .i64 q.2):=fun i=>by
   by_cases hi:i<len
   ·obtain ⟨c1,c2,t1,t2⟩:=hc i (by omega)
    obtain ⟨n1,e1,_,w1⟩:=DataW.trod_int Tryz.underlying3 t1
    obtain ⟨n2,e2,_,w2⟩:=DataW.trod_int Tryz.underlying3 t2
    simp only [List.cons.injEq,and_true] at e1 e2
    rw [e1] at c1
    rw [e2] at c2
    exact ⟨(n1,n2),fun _=>⟨i64_of_wf w1,i64_of_wf w2,c1,c2⟩⟩
   ·exact ⟨(0,0),fun x=>absurd x hi⟩
  let f:Nat->Int×Int:=fun i=>(each i).choose
  have hfe:∀ i,i<len->mj (f i).1/\mj (f i).2/\w.cell? (a.add (i*2))=some (.int .i64 (f i).1)/\w.cell? (a.add (i*2+1))=some (.int .i64 (f i).2):=fun i hi=>(each i).choose_spec hi
  have hmax:maxLen<=9223372036854775807:=by decide
  refine ⟨some a,(List.range len).map f,m,by simp,by simp;omega,fun q hq=>?_,fun hne=>?_⟩
  ·obtain ⟨i,hi,rfl⟩:=List.mem_map.1 hq
   exact ⟨(hfe i (List.mem_range.1 hi)).1,(hfe i (List.mem_range.1 hi)).2.1⟩
  ·have h0:0<len:=by
    rcases Nat.eq_zero_or_pos len with h | h
    ·subst h;simp at hne
    ·exact h
   obtain ⟨b,o,sp⟩:=a
   have c0:=(hfe 0 h0).2.2.1
   have kT:sp=none:=World.cell?_spot c0
   subst kT
   refine ⟨b,o,rfl,?_,fun j hj=>?_⟩
   ·exact i_ c0
   ·simp only [List.length_map,List.length_range] at hj
    have eg:((List.range len).map f).getD j (0,0)=f j:=by simp [List.getD,hj]
    rw [eg]
    have k1:=(hfe j hj).2.2.1
    have k2:=(hfe j hj).2.2.2
    rw [add_plain] at k1 k2
    exact ⟨k1,by rw [Nat.add_assoc];exact k2⟩
end
end
section
open Go.ChangeShapes Go.WideShapes Go.ChangeAt Go.RowKit Go.Deep Go.Conc Ev
section
variable {H : Type} {enc : TypeId × Value → H} {w : World}
theorem rowRaw:33<Tryz.prog.types.size:=by rw [zsize];decide
theorem readRaw:Tryz.prog.readableRec 33=true:=by kernel_rfl
theorem bytesInt:Tryz.prog.bytesOf 3=8:=by kernel_rfl
set_option maxRecDepth 100000 in
theorem raw_open {r:Reach} {b0:Nat} {v:Value} {d:DataW H} {p:List MemPlace} (hv:Value.okWide Tryz.prog w r b0 33 v) (h:DataW.Trod enc Tryz.prog w 0 (fun _=>true) true 33 v d p) (hz:(d.weights Tryz.prog 33).all (·<=reachBytes)=true) :
  ∃ o R cap,v=.slice o (List.length R) cap/\R.length<=4611686018427387904/\(∀ q∈R,mj q)/\iD w o R:=by
 obtain ⟨q,l,c,rfl⟩:=okWide_slice Tryz.underlying33 hv
 obtain ⟨fuel,hf⟩:=h
 rcases open_ints Tryz.underlying33 Tryz.underlying3 cIntK hf with ⟨h1,_⟩ | ⟨a,len,cap,zs,h1,_,hl,_,hzl,hx,hc,hwf⟩
 ·have e:Value.slice q l c=.slice none 0 0:=by simpa [Value.cells] using h1
  rw [e]
  exact ⟨none,[],0,rfl,by simp,by simp,fun x=>absurd rfl x⟩
 ·have e:Value.slice q l c=.slice (some a) len cap:=by simpa [Value.cells] using h1
  rw [e]
  have hzc:zs.length=cap:=by simpa using hzl
  have hlen:(zs.take len).length=len:=by rw [List.length_take];omega
  have hd:d=.slice (lits .i64 (zs.take len)) (lits .i64 (zs.drop len)):=congrArg Prod.fst hx
  rw [hd] at hz
  unfold DataW.weights at hz
  rw [Tryz.underlying33] at hz
  simp only [List.all_cons,Bool.and_eq_true,decide_eq_true_eq,bytesInt] at hz
  have iU:=hz.1
  have hl2:(lits (H:=H) .i64 (zs.take len)).length=len:=by unfold lits;rw [List.length_map,hlen]
  rw [hl2] at iU
  have qx:reachBytes<=140737488351232:=by decide
  refine ⟨some a,zs.take len,cap,by rw [hlen],by rw [hlen];omega,fun q hq=>i64_of_wf (hwf q (List.mem_of_mem_take hq)),fun hne=>?_⟩
  have h0:0<len:=by
   rcases Nat.eq_zero_or_pos len with h | h
   ·subst h;simp at hne
   ·exact h
  obtain ⟨b,o,sp⟩:=a
  have c0:=hc 0 (by omega)
  have kT:sp=none:=by
   have:=World.cell?_spot c0
   simpa [Addr.add] using this
  subst kT
  refine ⟨b,o,rfl,?_,fun j hj=>?_⟩
  ·exact i_ c0
  ·rw [hlen] at hj
   have k1:=hc j (by omega)
   rw [add_plain] at k1
   rw [k1]
   simp [List.getD_eq_getElem?_getD,hj]
end
end
section
open Go.ChangeShapes Go.WideShapes Go.ChangeAt Go.RowKit Go.Deep Go.Conc Ev Lf
theorem lB {H:Type} {enc:TypeId×Value->H} {P:Program} {w:World} {base:Nat} {spare:Nat->Bool} {held:Bool} {t:TypeId} {ts:List TypeId} {v:Value} {vs:List Value} {d:DataW H} {ds:List (DataW H)} {p p':List MemPlace}
  (h:DataW.Trod enc P w base spare held t v d p) (hs:DataW.TrodAll enc P w base spare held ts vs ds p'):DataW.TrodAll enc P w base spare held (t::ts) (v::vs) (d::ds) (p++p'):=⟨p,p',h,hs,rfl⟩
end
section
open Go.ChangeShapes Go.WideShapes Go.ChangeAt Go.RowKit
theorem gTime:Tryz.prog.globalNamed "vigil/past.ErrTime"=some 5:=by kernel_rfl
theorem gAtoms:Tryz.prog.globalNamed "vigil/past.ErrAtoms"=some 6:=by kernel_rfl
theorem gNoName:Tryz.prog.globalNamed "vigil/watch.ErrNoName"=some 1:=by kernel_rfl
theorem gTwice:Tryz.prog.globalNamed "vigil/watch.ErrTwice"=some 2:=by kernel_rfl
theorem gNone:Tryz.prog.globalNamed "vigil/watch.ErrNone"=some 3:=by kernel_rfl
theorem gFull:Tryz.prog.globalNamed "vigil/watch.ErrFull"=some 4:=by kernel_rfl
theorem yTime:(Tryz.prog.globals[5]?).map (·.type)=some 89:=by kernel_rfl
theorem yAtoms:(Tryz.prog.globals[6]?).map (·.type)=some 89:=by kernel_rfl
theorem yNoName:(Tryz.prog.globals[1]?).map (·.type)=some 89:=by kernel_rfl
theorem yTwice:(Tryz.prog.globals[2]?).map (·.type)=some 89:=by kernel_rfl
theorem yNone:(Tryz.prog.globals[3]?).map (·.type)=some 89:=by kernel_rfl
theorem yFull:(Tryz.prog.globals[4]?).map (·.type)=some 89:=by kernel_rfl
theorem mW {W:World} {n:String} {g:Nat} {text:List UInt8} {a:Addr} {s:ByteArray} {c:Array Value} {t:TypeId} (hg:Tryz.prog.globalNamed n=some g) (hv:W.var? Tryz.prog n=some #[.iface 357 (.pointer (some a))]) (hs:W.cell? a=some (.string s)) (ht:s.data.toList=text) (hh:W.heap[a.block]? = some (.cells c t (0,0))):fb W g text a :=
 ⟨by simpa using World.var?_cell hg hv 0,⟨s,hs,ht⟩,c,t,hh⟩
theorem globE_of_laid {W:World} (h:laidMetH Tryz.prog Rows.printedRow.laid W):jz W:=by
 have h':laidMet Tryz.prog [("math/bits.deBruijn32tab",Rows.laid_math_bits_deBruijn32tab),("math/bits.deBruijn64tab",Rows.laid_math_bits_deBruijn64tab),("internal/strconv.uint64pow10",Rows.laid_internal_strconv_uint64pow10),("strconv.ErrRange",Rows.laid_strconv_ErrRange),("strconv.ErrSyntax",Rows.laid_strconv_ErrSyntax),("vigil/sentence.ErrNoSentence",Rows.laid_vigil_sentence_ErrNoSentence),("vigil/past.ErrTime",Rows.laid_vigil_past_ErrTime),("vigil/past.ErrAtoms",Rows.laid_vigil_past_ErrAtoms),("vigil/watch.ErrNoName",Rows.laid_vigil_watch_ErrNoName),("vigil/watch.ErrTwice",Rows.laid_vigil_watch_ErrTwice),("vigil/watch.ErrNone",Rows.laid_vigil_watch_ErrNone),("vigil/watch.ErrFull",Rows.laid_vigil_watch_ErrFull)] W/\handlesMet Tryz.prog [("errors.errorType",Rows.laid_errors_errorType)] W:=h
 obtain ⟨hd,_⟩:=h'
 have hd2:=hd.tail.tail.tail.tail.tail
 obtain ⟨a0,a1,s0,s1,c0,c1,t0,t1,v0,v1,p0,q0,_,p1,q1,_,_,h0,h1⟩:=laid_sentinels2 hd2 gNs yNs gTime yTime Tryz.underlying89 qa Tryz.underlying357 Tryz.underlying359 rfl rfl Tryz.underlying9 cErrS kcStr
 obtain ⟨a2,a3,s2,s3,c2,c3,t2,t3,v2,v3,p2,q2,_,p3,q3,_,_,h2,h3⟩:=laid_sentinels2 hd2.tail.tail gAtoms yAtoms gNoName yNoName Tryz.underlying89 qa Tryz.underlying357 Tryz.underlying359 rfl rfl Tryz.underlying9 cErrS kcStr
 obtain ⟨a4,a5,s4,s5,c4,c5,t4,t5,v4,v5,p4,q4,_,p5,q5,_,_,h4,h5⟩:=laid_sentinels2 hd2.tail.tail.tail.tail gTwice yTwice gNone yNone Tryz.underlying89 qa Tryz.underlying357 Tryz.underlying359 rfl rfl Tryz.underlying9 cErrS kcStr
 obtain ⟨a6,a7,s6,s7,c6,c7,t6,t7,v6,v7,p6,q6,_,p7,q7,_,_,h6,h7⟩:=laid_sentinels2 hd2.tail.tail.tail.tail.tail gNone yNone gFull yFull Tryz.underlying89 qa Tryz.underlying357 Tryz.underlying359 rfl rfl Tryz.underlying9 cErrS kcStr
 exact ⟨⟨a0,mW gNs v0 p0 q0 h0⟩,⟨a1,mW gTime v1 p1 q1 h1⟩,⟨a2,mW gAtoms v2 p2 q2 h2⟩,⟨a3,mW gNoName v3 p3 q3 h3⟩,⟨a4,mW gTwice v4 p4 q4 h4⟩,⟨a5,mW gNone v5 p5 q5 h5⟩,⟨a7,mW gFull v7 p7 q7 h7⟩⟩
end
end Go.Proofs.YtpbbmagjhkakgaaGreatDoor
