/-
  Late, proved of every list of raw numbers, every list of raw events and every raw place: on every schedule the call returns true, without a data race, the goroutines that it started are done or only leaving, and the input reads as it did; the package-level variables start as the program's text lays them (the tie is given).
-/
import Derived.Test.YtpbbmagjhkakgaaGreatDoorElFinToElTail
import Derived.Test.YtpbbmagjhkakgaaGreatDoorRowSame0ToElAdd
namespace Go.Proofs.YtpbbmagjhkakgaaGreatDoor.Ev
open Go.RowKit Go.Deep Go.Maps Go.Proofs.YtpbbmagjhkakgaaGreatDoor.Lf Go.Conc
set_option maxRecDepth 100000 in
set_option maxHeartbeats 16000000 in
theorem strm37_go (eo:Option Addr) (ln cap:Nat) (vs:ByteArray) (m a n c:Nat) (o:Option Addr) (back:Value) (b:Nat->Bool) (hn:a+n=m) (hm:m<=25) (hs:vs.size=m) (hx:∀ j,j<m->vs.extract j (j+1)=bitS (b j)) (A:Act) (w:World) (Q:Act->World->Prop) (hA:Fx 227 (E9 eo ln cap vs m a back (.slice o n c)) A) (hr:Rows9 w o n a b) (hQ:∀ A' w',Fx 227 (E9 eo ln cap vs m a back (.slice o n c)) A'->Still w w'->Q A' w'):strm37.wp Tryz.prog (fun e A' w'=>e=.normal/\Q A' w') A w:=by
 replace hQ:Hid _:=hQ
 have Hr:Hid (Rows9 w o n a b):=hr
 have Hx:Hid (∀ j,j<m->vs.extract j (j+1)=bitS (b j)):=hx
 clear hr hx
 obtain ⟨u,hu,rfl⟩:=open227 hA.size hA.defers
 have k1:=hu 1 _ (hA.get 1 _ rfl)
 have k12:=hu 12 _ (hA.get 12 _ rfl)
 have k16:=hu 16 _ (hA.get 16 _ rfl)
 have k17:=hu 17 _ (hA.get 17 _ rfl)
 have k19:=hu 19 _ (hA.get 19 _ rfl)
 have k20:=hu 20 _ (hA.get 20 _ rfl)
 have k23:=hu 23 _ (hA.get 23 _ rfl)
 have k24:=hu 24 _ (hA.get 24 _ rfl)
 clear hu hA
 obtain ⟨F,hF⟩:∃ F:Int,F=(a:Int)+1:=⟨_,rfl⟩
 rw [<- hF] at k19
 have HF:Hid (F=(a:Int)+1):=hF
 have hF1:1<=F/\F<=26:=by omega
 clear hF
 simp only [k1,k12,k16,k17,k19,k20,k23,k24]
 clear k1 k12 k16 k17 k19 k20 k23 k24
 simp only [strm37,tail37,tail31,tail9,seqC,fin9,rest9,body9,Tryz.f9,Option.getD_some]
 go_wp2_with fail
 go_loopw [27] (fun jv wr=>∃ j:Nat,j<=n/\jv=.int .i64 j/\Still w wr) (fun jv _=>n-(intOf jv).toNat)
 case atStart=>exact ⟨0,Nat.zero_le _,rfl,Still.refl _⟩
 case round =>
  obtain ⟨j,hj,rfl,hst⟩:=hrel
  by_cases hji:j<n
  ·obtain ⟨g,ho,c0,c3⟩:=Hr.out j hji
   have hxj:=Hx.out (a+j) (by omega)
   have c0':=(hst.1 _).trans c0
   have c3':=(hst.1 _).trans c3
   have Hst:Hid (Still w wr):=hst
   subst ho
   obtain ⟨q,hq⟩:∃ q,q=a+j:=⟨_,rfl⟩
   have hF2:=HF.out
   have hzc:(((a+j:Nat):Int)+1)=F+(j:Int):=by omega
   rw [hzc] at c0'
   rw [<- hq] at c3' hxj
   have z3:(F+(j:Int)-1).toNat=q:=by omega
   have z4:(F+(j:Int)).toNat=q+1:=by omega
   have z5:(0:Int)<=F+(j:Int)-1:=by omega
   have z6:(0:Int)<=F+(j:Int):=by omega
   have z7:F+(j:Int)<=(vs.size:Int):=by omega
   have z8:F+(j:Int)-1<=F+(j:Int):=by omega
   have z9:IntKind.i64.wrap (F+(j:Int)-1)=F+(j:Int)-1:=by rw [IntKind.wrap_i64];omega
   have z10:IntKind.i64.wrap (F+(j:Int))=F+(j:Int):=by rw [IntKind.wrap_i64];omega
   clear c0 c3 hst hzc hF2 hq
   cases hb:b q with
   | true =>
     rw [hb] at c3' hxj
     simp only [bitS,if_true] at hxj
     go_wp2_with fail
     go_quiet (fail)
     go_wp2_with fail
     go_roundw
     case rel=>exact ⟨j+1,by omega,by go_num,Hst.out.drewN _⟩
     case measure=>simp only [intOf];omega
   | false =>
     rw [hb] at c3' hxj
     simp only [bitS,Bool.false_eq_true,if_false] at hxj
     go_wp2_with fail
     go_quiet (fail)
     go_wp2_with fail
     go_roundw
     case rel=>exact ⟨j+1,by omega,by go_num,Hst.out.drewN _⟩
     case measure=>simp only [intOf];omega
  ·obtain rfl:j=n:=by omega
   have Hst:Hid (Still w wr):=hst
   clear hst
   obtain rfl:=HF.out
   go_wp2_with fail
   first | refine hQ.out _ _ ?_ Hst.out | refine ⟨rfl,hQ.out _ _ ?_ Hst.out⟩
   refine Fx.of rfl rfl ?_
   unfold E9
   simp only [List.forall_mem_cons,List.not_mem_nil,false_implies,implies_true,and_true]
   exact ⟨rfl,rfl,rfl,rfl,rfl,rfl,rfl,rfl⟩
set_option maxRecDepth 100000 in
set_option maxHeartbeats 16000000 in
theorem fin42_go (eo:Option Addr) (ln cap:Nat) (vs:ByteArray) (m a n f c:Nat) (o:Option Addr) (st:Value) (b:Nat->Bool) (hn:f+n=a) (ham:a<=m) (hm:m<=25) (w0:World) (A:Act) (w:World) (hA:Fx 227 (E9 eo ln cap vs m a (.slice o n c) st) A) (hr:Rows9 w o n f b) (hs:SpareR (fun _=>False) w0 w):fin42.wp Tryz.prog (bodyPost Tryz.prog Tryz.f9 (LawPost w0)) A w:=by
 have hQ0:LawPost w0 (.returned (.bool true)) w:=⟨rfl,hs⟩
 replace hQ0:Hid _:=hQ0
 have Hr:Hid (Rows9 w o n f b):=hr
 clear hs hr
 obtain ⟨u,hu,rfl⟩:=open227 hA.size hA.defers
 have k1:=hu 1 _ (hA.get 1 _ rfl)
 have k12:=hu 12 _ (hA.get 12 _ rfl)
 have k16:=hu 16 _ (hA.get 16 _ rfl)
 have k17:=hu 17 _ (hA.get 17 _ rfl)
 have k19:=hu 19 _ (hA.get 19 _ rfl)
 have k20:=hu 20 _ (hA.get 20 _ rfl)
 have k23:=hu 23 _ (hA.get 23 _ rfl)
 have k24:=hu 24 _ (hA.get 24 _ rfl)
 clear hu hA
 simp only [k1,k12,k16,k17,k19,k20,k23,k24]
 clear k1 k12 k16 k17 k19 k20 k23 k24
 generalize hQ:bodyPost Tryz.prog Tryz.f9 (LawPost w0)=Q
 simp only [fin42,tail37,tail31,tail9,fin9,rest9,body9,Tryz.f9,Option.getD_some]
 rcases n with _ | n
 ·go_wp2_with fail
  rw [<- hQ]
  go_ret
  exact ⟨rfl,hQ0.out.2⟩
 ·obtain ⟨g,ho,c0,_⟩:=Hr.out n (by omega)
  subst ho
  have e1:((n:Int)+1==0)=false:=by simp;omega
  have e2:((f:Int)+(n:Int)+1==(a:Int))=true:=by simp;omega
  go_wp2_with fail
  rw [<- hQ]
  go_ret
  exact ⟨rfl,hQ0.out.2⟩
theorem tail9_go (x:BT Pay) (L:List (Int×Int)) (eo:Option Addr) (cap m a f:Nat) (v st:Value) (w0:World) (A:Act) (w:World) (hm:m<=25) (ham:a<=m) (hfa:f<=a) (hA:Fx 227 (E9 eo L.length cap (verS x L m) m a v st) A) (hv:w.ownsRow w0.heap.size 59 4 v (a-f) (versF x L f (a-f))) (hst:w.ownsRow w0.heap.size 59 4 st (m-a) (versF x L a (m-a))) (hs:SpareR (fun _=>False) w0 w) :
  tail9.wp Tryz.prog (bodyPost Tryz.prog Tryz.f9 (LawPost w0)) A w:=by
 obtain ⟨o,c,rfl,hr⟩:=rows9_of hv
 obtain ⟨so,sc,rfl,hr2⟩:=rows9_of hst
 have hsz:=verS_size x L m
 have hx:=verS_at x L m
 rw [tail9_is,tail31_is]
 refine wp_seq (wp_mono (chk29_go eo L.length cap (verS x L m) m a _ so (m-a) sc (by omega) hm A w (fun A' w'=>w'=w/\Fx 227 (E9 eo L.length cap (verS x L m) m a (.slice o (a-f) c) (.slice so (m-a) sc)) A') hA fun A' h=>⟨rfl,h⟩) ?_)
 rintro e A w1 ⟨rfl,e1,hA⟩
 obtain rfl:=e1.symm
 refine wp_seq (wp_mono (back31_go eo L.length cap (verS x L m) m a (a-f) f c o _ (verZ x L) (by omega) ham hm hsz hx A w (fun A' w'=>Still w w'/\Fx 227 (E9 eo L.length cap (verS x L m) m a (.slice o (a-f) c) (.slice so (m-a) sc)) A') hA hr fun A' w' h1 h2=>⟨h2,h1⟩) ?_)
 rintro e A w2 ⟨rfl,h2,hA⟩
 refine wp_seq (wp_mono (strm37_go eo L.length cap (verS x L m) m a (m-a) sc so _ (verZ x L) (by omega) hm hsz hx A w2 (fun A' w'=>Still w2 w'/\Fx 227 (E9 eo L.length cap (verS x L m) m a (.slice o (a-f) c) (.slice so (m-a) sc)) A') hA (h2.rows hr2) fun A' w' h1 h2=>⟨h2,h1⟩) ?_)
 rintro e A w3 ⟨rfl,h3,hA⟩
 exact fin42_go eo L.length cap (verS x L m) m a (a-f) f c o _ (verZ x L) (by omega) ham hm w0 A w3 hA (h3.rows (h2.rows hr)) ((hs.trans h2.2).trans h3.2)
theorem late_all (R:List Int) (o1:Option Addr) (cpR:Nat) (L:List (Int×Int)) (eo:Option Addr) (cap:Nat) (at_:Int) (w:World) (hat:I64 at_) (hg:Glob w) (hw7:14<=w.heap.size) (hlR:R.length<=4611686018427387904) (hIR:∀ r∈R,I64 r) (hR:RawAt w o1 R) (hLm:L.length<=9223372036854775807) (hL:∀ p∈L,I64 p.1/\I64 p.2) (hC:ComesAt w eo L) :
  HCalls Tryz.prog 9 #[.slice o1 R.length cpR,.slice eo L.length cap,.int .i64 at_] w (LawPost w):=by
 refine late_top R o1 cpR L eo cap at_ w hat hg hw7 hlR hIR hR hLm hL hC fun x m a f v st A w' cs hm ham hfa hA hv hst hs hcs=>?_
 refine LeadsR.last plain_prog hcs Tryz.func9 LawPost.tapeR LawPost.out fun τ d=>?_
 exact tail9_go x L eo cap m a f v st w A _ (by omega) ham hfa hA (ownsRow_re hv τ d) (ownsRow_re hst τ d) (hs.tapeR τ d)
end Go.Proofs.YtpbbmagjhkakgaaGreatDoor.Ev
namespace Go.Proofs.YtpbbmagjhkakgaaGreatDoor
open Go.ChangeShapes Go.WideShapes Go.ChangeAt Go.RowKit Go.Deep Go.Conc Go.Proofs.YtpbbmagjhkakgaaGreatDoor.Ev Go.Proofs.YtpbbmagjhkakgaaGreatDoor.Lf
set_option maxRecDepth 100000 in
theorem late_runs {H:Type} {enc:TypeId×Value->H} (W:World) (base:Nat) (args:Array Value) (ds gs:List (DataW H)) (before:List MemPlace)
  (hval0:∀ (j:Nat) t v,Tryz.f9.params[j]? = some t->args[j]? = some v->Value.okWide Tryz.prog W .any base t v)
  (hW:DataW.Whole enc Tryz.prog Tryz.f9.params.toList Rows.lateSpec.vars false W args.toList ds gs before)
  (hz:(DataW.weightsEach Tryz.prog (Tryz.f9.params.toList++Rows.lateSpec.plain.varTypes Tryz.prog) (ds++gs)).all (·<=reachBytes)=true) (hL:laidMetH Tryz.prog Rows.printedRow.laid W) :
  ∃ M last o w' t',runNT Tryz.prog (M+1) (solo (G (Frame.enter Tryz.prog 9 args .normal) []) W) #[]=(.ended o w',t')/\runN Tryz.prog M (solo (G (Frame.enter Tryz.prog 9 args .normal) []) W)=.next last/\
   step Tryz.prog last=.ended o w'/\Conc.Good Tryz.prog (fun v W'=>Rows.lateSpec.post enc Tryz.prog Tryz.f9 false true false false W args v W') last o w' t':=by
 have hval:∀ (j:Nat) t v,Tryz.f9.params[j]? = some t->args[j]? = some v->Value.okWide Tryz.prog W .any base t v:=hval0
 have hW':=hW
 obtain ⟨p,q,hA0,hV,rfl,hfz,hnd⟩:=hW
 have hA:DataW.TrodAll enc Tryz.prog W 0 (fun _=>true) true Tryz.f9.params.toList args.toList ds p:=hA0
 rw [Tryz.params9] at hA hval hz
 obtain ⟨al⟩:=args
 obtain ⟨v0,vs0,d0,ds0,p0,q0,ha0,rfl,rfl,h0,hA⟩:=trodAll_cons hA
 obtain ⟨v2,vs2,d2,ds2,p2,q2,rfl,rfl,rfl,h2,hA⟩:=trodAll_cons hA
 obtain ⟨v3,vs3,d3,ds3,p3,q3,rfl,rfl,rfl,h3,hA⟩:=trodAll_cons hA
 obtain ⟨rfl,rfl,rfl⟩:=trodAll_nil hA
 have ha0:al=[v0,v2,v3]:=ha0
 subst ha0
 obtain ⟨rfl,rfl⟩:=trodVars_none hV
 have hz0:(d0.weights Tryz.prog 33).all (·<=reachBytes)=true:=by
  simp only [List.cons_append,List.nil_append,DataW.weightsEach,List.all_append,Bool.and_eq_true] at hz
  exact hz.1
 obtain ⟨oR,R,cR,rfl,hlR,hIR,hR⟩:=raw_open (hval 0 33 v0 rfl rfl) h0 hz0
 obtain ⟨eo,L,cap,rfl,hLm,hL64,hC⟩:=comes_open (hval 1 34 v2 rfl rfl) h2
 obtain ⟨a,rfl,rfl,rfl,wa⟩:=open_int Tryz.underlying3 (hval 2 3 v3 rfl rfl) h3
 obtain ⟨hg,h7⟩:=glob_of_laid hL
 clear hA0 hval0 hA hz
 have hlt:∀ x∈p0++(p2++([]++[]))++[],x.block<W.heap.size:=hW'.lt
 have e1:Rows.lateSpec.fn H ([d0,d2,.lit (.int .i64 a)]++[])={ results:=[.lit (.bool true)],args:=[d0,d2,.lit (.int .i64 a)] }:=by simp [Rows.lateSpec]
 obtain ⟨M,last,o,w',t',r1,r2,r3,r4⟩:=(late_all R oR cR L eo cap a W (i64_of_wf wa) hg h7 hlR hIR hR hLm hL64 hC).good Tryz.func9 (t:=6) rfl (by kernel_rfl) LawPost.tapeR (fun e w h=>⟨_,h.1⟩)
 refine ⟨M,last,o,w',t',r1,r2,r3,r4.mono fun v hp=>?_⟩
 obtain ⟨he,hs⟩:=hp
 cases he
 refine ⟨_,_,_,[],p0++(p2++([]++[])),[],hW',?_,?_,?_,spare_frame hs _,fun h=>by cases h⟩
 ·rw [e1];exact trodAll_mk1 (shut_bool Tryz.underlying4 true)
 ·rw [e1]
  exact trodAll_more (spare_trod laidOutK readRaw rowRaw h0 hs fun x hx=>hlt x (by simp [hx])) (trodAll_more (spare_trod laidOutK readComes rowComes h2 hs fun x hx=>hlt x (by simp [hx])) (trodAll_more (shut_int Tryz.underlying3 wa) trodAll_mk0))
 ·rw [e1];rfl
set_option maxRecDepth 100000 in
theorem late_lifted (os:Os) (started:os.Started) (H:Type) (enc:TypeId×Value->H) :
  ReturnsInLeavingWide {} Tryz.checked os 9 .any (fun w args=>(Rows.lateSpec.pre enc Tryz.prog Tryz.f9 [] false w args/\laidMetH Tryz.prog Rows.lateRow.laid w)/\sizedMet enc Tryz.prog Tryz.f9 (OpenSpec.ofChange Rows.lateSpec) false w args)
   (Rows.lateSpec.post enc Tryz.prog Tryz.f9 false true false false):=by
 refine leaving_of_change_and (C:=Tryz.checked) (X:=fun w _=>laidMetH Tryz.prog Rows.lateRow.laid w) (fun _ _ _ hh h=>h.of_heap hh) zown started Tryz.func9
  (ChangeSpec.witness_shaped (enc:=enc) (C:=Tryz.checked) (os:=os) (X:=fun w _=>laidMetH Tryz.prog Rows.lateRow.laid w) false (World.doorLaid Tryz.prog 600 os) #[.slice none 0 0,.slice none 0 0,.int .i64 0] 8 rfl (World.shaped_of_RefB (by kernel_rfl) (by kernel_rfl)) (by kernel_rfl) (by kernel_rfl) (by kernel_rfl) (door_met os _)) ?_
 intro W base args ds gs before hval hW hz hL
 exact late_runs W base args ds gs before hval hW hz hL
theorem late_row:Rows.LateSaid :=
 OpenClaim.holds_of_wide_leaving 9 Tryz.f9 rfl rfl rfl rfl rfl rfl rfl ⟨rfl,rfl,rfl,rfl,rfl⟩ rfl rfl rfl rfl rfl (by kernel_rfl) Tryz.func9 (by kernel_rfl)
  (of_decide_eq_true (by kernel_rfl)) (by unfold Func.isWrapper;rw [if_neg (of_decide_eq_false (by kernel_rfl))];exact ⟨rfl,rfl⟩)
  (fun os started H enc _=>late_lifted os started H enc)
theorem late_holds:Rows.LateCardSaid :=
 holds_tied_goes .later [.data,.data,.data,.handle,.sentinel,.sentinel,.sentinel,.sentinel,.sentinel,.sentinel,.sentinel,.sentinel,.sentinel] true Rows.lateCard.stood.harness true
  late_row (by kernel_rfl) late_row_tie rfl ⟨rfl,rfl⟩ (by kernel_rfl) rfl
  (fun f fn hf hfn=>by
   obtain rfl:f=9:=Option.some.inj ((show Tryz.prog.funcNamed "vigil/vigilkeep.Late"=some 9 by kernel_rfl).symm.trans hf) |>.symm
   obtain rfl:fn=Tryz.f9:=(Option.some.inj (Tryz.func9.symm.trans hfn)).symm
   exact ⟨by kernel_rfl,fun j t ht=>by
    rw [Tryz.params9] at ht
    have h3:t=33\/t=34\/t=3:=by
     rcases j with _ | _ | _ | j
     ·left;simpa using ht.symm
     ·right;left;simpa using ht.symm
     ·right;right;simpa using ht.symm
     ·simp at ht
    rcases h3 with rfl | rfl | rfl
    ·exact (show Tryz.prog.wantsStandIn 33=false by kernel_rfl)
    ·exact (show Tryz.prog.wantsStandIn 34=false by kernel_rfl)
    ·exact (show Tryz.prog.wantsStandIn 3=false by kernel_rfl)⟩)
  (by kernel_rfl)
end Go.Proofs.YtpbbmagjhkakgaaGreatDoor
