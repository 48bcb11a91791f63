import Derived.Test.YtpbbmagjhkakgaaGreatDoorEfForgToElLoop2
namespace Go.Proofs.YtpbbmagjhkakgaaGreatDoor.Ev
open Go.RowKit Go.Deep Go.Maps Go.Proofs.YtpbbmagjhkakgaaGreatDoor.Lf Go.Conc
noncomputable def add18:Code:=match part9 0 with
 | .seq x _=>x
 | _=>.skip
noncomputable def add19:Code:=match part9 0 with
 | .seq _ (.cond _ (.seq x _) _)=>x
 | _=>.skip
noncomputable def add20:Code:=match part9 0 with
 | .seq _ (.cond _ (.seq _ x) _)=>x
 | _=>.skip
noncomputable def opa9:Array Oper:=opsR add19
theorem add9_is:part9 0=.seq add18 (.cond (.tmp 84) (.seq add19 add20) .skip):=rfl
theorem ra9:add19=.region 19 opa9 false:=rfl
theorem za9:opa9.size=8:=rfl
def B9 (eo:Option Addr) (ln cap:Nat) (sp vs:ByteArray) (mb m a:Nat) (now from_:Int) (back:Value) (i:Int):List (Nat×Value):=[(1,.slice eo ln cap),(8,.string sp),(12,.string vs),(14,.pointer (some ⟨mb,0,none⟩)),(16,.int .i64 (m:Int)),(17,.int .i64 (a:Int)),(18,.int .i64 now),(19,.int .i64 from_),(20,back),(21,.int .i64 i),(84,.bool true)]
def H9 (eo:Option Addr) (ln cap:Nat) (sp vs:ByteArray) (mb m a:Nat) (now from_:Int) (back:Value) (i:Int):List (Nat×Value):=[(1,.slice eo ln cap),(8,.string sp),(12,.string vs),(14,.pointer (some ⟨mb,0,none⟩)),(16,.int .i64 (m:Int)),(17,.int .i64 (a:Int)),(18,.int .i64 now),(19,.int .i64 from_),(20,back),(21,.int .i64 i),(11,.int .i64 0)]
set_option maxRecDepth 100000 in
set_option maxHeartbeats 16000000 in
theorem add18_go (eo:Option Addr) (ln cap:Nat) (sp vs:ByteArray) (mb m a:Nat) (now from_:Int) (back:Value) (A:Act) (w:World) (Q:Act->World->Prop) (hA:Fx 227 (F9 eo ln cap sp vs mb m a now from_ back (a:Nat)) A) (hQ:∀ A',Fx 227 (B9 eo ln cap sp vs mb m a now from_ back (a:Nat)) A'->Q A' w):add18.wp Tryz.prog (fun e A' w'=>e=.normal/\Q A' w') A w:=by
 replace hQ:Hid _:=hQ
 obtain ⟨u,hu,rfl⟩:=open227 hA.size hA.defers
 have k1:=hu 1 _ (hA.get 1 _ rfl)
 have k8:=hu 8 _ (hA.get 8 _ rfl)
 have k12:=hu 12 _ (hA.get 12 _ rfl)
 have k14:=hu 14 _ (hA.get 14 _ rfl)
 have k16:=hu 16 _ (hA.get 16 _ rfl)
 have k17:=hu 17 _ (hA.get 17 _ rfl)
 have k18:=hu 18 _ (hA.get 18 _ rfl)
 have k19:=hu 19 _ (hA.get 19 _ rfl)
 have k20:=hu 20 _ (hA.get 20 _ rfl)
 have k21:=hu 21 _ (hA.get 21 _ rfl)
 clear hu hA
 simp only [k1,k8,k12,k14,k16,k17,k18,k19,k20,k21]
 clear k1 k8 k12 k14 k16 k17 k18 k19 k20 k21
 simp only [add18,part9,seqC,in9,loop9,rest9,body9,Tryz.f9,Option.getD_some]
 go_wp2_with fail
 first | refine hQ.out _ ?_ | refine ⟨rfl,hQ.out _ ?_⟩
 refine Fx.of rfl rfl ?_
 unfold B9
 simp only [List.forall_mem_cons,List.not_mem_nil,false_implies,implies_true,and_true]
 exact ⟨rfl,rfl,rfl,rfl,rfl,rfl,rfl,rfl,rfl,rfl,rfl⟩
set_option maxRecDepth 100000 in
set_option maxHeartbeats 16000000 in
theorem add20_go (eo:Option Addr) (ln cap:Nat) (sp vs:ByteArray) (mb m a:Nat) (now from_:Int) (back:Value) (i:Nat) (hi:i<=25) (A:Act) (w:World) (Q:Act->World->Prop) (hA:Fx 227 (H9 eo ln cap sp vs mb m a now from_ back i) A) (hQ:∀ A',Fx 227 (F9 eo ln cap sp vs mb m a now ((i:Int)+1) back i) A'->Q A' w):add20.wp Tryz.prog (fun e A' w'=>e=.normal/\Q A' w') A w:=by
 replace hQ:Hid _:=hQ
 obtain ⟨u,hu,rfl⟩:=open227 hA.size hA.defers
 have k1:=hu 1 _ (hA.get 1 _ rfl)
 have k8:=hu 8 _ (hA.get 8 _ rfl)
 have k12:=hu 12 _ (hA.get 12 _ rfl)
 have k14:=hu 14 _ (hA.get 14 _ rfl)
 have k16:=hu 16 _ (hA.get 16 _ rfl)
 have k17:=hu 17 _ (hA.get 17 _ rfl)
 have k18:=hu 18 _ (hA.get 18 _ rfl)
 have k19:=hu 19 _ (hA.get 19 _ rfl)
 have k20:=hu 20 _ (hA.get 20 _ rfl)
 have k21:=hu 21 _ (hA.get 21 _ rfl)
 have k11:=hu 11 _ (hA.get 11 _ rfl)
 clear hu hA
 simp only [k1,k8,k12,k14,k16,k17,k18,k19,k20,k21,k11]
 clear k1 k8 k12 k14 k16 k17 k18 k19 k20 k21 k11
 simp only [add20,part9,seqC,in9,loop9,rest9,body9,Tryz.f9,Option.getD_some]
 go_wp2_with fail
 first | refine hQ.out _ ?_ | refine ⟨rfl,hQ.out _ ?_⟩
 refine Fx.of rfl rfl ?_
 unfold F9
 simp only [List.forall_mem_cons,List.not_mem_nil,false_implies,implies_true,and_true]
 exact ⟨rfl,rfl,rfl,rfl,rfl,rfl,rfl,rfl,rfl,rfl⟩
theorem add9_go (x:BT Pay) (L:List (Int×Int)) (eo:Option Addr) (ln cap:Nat) (sp vs:ByteArray) (mb wtb m a:Nat) (n now from_:Int) (back:Value) (w0:World) (A:Act) (w:World) (ha:a<=25) (tx:TextOK sp x) (hR:reachT x<=n) (hR0:0<=reachT x) (hg:Glob w0) (hw7:14<=w0.heap.size) (hs:SpareR (fun _=>False) w0 w) (hY:YInv L w0.heap.size mb wtb n a w) (hA:Fx 227 (F9 eo ln cap sp vs mb m a now from_ back (a:Nat)) A) :
  HWp Tryz.prog (part9 0) (fun e A' w'=>e=.normal/\∃ v f,f<=a/\Fx 227 (F9 eo ln cap sp vs mb m a now ((a:Int)+1) v (a:Nat)) A'/\KInv x ⟨#[112]⟩ L w0.heap.size mb wtb n a a v f w'/\SpareR (fun _=>False) w0 w') A w:=by
 have hP:=plain_prog
 rw [add9_is]
 refine HWp.seqL hP (fun A' w'=>Fx 227 (B9 eo ln cap sp vs mb m a now from_ back (a:Nat)) A'/\YInv L w0.heap.size mb wtb n a w'/\SpareR (fun _=>False) w0 w') (fun _ _ τ d x=>⟨x.1,x.2.1.tapeR τ d,x.2.2.tapeR τ d⟩) (fun τ d=>add18_go eo ln cap sp vs mb m a now from_ back A _ _ hA fun A' h=>⟨h,hY.tapeR τ d,hs.tapeR τ d⟩) fun A w ⟨hA,hY,hs⟩=>?_
 refine HWp.cond hP (t:=true) (hA.ev rfl) ?_
 simp only [if_true]
 refine HWp.seqH hP (fun A' w'=>∃ v f,f<=a/\Fx 227 (H9 eo ln cap sp vs mb m a now from_ v (a:Nat)) A'/\KInv x ⟨#[112]⟩ L w0.heap.size mb wtb n a a v f w'/\SpareR (fun _=>False) w0 w') ?_ fun A w ⟨v,f,hf,hA,hK,hs⟩=>HWp.loneN hP (fun _ _ τ d x=>by obtain ⟨v,f,x1,x2,x3,x4⟩:=x;exact ⟨v,f,x1,x2,x3.tapeR τ d,x4.tapeR τ d⟩) fun τ d=>add20_go eo ln cap sp vs mb m a now from_ v a ha A _ _ hA fun A' h=>⟨v,f,hf,h,hK.tapeR τ d,hs.tapeR τ d⟩
 unfold B9 at hA
 refine HWp.of_lead fun b k cs hi0 hcs=>?_
 rw [ra9]
 refine LeadsR.region hP hi0 hcs ?_
 rw [za9]
 simp only [List.range,List.range.loop]
 refine mvF ⟨_,rfl,rfl,rfl,rfl⟩ hA rfl (by decide) hi0 hcs fun A hA=>?_
 refine mvF ⟨_,rfl,rfl,rfl,rfl⟩ hA rfl (by decide) hi0 hcs fun A hA=>?_
 refine callFx ⟨_,rfl,rfl,rfl,rfl⟩ Tryz.func27 (by decide) rfl hA rfl (by decide) hi0 hcs (late_H hY ha name_p (by decide) (Nat.le_trans tx.size (by decide)) (glob_spare hg hs) (Nat.le_trans hw7 hs.size) tx.read hR hR0 (few_nodes tx.nodes) (Nat.le_trans tx.nodes (by decide))) (fun e w' x=>by obtain ⟨v,f,x1,_⟩:=x;exact ⟨_,x1⟩) ?_
 rintro vv w1 A ⟨v,f,hv,hf,hK,hs1,_⟩ hA
 cases hv
 refine mvF ⟨_,rfl,rfl,rfl,rfl⟩ hA rfl (by decide) hi0 hcs fun A hA=>?_
 refine extF ⟨_,rfl,rfl,rfl,rfl⟩ hA rfl (v:=v) rfl (by decide) hi0 hcs fun A hA=>?_
 refine extF ⟨_,rfl,rfl,rfl,rfl⟩ hA rfl (v:=.int .i64 0) rfl (by decide) hi0 hcs fun A hA=>?_
 refine asgF ⟨_,rfl,rfl,rfl,rfl⟩ hA rfl (by decide) hi0 hcs fun A hA=>?_
 refine asgF ⟨_,rfl,rfl,rfl,rfl⟩ hA rfl (by decide) hi0 hcs fun A hA=>?_
 refine LeadsR.nil hP hi0 hcs (LeadsR.here fun τ d=>⟨A,⟨v,f,hf,?_,hK.tapeR τ d,(spare_out hs hs1).tapeR τ d⟩,rfl⟩)
 refine hA.less ?_
 unfold H9
 simp only [List.forall_mem_cons,List.not_mem_nil,false_implies,implies_true,and_true]
 exact ⟨rfl,rfl,rfl,rfl,rfl,rfl,rfl,rfl,rfl,rfl,rfl⟩
def V9 (L:List (Int×Int)) (eo:Option Addr) (cap:Nat) (sp vs:ByteArray) (mb m a:Nat) (w0:World) (I:World->Prop) (now from_:Int) (back:Value) (i:Int) (A:Act) (w:World):Prop:=Fx 227 (F9 eo L.length cap sp vs mb m a now from_ back i) A/\I w/\SpareR (fun _=>False) w0 w
theorem rest9_go (L:List (Int×Int)) (eo:Option Addr) (cap:Nat) (sp vs:ByteArray) (mb m a:Nat) (w0:World) (I I':World->Prop) (from_:Int) (back:Value) (i:Nat) (A:Act) (w:World) (hLm:L.length<=9223372036854775807) (hL:∀ p∈L,I64 p.1/\I64 p.2) (hC:ComesAt w0 eo L) (hm:i<m) (h1:m<=25) (h2:m<=L.length) (hmv:∀ w w',I w->SpareR (fun _=>False) w w'->I w') (htp0:∀ w τ d,I w->I (re w τ d)) (htp:∀ w τ d,I' w->I' (re w τ d))
  (hstep:∀ (w:World) (ao:Option Addr) (cp:Nat),I w->StrsIn w ao (atomsAt L i)->(atomsAt L i).length<=cp->HCalls Tryz.prog 24 #[.pointer (some ⟨mb,0,none⟩),.int .i64 (timeZ L (i+1)),.slice ao (atomsAt L i).length cp] w fun e W'=>e=.returned (.int .i64 0)/\I' W'/\SpareR (fun b=>w0.heap.size<=b) w W')
  (h:V9 L eo cap sp vs mb m a w0 I (timeZ L i) from_ back i A w) :
  HWp Tryz.prog (.seq (part9 1) (.seq (part9 2) (.seq (part9 3) chk9))) (fun e A' w'=>e=.normal/\V9 L eo cap sp vs mb m a w0 I' (timeZ L (i+1)) from_ back i A' w') A w:=by
 have hP:=plain_prog
 obtain ⟨hA,hI,hs⟩:=h
 refine HWp.seqL hP (V9 L eo cap sp vs mb m a w0 I (timeZ L i) from_ back i) (fun _ w τ d x=>⟨x.1,htp0 w τ d x.2.1,x.2.2.tapeR τ d⟩) (fun τ d=>stay9_go eo L.length cap sp vs mb m a (timeZ L i) from_ back i hm A _ _ hA fun A' h=>⟨h,htp0 w τ d hI,hs.tapeR τ d⟩) fun A w ⟨hA,hI,hs⟩=>?_
 refine HWp.seqL hP (V9 L eo cap sp vs mb m a w0 I (timeZ L (i+1)) from_ back i) (fun _ w τ d x=>⟨x.1,htp0 w τ d x.2.1,x.2.2.tapeR τ d⟩) (fun τ d=>now9_go L eo cap sp vs mb m a from_ back w0 i A _ _ hLm hL hC (hs.tapeR τ d) (by omega) (by omega) hA fun A' h=>⟨h,htp0 w τ d hI,hs.tapeR τ d⟩) fun A w ⟨hA,hI,hs⟩=>?_
 refine HWp.seqH hP (fun A' w'=>Fx 227 (G9 eo L.length cap sp vs mb m a (timeZ L (i+1)) from_ back i) A'/\I' w'/\SpareR (fun _=>False) w0 w') (ev9_go L eo cap sp vs mb m a from_ back w0 i A w I I' hLm hL hC hs (by omega) hI hmv htp hstep hA) fun A w ⟨hA,hI,hs⟩=>?_
 exact HWp.loneN hP (fun _ w τ d x=>⟨x.1,htp w τ d x.2.1,x.2.2.tapeR τ d⟩) fun τ d=>chk9_go eo L.length cap sp vs mb m a (timeZ L (i+1)) from_ back i A _ _ hA fun A' h=>⟨h,htp w τ d hI,hs.tapeR τ d⟩
theorem restY_go (L:List (Int×Int)) (eo:Option Addr) (cap:Nat) (sp vs:ByteArray) (mb wtb m a:Nat) (n:Int) (w0:World) (from_:Int) (back:Value) (i:Nat) (A:Act) (w:World) (hLm:L.length<=9223372036854775807) (hL:∀ p∈L,I64 p.1/\I64 p.2) (hC:ComesAt w0 eo L) (hm:i<m) (h1:m<=25) (h2:m<=L.length) (h:V9 L eo cap sp vs mb m a w0 (YInv L w0.heap.size mb wtb n i) (timeZ L i) from_ back i A w) :
  HWp Tryz.prog (.seq (part9 1) (.seq (part9 2) (.seq (part9 3) chk9))) (fun e A' w'=>e=.normal/\V9 L eo cap sp vs mb m a w0 (YInv L w0.heap.size mb wtb n (i+1)) (timeZ L (i+1)) from_ back i A' w') A w :=
 rest9_go L eo cap sp vs mb m a w0 _ _ from_ back i A w hLm hL hC hm h1 h2 (fun _ _ x y=>x.move y) (fun _ τ d x=>x.tapeR τ d) (fun _ τ d x=>x.tapeR τ d) (fun w ao cp hI hA hcp=>(step_noneY hI (by omega) ao cp hA hcp).mono fun e W' x=>⟨x.1,x.2.1,x.2.2.1⟩) h
theorem restK_go (x:BT Pay) (L:List (Int×Int)) (eo:Option Addr) (cap:Nat) (sp vs:ByteArray) (mb wtb m a f:Nat) (n:Int) (w0:World) (from_:Int) (back:Value) (i:Nat) (A:Act) (w:World) (hg:Good x) (hR:reachT x<=n) (hLm:L.length<=9223372036854775807) (hL:∀ p∈L,I64 p.1/\I64 p.2) (hC:ComesAt w0 eo L) (hm:i<m) (h1:m<=25) (h2:m<=L.length) (h:V9 L eo cap sp vs mb m a w0 (KInv x ⟨#[112]⟩ L w0.heap.size mb wtb n a i back f) (timeZ L i) from_ back i A w) :
  HWp Tryz.prog (.seq (part9 1) (.seq (part9 2) (.seq (part9 3) chk9))) (fun e A' w'=>e=.normal/\V9 L eo cap sp vs mb m a w0 (KInv x ⟨#[112]⟩ L w0.heap.size mb wtb n a (i+1) back f) (timeZ L (i+1)) from_ back i A' w') A w :=
 rest9_go L eo cap sp vs mb m a w0 _ _ from_ back i A w hLm hL hC hm h1 h2 (fun _ _ x y=>x.move y) (fun _ τ d x=>x.tapeR τ d) (fun _ τ d x=>x.tapeR τ d) (fun w ao cp hI hA hcp=>step_back hI hg (Int.le_trans (reach_core hg) hR) (by omega) ao cp hA hcp) h
section
variable (x : BT Pay) (L : List (Int × Int)) (eo : Option Addr) (cap : Nat) (sp vs : ByteArray) (mb wtb m a : Nat) (n : Int) (w0 : World)
def Y9 (i:Nat) (A:Act) (w:World):Prop:=V9 L eo cap sp vs mb m a w0 (YInv L w0.heap.size mb wtb n i) (timeZ L i) 0 (.slice none 0 0) i A w
def K9 (i:Nat) (A:Act) (w:World):Prop:=∃ v f,f<=a/\V9 L eo cap sp vs mb m a w0 (KInv x ⟨#[112]⟩ L w0.heap.size mb wtb n a i v f) (timeZ L i) ((a:Int)+1) v i A w
def S9 (i:Nat) (A:Act) (w:World):Prop:=(i<=a/\Y9 L eo cap sp vs mb wtb m a n w0 i A w)\/(a<i/\K9 x L eo cap sp vs mb wtb m a n w0 i A w)
def M9 (i:Nat) (A:Act) (w:World):Prop:=(i<a/\Y9 L eo cap sp vs mb wtb m a n w0 i A w)\/(a<=i/\K9 x L eo cap sp vs mb wtb m a n w0 i A w)
def N9 (i:Nat) (A:Act) (w:World):Prop:=(i<a/\V9 L eo cap sp vs mb m a w0 (YInv L w0.heap.size mb wtb n (i+1)) (timeZ L (i+1)) 0 (.slice none 0 0) i A w)\/(a<=i/\∃ v f,f<=a/\V9 L eo cap sp vs mb m a w0 (KInv x ⟨#[112]⟩ L w0.heap.size mb wtb n a (i+1) v f) (timeZ L (i+1)) ((a:Int)+1) v i A w)
end
section
variable {x : BT Pay} {L : List (Int × Int)} {eo : Option Addr} {cap : Nat} {sp vs : ByteArray} {mb wtb m a : Nat} {n : Int} {w0 : World}
theorem Y9.tapeR {i:Nat} {A:Act} {w:World} (h:Y9 L eo cap sp vs mb wtb m a n w0 i A w) (τ:Tape) (d:Nat):Y9 L eo cap sp vs mb wtb m a n w0 i A (re w τ d):=⟨h.1,h.2.1.tapeR τ d,h.2.2.tapeR τ d⟩
theorem K9.tapeR {i:Nat} {A:Act} {w:World} (h:K9 x L eo cap sp vs mb wtb m a n w0 i A w) (τ:Tape) (d:Nat):K9 x L eo cap sp vs mb wtb m a n w0 i A (re w τ d):=by
 obtain ⟨v,f,h1,h2⟩:=h
 exact ⟨v,f,h1,h2.1,h2.2.1.tapeR τ d,h2.2.2.tapeR τ d⟩
theorem S9.tapeR {i:Nat} {A:Act} {w:World} (h:S9 x L eo cap sp vs mb wtb m a n w0 i A w) (τ:Tape) (d:Nat):S9 x L eo cap sp vs mb wtb m a n w0 i A (re w τ d):=h.imp (fun h=>⟨h.1,h.2.tapeR τ d⟩) fun h=>⟨h.1,h.2.tapeR τ d⟩
theorem M9.tapeR {i:Nat} {A:Act} {w:World} (h:M9 x L eo cap sp vs mb wtb m a n w0 i A w) (τ:Tape) (d:Nat):M9 x L eo cap sp vs mb wtb m a n w0 i A (re w τ d):=h.imp (fun h=>⟨h.1,h.2.tapeR τ d⟩) fun h=>⟨h.1,h.2.tapeR τ d⟩
theorem N9.tapeR {i:Nat} {A:Act} {w:World} (h:N9 x L eo cap sp vs mb wtb m a n w0 i A w) (τ:Tape) (d:Nat):N9 x L eo cap sp vs mb wtb m a n w0 i A (re w τ d):=h.imp (fun h=>⟨h.1,h.2.1,h.2.2.1.tapeR τ d,h.2.2.2.tapeR τ d⟩) fun h=>by
 obtain ⟨h0,v,f,h1,h2⟩:=h
 exact ⟨h0,v,f,h1,h2.1,h2.2.1.tapeR τ d,h2.2.2.tapeR τ d⟩
theorem place9 {i:Nat} {A:Act} {w:World} (ha:a<=25) (tx:TextOK sp x) (hR:reachT x<=n) (hR0:0<=reachT x) (hg:Glob w0) (hw7:14<=w0.heap.size) (h:S9 x L eo cap sp vs mb wtb m a n w0 i A w):HWp Tryz.prog (part9 0) (fun e A' w'=>e=.normal/\M9 x L eo cap sp vs mb wtb m a n w0 i A' w') A w:=by
 have hP:=plain_prog
 rcases h with ⟨h1,h⟩ | ⟨h1,v,f,hf,h⟩
 ·by_cases hi:i=a
  ·subst hi
   refine (add9_go x L eo L.length cap sp vs mb wtb m i n _ _ _ w0 A w ha tx hR hR0 hg hw7 h.2.2 h.2.1 h.1).mono ?_
   rintro e A' w' ⟨rfl,v,f,hf,k1,k2,k3⟩
   exact ⟨rfl,.inr ⟨Nat.le_refl _,v,f,hf,k1,k2,k3⟩⟩
  ·exact HWp.loneN hP (fun _ _ τ d x=>x.tapeR τ d) fun τ d=>skip9_go eo L.length cap sp vs mb m a _ _ _ i hi A _ _ h.1 fun A' k=>.inl ⟨by omega,k,h.2.1.tapeR τ d,h.2.2.tapeR τ d⟩
 ·exact HWp.loneN hP (fun _ _ τ d x=>x.tapeR τ d) fun τ d=>skip9_go eo L.length cap sp vs mb m a _ _ _ i (by omega) A _ _ h.1 fun A' k=>.inr ⟨by omega,v,f,hf,k,h.2.1.tapeR τ d,h.2.2.tapeR τ d⟩
theorem after9 {i:Nat} {A:Act} {w:World} (hgx:Good x) (hR:reachT x<=n) (hLm:L.length<=9223372036854775807) (hL:∀ p∈L,I64 p.1/\I64 p.2) (hC:ComesAt w0 eo L) (hm:i<m) (h1:m<=25) (h2:m<=L.length) (h:M9 x L eo cap sp vs mb wtb m a n w0 i A w) :
  HWp Tryz.prog (.seq (part9 1) (.seq (part9 2) (.seq (part9 3) chk9))) (fun e A' w'=>e=.normal/\N9 x L eo cap sp vs mb wtb m a n w0 i A' w') A w:=by
 rcases h with ⟨k1,h⟩ | ⟨k1,v,f,hf,h⟩
 ·exact (restY_go L eo cap sp vs mb wtb m a n w0 _ _ i A w hLm hL hC hm h1 h2 h).mono fun e A' w' y=>⟨y.1,.inl ⟨k1,y.2⟩⟩
 ·exact (restK_go x L eo cap sp vs mb wtb m a f n w0 _ _ i A w hgx hR hLm hL hC hm h1 h2 h).mono fun e A' w' y=>⟨y.1,.inr ⟨k1,v,f,hf,y.2⟩⟩
theorem round9 {i:Nat} {A:Act} {w:World} (ha:a<=m) (tx:TextOK sp x) (hgx:Good x) (hR:reachT x<=n) (hR0:0<=reachT x) (hg:Glob w0) (hw7:14<=w0.heap.size) (hLm:L.length<=9223372036854775807) (hL:∀ p∈L,I64 p.1/\I64 p.2) (hC:ComesAt w0 eo L) (him:i<=m) (h1:m<=25) (h2:m<=L.length) (h:S9 x L eo cap sp vs mb wtb m a n w0 i A w) :
  HWp Tryz.prog loop9 (fun e A' w'=>(e=.normal/\i<m/\S9 x L eo cap sp vs mb wtb m a n w0 (i+1) A' w')\/(e=.exit 0/\K9 x L eo cap sp vs mb wtb m a n w0 m A' w')) A w:=by
 have hP:=plain_prog
 have e0:loop9=.seq head9 (.seq (.block 1 (.seq (part9 0) (.seq (part9 1) (.seq (part9 2) (.seq (part9 3) chk9))))) next9):=rfl
 rw [e0]
 refine HWp.seqL hP (S9 x L eo cap sp vs mb wtb m a n w0 i) (fun _ _ τ d x=>x.tapeR τ d) (fun τ d=>?_) fun A w h=>?_
 ·rcases h with ⟨k1,h⟩ | ⟨k1,v,f,hf,h⟩
  ·exact head9_go eo L.length cap sp vs mb m a _ _ _ i him A _ _ h.1 fun A' k=>.inl ⟨k1,k,h.2.1.tapeR τ d,h.2.2.tapeR τ d⟩
  ·exact head9_go eo L.length cap sp vs mb m a _ _ _ i him A _ _ h.1 fun A' k=>.inr ⟨k1,v,f,hf,k,h.2.1.tapeR τ d,h.2.2.tapeR τ d⟩
 by_cases hm:i<m
 ·refine HWp.seqH hP (N9 x L eo cap sp vs mb wtb m a n w0 i) (HWp.blockN hP (fun _ _ τ d x=>x.tapeR τ d) (HWp.seqH hP (M9 x L eo cap sp vs mb wtb m a n w0 i) (place9 (by omega) tx hR hR0 hg hw7 h) fun A w h=>after9 hgx hR hLm hL hC hm h1 h2 h)) fun A w h=>?_
  refine (HWp.loneN hP (J:=S9 x L eo cap sp vs mb wtb m a n w0 (i+1)) (fun _ _ τ d x=>x.tapeR τ d) fun τ d=>?_).mono fun e A w y=>.inl ⟨y.1,hm,y.2⟩
  rcases h with ⟨k1,h⟩ | ⟨k1,v,f,hf,h⟩
  ·exact next9_go eo L.length cap sp vs mb m a _ _ _ i (by omega) A _ _ h.1 fun A' k=>.inl ⟨by omega,k,h.2.1.tapeR τ d,h.2.2.tapeR τ d⟩
  ·exact next9_go eo L.length cap sp vs mb m a _ _ _ i (by omega) A _ _ h.1 fun A' k=>.inr ⟨by omega,v,f,hf,k,h.2.1.tapeR τ d,h.2.2.tapeR τ d⟩
 ·obtain rfl:i=m:=by omega
  refine HWp.seq' hP (fun _ _=>False) (HWp.block hP (fun A w τ d y=>?_) (HWp.seqH hP (M9 x L eo cap sp vs mb wtb i a n w0 i) (place9 (by omega) tx hR hR0 hg hw7 h) fun A w h=>?_)) (fun _ _ y=>y.elim)
  ·exact False.elim y
  ·rcases h with ⟨k1,h⟩ | ⟨k1,v,f,hf,h⟩
   ·omega
   ·refine HWp.seq hP ((HWp.of_wp hP (Q:=fun e A' w'=>e=.exit 0/\K9 x L eo cap sp vs mb wtb i a n w0 i A' w') (fun _ _ _ τ d y=>⟨y.1,y.2.tapeR τ d⟩) (fun _ _ y=>by cases y.1) (fun τ d=>out9_go eo L.length cap sp vs mb i a _ _ _ A _ _ h.1 fun A' k=>⟨v,f,hf,k,h.2.1.tapeR τ d,h.2.2.tapeR τ d⟩)).mono ?_)
    rintro e A w ⟨rfl,y⟩
    exact .inr ⟨rfl,y⟩
end
end Go.Proofs.YtpbbmagjhkakgaaGreatDoor.Ev
namespace Go.Proofs.YtpbbmagjhkakgaaGreatDoor.Ev
open Go.RowKit Go.Deep Go.Maps Go.Proofs.YtpbbmagjhkakgaaGreatDoor.Lf Go.Conc
theorem rest9_is:rest9=.seq (.seq zero9 (.block 0 (.loop loop9))) fin9:=rfl
theorem loop9_lead {x:BT Pay} {L:List (Int×Int)} {eo:Option Addr} {cap:Nat} {sp vs:ByteArray} {mb wtb m a:Nat} {n:Int} {w0 w:World} {A:Act} {K:Goroutine->World->Prop} (ha:a<=m) (tx:TextOK sp x) (hgx:Good x) (hR:reachT x<=n) (hR0:0<=reachT x) (hg:Glob w0) (hw7:14<=w0.heap.size) (hLm:L.length<=9223372036854775807) (hL:∀ p∈L,I64 p.1/\I64 p.2) (hC:ComesAt w0 eo L) (h1:m<=25) (h2:m<=L.length)
  (hA:Fx 227 [(1,.slice eo L.length cap),(8,.string sp),(12,.string vs),(14,.pointer (some ⟨mb,0,none⟩)),(16,.int .i64 (m:Int)),(17,.int .i64 (a:Int)),(18,.int .i64 0),(19,.int .i64 0),(20,.slice none 0 0)] A) (hY:YInv L w0.heap.size mb wtb n 0 w) (hs:SpareR (fun _=>False) w0 w) (b:Frame) (cs:List Frame) (hcs:∀ fr∈cs,okFrame fr)
  (hfin:∀ A w,K9 x L eo cap sp vs mb wtb m a n w0 m A w->LeadsR Tryz.prog K (G (b.at A [.code fin9]) cs) w) :
  LeadsR Tryz.prog K (G (b.at A [.code rest9]) cs) w:=by
 have hP:=plain_prog
 have hi0:∀ it∈([]:List Item),okItem it:=by simp
 have hi1:∀ (c:Code),∀ it∈[Item.code c],okItem it:=fun c=>okItems_cons trivial (by simp)
 have hi2:∀ (c d:Code),∀ it∈[Item.code c,Item.code d],okItem it:=fun c d=>okItems_cons trivial (hi1 d)
 rw [rest9_is]
 refine LeadsR.seq hP hi0 hcs (LeadsR.seq hP (hi1 _) hcs ?_)
 refine LeadsR.piece hP (S9 x L eo cap sp vs mb wtb m a n w0 0) (fun _ _ τ d x=>x.tapeR τ d) (hi2 _ _) hcs (fun τ d=>zero9_go eo L.length cap sp vs mb m a 0 0 (.slice none 0 0) A _ _ hA fun A' k=>.inl ⟨Nat.zero_le _,k,hY.tapeR τ d,hs.tapeR τ d⟩) fun A w h0=>?_
 refine LeadsR.hpiece (K9 x L eo cap sp vs mb wtb m a n w0 m) (hi1 _) hcs (HWp.blockLoop hP (fun q A w'=>∃ i:Nat,q=m-i/\i<=m/\S9 x L eo cap sp vs mb wtb m a n w0 i A w') _ (fun _ _ τ d x=>x.tapeR τ d) m ⟨0,rfl,Nat.zero_le _,h0⟩ ?_) fun A w h=>hfin A w h
 rintro q A w2 ⟨i,rfl,h3,h4⟩
 refine (round9 ha tx hgx hR hR0 hg hw7 hLm hL hC h3 h1 h2 h4).mono ?_
 rintro e A w3 (⟨rfl,h5,h6⟩ | ⟨rfl,h6⟩)
 ·exact .inl ⟨rfl,m-(i+1),by omega,i+1,rfl,by omega,h6⟩
 ·exact .inr ⟨rfl,h6⟩
end Go.Proofs.YtpbbmagjhkakgaaGreatDoor.Ev
