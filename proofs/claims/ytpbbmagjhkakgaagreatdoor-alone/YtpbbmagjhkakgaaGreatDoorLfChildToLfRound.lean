import Derived.Test.YtpbbmagjhkakgaaGreatDoorLfScriptToLfEnd
import Derived.Test.YtpbbmagjhkakgaaGreatDoorLfVerdict
import Derived.Conc.DeferLaws
namespace Go.Proofs.YtpbbmagjhkakgaaGreatDoor.Lf
open Go Go.Conc Go.RowKit
open Go.Proofs (Tryz.f133 Tryz.prog Tryz.func133 Tryz.ntmps133)
theorem RT.defer {P:Program} {main:Bool} {R:(Nat->Prop)->World->World->Prop} {D:(Nat->Prop)->World->World->Array Event->Prop} {Stop:(Nat->Prop)->Goroutine->World->Prop} {S:Nat->Prop} {b:Frame} {a:Act} {k:List Item} {cs:List Frame} {w:World} (T:dh R D) {ops:Array Oper} {i:Nat} {rest:List Nat} {o:Oper} (ho:ops[i]? = some o) (hw:Region.wanted o (yielded ops a.tmps)=true) (hk:b.kind≠.early) (d:Deferred)
  (hr:∀ w₁,(execOp a.eval o).run P w₁=.ok (.defer d) w₁) (he:∀ w₁,(execOp a.eval o).events P w₁ #[]=#[]) (h:RT P main R D Stop S (G (b.at (Act.put ⟨a.tmps,d::a.defers⟩ o.dst undef) (.inRegion ops rest::k)) cs) w) :
  RT P main R D Stop S (G (b.at a (.inRegion ops (i::rest)::k)) cs) w:=by
 refine .one rfl fun w₁ h₁=>?_
 have bH:(b.at ⟨a.tmps,d::a.defers⟩ (.inRegion ops (i::rest)::k)).finish undef=b.at (Act.put ⟨a.tmps,d::a.defers⟩ o.dst undef) (.inRegion ops rest::k):=by rw [Frame.finish_at,ho];rfl
 have hk':(b.kind==CallKind.early)=false:=by simpa using hk
 have df:stepG P main (G (b.at a (.inRegion ops (i::rest)::k)) cs) w₁=.go (G (b.at (Act.put ⟨a.tmps,d::a.defers⟩ o.dst undef) (.inRegion ops rest::k)) cs) w₁ #[]:=by
  rw [stepG_oper ho hw,<- bH]
  simp [stepG.apply,hr,he,G,Frame.at,hk',GStep.after,seen_none]
 rw [df,goes_go,aD]
 exact ⟨T.idle _ _,h.rely T h₁⟩
noncomputable def bot:Frame:={ (default:Frame) with fn:=Tryz.prog.funcs.size,defers:=[],mode:=.panicking [goexitEntry] }
def call133 (p5 p2 p3:Nat):Deferred:={ target:=.fn (.func 133) #[.pointer (some ⟨p5,0,none⟩),.pointer (some ⟨p2,0,none⟩),.pointer (some ⟨p3,0,none⟩)],args:=#[] }
noncomputable def lf:Code:=Tryz.f133.body.getD .skip
theorem born_step (p5 p2 p3:Nat) (w:World):stepG Tryz.prog false (born Tryz.prog (call133 p5 p2 p3)) w =
  .go (G ((baseD 133).at ⟨#[.pointer (some ⟨p5,0,none⟩),.pointer (some ⟨p2,0,none⟩),.pointer (some ⟨p3,0,none⟩),undef,undef,undef,undef,undef,undef,undef,undef,undef,undef,undef,undef,undef,undef,undef,undef,undef],[]⟩ [.code lf]) [bot]) w #[]:=by
 have h1:¬ Tryz.f133.name = "runtime.NumGoroutine":=by decide
 have h2:¬ Tryz.f133.body=none:=by simp [Tryz.f133]
 simp [born,call133,stepG,unwind,callDeferred,invoke,callFunc,Tryz.func133,h1,h2,seen,GStep.after,G,Frame.enter,Frame.at,baseD,bot,lf,Tryz.ntmps133]
 rfl
def qT (c:Nat):Deferred:={ target:=.builtin .close #[235] 0 #[false],args:=#[.chan (some c)] }
theorem close_step {c n s r:Nat} {buf:Array Value} (tmps:Array Value) (todo:List Item) (w:World) (hc:w.heap[c]? = some (.chan n buf false s r false)) :
  stepG Tryz.prog false (G { (baseD 133).at ⟨tmps,[qT c]⟩ todo with mode:=.returning } [bot]) w=.go (G { (baseD 133).at ⟨tmps,[]⟩ todo with mode:=.returning } [bot]) (w.setChan c n buf true s r false) (#[⟨.obj c,false,true⟩].push ⟨.obj c,true,true⟩):=by
 have hr:=run_close_open (P:=Tryz.prog) #[235] 0 hc
 have he:=events_close_open (P:=Tryz.prog) (es:=#[]) #[235] 0 hc
 simp [G,stepG,unwind,callDeferred,Frame.at,qT,invoke,builtin,hr,he,GStep.after,World.setChan]
 exact seen_eq (by simp [baseD,Tryz.func133];rfl) (by simp)
theorem quits_tail (tmps:Array Value) (todo:List Item):QuitsD Tryz.prog 2 0 (G { (baseD 133).at ⟨tmps,[]⟩ todo with mode:=.returning } [bot]):=by
 refine QuitsD.ctl (g':=G bot []) rfl (fun w=>?_) ?_
 ·simp [G,stepG,unwind,doReturn,results,Frame.at,baseD,bot,Tryz.func133,seen,GStep.after,goexitEntry]
 refine QuitsD.ctl (g':={ G bot [] with status:=.finished }) rfl (fun w=>?_) ⟨rfl,rfl⟩
 simp [G,stepG,unwind,bot,goexitEntry,Frame.catches]
 rfl
structure bC where
 name:ByteArray
 bV:Option Addr
 cG:Option Addr
 node:Nat
 cu:Int
 v:Bool
def letter (num time:Int) (p:bC):Value:=.agg #[.pointer p.cG,.int .i64 num,.int .i64 time,.int .i64 p.cu,.bool p.v]
def b5 (fA:Array Value) (po:Nat) (ps:List bC):Prop:=∀ (j:Nat) (p:bC),ps[j]? = some p->fA[po+j*5]? = some (.string p.name)/\fA[po+j*5+1]? = some (.pointer p.bV)/\fA[po+j*5+2]? = some (.int .i64 p.node)/\fA[po+j*5+3]? = some (.int .i64 p.cu)/\fA[po+j*5+4]? = some (.pointer p.cG)
noncomputable def loopX:Code:=match lf with
 | .seq _ (.seq _ (.block _ (.loop x)))=>x
 | _=>.skip
noncomputable def headX (c p5 p2 p3:Nat) (sv:Value) (N k:Nat) (u3 u4 u9 u10 u11 u12 u13 u14 u15 u16 u17 u18 u19:Value):Goroutine :=
 G ((baseD 133).at ⟨#[.pointer (some ⟨p5,0,none⟩),.pointer (some ⟨p2,0,none⟩),.pointer (some ⟨p3,0,none⟩),u3,u4,.chan (some c),sv,.int .i64 N,.int .i64 k,u9,u10,u11,u12,u13,u14,u15,u16,u17,u18,u19],[qT c]⟩ [.code loopX,.inLoop loopX,.inBlock 0]) [bot]
variable {c B : Nat} {M Ro : Nat → Prop}
abbrev FSc (c p5 p2 p3 pb po N cap sb so n cp:Nat) (num time:Int) (at_:Value) (fA:Array Value) (mp:Nat×Nat) (arr:Array Value) (m:Nat×Nat):List (Nat×Obj) :=
 [(p5,.cells #[.chan (some c)] 235),(p2,.cells #[.slice (some ⟨pb,po,none⟩) N cap] 151),(p3,.cells #[.int .i64 num,.int .i64 time,at_,.slice (some ⟨sb,so,none⟩) n cp] 159),(pb,.cells fA 183 mp),(sb,.cells arr 4 m)]
set_option maxRecDepth 100000 in
set_option maxHeartbeats 2000000 in
theorem round_c (H : qJ c B M Ro) (L : List Value) (p5 p2 p3 pb po cap sb so n cp : Nat) (num time : Int) (at_ : Value) (fA : Array Value) (mp : Nat × Nat) (arr : Array Value) (m : Nat × Nat) (ps : List bC) (hps : b5 fA po ps) (hn : ps.length < 9223372036854775807) (jh : ∀ p ∈ ps, arr[so + p.node]? = some (.bool p.v) ∧ p.node < n) (nn : Nat)
  (k : Nat) (p : bC) (hk : ps[k]? = some p) (u3 u4 u9 u10 u11 u12 u13 u14 u15 u16 u17 u18 u19 : Value) (jO : Nat → Prop) (bW : World) (T : Nat → Prop) (w : World) (hF : HB c Ro jO bW T w (FSc c p5 p2 p3 pb po ps.length cap sb so n cp num time at_ fA mp arr m))
  (next : ∀ (u3 u4 u9 u10 u11 u12 u13 u14 u15 u16 u17 u18 u19 : Value) (T : Nat → Prop) (w : World), HB c Ro jO bW T w (FSc c p5 p2 p3 pb po ps.length cap sb so n cp num time at_ fA mp arr m) → SB Tryz.prog c (RBw c Ro) (mY c Ro) (CB1 c Ro) nn L T (headX c p5 p2 p3 (.slice (some ⟨pb, po, none⟩) ps.length cap) ps.length (k + 1) u3 u4 u9 u10 u11 u12 u13 u14 u15 u16 u17 u18 u19) w) :
  SB Tryz.prog c (RBw c Ro) (mY c Ro) (CB1 c Ro) nn (letter num time p :: L) T (headX c p5 p2 p3 (.slice (some ⟨pb, po, none⟩) ps.length cap) ps.length k u3 u4 u9 u10 u11 u12 u13 u14 u15 u16 u17 u18 u19) w := by
 have PP := gI c B M Ro H
 have TT := PP.tB
 have hkl : k < ps.length := (List.getElem?_eq_some_iff.1 hk).1
 have hki : (k : Int) < (ps.length : Int) := by omega
 obtain ⟨q0, q1, q2, q3, q4⟩ := hps k p hk
 refine SB.kh PP ?_
 have nh := fun u3 u4 u9 u10 u11 u12 u13 u14 u15 u16 u17 u18 u19 T w h => SB.walk PP (next u3 u4 u9 u10 u11 u12 u13 u14 u15 u16 u17 u18 u19 T w h)
 clear next
 simp only [headX, loopX, lf, Tryz.f133, Option.getD_some] at nh ⊢
 refine RT.seq TT ?_
 refine RT.region TT ?_
 simp only [List.size_toArray, List.length_cons, List.length_nil, Nat.zero_add, List.range, List.range.loop]
 refine RT.op rfl (by rfl) (by simp [baseD]) (fun v1 hR K hK => ?_)
 replace hF := hF.rely hR
 go_simp
 refine hK _ _ ⟨by rw [listed_nil (by simp [go_sem])]; exact TT.idle _ _, ?_⟩
 clear hK K hR
 rw [aD]
 refine RT.nil TT ?_
 refine RT.seq TT ?_
 refine RT.cond TT true (by simp [Act.eval]) ?_
 simp only [if_true]
 refine RT.skip TT ?_
 refine RT.seq TT ?_
 refine RT.block TT ?_
 refine RT.seq TT ?_
 refine RT.region TT ?_
 simp only [List.size_toArray, List.length_cons, List.length_nil, Nat.reduceAdd, Nat.zero_add, List.range, List.range.loop]
 refine RT.op rfl (by rfl) (by simp [baseD]) (fun v2 hR K hK => ?_)
 replace hF := hF.rely hR
 have hki' := hki
 go_simp
 refine hK _ _ ⟨by rw [listed_nil (by simp [go_sem, *])]; exact TT.idle _ _, ?_⟩
 clear hK K hR
 rw [aD]
 refine RT.op rfl (by rfl) (by simp [baseD]) (fun v3 hR K hK => ?_)
 replace hF := hF.rely hR
 have hd0 := hF.cell (i := po + k * 5) (.tail _ (.tail _ (.tail _ (.head _)))) q0
 have hd1 := hF.cell (i := po + k * 5 + 1) (.tail _ (.tail _ (.tail _ (.head _)))) q1
 have hd2 := hF.cell (i := po + k * 5 + 2) (.tail _ (.tail _ (.tail _ (.head _)))) q2
 have hd3 := hF.cell (i := po + k * 5 + 3) (.tail _ (.tail _ (.tail _ (.head _)))) q3
 have hd4 := hF.cell (i := po + k * 5 + 4) (.tail _ (.tail _ (.tail _ (.head _)))) q4
 go_simp
 refine hK _ _ ⟨?_, ?_⟩
 ·refine mY.reads fun e he => ?_
  have hm := mem_listed he
  simp [go_sem, *] at hm
  rcases hm with rfl | rfl | rfl | rfl | rfl <;> exact hF.read (.tail _ (.tail _ (.tail _ (.head _)))) rfl
 clear hK K hR
 rw [aD]
 refine RT.op rfl (by rfl) (by simp [baseD]) (fun v4 hR K hK => ?_)
 replace hF := hF.rely hR
 go_simp
 refine hK _ _ ⟨by rw [listed_nil (by simp [go_sem])]; exact mY.alloc _ _ _, ?_⟩
 clear hK K hR
 have ho4 := hF.fresh
 have ht4 : grow T v4 (v4.alloc (.cells #[.string ⟨#[]⟩, .pointer none, .int .i64 0, .int .i64 0, .pointer none] 183)) v4.heap.size := .inr ⟨Nat.le_refl _, by rw [aG]; exact Nat.lt_succ_self _⟩
 replace hF := hF.alloc (.cells #[.string ⟨#[]⟩, .pointer none, .int .i64 0, .int .i64 0, .pointer none] 183)
 generalize grow _ v4 (v4.alloc (.cells #[.string ⟨#[]⟩, .pointer none, .int .i64 0, .int .i64 0, .pointer none] 183)) = T4 at hF ht4 ⊢
 generalize hb4 : v4.heap.size = b4 at hF ho4 ht4 ⊢
 generalize v4.alloc (.cells #[.string ⟨#[]⟩, .pointer none, .int .i64 0, .int .i64 0, .pointer none] 183) = u4 at hF ⊢
 clear hb4 v4
 refine RT.op rfl (by rfl) (by simp [baseD]) (fun v5 hR K hK => ?_)
 replace hF := hF.rely hR
 have hb := hF.get (.head _)
 have lj := hF.cell (i := 0) (.head _) rfl
 have kJ := hF.cell (i := 1) (.head _) rfl
 have hc2 := hF.cell (i := 2) (.head _) rfl
 have r_ := hF.cell (i := 3) (.head _) rfl
 have hc4 := hF.cell (i := 4) (.head _) rfl
 have hz : ∀ i, v5.frozen? ⟨b4, i, none⟩ = false := fun i => by simp [World.frozen?, hb]
 go_simp
 refine hK _ _ ⟨?_, ?_⟩
 ·refine mY.sets (b := b4) ht4 (by simp only [cn]) (fun k hk => (aT _ _ _ hk).trans ((aT _ _ _ hk).trans ((aT _ _ _ hk).trans ((aT _ _ _ hk).trans (aT _ _ _ hk))))) rfl rfl rfl (fun e he => ?_)
  have hm := mem_listed he
  simp [go_sem, events_store (v := Value.string p.name) (hv := rfl), events_store (v := Value.pointer p.bV) (hv := rfl), events_store (v := Value.pointer p.cG) (hv := rfl), *] at hm
  rcases hm with rfl | rfl | rfl | rfl | rfl <;> exact ⟨_, rfl, rfl⟩
 clear hK K hR
 rw [l7 _ (by simp only [cn])]
 replace hF := ((((hF.set (i := 0) (v := .string p.name) ho4.1 ho4.2).set (i := 1) (v := .pointer p.bV) ho4.1 ho4.2).set (i := 2) (v := .int .i64 p.node) ho4.1 ho4.2).set (i := 3) (v := .int .i64 p.cu) ho4.1 ho4.2).set (i := 4) (v := .pointer p.cG) ho4.1 ho4.2
 generalize World.setCell _ _ _ = x2 at hF ⊢
 refine RT.nil TT ?_
 replace hF : HB c Ro jO bW T4 x2 ((b4, .cells #[.string p.name, .pointer p.bV, .int .i64 p.node, .int .i64 p.cu, .pointer p.cG] 183) :: FSc c p5 p2 p3 pb po ps.length cap sb so n cp num time at_ fA mp arr m) := hF
 have oF : ∀ (S : Nat → Prop) (x y : World), HB c Ro jO bW S x ((b4, .cells #[.string p.name, .pointer p.bV, .int .i64 p.node, .int .i64 p.cu, .pointer p.cG] 183) :: FSc c p5 p2 p3 pb po ps.length cap sb so n cp num time at_ fA mp arr m) → RBw c Ro S x y → HB c Ro jO bW S y ((b4, .cells #[.string p.name, .pointer p.bV, .int .i64 p.node, .int .i64 p.cu, .pointer p.cG] 183) :: FSc c p5 p2 p3 pb po ps.length cap sb so n cp num time at_ fA mp arr m) := fun S x y h r => h.rely r
 let Qv : Act → List Value → (Nat → Prop) → World → Prop := fun a L' S w' => ∃ t10 t11 t12 t13 t14 t15 t16 t17 t18 t19, a = ⟨#[.pointer (some ⟨p5, 0, none⟩), .pointer (some ⟨p2, 0, none⟩), .pointer (some ⟨p3, 0, none⟩), u3, .pointer (some ⟨b4, 0, none⟩), .chan (some c), .slice (some ⟨pb, po, none⟩) ps.length cap, .int .i64 ps.length, .int .i64 k, .bool true, t10, t11, t12, t13, t14, t15, t16, t17, t18, t19], [qT c]⟩ ∧ L' = L ∧ HB c Ro jO bW S w' ((b4, .cells #[.string p.name, .pointer p.bV, .int .i64 p.node, .int .i64 p.cu, .pointer p.cG] 183) :: FSc c p5 p2 p3 pb po ps.length cap sb so n cp num time at_ fA mp arr m)
 have uk : ∀ a L S x y, Qv a L S x → RBw c Ro S x y → Qv a L S y := by
  rintro a L S x y ⟨t10, t11, t12, t13, t14, t15, t16, t17, t18, t19, h1, h2, h3⟩ r
  exact ⟨t10, t11, t12, t13, t14, t15, t16, t17, t18, t19, h1, h2, h3.rely r⟩
 refine RT.drawn (Stop := fun L T g w => SB Tryz.prog c (RBw c Ro) (mY c Ro) (CB1 c Ro) nn L T g w) (L := letter num time p :: L) (c := c) (Q := Qv) (I := fun S w' => HB c Ro jO bW S w' ((b4, .cells #[.string p.name, .pointer p.bV, .int .i64 p.node, .int .i64 p.cu, .pointer p.cG] 183) :: FSc c p5 p2 p3 pb po ps.length cap sb so n cp num time at_ fA mp arr m)) (fn := 133) (fin := 99) TT (SB.sends PP _) rfl (by simp [baseD]) (by kernel_rfl) (fun a L S w' hq => ?_) (fun w₁ hR => ?_)
 case refine_2 =>
  replace hF := hF.rely hR
  replace hF := hF.rely (w' := { w₁ with drawn := w₁.drawn + 1 }) ⟨Nat.le_refl _, fun _ _ _ _ => rfl⟩
  simp only [List.size_toArray, List.length_cons, List.length_nil, Nat.reduceAdd, Nat.zero_add]
  generalize ({ w₁ with drawn := w₁.drawn + 1 } : World) = x3 at hF ⊢
  have hI := hF
  refine bU TT oF uk 0 (v := ?v0) rfl (by decide +kernel) (by decide +kernel) (by decide +kernel) (by decide +kernel) ⟨by simp, by rfl, fun S' w' hw => ⟨run_eq_of ?r0, ?g0⟩⟩ hI ?_
  case r0 =>
   intro K hK
   have kJ := hw.cell (i := 0) (.tail _ (.head _)) rfl
   go_simp
   exact hK
  case g0 =>
   have kJ := hw.cell (i := 0) (.tail _ (.head _)) rfl
   refine mY.reads fun e he => ?_
   have hm := mem_listed he
   simp [go_sem, *] at hm
   rcases hm with rfl <;> exact hw.read (.tail _ (.head _)) rfl
  try walk_nrm
  refine bU TT oF uk 1 (v := ?v1) rfl (by decide +kernel) (by decide +kernel) (by decide +kernel) (by decide +kernel) ⟨by simp, by rfl, fun S' w' hw => ⟨run_eq_of ?r1, ?g1⟩⟩ hI ?_
  case r1 =>
   intro K hK
   go_simp
   exact hK
  case g1 =>
   rw [listed_nil (by simp [go_sem])]; exact TT.idle _ _
  try walk_nrm
  refine bU TT oF uk 2 (v := ?v2) rfl (by decide +kernel) (by decide +kernel) (by decide +kernel) (by decide +kernel) ⟨by simp, by rfl, fun S' w' hw => ⟨run_eq_of ?r2, ?g2⟩⟩ hI ?_
  case r2 =>
   intro K hK
   have kJ := hw.cell (i := 4) (.head _) rfl
   go_simp
   exact hK
  case g2 =>
   have kJ := hw.cell (i := 4) (.head _) rfl
   refine mY.reads fun e he => ?_
   have hm := mem_listed he
   simp [go_sem, *] at hm
   rcases hm with rfl <;> exact hw.read (.head _) rfl
  try walk_nrm
  refine bU TT oF uk 3 (v := ?v3) rfl (by decide +kernel) (by decide +kernel) (by decide +kernel) (by decide +kernel) ⟨by simp, by rfl, fun S' w' hw => ⟨run_eq_of ?r3, ?g3⟩⟩ hI ?_
  case r3 =>
   intro K hK
   have lj := hw.cell (i := 0) (.head _) rfl
   have kJ := hw.cell (i := 1) (.head _) rfl
   have hc2 := hw.cell (i := 2) (.head _) rfl
   have r_ := hw.cell (i := 3) (.head _) rfl
   have hc4 := hw.cell (i := 4) (.head _) rfl
   go_simp
   exact hK
  case g3 =>
   have lj := hw.cell (i := 0) (.head _) rfl
   have kJ := hw.cell (i := 1) (.head _) rfl
   have hc2 := hw.cell (i := 2) (.head _) rfl
   have r_ := hw.cell (i := 3) (.head _) rfl
   have hc4 := hw.cell (i := 4) (.head _) rfl
   refine mY.reads fun e he => ?_
   have hm := mem_listed he
   simp [go_sem, *] at hm
   rcases hm with rfl | rfl | rfl | rfl | rfl <;> exact hw.read (.head _) rfl
  try walk_nrm
  refine bU TT oF uk 4 (v := ?v4) rfl (by decide +kernel) (by decide +kernel) (by decide +kernel) (by decide +kernel) ⟨by simp, by rfl, fun S' w' hw => ⟨run_eq_of ?r4, ?g4⟩⟩ hI ?_
  case r4 =>
   intro K hK
   have lj := hw.cell (i := 0) (.tail _ (.tail _ (.tail _ (.head _)))) rfl
   have kJ := hw.cell (i := 1) (.tail _ (.tail _ (.tail _ (.head _)))) rfl
   have hc2 := hw.cell (i := 2) (.tail _ (.tail _ (.tail _ (.head _)))) rfl
   have r_ := hw.cell (i := 3) (.tail _ (.tail _ (.tail _ (.head _)))) rfl
   go_simp
   exact hK
  case g4 =>
   have lj := hw.cell (i := 0) (.tail _ (.tail _ (.tail _ (.head _)))) rfl
   have kJ := hw.cell (i := 1) (.tail _ (.tail _ (.tail _ (.head _)))) rfl
   have hc2 := hw.cell (i := 2) (.tail _ (.tail _ (.tail _ (.head _)))) rfl
   have r_ := hw.cell (i := 3) (.tail _ (.tail _ (.tail _ (.head _)))) rfl
   refine mY.reads fun e he => ?_
   have hm := mem_listed he
   simp [go_sem, *] at hm
   rcases hm with rfl | rfl | rfl | rfl <;> exact hw.read (.tail _ (.tail _ (.tail _ (.head _)))) rfl
  try walk_nrm
  refine gu (i := 5) (by decide +kernel) (pj.call TT rfl (by rfl) rfl Go.Proofs.Tryz.func134 (by rfl) rfl (fun bF hR2 => ?_))
  replace hF := hF.rely hR2
  simp only [List.map_toArray, List.map_cons, List.map_nil]
  change ic Tryz.prog false (RBw c Ro) (mY c Ro) 134 #[.agg #[.string p.name, .pointer p.bV, .int .i64 p.node, .int .i64 p.cu, .pointer p.cG], .agg #[.int .i64 num, .int .i64 time, at_, .slice (some ⟨sb, so, none⟩) n cp]] _ bF _
  refine ic.mono (verdict_c H (.string p.name) (.pointer p.bV) (.pointer p.cG) at_ p.cu num time sb so n cp p.node arr m p.v _ bF hF.lt (hF.facts _ (.tail _ (.tail _ (.tail _ (.tail _ (.tail _ (.head _))))))) (jh p (List.mem_of_getElem? hk)).1 (jh p (List.mem_of_getElem? hk)).2) ?_
  rintro r S' w3 ⟨rfl, qp, hr'⟩
  replace hF := hF.call qp hr'
  refine ⟨fun _ => hF, ?_⟩
  try walk_nrm
  refine gu (i := 6) (by decide +kernel) (pj.op rfl (by rfl) (by simp) (fun w₄ hR4 K hK => ?_))
  replace hF := hF.rely hR4
  go_simp
  refine hK _ _ ⟨by rw [listed_nil (by simp [go_sem])]; exact TT.idle _ _, ?_⟩
  clear hK K
  rw [aD]
  refine ⟨fun _ => hF, ?_⟩
  try walk_nrm
  refine gu (i := 7) (by decide +kernel) (pj.send (L' := L) rfl (by rfl) rfl rfl rfl (fun w₅ hR5 => ?_))
  replace hF := hF.rely hR5
  refine ⟨fun _ => hF, ?_⟩
  try walk_nrm
  exact anyR_done (by decide +kernel) ⟨_, _, _, _, _, _, _, _, _, _, rfl, rfl, hF⟩ _
 obtain ⟨t10, t11, t12, t13, t14, t15, t16, t17, t18, t19, rfl, rfl, hG⟩ := hq
 clear hF
 have hF := hG
 clear hG
 refine RT.inBlock TT ?_
 refine RT.region TT ?_
 simp only [List.size_toArray, List.length_cons, List.length_nil, Nat.reduceAdd, Nat.zero_add, List.range, List.range.loop]
 refine RT.op rfl (by rfl) (by simp [baseD]) (fun v6 hR K hK => ?_)
 replace hF := hF.rely hR
 go_simp
 refine hK _ _ ⟨by rw [listed_nil (by simp [go_sem])]; exact TT.idle _ _, ?_⟩
 clear hK K hR
 rw [aD]
 refine RT.op rfl (by rfl) (by simp [baseD]) (fun v7 hR K hK => ?_)
 replace hF := hF.rely hR
 go_simp
 refine hK _ _ ⟨by rw [listed_nil (by simp [go_sem])]; exact TT.idle _ _, ?_⟩
 clear hK K hR
 rw [aD]
 refine RT.nil TT ?_
 refine RT.inLoop TT ?_
 have hwr : IntKind.i64.wrap ((k : Int) + 1) = ((k + 1 : Nat) : Int) := by rw [IntKind.wrap_i64]; omega
 try rw [hwr]
 exact nh _ _ _ _ _ _ _ _ _ _ _ _ _ _ _ ⟨hF.sub, hF.keep, hF.lt, fun q hq => hF.facts q (.tail _ hq)⟩
end Go.Proofs.YtpbbmagjhkakgaaGreatDoor.Lf
