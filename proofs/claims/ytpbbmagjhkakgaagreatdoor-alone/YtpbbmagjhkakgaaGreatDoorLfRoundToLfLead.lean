import Derived.Test.YtpbbmagjhkakgaaGreatDoorLfAppend0ToLfChild
import Derived.Test.YtpbbmagjhkakgaaGreatDoorLfOpenToLfTerr
import Derived.Orders
namespace Go.Proofs.YtpbbmagjhkakgaaGreatDoor
namespace Lf
open Go Go.Conc Go.RowKit
open Go.Proofs (Tryz.f133 Tryz.prog Tryz.func133 Tryz.ntmps133)
structure bC where
 name:ByteArray
 bV:Option Addr
 cG:Option Addr
 node:Nat
 cu:Int
 v:Bool
def letter (num time:Int) (p:bC):Value:=.agg #[.pointer p.cG,.int .i64 num,.int .i64 time,.int .i64 p.cu,.bool p.v]
def b5 (fA:Array Value) (po:Nat) (ps:List bC):Prop:=∀ (j:Nat) (p:bC),ps[j]? = some p->fA[po+j*5]? = some (.string p.name)/\fA[po+j*5+1]? = some (.pointer p.bV)/\fA[po+j*5+2]? = some (.int .i64 p.node)/\fA[po+j*5+3]? = some (.int .i64 p.cu)/\fA[po+j*5+4]? = some (.pointer p.cG)
noncomputable def loopX:Code:=match lf with
 | .seq _ (.seq _ (.block _ (.loop x)))=>x
 | _=>.skip
noncomputable def headX (c p5 p2 p3:Nat) (sv:Value) (N k:Nat) (u3 u4 u9 u10 u11 u12 u13 u14 u15 u16 u17 u18 u19:Value):Goroutine :=
 G ((baseD 133).at ⟨#[.pointer (some ⟨p5,0,none⟩),.pointer (some ⟨p2,0,none⟩),.pointer (some ⟨p3,0,none⟩),u3,u4,.chan (some c),sv,.int .i64 N,.int .i64 k,u9,u10,u11,u12,u13,u14,u15,u16,u17,u18,u19],[qT c]⟩ [.code loopX,.inLoop loopX,.inBlock 0]) [bot]
variable {c B : Nat} {M Ro : Nat → Prop}
abbrev FSc (c p5 p2 p3 pb po N cap sb so n cp:Nat) (num time:Int) (at_:Value) (fA:Array Value) (mp:Nat×Nat) (arr:Array Value) (m:Nat×Nat):List (Nat×Obj) :=
 [(p5,.cells #[.chan (some c)] 235),(p2,.cells #[.slice (some ⟨pb,po,none⟩) N cap] 151),(p3,.cells #[.int .i64 num,.int .i64 time,at_,.slice (some ⟨sb,so,none⟩) n cp] 159),(pb,.cells fA 183 mp),(sb,.cells arr 4 m)]
set_option maxRecDepth 100000 in
set_option maxHeartbeats 2000000 in
theorem round_c (H : qJ c B M Ro) (L : List Value) (p5 p2 p3 pb po cap sb so n cp : Nat) (num time : Int) (at_ : Value) (fA : Array Value) (mp : Nat × Nat) (arr : Array Value) (m : Nat × Nat) (ps : List bC) (hps : b5 fA po ps) (hn : ps.length < 9223372036854775807) (jh : ∀ p ∈ ps, arr[so + p.node]? = some (.bool p.v) ∧ p.node < n) (nn : Nat)
  (k : Nat) (p : bC) (hk : ps[k]? = some p) (u3 u4 u9 u10 u11 u12 u13 u14 u15 u16 u17 u18 u19 : Value) (jO : Nat → Prop) (bW : World) (T : Nat → Prop) (w : World) (hF : HB c Ro jO bW T w (FSc c p5 p2 p3 pb po ps.length cap sb so n cp num time at_ fA mp arr m))
  (next : ∀ (u3 u4 u9 u10 u11 u12 u13 u14 u15 u16 u17 u18 u19 : Value) (T : Nat → Prop) (w : World), HB c Ro jO bW T w (FSc c p5 p2 p3 pb po ps.length cap sb so n cp num time at_ fA mp arr m) → SB Tryz.prog c (RBw c Ro) (mY c Ro) (CB1 c Ro) nn L T (headX c p5 p2 p3 (.slice (some ⟨pb, po, none⟩) ps.length cap) ps.length (k + 1) u3 u4 u9 u10 u11 u12 u13 u14 u15 u16 u17 u18 u19) w) :
  SB Tryz.prog c (RBw c Ro) (mY c Ro) (CB1 c Ro) nn (letter num time p :: L) T (headX c p5 p2 p3 (.slice (some ⟨pb, po, none⟩) ps.length cap) ps.length k u3 u4 u9 u10 u11 u12 u13 u14 u15 u16 u17 u18 u19) w := by
 have PP := gI c B M Ro H
 have TT := PP.tB
 have hkl : k < ps.length := (List.getElem?_eq_some_iff.1 hk).1
 have hki : (k : Int) < (ps.length : Int) := by omega
 obtain ⟨q0, q1, q2, q3, q4⟩ := hps k p hk
 refine SB.kh PP ?_
 have nh := fun u3 u4 u9 u10 u11 u12 u13 u14 u15 u16 u17 u18 u19 T w h => SB.walk PP (next u3 u4 u9 u10 u11 u12 u13 u14 u15 u16 u17 u18 u19 T w h)
 clear next
 simp only [headX, loopX, lf, Tryz.f133, Option.getD_some] at nh ⊢
 refine RT.seq TT ?_
 refine RT.region TT ?_
 simp only [List.size_toArray, List.length_cons, List.length_nil, Nat.zero_add, List.range, List.range.loop]
 refine RT.op rfl (by rfl) (by simp [baseD]) (fun v1 hR K hK => ?_)
 replace hF := hF.rely hR
 go_simp
 refine hK _ _ ⟨by rw [listed_nil (by simp [go_sem])]; exact TT.idle _ _, ?_⟩
 clear hK K hR
 rw [aD]
 refine RT.nil TT ?_
 refine RT.seq TT ?_
 refine RT.cond TT true (by simp [Act.eval]) ?_
 simp only [if_true]
 refine RT.skip TT ?_
 refine RT.seq TT ?_
 refine RT.block TT ?_
 refine RT.seq TT ?_
 refine RT.region TT ?_
 simp only [List.size_toArray, List.length_cons, List.length_nil, Nat.reduceAdd, Nat.zero_add, List.range, List.range.loop]
 refine RT.op rfl (by rfl) (by simp [baseD]) (fun v2 hR K hK => ?_)
 replace hF := hF.rely hR
 have hki' := hki
 go_simp
 refine hK _ _ ⟨by rw [listed_nil (by simp [go_sem, *])]; exact TT.idle _ _, ?_⟩
 clear hK K hR
 rw [aD]
 refine RT.op rfl (by rfl) (by simp [baseD]) (fun v3 hR K hK => ?_)
 replace hF := hF.rely hR
 have hd0 := hF.cell (i := po + k * 5) (.tail _ (.tail _ (.tail _ (.head _)))) q0
 have hd1 := hF.cell (i := po + k * 5 + 1) (.tail _ (.tail _ (.tail _ (.head _)))) q1
 have hd2 := hF.cell (i := po + k * 5 + 2) (.tail _ (.tail _ (.tail _ (.head _)))) q2
 have hd3 := hF.cell (i := po + k * 5 + 3) (.tail _ (.tail _ (.tail _ (.head _)))) q3
 have hd4 := hF.cell (i := po + k * 5 + 4) (.tail _ (.tail _ (.tail _ (.head _)))) q4
 go_simp
 refine hK _ _ ⟨?_, ?_⟩
 ·refine mY.reads fun e he => ?_
  have hm := mem_listed he
  simp [go_sem, *] at hm
  rcases hm with rfl | rfl | rfl | rfl | rfl <;> exact hF.read (.tail _ (.tail _ (.tail _ (.head _)))) rfl
 clear hK K hR
 rw [aD]
 refine RT.op rfl (by rfl) (by simp [baseD]) (fun v4 hR K hK => ?_)
 replace hF := hF.rely hR
 go_simp
 refine hK _ _ ⟨by rw [listed_nil (by simp [go_sem])]; exact mY.alloc _ _ _, ?_⟩
 clear hK K hR
 have ho4 := hF.fresh
 have ht4 : grow T v4 (v4.alloc (.cells #[.string ⟨#[]⟩, .pointer none, .int .i64 0, .int .i64 0, .pointer none] 183)) v4.heap.size := .inr ⟨Nat.le_refl _, by rw [aG]; exact Nat.lt_succ_self _⟩
 replace hF := hF.alloc (.cells #[.string ⟨#[]⟩, .pointer none, .int .i64 0, .int .i64 0, .pointer none] 183)
 generalize grow _ v4 (v4.alloc (.cells #[.string ⟨#[]⟩, .pointer none, .int .i64 0, .int .i64 0, .pointer none] 183)) = T4 at hF ht4 ⊢
 generalize hb4 : v4.heap.size = b4 at hF ho4 ht4 ⊢
 generalize v4.alloc (.cells #[.string ⟨#[]⟩, .pointer none, .int .i64 0, .int .i64 0, .pointer none] 183) = u4 at hF ⊢
 clear hb4 v4
 refine RT.op rfl (by rfl) (by simp [baseD]) (fun v5 hR K hK => ?_)
 replace hF := hF.rely hR
 have hb := hF.get (.head _)
 have lj := hF.cell (i := 0) (.head _) rfl
 have kJ := hF.cell (i := 1) (.head _) rfl
 have hc2 := hF.cell (i := 2) (.head _) rfl
 have r_ := hF.cell (i := 3) (.head _) rfl
 have hc4 := hF.cell (i := 4) (.head _) rfl
 have hz : ∀ i, v5.frozen? ⟨b4, i, none⟩ = false := fun i => by simp [World.frozen?, hb]
 go_simp
 refine hK _ _ ⟨?_, ?_⟩
 ·refine mY.sets (b := b4) ht4 (by simp only [cn]) (fun k hk => (aT _ _ _ hk).trans ((aT _ _ _ hk).trans ((aT _ _ _ hk).trans ((aT _ _ _ hk).trans (aT _ _ _ hk))))) rfl rfl rfl (fun e he => ?_)
  have hm := mem_listed he
  simp [go_sem, events_store (v := Value.string p.name) (hv := rfl), events_store (v := Value.pointer p.bV) (hv := rfl), events_store (v := Value.pointer p.cG) (hv := rfl), *] at hm
  rcases hm with rfl | rfl | rfl | rfl | rfl <;> exact ⟨_, rfl, rfl⟩
 clear hK K hR
 rw [l7 _ (by simp only [cn])]
 replace hF := ((((hF.set (i := 0) (v := .string p.name) ho4.1 ho4.2).set (i := 1) (v := .pointer p.bV) ho4.1 ho4.2).set (i := 2) (v := .int .i64 p.node) ho4.1 ho4.2).set (i := 3) (v := .int .i64 p.cu) ho4.1 ho4.2).set (i := 4) (v := .pointer p.cG) ho4.1 ho4.2
 generalize World.setCell _ _ _ = x2 at hF ⊢
 refine RT.nil TT ?_
 replace hF : HB c Ro jO bW T4 x2 ((b4, .cells #[.string p.name, .pointer p.bV, .int .i64 p.node, .int .i64 p.cu, .pointer p.cG] 183) :: FSc c p5 p2 p3 pb po ps.length cap sb so n cp num time at_ fA mp arr m) := hF
 have oF : ∀ (S : Nat → Prop) (x y : World), HB c Ro jO bW S x ((b4, .cells #[.string p.name, .pointer p.bV, .int .i64 p.node, .int .i64 p.cu, .pointer p.cG] 183) :: FSc c p5 p2 p3 pb po ps.length cap sb so n cp num time at_ fA mp arr m) → RBw c Ro S x y → HB c Ro jO bW S y ((b4, .cells #[.string p.name, .pointer p.bV, .int .i64 p.node, .int .i64 p.cu, .pointer p.cG] 183) :: FSc c p5 p2 p3 pb po ps.length cap sb so n cp num time at_ fA mp arr m) := fun S x y h r => h.rely r
 let Qv : Act → List Value → (Nat → Prop) → World → Prop := fun a L' S w' => ∃ t10 t11 t12 t13 t14 t15 t16 t17 t18 t19, a = ⟨#[.pointer (some ⟨p5, 0, none⟩), .pointer (some ⟨p2, 0, none⟩), .pointer (some ⟨p3, 0, none⟩), u3, .pointer (some ⟨b4, 0, none⟩), .chan (some c), .slice (some ⟨pb, po, none⟩) ps.length cap, .int .i64 ps.length, .int .i64 k, .bool true, t10, t11, t12, t13, t14, t15, t16, t17, t18, t19], [qT c]⟩ ∧ L' = L ∧ HB c Ro jO bW S w' ((b4, .cells #[.string p.name, .pointer p.bV, .int .i64 p.node, .int .i64 p.cu, .pointer p.cG] 183) :: FSc c p5 p2 p3 pb po ps.length cap sb so n cp num time at_ fA mp arr m)
 have uk : ∀ a L S x y, Qv a L S x → RBw c Ro S x y → Qv a L S y := by
  rintro a L S x y ⟨t10, t11, t12, t13, t14, t15, t16, t17, t18, t19, h1, h2, h3⟩ r
  exact ⟨t10, t11, t12, t13, t14, t15, t16, t17, t18, t19, h1, h2, h3.rely r⟩
 refine RT.drawn (Stop := fun L T g w => SB Tryz.prog c (RBw c Ro) (mY c Ro) (CB1 c Ro) nn L T g w) (L := letter num time p :: L) (c := c) (Q := Qv) (I := fun S w' => HB c Ro jO bW S w' ((b4, .cells #[.string p.name, .pointer p.bV, .int .i64 p.node, .int .i64 p.cu, .pointer p.cG] 183) :: FSc c p5 p2 p3 pb po ps.length cap sb so n cp num time at_ fA mp arr m)) (fn := 133) (fin := 99) TT (SB.sends PP _) rfl (by simp [baseD]) (by kernel_rfl) (fun a L S w' hq => ?_) (fun w₁ hR => ?_)
 case refine_2 =>
  replace hF := hF.rely hR
  replace hF := hF.rely (w' := { w₁ with drawn := w₁.drawn + 1 }) ⟨Nat.le_refl _, fun _ _ _ _ => rfl⟩
  simp only [List.size_toArray, List.length_cons, List.length_nil, Nat.reduceAdd, Nat.zero_add]
  generalize ({ w₁ with drawn := w₁.drawn + 1 } : World) = x3 at hF ⊢
  have hI := hF
  refine bU TT oF uk 0 (v := ?v0) rfl (by decide +kernel) (by decide +kernel) (by decide +kernel) (by decide +kernel) ⟨by simp, by rfl, fun S' w' hw => ⟨run_eq_of ?r0, ?g0⟩⟩ hI ?_
  case r0 =>
   intro K hK
   have kJ := hw.cell (i := 0) (.tail _ (.head _)) rfl
   go_simp
   exact hK
  case g0 =>
   have kJ := hw.cell (i := 0) (.tail _ (.head _)) rfl
   refine mY.reads fun e he => ?_
   have hm := mem_listed he
   simp [go_sem, *] at hm
   rcases hm with rfl <;> exact hw.read (.tail _ (.head _)) rfl
  try walk_nrm
  refine bU TT oF uk 1 (v := ?v1) rfl (by decide +kernel) (by decide +kernel) (by decide +kernel) (by decide +kernel) ⟨by simp, by rfl, fun S' w' hw => ⟨run_eq_of ?r1, ?g1⟩⟩ hI ?_
  case r1 =>
   intro K hK
   go_simp
   exact hK
  case g1 =>
   rw [listed_nil (by simp [go_sem])]; exact TT.idle _ _
  try walk_nrm
  refine bU TT oF uk 2 (v := ?v2) rfl (by decide +kernel) (by decide +kernel) (by decide +kernel) (by decide +kernel) ⟨by simp, by rfl, fun S' w' hw => ⟨run_eq_of ?r2, ?g2⟩⟩ hI ?_
  case r2 =>
   intro K hK
   have kJ := hw.cell (i := 4) (.head _) rfl
   go_simp
   exact hK
  case g2 =>
   have kJ := hw.cell (i := 4) (.head _) rfl
   refine mY.reads fun e he => ?_
   have hm := mem_listed he
   simp [go_sem, *] at hm
   rcases hm with rfl <;> exact hw.read (.head _) rfl
  try walk_nrm
  refine bU TT oF uk 3 (v := ?v3) rfl (by decide +kernel) (by decide +kernel) (by decide +kernel) (by decide +kernel) ⟨by simp, by rfl, fun S' w' hw => ⟨run_eq_of ?r3, ?g3⟩⟩ hI ?_
  case r3 =>
   intro K hK
   have lj := hw.cell (i := 0) (.head _) rfl
   have kJ := hw.cell (i := 1) (.head _) rfl
   have hc2 := hw.cell (i := 2) (.head _) rfl
   have r_ := hw.cell (i := 3) (.head _) rfl
   have hc4 := hw.cell (i := 4) (.head _) rfl
   go_simp
   exact hK
  case g3 =>
   have lj := hw.cell (i := 0) (.head _) rfl
   have kJ := hw.cell (i := 1) (.head _) rfl
   have hc2 := hw.cell (i := 2) (.head _) rfl
   have r_ := hw.cell (i := 3) (.head _) rfl
   have hc4 := hw.cell (i := 4) (.head _) rfl
   refine mY.reads fun e he => ?_
   have hm := mem_listed he
   simp [go_sem, *] at hm
   rcases hm with rfl | rfl | rfl | rfl | rfl <;> exact hw.read (.head _) rfl
  try walk_nrm
  refine bU TT oF uk 4 (v := ?v4) rfl (by decide +kernel) (by decide +kernel) (by decide +kernel) (by decide +kernel) ⟨by simp, by rfl, fun S' w' hw => ⟨run_eq_of ?r4, ?g4⟩⟩ hI ?_
  case r4 =>
   intro K hK
   have lj := hw.cell (i := 0) (.tail _ (.tail _ (.tail _ (.head _)))) rfl
   have kJ := hw.cell (i := 1) (.tail _ (.tail _ (.tail _ (.head _)))) rfl
   have hc2 := hw.cell (i := 2) (.tail _ (.tail _ (.tail _ (.head _)))) rfl
   have r_ := hw.cell (i := 3) (.tail _ (.tail _ (.tail _ (.head _)))) rfl
   go_simp
   exact hK
  case g4 =>
   have lj := hw.cell (i := 0) (.tail _ (.tail _ (.tail _ (.head _)))) rfl
   have kJ := hw.cell (i := 1) (.tail _ (.tail _ (.tail _ (.head _)))) rfl
   have hc2 := hw.cell (i := 2) (.tail _ (.tail _ (.tail _ (.head _)))) rfl
   have r_ := hw.cell (i := 3) (.tail _ (.tail _ (.tail _ (.head _)))) rfl
   refine mY.reads fun e he => ?_
   have hm := mem_listed he
   simp [go_sem, *] at hm
   rcases hm with rfl | rfl | rfl | rfl <;> exact hw.read (.tail _ (.tail _ (.tail _ (.head _)))) rfl
  try walk_nrm
  refine gu (i := 5) (by decide +kernel) (pj.call TT rfl (by rfl) rfl Go.Proofs.Tryz.func134 (by rfl) rfl (fun bF hR2 => ?_))
  replace hF := hF.rely hR2
  simp only [List.map_toArray, List.map_cons, List.map_nil]
  change ic Tryz.prog false (RBw c Ro) (mY c Ro) 134 #[.agg #[.string p.name, .pointer p.bV, .int .i64 p.node, .int .i64 p.cu, .pointer p.cG], .agg #[.int .i64 num, .int .i64 time, at_, .slice (some ⟨sb, so, none⟩) n cp]] _ bF _
  refine ic.mono (verdict_c H (.string p.name) (.pointer p.bV) (.pointer p.cG) at_ p.cu num time sb so n cp p.node arr m p.v _ bF hF.lt (hF.facts _ (.tail _ (.tail _ (.tail _ (.tail _ (.tail _ (.head _))))))) (jh p (List.mem_of_getElem? hk)).1 (jh p (List.mem_of_getElem? hk)).2) ?_
  rintro r S' w3 ⟨rfl, qp, hr'⟩
  replace hF := hF.call qp hr'
  refine ⟨fun _ => hF, ?_⟩
  try walk_nrm
  refine gu (i := 6) (by decide +kernel) (pj.op rfl (by rfl) (by simp) (fun w₄ hR4 K hK => ?_))
  replace hF := hF.rely hR4
  go_simp
  refine hK _ _ ⟨by rw [listed_nil (by simp [go_sem])]; exact TT.idle _ _, ?_⟩
  clear hK K
  rw [aD]
  refine ⟨fun _ => hF, ?_⟩
  try walk_nrm
  refine gu (i := 7) (by decide +kernel) (pj.send (L' := L) rfl (by rfl) rfl rfl rfl (fun w₅ hR5 => ?_))
  replace hF := hF.rely hR5
  refine ⟨fun _ => hF, ?_⟩
  try walk_nrm
  exact anyR_done (by decide +kernel) ⟨_, _, _, _, _, _, _, _, _, _, rfl, rfl, hF⟩ _
 obtain ⟨t10, t11, t12, t13, t14, t15, t16, t17, t18, t19, rfl, rfl, hG⟩ := hq
 clear hF
 have hF := hG
 clear hG
 refine RT.inBlock TT ?_
 refine RT.region TT ?_
 simp only [List.size_toArray, List.length_cons, List.length_nil, Nat.reduceAdd, Nat.zero_add, List.range, List.range.loop]
 refine RT.op rfl (by rfl) (by simp [baseD]) (fun v6 hR K hK => ?_)
 replace hF := hF.rely hR
 go_simp
 refine hK _ _ ⟨by rw [listed_nil (by simp [go_sem])]; exact TT.idle _ _, ?_⟩
 clear hK K hR
 rw [aD]
 refine RT.op rfl (by rfl) (by simp [baseD]) (fun v7 hR K hK => ?_)
 replace hF := hF.rely hR
 go_simp
 refine hK _ _ ⟨by rw [listed_nil (by simp [go_sem])]; exact TT.idle _ _, ?_⟩
 clear hK K hR
 rw [aD]
 refine RT.nil TT ?_
 refine RT.inLoop TT ?_
 have hwr : IntKind.i64.wrap ((k : Int) + 1) = ((k + 1 : Nat) : Int) := by rw [IntKind.wrap_i64]; omega
 try rw [hwr]
 exact nh _ _ _ _ _ _ _ _ _ _ _ _ _ _ _ ⟨hF.sub, hF.keep, hF.lt, fun q hq => hF.facts q (.tail _ hq)⟩
end Lf
namespace Lf
open Go Go.Conc Go.RowKit
open Go.Proofs (Tryz.f133 Tryz.prog Tryz.func133 Tryz.ntmps133)
variable {c B : Nat} {M Ro : Nat → Prop}
set_option maxRecDepth 100000 in
theorem last_c (H:qJ c B M Ro) (p5 p2 p3:Nat) (sv:Value) (N:Nat) (nn:Nat) (u3 u4 u9 u10 u11 u12 u13 u14 u15 u16 u17 u18 u19:Value) (T:Nat->Prop) (w:World) :
  SB Tryz.prog c (RBw c Ro) (mY c Ro) (CB1 c Ro) nn [] T (headX c p5 p2 p3 sv N N u3 u4 u9 u10 u11 u12 u13 u14 u15 u16 u17 u18 u19) w:=by
 have PP:=gI c B M Ro H
 have TT:=PP.tB
 refine SB.kh PP ?_
 simp only [headX,loopX,lf,Tryz.f133,Option.getD_some]
 refine RT.seq TT ?_
 refine RT.region TT ?_
 simp only [List.size_toArray,List.length_cons,List.length_nil,Nat.zero_add,List.range,List.range.loop]
 refine RT.op rfl (by rfl) (by simp [baseD]) (fun v1 hR K hK=>?_)
 go_simp
 refine hK _ _ ⟨by rw [listed_nil (by simp [go_sem])];exact TT.idle _ _,?_⟩
 clear hK K hR
 rw [aD]
 refine RT.nil TT ?_
 refine RT.seq TT ?_
 refine RT.cond TT false (by simp [Act.eval]) ?_
 simp only [if_false,Bool.false_eq_true]
 refine RT.exit TT rfl ?_
 refine RT.ends TT ?_
 refine SB.walk PP ?_
 refine .close rfl (by simp [mayWake,G,Frame.at]) (fun w₁ buf s r _ hc=>⟨#[⟨.obj c,false,true⟩],close_step _ _ w₁ hc,fun e he=>?_⟩) (quits_tail _ _)
 simp at he
 subst he
 exact ⟨fun x hx _=>(by simp [MemAct.ofEvent,MemAct.touch?] at hx;subst hx;exact .inr rfl),by simp,by simp⟩
theorem from_c (H:qJ c B M Ro) (p5 p2 p3 pb po cap sb so n cp:Nat) (num time:Int) (at_:Value) (fA:Array Value) (mp:Nat×Nat) (arr:Array Value) (m:Nat×Nat) (ps:List bC) (hps:b5 fA po ps) (hn:ps.length<9223372036854775807) (jh:∀ p∈ps,arr[so+p.node]? = some (.bool p.v)/\p.node<n) (nn:Nat) (jO:Nat->Prop) (bW:World) :
  ∀ (j k:Nat),k+j=ps.length->∀ (u3 u4 u9 u10 u11 u12 u13 u14 u15 u16 u17 u18 u19:Value) (T:Nat->Prop) (w:World),HB c Ro jO bW T w (FSc c p5 p2 p3 pb po ps.length cap sb so n cp num time at_ fA mp arr m)->
   SB Tryz.prog c (RBw c Ro) (mY c Ro) (CB1 c Ro) nn ((ps.drop k).map (letter num time)) T (headX c p5 p2 p3 (.slice (some ⟨pb,po,none⟩) ps.length cap) ps.length k u3 u4 u9 u10 u11 u12 u13 u14 u15 u16 u17 u18 u19) w:=by
 intro j
 induction j with
 | zero =>
  intro k hk u3 u4 u9 u10 u11 u12 u13 u14 u15 u16 u17 u18 u19 T w _
  obtain rfl:k=ps.length:=by omega
  rw [List.drop_length,List.map_nil]
  exact last_c H _ _ _ _ _ _ _ _ _ _ _ _ _ _ _ _ _ _ _ _ _
 | succ j ih =>
  intro k hk u3 u4 u9 u10 u11 u12 u13 u14 u15 u16 u17 u18 u19 T w hF
  have cz:k<ps.length:=by omega
  rw [List.drop_eq_getElem_cons cz,List.map_cons]
  exact round_c H _ p5 p2 p3 pb po cap sb so n cp num time at_ fA mp arr m ps hps hn jh nn k _ (List.getElem?_eq_getElem cz) _ _ _ _ _ _ _ _ _ _ _ _ _ jO bW T w hF (fun u3 u4 u9 u10 u11 u12 u13 u14 u15 u16 u17 u18 u19 T w h=>ih (k+1) (by omega) u3 u4 u9 u10 u11 u12 u13 u14 u15 u16 u17 u18 u19 T w h)
set_option maxRecDepth 100000 in
theorem child_c (H : qJ c B M Ro) (p5 p2 p3 pb po cap sb so n cp : Nat) (num time : Int) (at_ : Value) (fA : Array Value) (mp : Nat × Nat) (arr : Array Value) (m : Nat × Nat) (ps : List bC) (hps : b5 fA po ps) (hn : ps.length < 9223372036854775807) (jh : ∀ p ∈ ps, arr[so + p.node]? = some (.bool p.v) ∧ p.node < n) (nn : Nat) (T : Nat → Prop) (w : World) (hc : c < w.heap.size)
  (hfs : ∀ q ∈ FSc c p5 p2 p3 pb po ps.length cap sb so n cp num time at_ fA mp arr m, (T q.1 ∨ Ro q.1) ∧ q.1 ≠ c ∧ w.heap[q.1]? = some q.2) :
  SB Tryz.prog c (RBw c Ro) (mY c Ro) (CB1 c Ro) nn (ps.map (letter num time)) T (born Tryz.prog (call133 p5 p2 p3)) w := by
 have PP := gI c B M Ro H
 have TT := PP.tB
 have hF : HB c Ro T w T w (FSc c p5 p2 p3 pb po ps.length cap sb so n cp num time at_ fA mp arr m) := .start hc hfs
 have nh := from_c H p5 p2 p3 pb po cap sb so n cp num time at_ fA mp arr m ps hps hn jh nn T w ps.length 0 (by omega)
 simp only [headX, loopX, lf, Tryz.f133, Option.getD_some, List.drop_zero, Int.natCast_zero] at nh
 refine SB.kh PP (RT.one rfl fun v0 hR0 => ?_)
 rw [born_step, goes_go, aD]
 refine ⟨TT.idle _ _, ?_⟩
 replace hF := hF.rely hR0
 simp only [lf, Tryz.f133, Option.getD_some]
 refine RT.seq TT ?_
 refine RT.region TT ?_
 simp only [List.size_toArray, List.length_cons, List.length_nil, Nat.reduceAdd, Nat.zero_add, List.range, List.range.loop]
 refine RT.op rfl (by rfl) (by simp [baseD]) (fun v1 hR K hK => ?_)
 replace hF := hF.rely hR
 have kJ := hF.cell (i := 0) (.head _) rfl
 go_simp
 refine hK _ _ ⟨?_, ?_⟩
 ·refine mY.reads fun e he => ?_
  have hm := mem_listed he
  simp [go_sem, *] at hm
  rcases hm with rfl <;> exact hF.read (.head _) rfl
 clear hK K hR
 rw [aD]
 refine RT.defer TT rfl (by rfl) (by simp [baseD]) (qT c) (fun v2 => by simp [execOp, resolve, Act.eval, qT]) (fun v2 => by simp [execOp, resolve, Act.eval]) ?_
 simp only [Act.put]
 refine RT.nil TT ?_
 refine RT.seq TT ?_
 refine RT.region TT ?_
 simp only [List.size_toArray, List.length_cons, List.length_nil, Nat.reduceAdd, Nat.zero_add, List.range, List.range.loop]
 refine RT.op rfl (by rfl) (by simp [baseD]) (fun v2 hR K hK => ?_)
 replace hF := hF.rely hR
 have kJ := hF.cell (i := 0) (.tail _ (.head _)) rfl
 go_simp
 refine hK _ _ ⟨?_, ?_⟩
 ·refine mY.reads fun e he => ?_
  have hm := mem_listed he
  simp [go_sem, *] at hm
  rcases hm with rfl <;> exact hF.read (.tail _ (.head _)) rfl
 clear hK K hR
 rw [aD]
 refine RT.op rfl (by rfl) (by simp [baseD]) (fun v3 hR K hK => ?_)
 replace hF := hF.rely hR
 go_simp
 refine hK _ _ ⟨by rw [listed_nil (by simp [go_sem])]; exact TT.idle _ _, ?_⟩
 clear hK K hR
 rw [aD]
 refine RT.op rfl (by rfl) (by simp [baseD]) (fun v4 hR K hK => ?_)
 replace hF := hF.rely hR
 go_simp
 refine hK _ _ ⟨by rw [listed_nil (by simp [go_sem])]; exact TT.idle _ _, ?_⟩
 clear hK K hR
 rw [aD]
 refine RT.nil TT ?_
 refine RT.block TT ?_
 refine RT.loop TT ?_
 exact SB.walk PP (nh _ _ _ _ _ _ _ _ _ _ _ _ _ _ _ hF)
set_option maxRecDepth 100000 in
theorem child0_c (H : qJ c B M Ro) (p5 p2 p3 : Nat) (nn : Nat) (T : Nat → Prop) (w : World) (hc : c < w.heap.size)
  (hfs : ∀ q ∈ ([(p5, .cells #[.chan (some c)] 235), (p2, .cells #[.slice none 0 0] 151)] : List (Nat × Obj)), (T q.1 ∨ Ro q.1) ∧ q.1 ≠ c ∧ w.heap[q.1]? = some q.2) :
  SB Tryz.prog c (RBw c Ro) (mY c Ro) (CB1 c Ro) nn [] T (born Tryz.prog (call133 p5 p2 p3)) w := by
 have PP := gI c B M Ro H
 have TT := PP.tB
 have hF : HB c Ro T w T w [(p5, .cells #[.chan (some c)] 235), (p2, .cells #[.slice none 0 0] 151)] := .start hc hfs
 have nh := last_c (nn := nn) H p5 p2 p3 (.slice none 0 0) 0
 simp only [headX, loopX, lf, Tryz.f133, Option.getD_some, Int.natCast_zero] at nh
 refine SB.kh PP (RT.one rfl fun v0 hR0 => ?_)
 rw [born_step, goes_go, aD]
 refine ⟨TT.idle _ _, ?_⟩
 replace hF := hF.rely hR0
 simp only [lf, Tryz.f133, Option.getD_some]
 refine RT.seq TT ?_
 refine RT.region TT ?_
 simp only [List.size_toArray, List.length_cons, List.length_nil, Nat.reduceAdd, Nat.zero_add, List.range, List.range.loop]
 refine RT.op rfl (by rfl) (by simp [baseD]) (fun v1 hR K hK => ?_)
 replace hF := hF.rely hR
 have kJ := hF.cell (i := 0) (.head _) rfl
 go_simp
 refine hK _ _ ⟨?_, ?_⟩
 ·refine mY.reads fun e he => ?_
  have hm := mem_listed he
  simp [go_sem, *] at hm
  rcases hm with rfl <;> exact hF.read (.head _) rfl
 clear hK K hR
 rw [aD]
 refine RT.defer TT rfl (by rfl) (by simp [baseD]) (qT c) (fun v2 => by simp [execOp, resolve, Act.eval, qT]) (fun v2 => by simp [execOp, resolve, Act.eval]) ?_
 simp only [Act.put]
 refine RT.nil TT ?_
 refine RT.seq TT ?_
 refine RT.region TT ?_
 simp only [List.size_toArray, List.length_cons, List.length_nil, Nat.reduceAdd, Nat.zero_add, List.range, List.range.loop]
 refine RT.op rfl (by rfl) (by simp [baseD]) (fun v2 hR K hK => ?_)
 replace hF := hF.rely hR
 have kJ := hF.cell (i := 0) (.tail _ (.head _)) rfl
 go_simp
 refine hK _ _ ⟨?_, ?_⟩
 ·refine mY.reads fun e he => ?_
  have hm := mem_listed he
  simp [go_sem, *] at hm
  rcases hm with rfl <;> exact hF.read (.tail _ (.head _)) rfl
 clear hK K hR
 rw [aD]
 refine RT.op rfl (by rfl) (by simp [baseD]) (fun v3 hR K hK => ?_)
 replace hF := hF.rely hR
 go_simp
 refine hK _ _ ⟨by rw [listed_nil (by simp [go_sem])]; exact TT.idle _ _, ?_⟩
 clear hK K hR
 rw [aD]
 refine RT.op rfl (by rfl) (by simp [baseD]) (fun v4 hR K hK => ?_)
 replace hF := hF.rely hR
 go_simp
 refine hK _ _ ⟨by rw [listed_nil (by simp [go_sem])]; exact TT.idle _ _, ?_⟩
 clear hK K hR
 rw [aD]
 refine RT.nil TT ?_
 refine RT.block TT ?_
 refine RT.loop TT ?_
 exact SB.walk PP (nh _ _ _ _ _ _ _ _ _ _ _ _ _ _ _)
end Lf
namespace Lf
open Go Go.Conc Go.RowKit
open Go.Proofs (Tryz.f46 Tryz.prog Tryz.func46 Tryz.ntmps46 Tryz.func89)
structure bt where
 cj:Nat
 sv:Value
 n:Nat
 xs:List Value
def eG (w:World) (s:bt):Prop:=w.heap[s.cj]? = some (.cells #[s.sv] 177 (0,0))/\w.ownsRow 0 59 4 s.sv s.n s.xs
def Apart (ss:List bt):Prop:=∀ (i j:Nat) (s t:bt),ss[i]? = some s->ss[j]? = some t->i≠j->s.cj≠t.cj/\∀ g,s.sv.ownBlock=some g->t.sv.ownBlock≠some g
def Ms (ss:List bt) (b:Nat):Prop:=∃ s∈ss,b=s.cj\/s.sv.ownBlock=some b
theorem eG.ne {w:World} {s t:bt} (h:eG w s) (k:eG w t):s.sv.ownBlock≠some t.cj:=fun e=>by
 obtain ⟨h1,h2 | ⟨g,cap,cur,e1,_,e2,_⟩⟩:=h.2
 ·rw [h2.1] at e;cases e
 ·rw [e1] at e;cases e;have:=k.1;rw [e2] at this;cases this
theorem eG.heap {w w':World} {s:bt} (h:eG w s) (hh:∀ b,b<w.heap.size->(b=s.cj\/s.sv.ownBlock=some b)->w'.heap[b]? = w.heap[b]?):eG w' s :=
 ⟨by rw [hh s.cj (aw h.1) (.inl rfl)];exact h.1,oV h.2 fun k hk hl=>hh k hl (.inr hk)⟩
structure gP (B:Nat) (ss:List bt) (num time:Int) (ps:List bC) (k:Nat) (S:Nat->Prop) (w:World) (now:List bt):Prop where
 len:now.length=ss.length
 rest:∀ i,k<=i->now[i]? = ss[i]?
 done:∀ i s p,i<k->ss[i]? = some s->ps[i]? = some p->∃ t,now[i]? = some t/\t.cj=s.cj/\t.n=s.n+1/\t.xs=s.xs++bO num time p.cu p.v/\(t.sv.ownBlock=s.sv.ownBlock\/∃ g,t.sv.ownBlock=some g/\S g)
 ok:∀ t∈now,eG w t
 apart:Apart now
 mine:∀ t∈now,(∃ s∈ss,s.cj=t.cj)/\∀ g,t.sv.ownBlock=some g->S g\/Ms ss g
section
variable {c B : Nat} {ss : List bt} {num time : Int} {ps : List bC} {k : Nat} {S S' : Nat → Prop} {w w' : World} {now : List bt}
theorem gP.heap (h:gP B ss num time ps k S w now) (hS:∀ b,S b->S' b) (hM:∀ b,Ms ss b->b<B/\b≠c) (ko:∀ b,S b->b≠c) (hh:∀ b,(S b\/b<B)->b<w.heap.size->b≠c->w'.heap[b]? = w.heap[b]?):gP B ss num time ps k S' w' now :=
 ⟨h.len,h.rest,fun i s p a b d=>by
  obtain ⟨t,t1,t2,t3,t4,t5⟩:=h.done i s p a b d
  exact ⟨t,t1,t2,t3,t4,t5.imp id fun ⟨g,g1,g2⟩=>⟨g,g1,hS g g2⟩⟩,fun t ht=>(h.ok t ht).heap fun b hb hm=>by
   rcases hm with rfl | hm
   ·obtain ⟨s,hs,e⟩:=(h.mine t ht).1
    have:=hM t.cj ⟨s,hs,.inl e.symm⟩
    exact hh _ (.inr this.1) hb this.2
   ·rcases (h.mine t ht).2 b hm with x | x
    ·exact hh _ (.inl x) hb (ko b x)
    ·exact hh _ (.inr (hM b x).1) hb (hM b x).2,h.apart,fun t ht=>⟨(h.mine t ht).1,fun g hg=>((h.mine t ht).2 g hg).imp (hS g) id⟩⟩
theorem gP.start (se:∀ s∈ss,eG w s) (jD:Apart ss):gP B ss num time ps 0 S w ss :=
 ⟨rfl,fun _ _=>rfl,fun _ _ _ h=>absurd h (Nat.not_lt_zero _),se,jD,fun t ht=>⟨⟨t,ht,rfl⟩,fun _ hg=>.inr ⟨t,ht,.inr hg⟩⟩⟩
theorem gP.step (h:gP B ss num time ps k S w now) {s:bt} {p:bC} (hs:ss[k]? = some s) (hp:ps[k]? = some p) (hM:∀ b,Ms ss b->b<B/\b≠c) {tq:Value}
  (hF:H0 c B (fun b=>b=s.cj\/s.sv.ownBlock=some b) S w S' w' [(s.cj,.cells #[tq] 177 (0,0))]) (hr:w'.ownsRow 0 59 4 tq (s.n+1) (s.xs++bO num time p.cu p.v)) (hv:tq.ownBlock=s.sv.ownBlock\/∃ g,tq.ownBlock=some g/\S' g/\w.heap.size<=g) :
  ∃ now',gP B ss num time ps (k+1) S' w' now':=by
 have hnk:now[k]? = some s:=(h.rest k (Nat.le_refl _)).trans hs
 have hkl:k<now.length:=(List.getElem?_eq_some_iff.1 hnk).1
 have hsm:s∈now:=List.mem_of_getElem? hnk
 have hss:s∈ss:=List.mem_of_getElem? hs
 have own_lt:∀ t∈now,∀ g,t.sv.ownBlock=some g->g<w.heap.size:=fun t ht g hg=>((h.ok t ht).2.lt g hg).2
 refine ⟨now.set k ⟨s.cj,tq,s.n+1,s.xs++bO num time p.cu p.v⟩,by simp [h.len],fun i hi=>?_,fun i s' p' hi qp hp'=>?_,fun t ht=>?_,fun i j t u hi hj hij=>?_,fun t ht=>?_⟩
 ·rw [List.getElem?_set_ne (by omega)];exact h.rest i (by omega)
 ·by_cases hik:i=k
  ·subst hik
   rw [hs] at qp;cases qp
   rw [hp] at hp';cases hp'
   exact ⟨⟨s.cj,tq,s.n+1,s.xs++bO num time p.cu p.v⟩,by rw [List.getElem?_set_self hkl],rfl,rfl,rfl,hv.imp id fun ⟨g,g1,g2,_⟩=>⟨g,g1,g2⟩⟩
  ·obtain ⟨t,t1,t2,t3,t4,t5⟩:=h.done i s' p' (by omega) qp hp'
   exact ⟨t,by rw [List.getElem?_set_ne (by omega)];exact t1,t2,t3,t4,t5.imp id fun ⟨g,g1,g2⟩=>⟨g,g1,hF.mine g g2⟩⟩
 ·obtain ⟨i,hi⟩:=List.mem_iff_getElem?.1 ht
  by_cases hik:i=k
  ·subst hik
   rw [List.getElem?_set_self hkl] at hi
   cases hi
   exact ⟨hF.get (.head _),hr⟩
  ·rw [List.getElem?_set_ne (by omega)] at hi
   have htm:t∈now:=List.mem_of_getElem? hi
   have jD:=h.apart i k t s hi hnk hik
   refine (h.ok t htm).heap fun b hb hm=>?_
   have hkeep:=hF.keep b
   rcases hm with rfl | hm
   ·obtain ⟨s',qp,e⟩:=(h.mine t htm).1
    have:=hM t.cj ⟨s',qp,.inl e.symm⟩
    exact hkeep (.inr this.1) hb this.2 (fun x=>x.elim jD.1 (fun e=>(h.ok s hsm).ne (h.ok t htm) e))
   ·refine hkeep ?_ hb ?_ (fun x=>x.elim (fun e=>(h.ok t htm).ne (h.ok s hsm) (e▸hm)) (fun e=>jD.2 b hm e))
    ·exact ((h.mine t htm).2 b hm).imp id fun x=>(hM b x).1
    ·rcases (h.mine t htm).2 b hm with x | x
     ·have:=hF.own b (hF.mine b x);have:=hF.chan;omega
     ·exact (hM b x).2
 ·have key:∀ i j t u,(now.set k ⟨s.cj,tq,s.n+1,s.xs++bO num time p.cu p.v⟩)[i]? = some t->now[j]? = some u->i=k->j≠k->t.cj≠u.cj/\∀ g,t.sv.ownBlock=some g->u.sv.ownBlock≠some g:=by
   intro i' j' t' u' hi' hj' e n9
   rw [e,List.getElem?_set_self hkl] at hi'
   cases hi'
   have jD:=h.apart k j' s u' hnk hj' (fun e=>n9 e.symm)
   refine ⟨jD.1,fun g hg hu=>?_⟩
   rcases hv with e | ⟨g',e1,_,e3⟩
   ·exact jD.2 g (by rw [<- e];exact hg) hu
   ·have e2:tq.ownBlock=some g:=hg
    rw [e1] at e2;cases e2
    have:=own_lt u' (List.mem_of_getElem? hj') g hu
    omega
  by_cases hik:i=k
  ·have n9:j≠k:=by omega
   rw [List.getElem?_set_ne (by omega)] at hj
   exact key i j t u hi hj hik n9
  ·rw [List.getElem?_set_ne (by omega)] at hi
   by_cases n9:j=k
   ·have:=key j i u t hj hi n9 hik
    exact ⟨fun e=>this.1 e.symm,fun g hg hu=>this.2 g hu hg⟩
   ·rw [List.getElem?_set_ne (by omega)] at hj
    exact h.apart i j t u hi hj hij
 ·obtain ⟨i,hi⟩:=List.mem_iff_getElem?.1 ht
  by_cases hik:i=k
  ·subst hik
   rw [List.getElem?_set_self hkl] at hi
   cases hi
   refine ⟨⟨s,hss,rfl⟩,fun g hg=>?_⟩
   rcases hv with e | ⟨g',e1,e2,_⟩
   ·exact .inr ⟨s,hss,.inr (by rw [<- e];exact hg)⟩
   ·have e3:tq.ownBlock=some g:=hg
    rw [e1] at e3;cases e3
    exact .inl e2
  ·rw [List.getElem?_set_ne (by omega)] at hi
   have htm:t∈now:=List.mem_of_getElem? hi
   exact ⟨(h.mine t htm).1,fun g hg=>((h.mine t htm).2 g hg).imp (hF.mine g) id⟩
end
theorem served_at {b:Frame} {a:Act} {ops:Array Oper} {i:Nat} {rest:List Nat} {k:List Item} {cs:List Frame} {o:Oper} (ho:ops[i]? = some o) (v:Value):Go.Conc.served (G (b.at a (.inRegion ops (i::rest)::k)) cs) v=G (b.at (a.put o.dst v) (.inRegion ops rest::k)) cs:=by
 show { (G (b.at a (.inRegion ops (i::rest)::k)) cs) with frame:=(b.at a (.inRegion ops (i::rest)::k)).finish v,status:=.running,offers:=Option.none }=_
 rw [Frame.finish_at,ho]
 rfl
noncomputable def jR:Code:=Tryz.f46.body.getD .skip
noncomputable def vh:Code:=match jR with
 | .seq _ (.seq _ (.seq _ (.seq (.seq _ (.block _ (.loop x))) _)))=>x
 | _=>.skip
noncomputable def o6:Code:=match jR with
 | .seq _ (.seq _ (.seq _ (.seq _ x)))=>x
 | _=>.skip
noncomputable def opsE:Array Oper:=match vh with
 | .seq (.region _ o _) _=>o
 | _=>#[]
noncomputable def headE (c:Nat) (x0 x1 x2 x3 x4 x5 x6 x7 x8 kX lD lF lG lH lI lJ lK lM lN lO lQ lR lU lV lW lX nk nt nu nw qE:Value) (cs:List Frame) (u9 ki jH jI jJ jK jL jM jN:Value):Goroutine :=
 G ((base 46).at ⟨#[x0,x1,x2,x3,x4,x5,x6,x7,x8,u9,kX,lD,lF,lG,lH,lI,lJ,lK,lM,lN,lO,lQ,lR,lU,lV,lW,lX,nk,nt,nu,nw,qE,.chan (some c),ki,jH,jI,jJ,jK,jL,jM,jN],[]⟩ [.code vh,.inLoop vh,.inBlock 0,.code o6]) cs
abbrev zE:Value:=(.agg #[.pointer none,.int .i64 0,.int .i64 0,.int .i64 0,.bool false])
noncomputable def endE (c:Nat) (x0 x1 x2 x3 x4 x5 x6 x7 x8 kX lD lF lG lH lI lJ lK lM lN lO lQ lR lU lV lW lX nk nt nu nw qE:Value) (cs:List Frame) (u9 _u33 jH jI jJ jK jL jM jN:Value):Goroutine :=
 G ((base 46).at ⟨#[x0,x1,x2,x3,x4,x5,x6,x7,x8,u9,kX,lD,lF,lG,lH,lI,lJ,lK,lM,lN,lO,lQ,lR,lU,lV,lW,lX,nk,nt,nu,nw,qE,.chan (some c),(.tuple #[zE,.bool false]),jH,jI,jJ,jK,jL,jM,jN],[]⟩ [.inRegion opsE [1],.code (match vh with | .seq _ y=>y | _=>.skip),.inLoop vh,.inBlock 0,.code o6]) cs
variable {c B : Nat} {M Ro : Nat → Prop}
set_option maxRecDepth 100000 in
set_option maxHeartbeats 2000000 in
theorem fin_e (H:qJ c B M Ro) (x0 x1 x2 x3 x4 x5 x6 x7 x8 kX lD lF lG lH lI lJ lK lM lN lO lQ lR lU lV lW lX nk nt nu nw qE:Value) (cs:List Frame) (u9 ki jH jI jJ jK jL jM jN:Value) (K:Goroutine->World->Prop) (S:Nat->Prop) (w:World)
  (hk:∀ w',R0w c B S w w'->K (endE c x0 x1 x2 x3 x4 x5 x6 x7 x8 kX lD lF lG lH lI lJ lK lM lN lO lQ lR lU lV lW lX nk nt nu nw qE cs u9 ki jH jI jJ jK jL jM jN) w'):SA Tryz.prog c zE (R0w c B) (tu B M) (CA1 B M) K [] S (headE c x0 x1 x2 x3 x4 x5 x6 x7 x8 kX lD lF lG lH lI lJ lK lM lN lO lQ lR lU lV lW lX nk nt nu nw qE cs u9 ki jH jI jJ jK jL jM jN) w:=by
 have PP:=gI c B M Ro H
 have TT:=PP.t0
 refine SA.kh PP ?_
 simp only [headE,endE,vh,o6,opsE,jR,Tryz.f46,Option.getD_some] at hk ⊢
 refine RT.seq TT ?_
 refine RT.region TT ?_
 simp only [List.size_toArray,List.length_cons,List.length_nil,Nat.reduceAdd,Nat.zero_add,List.range,List.range.loop]
 refine .stop fun w₁ h₁=>SA.fin rfl (fun bF h₂=>⟨_,stepG_comm (P:=Tryz.prog) (cases:=#[rcase c zE]) (blocking:=true) (shape:=.recv true) (w':=bF) rfl (by rfl) (by simp [base]) (by simp [execOp,go_sem];rfl),by rw [listed_nil (by simp [go_sem])];simp⟩) (fun bF h₂=>hk bF (TT.trans _ _ _ _ h₁ h₂))
set_option maxRecDepth 100000 in
set_option maxHeartbeats 2000000 in
theorem round_e (H : qJ c B M Ro) (x0 x1 x2 x3 x4 x5 x6 x7 x8 kX lD lF lG lH lI lJ lK lM lN lO lQ lR lU lV lW lX nk nt nu nw qE : Value) (cs : List Frame) (K : Goroutine → World → Prop) (L : List Value) (ss : List bt) (num time : Int) (ps : List bC) (hMs : ∀ b, Ms ss b → M b) (hn : ∀ s ∈ ss, s.n ≤ 1000000)
  (k : Nat) (s : bt) (p : bC) (hs : ss[k]? = some s) (hp : ps[k]? = some p) (hps : p.cG = some ⟨s.cj, 0, none⟩) (bW : World) (u9 ki jH jI jJ jK jL jM jN : Value) (S : Nat → Prop) (w : World) (now : List bt)
  (hG : H0 c B M (fun _ => False) bW S w []) (hT : gP B ss num time ps k S w now)
  (next : ∀ (u9 ki jH jI jJ jK jL jM jN : Value) (S : Nat → Prop) (w : World) (now : List bt), H0 c B M (fun _ => False) bW S w [] → gP B ss num time ps (k + 1) S w now → SA Tryz.prog c zE (R0w c B) (tu B M) (CA1 B M) K L S (headE c x0 x1 x2 x3 x4 x5 x6 x7 x8 kX lD lF lG lH lI lJ lK lM lN lO lQ lR lU lV lW lX nk nt nu nw qE cs u9 ki jH jI jJ jK jL jM jN) w) :
  SA Tryz.prog c zE (R0w c B) (tu B M) (CA1 B M) K (letter num time p :: L) S (headE c x0 x1 x2 x3 x4 x5 x6 x7 x8 kX lD lF lG lH lI lJ lK lM lN lO lQ lR lU lV lW lX nk nt nu nw qE cs u9 ki jH jI jJ jK jL jM jN) w := by
 have PP := gI c B M Ro H
 have TT := PP.t0
 have hMc : ∀ b, Ms ss b → b < B ∧ b ≠ c := fun b hb => H.m b (hMs b hb)
 have nh := fun u9 ki jH jI jJ jK jL jM jN S w now h1 h2 => SA.walk PP (next u9 ki jH jI jJ jK jL jM jN S w now h1 h2)
 clear next
 refine SA.kh PP ?_
 simp only [headE, vh, o6, jR, Tryz.f46, Option.getD_some] at nh ⊢
 refine RT.seq TT ?_
 refine RT.region TT ?_
 simp only [List.size_toArray, List.length_cons, List.length_nil, Nat.reduceAdd, Nat.zero_add, List.range, List.range.loop]
 refine .stop fun w₁ h₁ => SA.recv rfl (fun bF h₂ => ⟨_, stepG_comm (P := Tryz.prog) (cases := #[rcase c zE]) (blocking := true) (shape := .recv true) (w' := bF) rfl (by rfl) (by simp [base]) (by simp [execOp, go_sem]; rfl), by rw [listed_nil (by simp [go_sem])]; simp⟩) (fun bF h₂ => ?_)
 have h12 := TT.trans _ _ _ _ h₁ h₂
 have hSc : ∀ b, S b → b ≠ c := fun b hb e => by have := (hG.own b hb).1; have := hG.chan; omega
 replace hT : gP B ss num time ps k S bF now := hT.heap (fun _ x => x) hMc hSc (fun b hb hl hc => h12.block b hc hl hb)
 replace hG := hG.rely h12
 clear h12 h₁ h₂ w₁ w
 have hF : H0 c B (fun _ => False) S bF S bF [] := H0.start hG.own H.chan hG.base (by simp)
 refine SA.kh PP ?_
 rw [served_at rfl]
 simp only [recvd, letter, if_true]
 try walk_nrm
 refine RT.op rfl (by rfl) (by simp [base]) (fun v1 hR K hK => ?_)
 replace hF := hF.rely hR
 go_simp
 refine hK _ _ ⟨by rw [listed_nil (by simp [go_sem])]; exact TT.idle _ _, ?_⟩
 clear hK K hR
 rw [aD]
 refine RT.nil TT ?_
 refine RT.seq TT ?_
 refine RT.cond TT true (by simp [Act.eval]) ?_
 simp only [if_true]
 refine RT.skip TT ?_
 refine RT.block TT ?_
 refine RT.seq TT ?_
 refine RT.region TT ?_
 simp only [List.size_toArray, List.length_cons, List.length_nil, Nat.reduceAdd, Nat.zero_add, List.range, List.range.loop]
 refine RT.op rfl (by rfl) (by simp [base]) (fun v2 hR K hK => ?_)
 replace hF := hF.rely hR
 go_simp
 refine hK _ _ ⟨by rw [listed_nil (by simp [go_sem])]; exact TT.idle _ _, ?_⟩
 clear hK K hR
 rw [aD]
 refine RT.op rfl (by rfl) (by simp [base]) (fun v3 hR K hK => ?_)
 replace hF := hF.rely hR
 go_simp
 refine hK _ _ ⟨by rw [listed_nil (by simp [go_sem])]; exact tu.alloc _ _ _, ?_⟩
 clear hK K hR
 have hz3 := hF.size
 have ht3 : grow S v3 (v3.alloc (.cells #[.pointer none, .int .i64 0, .int .i64 0, .int .i64 0, .bool false] 165)) v3.heap.size := .inr ⟨Nat.le_refl _, by rw [aG]; exact Nat.lt_succ_self _⟩
 replace hF := hF.alloc (.cells #[.pointer none, .int .i64 0, .int .i64 0, .int .i64 0, .bool false] 165)
 generalize grow _ v3 (v3.alloc (.cells #[.pointer none, .int .i64 0, .int .i64 0, .int .i64 0, .bool false] 165)) = T3 at hF ht3 ⊢
 generalize pU : v3.heap.size = b3 at hF ht3 hz3 ⊢
 generalize v3.alloc (.cells #[.pointer none, .int .i64 0, .int .i64 0, .int .i64 0, .bool false] 165) = u3 at hF ⊢
 clear pU v3
 refine RT.op rfl (by rfl) (by simp [base]) (fun w₅ hR K hK => ?_)
 replace hF := hF.rely hR
 have hb := hF.get (.head _)
 have lj := hF.cell (i := 0) (.head _) rfl
 have kJ := hF.cell (i := 1) (.head _) rfl
 have hc2 := hF.cell (i := 2) (.head _) rfl
 have r_ := hF.cell (i := 3) (.head _) rfl
 have hc4 := hF.cell (i := 4) (.head _) rfl
 have hz : ∀ i, w₅.frozen? ⟨b3, i, none⟩ = false := fun i => by simp [World.frozen?, hb]
 go_simp
 refine hK _ _ ⟨?_, ?_⟩
 ·refine tu.sets (b := b3) (.inl ht3) (by simp only [cn]) (fun k hk => (aT _ _ _ hk).trans ((aT _ _ _ hk).trans ((aT _ _ _ hk).trans ((aT _ _ _ hk).trans (aT _ _ _ hk))))) (fun e he => ?_)
  have hm := mem_listed he
  simp [go_sem, events_store (v := Value.bool p.v) (hv := rfl), events_store (v := Value.pointer (some ⟨s.cj, 0, none⟩)) (hv := rfl), *] at hm
  rcases hm with rfl | rfl | rfl | rfl | rfl <;> exact ⟨_, rfl, rfl⟩
 clear hK K hb lj kJ hc2 r_ hc4 hz hR
 rw [l7 _ (by simp only [cn])]
 replace hF := (((((hF.set (i := 0) (v := (.pointer (some ⟨s.cj, 0, none⟩))) (.inl hz3) (by simp)).set (i := 1) (v := (.int .i64 num)) (.inl hz3) (by simp)).set (i := 2) (v := (.int .i64 time)) (.inl hz3) (by simp)).set (i := 3) (v := (.int .i64 p.cu)) (.inl hz3) (by simp)).set (i := 4) (v := (.bool p.v)) (.inl hz3) (by simp))
 simp only [List.setIfInBounds_toArray, List.set_cons_zero, List.set_cons_succ] at hF
 generalize (((((w₅.setCell ⟨b3, 0, none⟩ (.pointer (some ⟨s.cj, 0, none⟩))).setCell ⟨b3, 1, none⟩ (.int .i64 num)).setCell ⟨b3, 2, none⟩ (.int .i64 time)).setCell ⟨b3, 3, none⟩ (.int .i64 p.cu)).setCell ⟨b3, 4, none⟩ (.bool p.v)) = u5 at hF ⊢
 clear w₅ u3
 refine RT.nil TT ?_
 refine RT.region TT ?_
 simp only [List.size_toArray, List.length_cons, List.length_nil, Nat.reduceAdd, Nat.zero_add, List.range, List.range.loop]
 refine RT.op rfl (by rfl) (by simp [base]) (fun v6 hR K hK => ?_)
 replace hF := hF.rely hR
 go_simp
 refine hK _ _ ⟨by rw [listed_nil (by simp [go_sem])]; exact TT.idle _ _, ?_⟩
 clear hK K hR
 rw [aD]
 refine RT.op rfl (by rfl) (by simp [base]) (fun v7 hR K hK => ?_)
 replace hF := hF.rely hR
 have lj := hF.cell (i := 0) (.head _) rfl
 go_simp
 refine hK _ _ ⟨?_, ?_⟩
 ·refine tu.reads fun e he => ?_
  have hm := mem_listed he
  simp [go_sem, *] at hm
  rcases hm with rfl <;> exact hF.read (.head _) rfl
 clear hK K hR
 rw [aD]
 refine RT.op rfl (by rfl) (by simp [base]) (fun v8 hR K hK => ?_)
 replace hF := hF.rely hR
 go_simp
 refine hK _ _ ⟨by rw [listed_nil (by simp [go_sem])]; exact TT.idle _ _, ?_⟩
 clear hK K hR
 rw [aD]
 refine RT.op rfl (by rfl) (by simp [base]) (fun v9 hR K hK => ?_)
 replace hF := hF.rely hR
 have kJ := hF.cell (i := 1) (.head _) rfl
 have hc2 := hF.cell (i := 2) (.head _) rfl
 have r_ := hF.cell (i := 3) (.head _) rfl
 have hc4 := hF.cell (i := 4) (.head _) rfl
 go_simp
 refine hK _ _ ⟨?_, ?_⟩
 ·refine tu.reads fun e he => ?_
  have hm := mem_listed he
  simp [go_sem, *] at hm
  rcases hm with rfl | rfl | rfl | rfl <;> exact hF.read (.head _) rfl
 clear hK K hR
 rw [aD]
 refine RT.call TT (f := 89) (Post := fun _ S' w' => ∃ y1 tq, H0 c B (fun _ => False) S bF T3 y1 [] ∧ H0 c B (fun b => b = s.cj ∨ s.sv.ownBlock = some b) T3 y1 S' w' [(s.cj, .cells #[tq] 177 (0, 0))] ∧ w'.ownsRow 0 59 4 tq (s.n + 1) (s.xs ++ bO num time p.cu p.v) ∧ (tq.ownBlock = s.sv.ownBlock ∨ ∃ g, tq.ownBlock = some g ∧ S' g ∧ y1.heap.size ≤ g)) rfl (by rfl) (by simp [base]) rfl Tryz.func89 (by decide) (by rfl) (fun y1 hR => ?call) ?next
 case call =>
  replace hF := (hF.rely hR).less (fs' := []) (by simp)
  have hT1 : gP B ss num time ps k T3 y1 now := hT.heap hF.mine hMc hSc (fun b hb hl hc => hF.keep b hb hl hc (fun x => x))
  have hnk : now[k]? = some s := (hT1.rest k (Nat.le_refl _)).trans hs
  have se := hT1.ok s (List.mem_of_getElem? hnk)
  have hsm : s ∈ ss := List.mem_of_getElem? hs
  have hm1 := hMs s.cj ⟨s, hsm, .inl rfl⟩
  have := take_c H s.cj s.sv s.n s.xs num time p.cu p.v T3 y1 hF.own hF.base (H.m _ hm1).1 hm1 se.1 se.2 (fun g hg => ⟨(hMc g ⟨s, hsm, .inr hg⟩).1, hMs g ⟨s, hsm, .inr hg⟩⟩) (hn s hsm)
  simp only [List.map_toArray, List.map_cons, List.map_nil]
  change ic Tryz.prog true (R0w c B) (tu B M) 89 #[.pointer (some ⟨s.cj, 0, none⟩), .agg #[.int .i64 num, .int .i64 time, .int .i64 p.cu, .bool p.v]] _ y1 _
  refine ic.mono this ?_
  rintro _ S' w' ⟨tq, r1, r2, r3⟩
  exact ⟨y1, tq, hF, r1, r2, r3⟩
 rintro v S' w' ⟨y1, tq, hF1, r1, r2, r3⟩
 have hT1 : gP B ss num time ps k T3 y1 now := hT.heap hF1.mine hMc hSc (fun b hb hl hc => hF1.keep b hb hl hc (fun x => x))
 obtain ⟨now', rZ⟩ := hT1.step hs hp hMc r1 r2 r3
 have hsm : s ∈ ss := List.mem_of_getElem? hs
 have hG2 : H0 c B M (fun _ => False) bW S' w' [] := (hG.step hF1 (fun _ x => x.elim) (by simp)).step r1 (fun b hb => hb.elim (fun e => hMs b ⟨s, hsm, .inl e⟩) (fun e => hMs b ⟨s, hsm, .inr e⟩)) (by simp)
 try walk_nrm
 refine RT.nil TT ?_
 refine RT.inBlock TT ?_
 refine RT.inLoop TT ?_
 exact nh _ _ _ _ _ _ _ _ _ S' w' now' hG2 rZ
theorem from_e (H:qJ c B M Ro) (x0 x1 x2 x3 x4 x5 x6 x7 x8 kX lD lF lG lH lI lJ lK lM lN lO lQ lR lU lV lW lX nk nt nu nw qE:Value) (cs:List Frame) (K:Goroutine->World->Prop) (ss:List bt) (num time:Int) (ps:List bC) (hMs:∀ b,Ms ss b->M b) (hn:∀ s∈ss,s.n<=1000000)
  (hlen:ss.length=ps.length) (hps:∀ (i:Nat) (s:bt) (p:bC),ss[i]? = some s->ps[i]? = some p->p.cG=some ⟨s.cj,0,none⟩) (bW:World)
  (hk:∀ (u9 ki jH jI jJ jK jL jM jN:Value) (S:Nat->Prop) (w:World) (now:List bt),H0 c B M (fun _=>False) bW S w []->gP B ss num time ps ps.length S w now->K (endE c x0 x1 x2 x3 x4 x5 x6 x7 x8 kX lD lF lG lH lI lJ lK lM lN lO lQ lR lU lV lW lX nk nt nu nw qE cs u9 ki jH jI jJ jK jL jM jN) w) :
  ∀ (m k:Nat),k+m=ps.length->∀ (u9 ki jH jI jJ jK jL jM jN:Value) (S:Nat->Prop) (w:World) (now:List bt),H0 c B M (fun _=>False) bW S w []->gP B ss num time ps k S w now->
   SA Tryz.prog c zE (R0w c B) (tu B M) (CA1 B M) K ((ps.drop k).map (letter num time)) S (headE c x0 x1 x2 x3 x4 x5 x6 x7 x8 kX lD lF lG lH lI lJ lK lM lN lO lQ lR lU lV lW lX nk nt nu nw qE cs u9 ki jH jI jJ jK jL jM jN) w
 | 0,k,hkm,u9,ki,jH,jI,jJ,jK,jL,jM,jN,S,w,now,hG,hT=>by
  have hkl:k=ps.length:=by omega
  subst hkl
  rw [List.drop_length]
  refine fin_e H x0 x1 x2 x3 x4 x5 x6 x7 x8 kX lD lF lG lH lI lJ lK lM lN lO lQ lR lU lV lW lX nk nt nu nw qE cs u9 ki jH jI jJ jK jL jM jN K S w fun w' hR=>?_
  have hSc:∀ b,S b->b≠c:=fun b hb e=>by have:=(hG.own b hb).1;have:=hG.chan;omega
  exact hk u9 ki jH jI jJ jK jL jM jN S w' now (hG.rely hR) (hT.heap (fun _ x=>x) (fun b hb=>H.m b (hMs b hb)) hSc (fun b hb hl hc=>hR.block b hc hl hb))
 | m+1,k,hkm,u9,ki,jH,jI,jJ,jK,jL,jM,jN,S,w,now,hG,hT=>by
  have hkl:k<ps.length:=by omega
  rw [List.drop_eq_getElem_cons hkl,List.map_cons]
  have hks:k<ss.length:=by omega
  exact round_e H x0 x1 x2 x3 x4 x5 x6 x7 x8 kX lD lF lG lH lI lJ lK lM lN lO lQ lR lU lV lW lX nk nt nu nw qE cs K _ ss num time ps hMs hn k ss[k] ps[k] (List.getElem?_eq_getElem hks) (List.getElem?_eq_getElem hkl) (hps k _ _ (List.getElem?_eq_getElem hks) (List.getElem?_eq_getElem hkl)) bW u9 ki jH jI jJ jK jL jM jN S w now hG hT
   fun u9 ki jH jI jJ jK jL jM jN S w now h1 h2=>from_e H x0 x1 x2 x3 x4 x5 x6 x7 x8 kX lD lF lG lH lI lJ lK lM lN lO lQ lR lU lV lW lX nk nt nu nw qE cs K ss num time ps hMs hn hlen hps bW hk m (k+1) (by omega) u9 ki jH jI jJ jK jL jM jN S w now h1 h2
end Lf
namespace Lf
open Go Go.Conc
variable {P : Program}
def At (b:Frame) (k:List Item) (cs:List Frame) (g:Goroutine):Exit->Act->Prop
 | .normal,a=>g=G (b.at a k) cs
 | .exit id,a=>∃ k',exitTo id k=some k'/\g=G (b.at a k') cs
 | .goto l,a=>∃ k',gotoIn l k=some k'/\g=G (b.at a k') cs
 | .ret,a=>∃ todo,(∀ it∈todo,aR it)/\g=G { b.at a todo with mode:=.returning } cs
 | .panic chain,a=>∃ todo,(∀ it∈todo,aR it)/\g=G { b.at a todo with mode:=.panicking chain } cs
 | .outgrown,_=>False
structure Behind (Q:Exit->Act->World->Prop) (k:List Item) (cs:List Frame):Prop where
 items:∀ it∈k,aR it
 frames:∀ fr∈cs,aA fr
 exits:∀ id a w,Q (.exit id) a w->∃ k',exitTo id k=some k'
 gotos:∀ l a w,Q (.goto l) a w->∃ k',gotoIn l k=some k'
def e_ (P:Program) (c:Code) (Q:Exit->Act->World->Prop) (a:Act) (w:World):Prop :=
 ∀ (b:Frame) (k:List Item) (cs:List Frame),Behind Q k cs->af P (fun g w'=>∃ e a',Q e a' w'/\At b k cs g e a') (G (b.at a (.code c::k)) cs) w
theorem e_.mono {c:Code} {Q Q':Exit->Act->World->Prop} {a:Act} {w:World} (h:e_ P c Q a w) (hq:∀ e a w,Q e a w->Q' e a w):e_ P c Q' a w :=
 fun b k cs hb=>(h b k cs ⟨hb.items,hb.frames,fun id a w x=>hb.exits id a w (hq _ _ _ x),fun id a w x=>hb.gotos id a w (hq _ _ _ x)⟩).mono fun _ _ ⟨e,a',x,y⟩=>⟨e,a',hq _ _ _ x,y⟩
theorem iz {b:Frame} {a:Act} {k:List Item} (h:∀ it∈k,aR it):aA (b.at a k):=h
theorem aJ {it:Item} {k:List Item} (h0:aR it) (h:∀ it∈k,aR it):∀ x∈it::k,aR x:=fun x hx=>by
 rcases List.mem_cons.1 hx with rfl | hx
 ·exact h0
 ·exact h x hx
theorem jb {b:Frame} {a:Act} {c:Code} {k:List Item} {cs:List Frame} (h:∀ it∈k,aR it) (hc:∀ fr∈cs,aA fr):dx (G (b.at a (.code c::k)) cs):=tD (iz (aJ trivial h)) hc
theorem af.move (hP:Plain P) {K:Goroutine->World->Prop} {fr fr':Frame} {cs:List Frame} {w:World} (hg:dx (G fr cs)) (h:∀ w,Steps P (lone fr cs w) (lone fr' cs w)) (hk:dx (G fr' cs)->af P K (G fr' cs) w):af P K (G fr cs) w:=by
 have h1:af P (fun g w'=>g=G fr' cs/\dx g/\∃ τ d,w'=re w τ d) (G fr cs) w:=by
  refine .of_steps hP ?_ hg fun τ d=>⟨G fr' cs,re w τ d,h _,dH _ _,fun hf=>⟨rfl,hf,τ,d,rfl⟩⟩
  rintro g w' τ d ⟨rfl,hf,vX,d',rfl⟩
  exact ⟨rfl,hf,τ,d,rfl⟩
 refine h1.trans ?_
 rintro g w' ⟨rfl,hf,τ,d,rfl⟩
 exact (hk hf).other τ d
theorem e_.of_wp (hP:Plain P) {c:Code} {Q:Exit->Act->World->Prop} {a:Act} {w:World} (hQ:∀ e a w τ d,Q e a w->Q e a (re w τ d)) (hno:∀ a w,¬ Q .outgrown a w) (h:∀ τ d,c.wp P Q a (re w τ d)):e_ P c Q a w:=by
 intro b k cs hb
 refine .of_steps hP ?_ (jb hb.items hb.frames) fun τ d=>?_
 ·rintro g w τ d ⟨e,a',h1,h2⟩
  exact ⟨e,a',hQ _ _ _ _ _ h1,h2⟩
 ·obtain ⟨e,a',w',h1,h2⟩:=h τ d b k cs
  cases e with
  | normal=>exact ⟨_,w',h2,dH _ _,fun _=>⟨.normal,a',h1,rfl⟩⟩
  | exit id=>obtain ⟨k',hk⟩:=hb.exits id a' w' h1;exact ⟨_,w',h2 k' hk,dH _ _,fun _=>⟨.exit id,a',h1,k',hk,rfl⟩⟩
  | goto l=>obtain ⟨k',hk⟩:=hb.gotos l a' w' h1;exact ⟨_,w',h2 k' hk,dH _ _,fun _=>⟨.goto l,a',h1,k',hk,rfl⟩⟩
  | ret=>obtain ⟨todo,hs⟩:=h2;exact ⟨_,w',hs,dH _ _,fun hf=>⟨.ret,a',h1,todo,hf.ok.frame,rfl⟩⟩
  | panic chain=>obtain ⟨todo,hs⟩:=h2;exact ⟨_,w',hs,dH _ _,fun hf=>⟨.panic chain,a',h1,todo,hf.ok.frame,rfl⟩⟩
  | outgrown=>exact absurd h1 (hno _ _)
theorem At.pass {b:Frame} {x:Item} {k:List Item} {cs:List Frame} {g:Goroutine} {e:Exit} {a:Act} (hx:x.plain=true) (he:e≠.normal) (h:At b (x::k) cs g e a):At b k cs g e a:=by
 cases e with
 | normal=>exact absurd rfl he
 | exit id=>obtain ⟨k',h1,h2⟩:=h;exact ⟨k',by cases x<;>simp_all [exitTo,Item.plain],h2⟩
 | goto l=>obtain ⟨k',h1,h2⟩:=h;exact ⟨k',by cases x<;>simp_all [gotoIn,Item.plain],h2⟩
 | ret=>exact h
 | panic chain=>exact h
 | outgrown=>exact h
theorem Behind.pass {Q Q':Exit->Act->World->Prop} {k:List Item} {cs:List Frame} {x:Item} (hb:Behind Q k cs) (hx:x.plain=true) (se:aR x) (h1:∀ id a w,Q' (.exit id) a w->Q (.exit id) a w) (h2:∀ id a w,Q' (.goto id) a w->Q (.goto id) a w):Behind Q' (x::k) cs :=
 ⟨aJ se hb.items,hb.frames,fun id a w h=>by
  obtain ⟨k',hk⟩:=hb.exits id a w (h1 _ _ _ h);exact ⟨k',by cases x<;>simp_all [exitTo,Item.plain]⟩,fun id a w h=>by
  obtain ⟨k',hk⟩:=hb.gotos id a w (h2 _ _ _ h);exact ⟨k',by cases x<;>simp_all [gotoIn,Item.plain]⟩⟩
theorem af.then {K L:Goroutine->World->Prop} {g:Goroutine} {w:World} (h:af P K g w) (hk:∀ g' w',K g' w'->kP P L g' w'):af P L g w:=fun τ d=>(h τ d).trans hk
theorem af.step (hP:Plain P) {K:Goroutine->World->Prop} {fr fr':Frame} {cs cs':List Frame} {w:World} (hg:dx (G fr cs)) (h:∀ τ d,Steps P (lone fr cs (re w τ d)) (lone fr' cs' (re w τ d))) (hk:dx (G fr' cs')->af P K (G fr' cs') w):af P K (G fr cs) w:=by
 have h1:af P (fun g w'=>g=G fr' cs'/\dx g/\∃ τ d,w'=re w τ d) (G fr cs) w:=by
  refine .of_steps hP ?_ hg fun τ d=>⟨G fr' cs',re w τ d,h _ _,dH _ _,fun hf=>⟨rfl,hf,τ,d,rfl⟩⟩
  rintro g w' τ d ⟨rfl,hf,vX,d',rfl⟩
  exact ⟨rfl,hf,τ,d,rfl⟩
 refine h1.trans ?_
 rintro g w' ⟨rfl,hf,τ,d,rfl⟩
 exact (hk hf).other τ d
theorem af.here {K:Goroutine->World->Prop} {g:Goroutine} {w:World} (h:∀ τ d,K g (re w τ d)):af P K g w:=fun τ d=>.here (h τ d)
theorem e_.seq (hP:Plain P) {x y:Code} {Q:Exit->Act->World->Prop} {a:Act} {w:World} (h:e_ P x (Exit.then (e_ P y Q) Q) a w):e_ P (.seq x y) Q a w:=by
 intro b k cs hb
 refine af.move hP (jb hb.items hb.frames) (fun _=>.one step_seq) fun _=>?_
 refine (h b (.code y::k) cs (hb.pass rfl trivial (fun _ _ _ x=>x) (fun _ _ _ x=>x))).then ?_
 rintro g w' ⟨e,a',h1,h2⟩
 cases e with
 | normal=>cases h2;exact (h1 b k cs hb).leads
 | _=>exact .here ⟨_,a',h1,At.pass (x:=.code y) rfl (by simp) h2⟩
theorem e_.seq' (hP:Plain P) {x y:Code} {Q:Exit->Act->World->Prop} {a:Act} {w:World} (J:Act->World->Prop) (h:e_ P x (Exit.then J Q) a w) (hk:∀ a w,J a w->e_ P y Q a w):e_ P (.seq x y) Q a w :=
 .seq hP (h.mono fun e a w x=>by cases e<;>first | exact hk _ _ x | exact x)
theorem e_.cond (hP:Plain P) {c:Operand} {x y:Code} {t:Bool} {Q:Exit->Act->World->Prop} {a:Act} {w:World} (hc:a.eval c=.bool t) (h:e_ P (if t then x else y) Q a w):e_ P (.cond c x y) Q a w :=
 fun b k cs hb=>af.move hP (jb hb.items hb.frames) (fun _=>.one (step_cond hc)) fun _=>h b k cs hb
theorem e_.block (hP:Plain P) {id:Nat} {c:Code} {Q:Exit->Act->World->Prop} {a:Act} {w:World} (hQ:∀ a w τ d,Q .normal a w->Q .normal a (re w τ d)) (h:e_ P c (Exit.inBlock id Q) a w):e_ P (.block id c) Q a w:=by
 intro b k cs hb
 refine af.move hP (jb hb.items hb.frames) (fun _=>.one step_block) fun _=>?_
 refine (h b (.inBlock id::k) cs ⟨aJ trivial hb.items,hb.frames,fun id' a w x=>?_,fun l a w x=>?_⟩).then ?_
 ·by_cases hid:id'=id
  ·exact ⟨k,by simp [exitTo,hid]⟩
  ·simp only [Exit.inBlock,hid,if_false] at x
   obtain ⟨k',hk⟩:=hb.exits id' a w x
   have:(id==id')=false:=by simp;exact fun h=>hid h.symm
   exact ⟨k',by simp [exitTo,this,hk]⟩
 ·obtain ⟨k',hk⟩:=hb.gotos l a w x
  exact ⟨k',by simp [gotoIn,hk]⟩
 rintro g w' ⟨e,a',h1,h2⟩
 cases e with
 | normal =>
  cases h2
  exact (af.move hP (tD (iz (aJ (it:=.inBlock id) trivial hb.items)) hb.frames) (fun _=>.one step_inBlock) fun _=>.here fun τ d=>⟨.normal,a',hQ _ _ _ _ h1,rfl⟩).leads
 | exit id' =>
  obtain ⟨k',h3,h4⟩:=h2
  by_cases hid:id'=id
  ·subst hid
   simp only [Exit.inBlock,if_true] at h1
   simp [exitTo] at h3
   subst h3
   exact .here ⟨.normal,a',h1,h4⟩
  ·simp only [Exit.inBlock,hid,if_false] at h1
   have:(id==id')=false:=by simp;exact fun h=>hid h.symm
   simp [exitTo,this] at h3
   exact .here ⟨.exit id',a',h1,k',h3,h4⟩
 | goto l=>obtain ⟨k',h3,h4⟩:=h2;simp [gotoIn] at h3;exact .here ⟨.goto l,a',h1,k',h3,h4⟩
 | ret=>exact .here ⟨.ret,a',h1,h2⟩
 | panic chain=>exact .here ⟨.panic chain,a',h1,h2⟩
 | outgrown=>exact h2.elim
theorem e_.loop (hP:Plain P) {c:Code} {Q:Exit->Act->World->Prop} {a:Act} {w:World} (I:Nat->Act->World->Prop) (sQ:Nat) (h₀:I sQ a w)
  (round:∀ n a w,I n a w->e_ P c (Exit.then (fun a' w'=>∃ m,m<n/\I m a' w') Q) a w):e_ P (.loop c) Q a w:=by
 intro b k cs hb
 have key:∀ n a w,I n a w->af P (fun g w'=>∃ e a',Q e a' w'/\At b k cs g e a') (G (b.at a (.code c::.inLoop c::k)) cs) w:=by
  intro n
  induction n using Nat.strongRecOn with
  | _ n ih =>
   intro a w hn
   refine (round n a w hn b (.inLoop c::k) cs (hb.pass rfl trivial (fun _ _ _ x=>x) (fun _ _ _ x=>x))).then ?_
   rintro g w' ⟨e,a',h1,h2⟩
   cases e with
   | normal =>
    cases h2
    obtain ⟨m,hm,h1⟩:=h1
    exact (af.move hP (tD (iz (aJ (it:=.inLoop c) trivial hb.items)) hb.frames) (fun _=>.one step_inLoop) fun _=>ih m hm a' w' h1).leads
   | _=>exact .here ⟨_,a',h1,At.pass (x:=.inLoop c) rfl (by simp) h2⟩
 exact af.move hP (jb hb.items hb.frames) (fun _=>.one step_loop) fun _=>key sQ a w h₀
theorem e_.ret (hP:Plain P) {Q:Exit->Act->World->Prop} {a:Act} {w:World} (h:∀ τ d,Q .ret a (re w τ d)):e_ P .ret Q a w :=
 fun _ _ _ hb=>af.move hP (jb hb.items hb.frames) (fun _=>.one step_ret) fun hf=>.here fun τ d=>⟨.ret,a,h τ d,_,hf.ok.frame,rfl⟩
theorem e_.exit (hP:Plain P) {id:Nat} {Q:Exit->Act->World->Prop} {a:Act} {w:World} (h:∀ τ d,Q (.exit id) a (re w τ d)):e_ P (.exit id) Q a w:=fun _ _ _ hb=>by
 obtain ⟨k',hk⟩:=hb.exits id a _ (h w.tape w.drawn)
 exact af.move hP (jb hb.items hb.frames) (fun _=>.one (step_exit hk)) fun _=>.here fun τ d=>⟨.exit id,a,h τ d,k',hk,rfl⟩
theorem og {fr:Frame} {cs:List Frame} (h0:aA fr) (h:∀ x∈cs,aA x):∀ x∈fr::cs,aA x:=fun x hx=>by
 rcases List.mem_cons.1 hx with rfl | hx
 ·exact h0
 ·exact h x hx
theorem uD {b:Frame} {a:Act} {ops:Array Oper} {l:List Nat} {k:List Item} {cs:List Frame} (h:∀ it∈k,aR it) (hc:∀ fr∈cs,aA fr):dx (G (b.at a (.inRegion ops l::k)) cs):=tD (iz (aJ trivial h)) hc
end Lf
namespace Lf
open Go Go.Conc
variable {P : Program} {K : Goroutine → World → Prop} {b : Frame} {k : List Item} {cs : List Frame} {a : Act} {w : World}
theorem af.seq (hP:Plain P) {x y:Code} (hi:∀ it∈k,aR it) (hc:∀ fr∈cs,aA fr) (h:af P K (G (b.at a (.code x::.code y::k)) cs) w):af P K (G (b.at a (.code (.seq x y)::k)) cs) w :=
 af.move hP (jb hi hc) (fun _=>.one step_seq) fun _=>h
theorem af.code {c:Code} {Q:Exit->Act->World->Prop} (h:e_ P c Q a w) (hb:Behind Q k cs) (hk:∀ e a' w' g,Q e a' w'->At b k cs g e a'->af P K g w'):af P K (G (b.at a (.code c::k)) cs) w :=
 (h b k cs hb).trans fun g w' ⟨e,a',h1,h2⟩=>hk e a' w' g h1 h2
theorem af.piece (hP:Plain P) {c:Code} (J:Act->World->Prop) (hJ:∀ a w τ d,J a w->J a (re w τ d)) (hi:∀ it∈k,aR it) (hc:∀ fr∈cs,aA fr) (h:∀ τ d,c.wp P (fun e a' w'=>e=.normal/\J a' w') a (re w τ d)) (hk:∀ a' w',J a' w'->af P K (G (b.at a' k) cs) w'):af P K (G (b.at a (.code c::k)) cs) w :=
 af.code (Q:=fun e a' w'=>e=.normal/\J a' w') (e_.of_wp hP (fun e a w τ d x=>⟨x.1,hJ _ _ _ _ x.2⟩) (fun a w x=>by cases x.1) h) ⟨hi,hc,fun _ _ _ x=>(by cases x.1),fun _ _ _ x=>(by cases x.1)⟩
  fun e a' w' g x y=>by
   obtain ⟨rfl,x⟩:=x
   obtain rfl:g=_:=y
   exact hk a' w' x
theorem af.val (hP:Plain P) {ops:Array Oper} {i:Nat} {rest:List Nat} {o:Oper} {v:Value} {w':World} (ho:ops[i]? = some o) (hw:Region.wanted o (yielded ops a.tmps)=true)
  (hr:∀ τ d,(execOp a.eval o).run P (re w τ d)=.ok (.value v) (re w' τ d)) (hi:∀ it∈k,aR it) (hc:∀ fr∈cs,aA fr)
  (h:af P K (G (b.at (a.put o.dst v) (.inRegion ops rest::k)) cs) w'):af P K (G (b.at a (.inRegion ops (i::rest)::k)) cs) w:=by
 have bH:(b.at a (.inRegion ops (i::rest)::k)).finish v=b.at (a.put o.dst v) (.inRegion ops rest::k):=by rw [Frame.finish_at,ho];rfl
 have h1:af P (fun g x=>g=G (b.at (a.put o.dst v) (.inRegion ops rest::k)) cs/\∃ τ d,x=re w' τ d) (G (b.at a (.inRegion ops (i::rest)::k)) cs) w:=by
  refine .of_steps hP ?_ (uD hi hc) fun τ d=>⟨_,re w' τ d,.one (step_lone_go (fr':=b.at (a.put o.dst v) (.inRegion ops rest::k)) (cs':=cs) ?_),dH _ _,fun _=>⟨rfl,τ,d,rfl⟩⟩
  ·rintro g x τ d ⟨rfl,vX,d',rfl⟩
   exact ⟨rfl,τ,d,rfl⟩
  ·rw [stepG_op ho hw,<- bH];simp [stepG.apply,hr,Frame.at]
 refine h1.trans ?_
 rintro g x ⟨rfl,τ,d,rfl⟩
 exact h.other τ d
theorem af.non (hP:Plain P) {ops:Array Oper} {i:Nat} {rest:List Nat} {o:Oper} {w':World} (ho:ops[i]? = some o) (hw:Region.wanted o (yielded ops a.tmps)=true)
  (hr:∀ τ d,(execOp a.eval o).run P (re w τ d)=.ok .skip (re w' τ d)) (hi:∀ it∈k,aR it) (hc:∀ fr∈cs,aA fr)
  (h:af P K (G (b.at (a.put o.dst undef) (.inRegion ops rest::k)) cs) w'):af P K (G (b.at a (.inRegion ops (i::rest)::k)) cs) w:=by
 have bH:(b.at a (.inRegion ops (i::rest)::k)).finish undef=b.at (a.put o.dst undef) (.inRegion ops rest::k):=by rw [Frame.finish_at,ho];rfl
 have h1:af P (fun g x=>g=G (b.at (a.put o.dst undef) (.inRegion ops rest::k)) cs/\∃ τ d,x=re w' τ d) (G (b.at a (.inRegion ops (i::rest)::k)) cs) w:=by
  refine .of_steps hP ?_ (uD hi hc) fun τ d=>⟨_,re w' τ d,.one (step_lone_go (fr':=b.at (a.put o.dst undef) (.inRegion ops rest::k)) (cs':=cs) ?_),dH _ _,fun _=>⟨rfl,τ,d,rfl⟩⟩
  ·rintro g x τ d ⟨rfl,vX,d',rfl⟩
   exact ⟨rfl,τ,d,rfl⟩
  ·rw [stepG_op ho hw,<- bH];simp [stepG.apply,hr,Frame.at]
 refine h1.trans ?_
 rintro g x ⟨rfl,τ,d,rfl⟩
 exact h.other τ d
theorem af.region (hP:Plain P) {id:Nat} {ops:Array Oper} (hi:∀ it∈k,aR it) (hc:∀ fr∈cs,aA fr) (h:af P K (G (b.at a (.inRegion ops (List.range ops.size)::k)) cs) w):af P K (G (b.at a (.code (.region id ops false)::k)) cs) w :=
 af.move hP (jb hi hc) (fun _=>.one step_region) fun _=>h
theorem af.nil (hP:Plain P) {ops:Array Oper} (hi:∀ it∈k,aR it) (hc:∀ fr∈cs,aA fr) (h:af P K (G (b.at a k) cs) w):af P K (G (b.at a (.inRegion ops []::k)) cs) w :=
 af.move hP (uD hi hc) (fun _=>.one step_region_end) fun _=>h
theorem af.draw (hP:Plain P) {id:Nat} {ops:Array Oper} (hi:∀ it∈k,aR it) (hc:∀ fr∈cs,aA fr) (h:∀ t,af P K (G (b.at a (.inRegion ops (Region.schedule (P.follows .mixedOrders) ops t)::k)) cs) w):af P K (G (b.at a (.code (.region id ops true)::k)) cs) w:=by
 have h1:af P (fun g w'=>(∃ t,g=G (b.at a (.inRegion ops (Region.schedule (P.follows .mixedOrders) ops t)::k)) cs)/\∃ τ d,w'=re w τ d) (G (b.at a (.code (.region id ops true)::k)) cs) w:=by
  refine .of_steps hP ?_ (jb hi hc) fun τ d=>?_
  ·rintro g w' τ d ⟨h1,vX,d',rfl⟩
   exact ⟨h1,τ,d,rfl⟩
  ·exact ⟨_,re w τ (d+1),.one step_region_draw,dH _ _,fun _=>⟨⟨_,rfl⟩,τ,d+1,rfl⟩⟩
 refine h1.trans ?_
 rintro g w' ⟨⟨t,rfl⟩,τ,d,rfl⟩
 exact (h t).other τ d
theorem af.enter (hP:Plain P) {ops:Array Oper} {i:Nat} {rest:List Nat} {o:Oper} {f:FuncId} {args:Array Value} (ho:ops[i]? = some o) (hw:Region.wanted o (yielded ops a.tmps)=true)
  (hr:∀ τ d,(execOp a.eval o).run P (re w τ d)=.ok (.enter f args) (re w τ d)) (hi:∀ it∈k,aR it) (hc:∀ fr∈cs,aA fr)
  (h:af P K (G (Frame.enter P f args .normal) (b.at a (.inRegion ops (i::rest)::k)::cs)) w):af P K (G (b.at a (.inRegion ops (i::rest)::k)) cs) w:=by
 refine af.step hP (uD hi hc) (fun τ d=>.one (step_lone_go (fr':=Frame.enter P f args .normal) (cs':=b.at a (.inRegion ops (i::rest)::k)::cs) ?_)) fun _=>h
 rw [stepG_op ho hw];simp [stepG.apply,hr,Frame.at]
theorem af.call (hP:Plain P) {ops:Array Oper} {i:Nat} {rest:List Nat} {o:Oper} {f:FuncId} {args:Array Value} {R:Ending->World->Prop} (ho:ops[i]? = some o) (hw:Region.wanted o (yielded ops a.tmps)=true)
  (hr:∀ τ d,(execOp a.eval o).run P (re w τ d)=.ok (.enter f args) (re w τ d)) (hi:∀ it∈k,aR it) (hc:∀ fr∈cs,aA fr) (h:bZ P f args w R) (hR:∀ e w',R e w'->∃ v,e=.returned v)
  (hk:∀ v w',R (.returned v) w'->af P K (G (b.at (a.put o.dst v) (.inRegion ops rest::k)) cs) w'):af P K (G (b.at a (.inRegion ops (i::rest)::k)) cs) w:=by
 have bH:∀ v,(b.at a (.inRegion ops (i::rest)::k)).finish v=b.at (a.put o.dst v) (.inRegion ops rest::k):=by
  intro v;rw [Frame.finish_at,ho];rfl
 have hfr:aA (b.at a (.inRegion ops (i::rest)::k)):=iz (aJ trivial hi)
 refine af.enter hP ho hw hr hi hc ((h _ (og hfr hc)).trans ?_)
 rintro g w' ⟨e,fr,rfl,h2,h3,_,h5⟩
 obtain ⟨v,rfl⟩:=hR e w' h3
 refine af.step hP (tD h2 (og hfr hc)) (fr':=b.at (a.put o.dst v) (.inRegion ops rest::k)) (cs':=cs) (fun τ d=>.one ?_) fun _=>hk v w' h3
 rw [<- bH];exact step_leave_returned (tT h5 τ d)
def jP (md:Region.Mode) (ops:Array Oper):Nat->Array Bool->List (List Nat)
 | 0,_=>[[]]
 | fuel+1,listed=>if Region.ready md ops listed=[] then [[]] else (Region.ready md ops listed).flatMap fun i=>(jP md ops fuel (listed.setIfInBounds i true)).map (i::·)
theorem linearise_go_acc (md:Region.Mode) (ops:Array Oper):∀ (fuel t:Nat) (listed:Array Bool) (acc:List Nat),Region.linearise.go md ops fuel t listed acc=acc.reverse++Region.linearise.go md ops fuel t listed []
 | 0,_,_,acc=>by simp [Region.linearise.go]
 | fuel+1,t,listed,acc=>by
  simp only [Region.linearise.go]
  split
  ·rename_i i hi
   rw [linearise_go_acc md ops fuel _ _ (i::acc),linearise_go_acc md ops fuel _ _ [i]]
   simp
  ·simp
theorem s8 (md:Region.Mode) (ops:Array Oper):∀ (fuel t:Nat) (listed:Array Bool),Region.linearise.go md ops fuel t listed []∈jP md ops fuel listed
 | 0,_,_=>by simp [Region.linearise.go,jP]
 | fuel+1,t,listed=>by
  have hgo:Region.linearise.go md ops (fuel+1) t listed []=(match (Region.ready md ops listed)[t % (Region.ready md ops listed).length]? with
   | some i=>Region.linearise.go md ops fuel (t/(Region.ready md ops listed).length) (listed.setIfInBounds i true) [i]
   | none=>[].reverse):=rfl
  rw [hgo]
  cases hi:(Region.ready md ops listed)[t % (Region.ready md ops listed).length]? with
  | none =>
   have hnil:Region.ready md ops listed=[]:=by
    rcases Nat.eq_zero_or_pos (Region.ready md ops listed).length with h | h
    ·exact List.length_eq_zero_iff.1 h
    ·have:=List.getElem?_eq_none_iff.1 hi
     have:=Nat.mod_lt t h
     omega
   simp [jP,hnil]
  | some i =>
   have hm:i∈Region.ready md ops listed:=List.mem_of_getElem? hi
   have hne:Region.ready md ops listed≠[]:=fun h=>by rw [h] at hm;cases hm
   simp only [jP,if_neg hne]
   rw [linearise_go_acc]
   refine List.mem_flatMap.2 ⟨i,hm,List.mem_map.2 ⟨_,s8 md ops fuel (t/(Region.ready md ops listed).length) _,by simp⟩⟩
theorem schedule_mem (hm:P.follows .mixedOrders=true) (ops:Array Oper) (t:Nat):Region.schedule (P.follows .mixedOrders) ops t∈jP .any ops ops.size (Array.replicate ops.size false):=by
 simp only [Region.schedule,hm,Bool.true_or,if_true]
 exact s8 .any ops _ t _
theorem bZ.nJ {f:FuncId} {fn:Func} {c:Code} {args:Array Value} {R:Ending->World->Prop} (hf:P.funcs[f]? = some fn) (hb:fn.body=some c)
  (h:∀ cs,(∀ fr∈cs,aA fr)->af P (fun g w'=>∃ e fr,g=G fr cs/\aA fr/\R e w'/\fr.fn=f/\fr.leaving P w' e) (G ((base f).at { tmps:=args++Array.replicate (fn.ntmps-args.size) undef,defers:=[] } [.code c]) cs) w):bZ P f args w R:=by
 intro cs bn
 rw [enter_at args hf hb]
 exact h cs bn
theorem af.ret (hP:Plain P) {f:FuncId} {fn:Func} {R:Ending->World->Prop} {v:Value} (hi:∀ it∈k,aR it) (hc:∀ fr∈cs,aA fr) (hf:P.funcs[f]? = some fn) (hd:a.defers=[]) (hr:∀ τ d,(results fn a.tmps).run P (re w τ d)=.ok v (re w τ d)) (hR:∀ τ d,R (.returned v) (re w τ d)) :
  af P (fun g w'=>∃ e fr,g=G fr cs/\aA fr/\R e w'/\fr.fn=f/\fr.leaving P w' e) (G ((base f).at a (.code .ret::k)) cs) w :=
 af.code (Q:=fun e a' w'=>e=.ret/\a'=a/\∃ τ d,w'=re w τ d) (e_.ret hP fun τ d=>⟨rfl,rfl,τ,d,rfl⟩) ⟨hi,hc,fun _ _ _ x=>(by cases x.1),fun _ _ _ x=>(by cases x.1)⟩ fun e a' w' g x y=>by
  obtain ⟨rfl,rfl,τ,d,rfl⟩:=x
  obtain ⟨todo,h3,rfl⟩:=y
  exact .here fun vX d'=>⟨.returned v,_,rfl,h3,hR vX d',rfl,rfl,hd,rfl,fn,hf,hr vX d'⟩
end Lf
end Go.Proofs.YtpbbmagjhkakgaaGreatDoor
