
import Derived.Test.YtpbbmagjhkakgaaGreatDoorLfRelyToEvWait
namespace Go.Proofs.YtpbbmagjhkakgaaGreatDoor.Lf
open Go Go.Conc Go.RowKit
open Go.Proofs (Tryz.f134 Tryz.prog Tryz.func134 Tryz.ntmps134)
variable {main : Bool} {c B : Nat} {M Ro : Nat → Prop}
set_option maxRecDepth 100000 in
set_option maxHeartbeats 1000000 in
theorem verdict_c (H : qJ c B M Ro) (name bV cG at_ : Value) (cu num time : Int) (sb so n cap : Nat) (node : Nat) (arr : Array Value) (m : Nat × Nat) (v : Bool) (T : Nat → Prop) (w : World) (hc : c < w.heap.size) (hs : (T sb ∨ Ro sb) ∧ sb ≠ c ∧ w.heap[sb]? = some (.cells arr 4 m)) (hv : arr[so + node]? = some (.bool v)) (hi : node < n) :
  ic Tryz.prog main (RBw c Ro) (mY c Ro) 134 #[.agg #[name, bV, .int .i64 node, .int .i64 cu, cG], .agg #[.int .i64 num, .int .i64 time, at_, .slice (some ⟨sb, so, none⟩) n cap]] T w fun r T' w' => r = .agg #[.int .i64 num, .int .i64 time, .int .i64 cu, .bool v] ∧ (∀ b, T b → T' b) ∧ RBw c Ro T w w' := by
 have TT := (gI c B M Ro H).tB
 intro Stop cf cs hk
 have hF : HB c Ro T w T w [(sb, .cells arr 4 m)] := .start hc (fun p hp => by simp at hp; subst hp; exact hs)
 rw [enter_at _ Tryz.func134 rfl]
 simp only [Tryz.ntmps134, List.size_toArray, List.length_cons, List.length_nil, Nat.reduceAdd, Nat.reduceSub, Array.replicate_succ, Array.replicate_zero, List.push_toArray, List.append_toArray, List.nil_append, List.cons_append]
 refine RT.seq TT ?_
 refine RT.region TT ?_
 simp only [List.size_toArray, List.length_cons, List.length_nil, Nat.reduceAdd, Nat.zero_add, List.range, List.range.loop]
 refine RT.op rfl (by rfl) (by simp [base]) (fun v1 hR K hK => ?_)
 replace hF := hF.rely hR
 go_simp
 refine hK _ _ ⟨by rw [listed_nil (by simp [go_sem])]; exact mY.alloc _ _ _, ?_⟩
 clear hK K hR
 replace hF := hF.alloc (.cells #[name, bV, .int .i64 node, .int .i64 cu, cG] 183)
 generalize grow _ v1 (v1.alloc (.cells #[name, bV, .int .i64 node, .int .i64 cu, cG] 183)) = T1 at hF ⊢
 generalize a_ : v1.heap.size = b1 at hF ⊢
 generalize v1.alloc (.cells #[name, bV, .int .i64 node, .int .i64 cu, cG] 183) = u1 at hF ⊢
 clear a_ v1
 refine RT.op rfl (by rfl) (by simp [base]) (fun v2 hR K hK => ?_)
 replace hF := hF.rely hR
 go_simp
 refine hK _ _ ⟨by rw [listed_nil (by simp [go_sem])]; exact mY.alloc _ _ _, ?_⟩
 clear hK K hR
 replace hF := hF.alloc (.cells #[.int .i64 num, .int .i64 time, at_, .slice (some ⟨sb, so, none⟩) n cap] 159)
 generalize grow _ v2 (v2.alloc (.cells #[.int .i64 num, .int .i64 time, at_, .slice (some ⟨sb, so, none⟩) n cap] 159)) = T2 at hF ⊢
 generalize cB : v2.heap.size = b2 at hF ⊢
 generalize v2.alloc (.cells #[.int .i64 num, .int .i64 time, at_, .slice (some ⟨sb, so, none⟩) n cap] 159) = u2 at hF ⊢
 clear cB v2
 refine RT.op rfl (by rfl) (by simp [base]) (fun v3 hR K hK => ?_)
 replace hF := hF.rely hR
 go_simp
 refine hK _ _ ⟨by rw [listed_nil (by simp [go_sem])]; exact mY.alloc _ _ _, ?_⟩
 clear hK K hR
 have n_ := hF.fresh
 have ht3 : grow T2 v3 (v3.alloc (.cells #[.int .i64 0, .int .i64 0, .int .i64 0, .bool false] 59)) v3.heap.size := .inr ⟨Nat.le_refl _, by rw [aG]; exact Nat.lt_succ_self _⟩
 replace hF := hF.alloc (.cells #[.int .i64 0, .int .i64 0, .int .i64 0, .bool false] 59)
 generalize grow _ v3 (v3.alloc (.cells #[.int .i64 0, .int .i64 0, .int .i64 0, .bool false] 59)) = T3 at hF ht3 ⊢
 generalize pU : v3.heap.size = b3 at hF n_ ht3 ⊢
 generalize v3.alloc (.cells #[.int .i64 0, .int .i64 0, .int .i64 0, .bool false] 59) = u3 at hF ⊢
 clear pU v3
 refine RT.nil TT ?_
 refine RT.seq TT ?_
 have oF : ∀ (S : Nat → Prop) (x y : World), HB c Ro T w S x [(b2, .cells #[.int .i64 num, .int .i64 time, at_, .slice (some ⟨sb, so, none⟩) n cap] 159), (b1, .cells #[name, bV, .int .i64 node, .int .i64 cu, cG] 183), (sb, .cells arr 4 m)] → RBw c Ro S x y → HB c Ro T w S y [(b2, .cells #[.int .i64 num, .int .i64 time, at_, .slice (some ⟨sb, so, none⟩) n cap] 159), (b1, .cells #[name, bV, .int .i64 node, .int .i64 cu, cG] 183), (sb, .cells arr 4 m)] := fun S x y h r => h.rely r
 let Qv : Act → List Value → (Nat → Prop) → World → Prop := fun a L S w' => ∃ t5 t6 t7 t8 t9 t10 t11 t12 t13 t14 t15, a = { tmps := #[.agg #[name, bV, .int .i64 node, .int .i64 cu, cG], .agg #[.int .i64 num, .int .i64 time, at_, .slice (some ⟨sb, so, none⟩) n cap], .pointer (some ⟨b1, 0, none⟩), .pointer (some ⟨b2, 0, none⟩), .pointer (some ⟨b3, 0, none⟩), t5, t6, t7, t8, t9, t10, t11, t12, t13, t14, t15], defers := [] } ∧ HB c Ro T w S w' [(b3, .cells #[.int .i64 num, .int .i64 time, .int .i64 cu, .bool v] 59)]
 have uk : ∀ a L S x y, Qv a L S x → RBw c Ro S x y → Qv a L S y := by
  rintro a L S x y ⟨t5, t6, t7, t8, t9, t10, t11, t12, t13, t14, t15, h1, h2⟩ r
  exact ⟨t5, t6, t7, t8, t9, t10, t11, t12, t13, t14, t15, h1, h2.rely r⟩
 refine RT.drawn (Stop := fun _ => Stop) (L := []) (c := c) (Q := Qv) (I := fun S w' => HB c Ro T w S w' [(b2, .cells #[.int .i64 num, .int .i64 time, at_, .slice (some ⟨sb, so, none⟩) n cap] 159), (b1, .cells #[name, bV, .int .i64 node, .int .i64 cu, cG] 183), (sb, .cells arr 4 m)]) (fn := 134) (fin := 99) TT (.inl (by intro o ho ch x; simp at ho; rcases ho with rfl | rfl | rfl | rfl | rfl | rfl | rfl | rfl | rfl | rfl | rfl | rfl <;> simp)) rfl (by simp [base]) (by kernel_rfl) (fun a L S w' hq => ?_) (fun w₁ hR => ?_)
 case refine_2 =>
  replace hF := hF.rely hR
  replace hF := hF.rely (w' := { w₁ with drawn := w₁.drawn + 1 }) ⟨Nat.le_refl _, fun _ _ _ _ => rfl⟩
  simp only [List.size_toArray, List.length_cons, List.length_nil, Nat.reduceAdd, Nat.zero_add]
  generalize ({ w₁ with drawn := w₁.drawn + 1 } : World) = x1 at hF ⊢
  have hI : HB c Ro T w _ x1 _ := ⟨hF.sub, hF.keep, hF.lt, fun p hp => hF.facts p (.tail _ hp)⟩
  refine bU TT oF uk 0 (v := ?v0) rfl (by decide +kernel) (by decide +kernel) (by decide +kernel) (by decide +kernel) ⟨by simp, by rfl, fun S' w' hw => ⟨run_eq_of ?r0, ?g0⟩⟩ hI ?_
  case r0 =>
   intro K hK
   go_simp
   exact hK
  case g0 =>
   rw [listed_nil (by simp [go_sem])]; exact TT.idle _ _
  refine bU TT oF uk 1 (v := ?v1) rfl (by decide +kernel) (by decide +kernel) (by decide +kernel) (by decide +kernel) ⟨by simp, by rfl, fun S' w' hw => ⟨run_eq_of ?r1, ?g1⟩⟩ hI ?_
  case r1 =>
   intro K hK
   have kJ := hw.cell (i := 0) (.head _) rfl
   go_simp
   exact hK
  case g1 =>
   have kJ := hw.cell (i := 0) (.head _) rfl
   refine mY.reads fun e he => ?_
   have hm := mem_listed he
   simp [go_sem, *] at hm
   rcases hm with rfl <;> exact hw.read (.head _) rfl
  refine bU TT oF uk 2 (v := ?v2) rfl (by decide +kernel) (by decide +kernel) (by decide +kernel) (by decide +kernel) ⟨by simp, by rfl, fun S' w' hw => ⟨run_eq_of ?r2, ?g2⟩⟩ hI ?_
  case r2 =>
   intro K hK
   go_simp
   exact hK
  case g2 =>
   rw [listed_nil (by simp [go_sem])]; exact TT.idle _ _
  try walk_nrm
  refine bU TT oF uk 3 (v := ?v3) rfl (by decide +kernel) (by decide +kernel) (by decide +kernel) (by decide +kernel) ⟨by simp, by rfl, fun S' w' hw => ⟨run_eq_of ?r3, ?g3⟩⟩ hI ?_
  case r3 =>
   intro K hK
   have kJ := hw.cell (i := 1) (.head _) rfl
   go_simp
   exact hK
  case g3 =>
   have kJ := hw.cell (i := 1) (.head _) rfl
   refine mY.reads fun e he => ?_
   have hm := mem_listed he
   simp [go_sem, *] at hm
   rcases hm with rfl <;> exact hw.read (.head _) rfl
  try walk_nrm
  refine bU TT oF uk 4 (v := ?v4) rfl (by decide +kernel) (by decide +kernel) (by decide +kernel) (by decide +kernel) ⟨by simp, by rfl, fun S' w' hw => ⟨run_eq_of ?r4, ?g4⟩⟩ hI ?_
  case r4 =>
   intro K hK
   go_simp
   exact hK
  case g4 =>
   rw [listed_nil (by simp [go_sem])]; exact TT.idle _ _
  try walk_nrm
  refine bU TT oF uk 5 (v := ?v5) rfl (by decide +kernel) (by decide +kernel) (by decide +kernel) (by decide +kernel) ⟨by simp, by rfl, fun S' w' hw => ⟨run_eq_of ?r5, ?g5⟩⟩ hI ?_
  case r5 =>
   intro K hK
   have kJ := hw.cell (i := 3) (.tail _ (.head _)) rfl
   go_simp
   exact hK
  case g5 =>
   have kJ := hw.cell (i := 3) (.tail _ (.head _)) rfl
   refine mY.reads fun e he => ?_
   have hm := mem_listed he
   simp [go_sem, *] at hm
   rcases hm with rfl <;> exact hw.read (.tail _ (.head _)) rfl
  try walk_nrm
  refine bU TT oF uk 6 (v := ?v6) rfl (by decide +kernel) (by decide +kernel) (by decide +kernel) (by decide +kernel) ⟨by simp, by rfl, fun S' w' hw => ⟨run_eq_of ?r6, ?g6⟩⟩ hI ?_
  case r6 =>
   intro K hK
   have kJ := hw.cell (i := 0) (.head _) rfl
   have hc2 := hw.cell (i := 1) (.head _) rfl
   have r_ := hw.cell (i := 2) (.head _) rfl
   have hc4 := hw.cell (i := 3) (.head _) rfl
   go_simp
   exact hK
  case g6 =>
   have kJ := hw.cell (i := 0) (.head _) rfl
   have hc2 := hw.cell (i := 1) (.head _) rfl
   have r_ := hw.cell (i := 2) (.head _) rfl
   have hc4 := hw.cell (i := 3) (.head _) rfl
   refine mY.reads fun e he => ?_
   have hm := mem_listed he
   simp [go_sem, *] at hm
   rcases hm with rfl | rfl | rfl | rfl <;> exact hw.read (.head _) rfl
  try walk_nrm
  refine bU TT oF uk 7 (v := ?v7) rfl (by decide +kernel) (by decide +kernel) (by decide +kernel) (by decide +kernel) ⟨by simp, by rfl, fun S' w' hw => ⟨run_eq_of ?r7, ?g7⟩⟩ hI ?_
  case r7 =>
   intro K hK
   go_simp
   exact hK
  case g7 =>
   rw [listed_nil (by simp [go_sem])]; exact TT.idle _ _
  try walk_nrm
  refine bU TT oF uk 8 (v := ?v8) rfl (by decide +kernel) (by decide +kernel) (by decide +kernel) (by decide +kernel) ⟨by simp, by rfl, fun S' w' hw => ⟨run_eq_of ?r8, ?g8⟩⟩ hI ?_
  case r8 =>
   intro K hK
   have kJ := hw.cell (i := 2) (.tail _ (.head _)) rfl
   go_simp
   exact hK
  case g8 =>
   have kJ := hw.cell (i := 2) (.tail _ (.head _)) rfl
   refine mY.reads fun e he => ?_
   have hm := mem_listed he
   simp [go_sem, *] at hm
   rcases hm with rfl <;> exact hw.read (.tail _ (.head _)) rfl
  try walk_nrm
  refine gu (i := 9) (by decide +kernel) (pj.call TT rfl (by rfl) rfl Go.Proofs.Tryz.func170 (by rfl) rfl (fun bF hR2 => ?_))
  replace hF := hF.rely hR2
  simp only [List.map_toArray, List.map_cons, List.map_nil]
  change ic Tryz.prog main (RBw c Ro) (mY c Ro) 170 #[.agg #[.int .i64 num, .int .i64 time, at_, .slice (some ⟨sb, so, none⟩) n cap], .int .i64 node] _ bF _
  refine ic.mono (says_c H (.int .i64 num) (.int .i64 time) at_ sb so n cap node arr m v _ bF hF.lt (hF.facts _ (.tail _ (.tail _ (.tail _ (.head _))))) hv hi) ?_
  rintro r S' w3 ⟨rfl, qp, hr'⟩
  replace hF := hF.call qp hr'
  refine ⟨fun _ => ⟨hF.sub, hF.keep, hF.lt, fun p hp => hF.facts p (.tail _ hp)⟩, ?_⟩
  try walk_nrm
  refine gu (i := 10) (by decide +kernel) (pj.op rfl (by rfl) (by simp) (fun w₄ hR4 K hK => ?_))
  replace hF := hF.rely hR4
  go_simp
  refine hK _ _ ⟨by rw [listed_nil (by simp [go_sem])]; exact TT.idle _ _, ?_⟩
  clear hK K
  rw [aD]
  refine ⟨fun _ => ⟨hF.sub, hF.keep, hF.lt, fun p hp => hF.facts p (.tail _ hp)⟩, ?_⟩
  try walk_nrm
  refine gu (i := 11) (by decide +kernel) (pj.op rfl (by rfl) (by simp) (fun w₅ hR5 K hK => ?_))
  replace hF := hF.rely hR5
  have hb := hF.get (.head _)
  have lj := hF.cell (i := 0) (.head _) rfl
  have kJ := hF.cell (i := 1) (.head _) rfl
  have hc2 := hF.cell (i := 2) (.head _) rfl
  have r_ := hF.cell (i := 3) (.head _) rfl
  have hz : ∀ i, w₅.frozen? ⟨b3, i, none⟩ = false := fun i => by simp [World.frozen?, hb]
  go_simp
  refine hK _ _ ⟨?_, ?_⟩
  ·refine mY.sets (b := b3) (qp _ ht3) (by simp only [cn]) (fun k hk => (aT _ _ _ hk).trans ((aT _ _ _ hk).trans ((aT _ _ _ hk).trans (aT _ _ _ hk)))) rfl rfl rfl (fun e he => ?_)
   have hm := mem_listed he
   simp [go_sem, events_store (v := Value.bool v) (hv := rfl), *] at hm
   rcases hm with rfl | rfl | rfl | rfl <;> exact ⟨_, rfl, rfl⟩
  clear hK K
  rw [l7 _ (by simp only [cn])]
  replace hF := (((hF.set (i := 0) (v := .int .i64 num) n_.1 n_.2).set (i := 1) (v := .int .i64 time) n_.1 n_.2).set (i := 2) (v := .int .i64 cu) n_.1 n_.2).set (i := 3) (v := .bool v) n_.1 n_.2
  refine ⟨fun _ => ⟨hF.sub, hF.keep, hF.lt, fun p hp => hF.facts p (.tail _ hp)⟩, ?_⟩
  exact anyR_done (by decide +kernel) ⟨_, _, _, _, _, _, _, _, _, _, _, rfl, hF.sub, hF.keep, hF.lt, fun p hp => by simp at hp; subst hp; exact hF.facts _ (.head _)⟩ _
 obtain ⟨t5, t6, t7, t8, t9, t10, t11, t12, t13, t14, t15, rfl, hG⟩ := hq
 refine RT.ret TT ?_
 refine RT.leave TT (v := .agg #[.int .i64 num, .int .i64 time, .int .i64 cu, .bool v]) rfl rfl Tryz.func134 (fun w₉ hR9 => ?_) (hk _ _ _ ⟨rfl, hG.sub, hG.keep⟩)
 replace hG := hG.rely hR9
 have lj := hG.cell (i := 0) (.head _) rfl
 have kJ := hG.cell (i := 1) (.head _) rfl
 have hc2 := hG.cell (i := 2) (.head _) rfl
 have r_ := hG.cell (i := 3) (.head _) rfl
 have hload : (loadVar 59 ⟨b3, 0, none⟩).run Tryz.prog w₉ = .ok (.agg #[.int .i64 num, .int .i64 time, .int .i64 cu, .bool v]) w₉ := by
  simp [go_sem, loadVar, *]
 obtain ⟨e1, e2⟩ := results_cell (P := Tryz.prog) (fn := Tryz.f134) (a := 4) (t := 59) rfl (tmps := #[.agg #[name, bV, .int .i64 node, .int .i64 cu, cG], .agg #[.int .i64 num, .int .i64 time, at_, .slice (some ⟨sb, so, none⟩) n cap], .pointer (some ⟨b1, 0, none⟩), .pointer (some ⟨b2, 0, none⟩), .pointer (some ⟨b3, 0, none⟩), t5, t6, t7, t8, t9, t10, t11, t12, t13, t14, t15]) rfl hload
 refine ⟨e1, ?_⟩
 rw [e2]
 refine mY.reads fun e he => ?_
 have hm := mem_seen he
 simp [go_sem, loadVar, *] at hm
 rcases hm with rfl | rfl | rfl | rfl <;> exact hG.read (.head _) rfl
end Go.Proofs.YtpbbmagjhkakgaaGreatDoor.Lf
