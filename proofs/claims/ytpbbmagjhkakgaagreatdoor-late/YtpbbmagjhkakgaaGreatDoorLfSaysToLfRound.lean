import Derived.Test.YtpbbmagjhkakgaaGreatDoorLfTerrToLfTake
import Derived.Test.YtpbbmagjhkakgaaGreatDoorShelfToPureScan
import Derived.Test.YtpbbmagjhkakgaaGreatDoorLfScriptToLfTaken
import Derived.Test.YtpbbmagjhkakgaaGreatDoorProg
import Derived.Conc.DeferLaws
namespace Go.Proofs.YtpbbmagjhkakgaaGreatDoor.Lf
open Go Go.Conc Go.RowKit
open Go.Proofs (Tryz.f170 Tryz.prog Tryz.func170 Tryz.ntmps170)
variable {main : Bool} {c B : Nat} {M Ro : Nat → Prop}
set_option maxRecDepth 100000 in
theorem says_c (H : Terr c B M Ro) (num time at_ : Value) (sb so n cap : Nat) (i : Nat) (arr : Array Value) (m : Nat × Nat) (v : Bool) (T : Nat → Prop) (w : World) (hc : c < w.heap.size) (hs : (T sb ∨ Ro sb) ∧ sb ≠ c ∧ w.heap[sb]? = some (.cells arr 4 m)) (hv : arr[so + i]? = some (.bool v)) (hi : i < n) :
  RCalls Tryz.prog main (RBw c Ro) (DBw c Ro) 170 #[.agg #[num, time, at_, .slice (some ⟨sb, so, none⟩) n cap], .int .i64 i] T w fun r T' w' => r = .bool v ∧ (∀ b, T b → T' b) ∧ RBw c Ro T w w' := by
 have TT := (the_pair c B M Ro H).tB
 intro Stop cf cs hk
 have hF : HB c Ro T w T w [(sb, .cells arr 4 m)] := .start hc (fun p hp => by simp at hp; subst hp; exact hs)
 rw [enter_at _ Tryz.func170 rfl]
 simp only [Tryz.ntmps170, List.size_toArray, List.length_cons, List.length_nil, Nat.reduceAdd, Nat.reduceSub, Array.replicate_succ, Array.replicate_zero, List.push_toArray, List.append_toArray, List.nil_append, List.cons_append]
 refine RT.seq TT ?_
 refine RT.region TT ?_
 simp only [List.size_toArray, List.length_cons, List.length_nil, Nat.reduceAdd, Nat.zero_add, List.range, List.range.loop]
 refine RT.op rfl (by rfl) (by simp [base]) (fun v1 hR K hK => ?_)
 replace hF := hF.rely hR
 go_simp
 refine hK _ _ ⟨by rw [listed_nil (by simp [go_sem])]; exact DBw.alloc _ _ _, ?_⟩
 clear hK K hR
 replace hF := hF.alloc (.cells #[num, time, at_, .slice (some ⟨sb, so, none⟩) n cap] 159)
 generalize grow _ v1 (v1.alloc (.cells #[num, time, at_, .slice (some ⟨sb, so, none⟩) n cap] 159)) = T1 at hF ⊢
 generalize hb1 : v1.heap.size = b1 at hF ⊢
 generalize v1.alloc (.cells #[num, time, at_, .slice (some ⟨sb, so, none⟩) n cap] 159) = u1 at hF ⊢
 clear hb1 v1
 refine RT.op rfl (by rfl) (by simp [base]) (fun v2 hR K hK => ?_)
 replace hF := hF.rely hR
 go_simp
 refine hK _ _ ⟨by rw [listed_nil (by simp [go_sem])]; exact TT.idle _ _, ?_⟩
 clear hK K hR
 rw [grow_self]
 refine RT.nil TT ?_
 refine RT.seq TT ?_
 refine RT.region TT ?_
 simp only [List.size_toArray, List.length_cons, List.length_nil, Nat.reduceAdd, Nat.zero_add, List.range, List.range.loop]
 refine RT.op rfl (by rfl) (by simp [base]) (fun v3 hR K hK => ?_)
 replace hF := hF.rely hR
 go_simp
 refine hK _ _ ⟨by rw [listed_nil (by simp [go_sem])]; exact TT.idle _ _, ?_⟩
 clear hK K hR
 rw [grow_self]
 refine RT.op rfl (by rfl) (by simp [base]) (fun v4 hR K hK => ?_)
 replace hF := hF.rely hR
 have hc1 := hF.cell (i := 3) (.head _) rfl
 go_simp
 refine hK _ _ ⟨?_, ?_⟩
 ·refine DBw.reads fun e he => ?_
  have hm := mem_listed he
  simp [go_sem, *] at hm
  rcases hm with rfl <;> exact hF.read (.head _) rfl
 clear hK K hR
 rw [grow_self]
 refine RT.op rfl (by rfl) (by simp [base]) (fun v5 hR K hK => ?_)
 replace hF := hF.rely hR
 go_simp
 refine hK _ _ ⟨by rw [listed_nil (by simp [go_sem])]; exact TT.idle _ _, ?_⟩
 clear hK K hR
 rw [grow_self]
 refine RT.op rfl (by rfl) (by simp [base]) (fun v6 hR K hK => ?_)
 replace hF := hF.rely hR
 have hi' : (i : Int) < (n : Int) := by omega
 go_simp
 refine hK _ _ ⟨by rw [listed_nil (by simp [go_sem, *])]; exact TT.idle _ _, ?_⟩
 clear hK K hR
 rw [grow_self]
 refine RT.op rfl (by rfl) (by simp [base]) (fun v7 hR K hK => ?_)
 replace hF := hF.rely hR
 have hc2 := hF.cell (i := so + i) (.tail _ (.head _)) hv
 go_simp
 refine hK _ _ ⟨?_, ?_⟩
 ·refine DBw.reads fun e he => ?_
  have hm := mem_listed he
  simp [go_sem, *] at hm
  rcases hm with rfl <;> exact hF.read (.tail _ (.head _)) rfl
 clear hK K hR
 rw [grow_self]
 refine RT.op rfl (by rfl) (by simp [base]) (fun v8 hR K hK => ?_)
 replace hF := hF.rely hR
 go_simp
 refine hK _ _ ⟨by rw [listed_nil (by simp [go_sem])]; exact TT.idle _ _, ?_⟩
 clear hK K hR
 rw [grow_self]
 refine RT.nil TT ?_
 refine RT.ret TT ?_
 refine RT.leave TT (v := .bool v) rfl rfl Tryz.func170 (fun v9 _ => ?_) (hk _ _ _ ⟨rfl, hF.sub, hF.keep⟩)
 rw [events_results_tmp rfl, seen_none]
 exact ⟨results_tmp (fn := Tryz.f170) (t := 4) rfl _ _ _, TT.idle _ _⟩
end Go.Proofs.YtpbbmagjhkakgaaGreatDoor.Lf
namespace Go.Proofs.YtpbbmagjhkakgaaGreatDoor.Lf
open Go Go.Conc Go.RowKit
open Go.Proofs (Tryz.f134 Tryz.prog Tryz.func134 Tryz.ntmps134)
variable {main : Bool} {c B : Nat} {M Ro : Nat → Prop}
set_option maxRecDepth 100000 in
set_option maxHeartbeats 1000000 in
theorem verdict_c (H : Terr c B M Ro) (name sent strm at_ : Value) (ver num time : Int) (sb so n cap : Nat) (node : Nat) (arr : Array Value) (m : Nat × Nat) (v : Bool) (T : Nat → Prop) (w : World) (hc : c < w.heap.size) (hs : (T sb ∨ Ro sb) ∧ sb ≠ c ∧ w.heap[sb]? = some (.cells arr 4 m)) (hv : arr[so + node]? = some (.bool v)) (hi : node < n) :
  RCalls Tryz.prog main (RBw c Ro) (DBw c Ro) 134 #[.agg #[name, sent, .int .i64 node, .int .i64 ver, strm], .agg #[.int .i64 num, .int .i64 time, at_, .slice (some ⟨sb, so, none⟩) n cap]] T w fun r T' w' => r = .agg #[.int .i64 num, .int .i64 time, .int .i64 ver, .bool v] ∧ (∀ b, T b → T' b) ∧ RBw c Ro T w w' := by
 have TT := (the_pair c B M Ro H).tB
 intro Stop cf cs hk
 have hF : HB c Ro T w T w [(sb, .cells arr 4 m)] := .start hc (fun p hp => by simp at hp; subst hp; exact hs)
 rw [enter_at _ Tryz.func134 rfl]
 simp only [Tryz.ntmps134, List.size_toArray, List.length_cons, List.length_nil, Nat.reduceAdd, Nat.reduceSub, Array.replicate_succ, Array.replicate_zero, List.push_toArray, List.append_toArray, List.nil_append, List.cons_append]
 refine RT.seq TT ?_
 refine RT.region TT ?_
 simp only [List.size_toArray, List.length_cons, List.length_nil, Nat.reduceAdd, Nat.zero_add, List.range, List.range.loop]
 refine RT.op rfl (by rfl) (by simp [base]) (fun v1 hR K hK => ?_)
 replace hF := hF.rely hR
 go_simp
 refine hK _ _ ⟨by rw [listed_nil (by simp [go_sem])]; exact DBw.alloc _ _ _, ?_⟩
 clear hK K hR
 replace hF := hF.alloc (.cells #[name, sent, .int .i64 node, .int .i64 ver, strm] 183)
 generalize grow _ v1 (v1.alloc (.cells #[name, sent, .int .i64 node, .int .i64 ver, strm] 183)) = T1 at hF ⊢
 generalize hb1 : v1.heap.size = b1 at hF ⊢
 generalize v1.alloc (.cells #[name, sent, .int .i64 node, .int .i64 ver, strm] 183) = u1 at hF ⊢
 clear hb1 v1
 refine RT.op rfl (by rfl) (by simp [base]) (fun v2 hR K hK => ?_)
 replace hF := hF.rely hR
 go_simp
 refine hK _ _ ⟨by rw [listed_nil (by simp [go_sem])]; exact DBw.alloc _ _ _, ?_⟩
 clear hK K hR
 replace hF := hF.alloc (.cells #[.int .i64 num, .int .i64 time, at_, .slice (some ⟨sb, so, none⟩) n cap] 159)
 generalize grow _ v2 (v2.alloc (.cells #[.int .i64 num, .int .i64 time, at_, .slice (some ⟨sb, so, none⟩) n cap] 159)) = T2 at hF ⊢
 generalize hb2 : v2.heap.size = b2 at hF ⊢
 generalize v2.alloc (.cells #[.int .i64 num, .int .i64 time, at_, .slice (some ⟨sb, so, none⟩) n cap] 159) = u2 at hF ⊢
 clear hb2 v2
 refine RT.op rfl (by rfl) (by simp [base]) (fun v3 hR K hK => ?_)
 replace hF := hF.rely hR
 go_simp
 refine hK _ _ ⟨by rw [listed_nil (by simp [go_sem])]; exact DBw.alloc _ _ _, ?_⟩
 clear hK K hR
 have ho3 := hF.fresh
 have ht3 : grow T2 v3 (v3.alloc (.cells #[.int .i64 0, .int .i64 0, .int .i64 0, .bool false] 59)) v3.heap.size := .inr ⟨Nat.le_refl _, by rw [alloc_size]; exact Nat.lt_succ_self _⟩
 replace hF := hF.alloc (.cells #[.int .i64 0, .int .i64 0, .int .i64 0, .bool false] 59)
 generalize grow _ v3 (v3.alloc (.cells #[.int .i64 0, .int .i64 0, .int .i64 0, .bool false] 59)) = T3 at hF ht3 ⊢
 generalize hb3 : v3.heap.size = b3 at hF ho3 ht3 ⊢
 generalize v3.alloc (.cells #[.int .i64 0, .int .i64 0, .int .i64 0, .bool false] 59) = u3 at hF ⊢
 clear hb3 v3
 refine RT.nil TT ?_
 refine RT.seq TT ?_
 have hIR : ∀ (S : Nat → Prop) (x y : World), HB c Ro T w S x [(b2, .cells #[.int .i64 num, .int .i64 time, at_, .slice (some ⟨sb, so, none⟩) n cap] 159), (b1, .cells #[name, sent, .int .i64 node, .int .i64 ver, strm] 183), (sb, .cells arr 4 m)] → RBw c Ro S x y → HB c Ro T w S y [(b2, .cells #[.int .i64 num, .int .i64 time, at_, .slice (some ⟨sb, so, none⟩) n cap] 159), (b1, .cells #[name, sent, .int .i64 node, .int .i64 ver, strm] 183), (sb, .cells arr 4 m)] := fun S x y h r => h.rely r
 let Qv : Act → List Value → (Nat → Prop) → World → Prop := fun a L S w' => ∃ t5 t6 t7 t8 t9 t10 t11 t12 t13 t14 t15, a = { tmps := #[.agg #[name, sent, .int .i64 node, .int .i64 ver, strm], .agg #[.int .i64 num, .int .i64 time, at_, .slice (some ⟨sb, so, none⟩) n cap], .pointer (some ⟨b1, 0, none⟩), .pointer (some ⟨b2, 0, none⟩), .pointer (some ⟨b3, 0, none⟩), t5, t6, t7, t8, t9, t10, t11, t12, t13, t14, t15], defers := [] } ∧ HB c Ro T w S w' [(b3, .cells #[.int .i64 num, .int .i64 time, .int .i64 ver, .bool v] 59)]
 have hQR : ∀ a L S x y, Qv a L S x → RBw c Ro S x y → Qv a L S y := by
  rintro a L S x y ⟨t5, t6, t7, t8, t9, t10, t11, t12, t13, t14, t15, h1, h2⟩ r
  exact ⟨t5, t6, t7, t8, t9, t10, t11, t12, t13, t14, t15, h1, h2.rely r⟩
 refine RT.drawn (Stop := fun _ => Stop) (L := []) (c := c) (Q := Qv) (I := fun S w' => HB c Ro T w S w' [(b2, .cells #[.int .i64 num, .int .i64 time, at_, .slice (some ⟨sb, so, none⟩) n cap] 159), (b1, .cells #[name, sent, .int .i64 node, .int .i64 ver, strm] 183), (sb, .cells arr 4 m)]) (fn := 134) (fin := 99) TT (.inl (by intro o ho ch x; simp at ho; rcases ho with rfl | rfl | rfl | rfl | rfl | rfl | rfl | rfl | rfl | rfl | rfl | rfl <;> simp)) rfl (by simp [base]) (by kernel_rfl) (fun a L S w' hq => ?_) (fun w₁ hR => ?_)
 case refine_2 =>
  replace hF := hF.rely hR
  replace hF := hF.rely (w' := { w₁ with drawn := w₁.drawn + 1 }) ⟨Nat.le_refl _, fun _ _ _ _ => rfl⟩
  simp only [List.size_toArray, List.length_cons, List.length_nil, Nat.reduceAdd, Nat.zero_add]
  generalize ({ w₁ with drawn := w₁.drawn + 1 } : World) = x1 at hF ⊢
  have hI : HB c Ro T w _ x1 _ := ⟨hF.sub, hF.keep, hF.lt, fun p hp => hF.facts p (.tail _ hp)⟩
  refine anyR_take TT hIR hQR 0 (v := ?v0) rfl (by decide +kernel) (by decide +kernel) (by decide +kernel) (by decide +kernel) ⟨by simp, by rfl, fun S' w' hw => ⟨run_eq_of ?r0, ?g0⟩⟩ hI ?_
  case r0 =>
   intro K hK
   go_simp
   exact hK
  case g0 =>
   rw [listed_nil (by simp [go_sem])]; exact TT.idle _ _
  refine anyR_take TT hIR hQR 1 (v := ?v1) rfl (by decide +kernel) (by decide +kernel) (by decide +kernel) (by decide +kernel) ⟨by simp, by rfl, fun S' w' hw => ⟨run_eq_of ?r1, ?g1⟩⟩ hI ?_
  case r1 =>
   intro K hK
   have hc1 := hw.cell (i := 0) (.head _) rfl
   go_simp
   exact hK
  case g1 =>
   have hc1 := hw.cell (i := 0) (.head _) rfl
   refine DBw.reads fun e he => ?_
   have hm := mem_listed he
   simp [go_sem, *] at hm
   rcases hm with rfl <;> exact hw.read (.head _) rfl
  refine anyR_take TT hIR hQR 2 (v := ?v2) rfl (by decide +kernel) (by decide +kernel) (by decide +kernel) (by decide +kernel) ⟨by simp, by rfl, fun S' w' hw => ⟨run_eq_of ?r2, ?g2⟩⟩ hI ?_
  case r2 =>
   intro K hK
   go_simp
   exact hK
  case g2 =>
   rw [listed_nil (by simp [go_sem])]; exact TT.idle _ _
  try walk_nrm
  refine anyR_take TT hIR hQR 3 (v := ?v3) rfl (by decide +kernel) (by decide +kernel) (by decide +kernel) (by decide +kernel) ⟨by simp, by rfl, fun S' w' hw => ⟨run_eq_of ?r3, ?g3⟩⟩ hI ?_
  case r3 =>
   intro K hK
   have hc1 := hw.cell (i := 1) (.head _) rfl
   go_simp
   exact hK
  case g3 =>
   have hc1 := hw.cell (i := 1) (.head _) rfl
   refine DBw.reads fun e he => ?_
   have hm := mem_listed he
   simp [go_sem, *] at hm
   rcases hm with rfl <;> exact hw.read (.head _) rfl
  try walk_nrm
  refine anyR_take TT hIR hQR 4 (v := ?v4) rfl (by decide +kernel) (by decide +kernel) (by decide +kernel) (by decide +kernel) ⟨by simp, by rfl, fun S' w' hw => ⟨run_eq_of ?r4, ?g4⟩⟩ hI ?_
  case r4 =>
   intro K hK
   go_simp
   exact hK
  case g4 =>
   rw [listed_nil (by simp [go_sem])]; exact TT.idle _ _
  try walk_nrm
  refine anyR_take TT hIR hQR 5 (v := ?v5) rfl (by decide +kernel) (by decide +kernel) (by decide +kernel) (by decide +kernel) ⟨by simp, by rfl, fun S' w' hw => ⟨run_eq_of ?r5, ?g5⟩⟩ hI ?_
  case r5 =>
   intro K hK
   have hc1 := hw.cell (i := 3) (.tail _ (.head _)) rfl
   go_simp
   exact hK
  case g5 =>
   have hc1 := hw.cell (i := 3) (.tail _ (.head _)) rfl
   refine DBw.reads fun e he => ?_
   have hm := mem_listed he
   simp [go_sem, *] at hm
   rcases hm with rfl <;> exact hw.read (.tail _ (.head _)) rfl
  try walk_nrm
  refine anyR_take TT hIR hQR 6 (v := ?v6) rfl (by decide +kernel) (by decide +kernel) (by decide +kernel) (by decide +kernel) ⟨by simp, by rfl, fun S' w' hw => ⟨run_eq_of ?r6, ?g6⟩⟩ hI ?_
  case r6 =>
   intro K hK
   have hc1 := hw.cell (i := 0) (.head _) rfl
   have hc2 := hw.cell (i := 1) (.head _) rfl
   have hc3 := hw.cell (i := 2) (.head _) rfl
   have hc4 := hw.cell (i := 3) (.head _) rfl
   go_simp
   exact hK
  case g6 =>
   have hc1 := hw.cell (i := 0) (.head _) rfl
   have hc2 := hw.cell (i := 1) (.head _) rfl
   have hc3 := hw.cell (i := 2) (.head _) rfl
   have hc4 := hw.cell (i := 3) (.head _) rfl
   refine DBw.reads fun e he => ?_
   have hm := mem_listed he
   simp [go_sem, *] at hm
   rcases hm with rfl | rfl | rfl | rfl <;> exact hw.read (.head _) rfl
  try walk_nrm
  refine anyR_take TT hIR hQR 7 (v := ?v7) rfl (by decide +kernel) (by decide +kernel) (by decide +kernel) (by decide +kernel) ⟨by simp, by rfl, fun S' w' hw => ⟨run_eq_of ?r7, ?g7⟩⟩ hI ?_
  case r7 =>
   intro K hK
   go_simp
   exact hK
  case g7 =>
   rw [listed_nil (by simp [go_sem])]; exact TT.idle _ _
  try walk_nrm
  refine anyR_take TT hIR hQR 8 (v := ?v8) rfl (by decide +kernel) (by decide +kernel) (by decide +kernel) (by decide +kernel) ⟨by simp, by rfl, fun S' w' hw => ⟨run_eq_of ?r8, ?g8⟩⟩ hI ?_
  case r8 =>
   intro K hK
   have hc1 := hw.cell (i := 2) (.tail _ (.head _)) rfl
   go_simp
   exact hK
  case g8 =>
   have hc1 := hw.cell (i := 2) (.tail _ (.head _)) rfl
   refine DBw.reads fun e he => ?_
   have hm := mem_listed he
   simp [go_sem, *] at hm
   rcases hm with rfl <;> exact hw.read (.tail _ (.head _)) rfl
  try walk_nrm
  refine anyR_one (i := 9) (by decide +kernel) (OpR.call TT rfl (by rfl) rfl Go.Proofs.Tryz.func170 (by rfl) rfl (fun w₂ hR2 => ?_))
  replace hF := hF.rely hR2
  simp only [List.map_toArray, List.map_cons, List.map_nil]
  change RCalls Tryz.prog main (RBw c Ro) (DBw c Ro) 170 #[.agg #[.int .i64 num, .int .i64 time, at_, .slice (some ⟨sb, so, none⟩) n cap], .int .i64 node] _ w₂ _
  refine RCalls.mono (says_c H (.int .i64 num) (.int .i64 time) at_ sb so n cap node arr m v _ w₂ hF.lt (hF.facts _ (.tail _ (.tail _ (.tail _ (.head _))))) hv hi) ?_
  rintro r S' w3 ⟨rfl, hs', hr'⟩
  replace hF := hF.call hs' hr'
  refine ⟨fun _ => ⟨hF.sub, hF.keep, hF.lt, fun p hp => hF.facts p (.tail _ hp)⟩, ?_⟩
  try walk_nrm
  refine anyR_one (i := 10) (by decide +kernel) (OpR.op rfl (by rfl) (by simp) (fun w₄ hR4 K hK => ?_))
  replace hF := hF.rely hR4
  go_simp
  refine hK _ _ ⟨by rw [listed_nil (by simp [go_sem])]; exact TT.idle _ _, ?_⟩
  clear hK K
  rw [grow_self]
  refine ⟨fun _ => ⟨hF.sub, hF.keep, hF.lt, fun p hp => hF.facts p (.tail _ hp)⟩, ?_⟩
  try walk_nrm
  refine anyR_one (i := 11) (by decide +kernel) (OpR.op rfl (by rfl) (by simp) (fun w₅ hR5 K hK => ?_))
  replace hF := hF.rely hR5
  have hb := hF.get (.head _)
  have hc0 := hF.cell (i := 0) (.head _) rfl
  have hc1 := hF.cell (i := 1) (.head _) rfl
  have hc2 := hF.cell (i := 2) (.head _) rfl
  have hc3 := hF.cell (i := 3) (.head _) rfl
  have hz : ∀ i, w₅.frozen? ⟨b3, i, none⟩ = false := fun i => by simp [World.frozen?, hb]
  go_simp
  refine hK _ _ ⟨?_, ?_⟩
  ·refine DBw.sets (b := b3) (hs' _ ht3) (by simp only [setCell_size]) (fun k hk => (setCell_other _ _ _ hk).trans ((setCell_other _ _ _ hk).trans ((setCell_other _ _ _ hk).trans (setCell_other _ _ _ hk)))) rfl rfl rfl (fun e he => ?_)
   have hm := mem_listed he
   simp [go_sem, events_store (v := Value.bool v) (hv := rfl), *] at hm
   rcases hm with rfl | rfl | rfl | rfl <;> exact ⟨_, rfl, rfl⟩
  clear hK K
  rw [grow_same _ (by simp only [setCell_size])]
  replace hF := (((hF.set (i := 0) (v := .int .i64 num) ho3.1 ho3.2).set (i := 1) (v := .int .i64 time) ho3.1 ho3.2).set (i := 2) (v := .int .i64 ver) ho3.1 ho3.2).set (i := 3) (v := .bool v) ho3.1 ho3.2
  refine ⟨fun _ => ⟨hF.sub, hF.keep, hF.lt, fun p hp => hF.facts p (.tail _ hp)⟩, ?_⟩
  exact anyR_done (by decide +kernel) ⟨_, _, _, _, _, _, _, _, _, _, _, rfl, hF.sub, hF.keep, hF.lt, fun p hp => by simp at hp; subst hp; exact hF.facts _ (.head _)⟩ _
 obtain ⟨t5, t6, t7, t8, t9, t10, t11, t12, t13, t14, t15, rfl, hG⟩ := hq
 refine RT.ret TT ?_
 refine RT.leave TT (v := .agg #[.int .i64 num, .int .i64 time, .int .i64 ver, .bool v]) rfl rfl Tryz.func134 (fun w₉ hR9 => ?_) (hk _ _ _ ⟨rfl, hG.sub, hG.keep⟩)
 replace hG := hG.rely hR9
 have hc0 := hG.cell (i := 0) (.head _) rfl
 have hc1 := hG.cell (i := 1) (.head _) rfl
 have hc2 := hG.cell (i := 2) (.head _) rfl
 have hc3 := hG.cell (i := 3) (.head _) rfl
 have hload : (loadVar 59 ⟨b3, 0, none⟩).run Tryz.prog w₉ = .ok (.agg #[.int .i64 num, .int .i64 time, .int .i64 ver, .bool v]) w₉ := by
  simp [go_sem, loadVar, *]
 obtain ⟨e1, e2⟩ := results_cell (P := Tryz.prog) (fn := Tryz.f134) (a := 4) (t := 59) rfl (tmps := #[.agg #[name, sent, .int .i64 node, .int .i64 ver, strm], .agg #[.int .i64 num, .int .i64 time, at_, .slice (some ⟨sb, so, none⟩) n cap], .pointer (some ⟨b1, 0, none⟩), .pointer (some ⟨b2, 0, none⟩), .pointer (some ⟨b3, 0, none⟩), t5, t6, t7, t8, t9, t10, t11, t12, t13, t14, t15]) rfl hload
 refine ⟨e1, ?_⟩
 rw [e2]
 refine DBw.reads fun e he => ?_
 have hm := mem_seen he
 simp [go_sem, loadVar, *] at hm
 rcases hm with rfl | rfl | rfl | rfl <;> exact hG.read (.head _) rfl
end Go.Proofs.YtpbbmagjhkakgaaGreatDoor.Lf
namespace Go.Proofs.YtpbbmagjhkakgaaGreatDoor.Lf
open Go Go.Conc Go.RowKit
open Go.Proofs (Tryz.f133 Tryz.prog Tryz.func133 Tryz.ntmps133)
theorem RT.defer {P:Program} {main:Bool} {R:(Nat->Prop)->World->World->Prop} {D:(Nat->Prop)->World->World->Array Event->Prop} {Stop:(Nat->Prop)->Goroutine->World->Prop} {S:Nat->Prop} {b:Frame} {a:Act} {k:List Item} {cs:List Frame} {w:World} (T:TermsG R D) {ops:Array Oper} {i:Nat} {rest:List Nat} {o:Oper} (ho:ops[i]? = some o) (hw:Region.wanted o (yielded ops a.tmps)=true) (hk:b.kind≠.early) (d:Deferred)
  (hr:∀ w₁,(execOp a.eval o).run P w₁=.ok (.defer d) w₁) (he:∀ w₁,(execOp a.eval o).events P w₁ #[]=#[]) (h:RT P main R D Stop S (G (b.at (Act.put ⟨a.tmps,d::a.defers⟩ o.dst undef) (.inRegion ops rest::k)) cs) w) :
  RT P main R D Stop S (G (b.at a (.inRegion ops (i::rest)::k)) cs) w:=by
 refine .one rfl fun w₁ h₁=>?_
 have hfin:(b.at ⟨a.tmps,d::a.defers⟩ (.inRegion ops (i::rest)::k)).finish undef=b.at (Act.put ⟨a.tmps,d::a.defers⟩ o.dst undef) (.inRegion ops rest::k):=by rw [Frame.finish_at,ho];rfl
 have hk':(b.kind==CallKind.early)=false:=by simpa using hk
 have hst:stepG P main (G (b.at a (.inRegion ops (i::rest)::k)) cs) w₁=.go (G (b.at (Act.put ⟨a.tmps,d::a.defers⟩ o.dst undef) (.inRegion ops rest::k)) cs) w₁ #[]:=by
  rw [stepG_oper ho hw,<- hfin]
  simp [stepG.apply,hr,he,G,Frame.at,hk',GStep.after,seen_none]
 rw [hst,goes_go,grow_self]
 exact ⟨T.idle _ _,h.rely T h₁⟩
noncomputable def bot:Frame:={ (default:Frame) with fn:=Tryz.prog.funcs.size,defers:=[],mode:=.panicking [goexitEntry] }
def call133 (p5 p2 p3:Nat):Deferred:={ target:=.fn (.func 133) #[.pointer (some ⟨p5,0,none⟩),.pointer (some ⟨p2,0,none⟩),.pointer (some ⟨p3,0,none⟩)],args:=#[] }
noncomputable def body133:Code:=Tryz.f133.body.getD .skip
theorem born_step (p5 p2 p3:Nat) (w:World):stepG Tryz.prog false (born Tryz.prog (call133 p5 p2 p3)) w =
  .go (G ((baseD 133).at ⟨#[.pointer (some ⟨p5,0,none⟩),.pointer (some ⟨p2,0,none⟩),.pointer (some ⟨p3,0,none⟩),undef,undef,undef,undef,undef,undef,undef,undef,undef,undef,undef,undef,undef,undef,undef,undef,undef],[]⟩ [.code body133]) [bot]) w #[]:=by
 have h1:¬ Tryz.f133.name = "runtime.NumGoroutine":=by decide
 have h2:¬ Tryz.f133.body=none:=by simp [Tryz.f133]
 simp [born,call133,stepG,unwind,callDeferred,invoke,callFunc,Tryz.func133,h1,h2,seen,GStep.after,G,Frame.enter,Frame.at,baseD,bot,body133,Tryz.ntmps133]
 rfl
def dclose (c:Nat):Deferred:={ target:=.builtin .close #[235] 0 #[false],args:=#[.chan (some c)] }
theorem close_step {c n s r:Nat} {buf:Array Value} (tmps:Array Value) (todo:List Item) (w:World) (hc:w.heap[c]? = some (.chan n buf false s r false)) :
  stepG Tryz.prog false (G { (baseD 133).at ⟨tmps,[dclose c]⟩ todo with mode:=.returning } [bot]) w=.go (G { (baseD 133).at ⟨tmps,[]⟩ todo with mode:=.returning } [bot]) (w.setChan c n buf true s r false) (#[⟨.obj c,false,true⟩].push ⟨.obj c,true,true⟩):=by
 have hr:=run_close_open (P:=Tryz.prog) #[235] 0 hc
 have he:=events_close_open (P:=Tryz.prog) (es:=#[]) #[235] 0 hc
 simp [G,stepG,unwind,callDeferred,Frame.at,dclose,invoke,builtin,hr,he,GStep.after,World.setChan]
 exact seen_eq (by simp [baseD,Tryz.func133];rfl) (by simp)
theorem quits_tail (tmps:Array Value) (todo:List Item):QuitsD Tryz.prog 2 0 (G { (baseD 133).at ⟨tmps,[]⟩ todo with mode:=.returning } [bot]):=by
 refine QuitsD.ctl (g':=G bot []) rfl (fun w=>?_) ?_
 ·simp [G,stepG,unwind,doReturn,results,Frame.at,baseD,bot,Tryz.func133,seen,GStep.after,goexitEntry]
 refine QuitsD.ctl (g':={ G bot [] with status:=.finished }) rfl (fun w=>?_) ⟨rfl,rfl⟩
 simp [G,stepG,unwind,bot,goexitEntry,Frame.catches]
 rfl
structure Pol where
 name:ByteArray
 sent:Option Addr
 strm:Option Addr
 node:Nat
 ver:Int
 v:Bool
def letter (num time:Int) (p:Pol):Value:=.agg #[.pointer p.strm,.int .i64 num,.int .i64 time,.int .i64 p.ver,.bool p.v]
def PolsAt (parr:Array Value) (po:Nat) (ps:List Pol):Prop:=∀ (j:Nat) (p:Pol),ps[j]? = some p->parr[po+j*5]? = some (.string p.name)/\parr[po+j*5+1]? = some (.pointer p.sent)/\parr[po+j*5+2]? = some (.int .i64 p.node)/\parr[po+j*5+3]? = some (.int .i64 p.ver)/\parr[po+j*5+4]? = some (.pointer p.strm)
noncomputable def loopX:Code:=match body133 with
 | .seq _ (.seq _ (.block _ (.loop x)))=>x
 | _=>.skip
noncomputable def headX (c p5 p2 p3:Nat) (sv:Value) (N k:Nat) (u3 u4 u9 u10 u11 u12 u13 u14 u15 u16 u17 u18 u19:Value):Goroutine :=
 G ((baseD 133).at ⟨#[.pointer (some ⟨p5,0,none⟩),.pointer (some ⟨p2,0,none⟩),.pointer (some ⟨p3,0,none⟩),u3,u4,.chan (some c),sv,.int .i64 N,.int .i64 k,u9,u10,u11,u12,u13,u14,u15,u16,u17,u18,u19],[dclose c]⟩ [.code loopX,.inLoop loopX,.inBlock 0]) [bot]
variable {c B : Nat} {M Ro : Nat → Prop}
abbrev FSc (c p5 p2 p3 pb po N cap sb so n cp:Nat) (num time:Int) (at_:Value) (parr:Array Value) (mp:Nat×Nat) (arr:Array Value) (m:Nat×Nat):List (Nat×Obj) :=
 [(p5,.cells #[.chan (some c)] 235),(p2,.cells #[.slice (some ⟨pb,po,none⟩) N cap] 151),(p3,.cells #[.int .i64 num,.int .i64 time,at_,.slice (some ⟨sb,so,none⟩) n cp] 159),(pb,.cells parr 183 mp),(sb,.cells arr 4 m)]
set_option maxRecDepth 100000 in
set_option maxHeartbeats 2000000 in
theorem round_c (H : Terr c B M Ro) (L : List Value) (p5 p2 p3 pb po cap sb so n cp : Nat) (num time : Int) (at_ : Value) (parr : Array Value) (mp : Nat × Nat) (arr : Array Value) (m : Nat × Nat) (ps : List Pol) (hps : PolsAt parr po ps) (hn : ps.length < 9223372036854775807) (hso : ∀ p ∈ ps, arr[so + p.node]? = some (.bool p.v) ∧ p.node < n) (nn : Nat)
  (k : Nat) (p : Pol) (hk : ps[k]? = some p) (u3 u4 u9 u10 u11 u12 u13 u14 u15 u16 u17 u18 u19 : Value) (T₀ : Nat → Prop) (w₀ : World) (T : Nat → Prop) (w : World) (hF : HB c Ro T₀ w₀ T w (FSc c p5 p2 p3 pb po ps.length cap sb so n cp num time at_ parr mp arr m))
  (next : ∀ (u3 u4 u9 u10 u11 u12 u13 u14 u15 u16 u17 u18 u19 : Value) (T : Nat → Prop) (w : World), HB c Ro T₀ w₀ T w (FSc c p5 p2 p3 pb po ps.length cap sb so n cp num time at_ parr mp arr m) → SB Tryz.prog c (RBw c Ro) (DBw c Ro) (CB1 c Ro) nn L T (headX c p5 p2 p3 (.slice (some ⟨pb, po, none⟩) ps.length cap) ps.length (k + 1) u3 u4 u9 u10 u11 u12 u13 u14 u15 u16 u17 u18 u19) w) :
  SB Tryz.prog c (RBw c Ro) (DBw c Ro) (CB1 c Ro) nn (letter num time p :: L) T (headX c p5 p2 p3 (.slice (some ⟨pb, po, none⟩) ps.length cap) ps.length k u3 u4 u9 u10 u11 u12 u13 u14 u15 u16 u17 u18 u19) w := by
 have PP := the_pair c B M Ro H
 have TT := PP.tB
 have hkl : k < ps.length := (List.getElem?_eq_some_iff.1 hk).1
 have hki : (k : Int) < (ps.length : Int) := by omega
 obtain ⟨q0, q1, q2, q3, q4⟩ := hps k p hk
 refine SB.of_walk PP ?_
 have hnx := fun u3 u4 u9 u10 u11 u12 u13 u14 u15 u16 u17 u18 u19 T w h => SB.walk PP (next u3 u4 u9 u10 u11 u12 u13 u14 u15 u16 u17 u18 u19 T w h)
 clear next
 simp only [headX, loopX, body133, Tryz.f133, Option.getD_some] at hnx ⊢
 refine RT.seq TT ?_
 refine RT.region TT ?_
 simp only [List.size_toArray, List.length_cons, List.length_nil, Nat.zero_add, List.range, List.range.loop]
 refine RT.op rfl (by rfl) (by simp [baseD]) (fun v1 hR K hK => ?_)
 replace hF := hF.rely hR
 go_simp
 refine hK _ _ ⟨by rw [listed_nil (by simp [go_sem])]; exact TT.idle _ _, ?_⟩
 clear hK K hR
 rw [grow_self]
 refine RT.nil TT ?_
 refine RT.seq TT ?_
 refine RT.cond TT true (by simp [Act.eval]) ?_
 simp only [if_true]
 refine RT.skip TT ?_
 refine RT.seq TT ?_
 refine RT.block TT ?_
 refine RT.seq TT ?_
 refine RT.region TT ?_
 simp only [List.size_toArray, List.length_cons, List.length_nil, Nat.reduceAdd, Nat.zero_add, List.range, List.range.loop]
 refine RT.op rfl (by rfl) (by simp [baseD]) (fun v2 hR K hK => ?_)
 replace hF := hF.rely hR
 have hki' := hki
 go_simp
 refine hK _ _ ⟨by rw [listed_nil (by simp [go_sem, *])]; exact TT.idle _ _, ?_⟩
 clear hK K hR
 rw [grow_self]
 refine RT.op rfl (by rfl) (by simp [baseD]) (fun v3 hR K hK => ?_)
 replace hF := hF.rely hR
 have hd0 := hF.cell (i := po + k * 5) (.tail _ (.tail _ (.tail _ (.head _)))) q0
 have hd1 := hF.cell (i := po + k * 5 + 1) (.tail _ (.tail _ (.tail _ (.head _)))) q1
 have hd2 := hF.cell (i := po + k * 5 + 2) (.tail _ (.tail _ (.tail _ (.head _)))) q2
 have hd3 := hF.cell (i := po + k * 5 + 3) (.tail _ (.tail _ (.tail _ (.head _)))) q3
 have hd4 := hF.cell (i := po + k * 5 + 4) (.tail _ (.tail _ (.tail _ (.head _)))) q4
 go_simp
 refine hK _ _ ⟨?_, ?_⟩
 ·refine DBw.reads fun e he => ?_
  have hm := mem_listed he
  simp [go_sem, *] at hm
  rcases hm with rfl | rfl | rfl | rfl | rfl <;> exact hF.read (.tail _ (.tail _ (.tail _ (.head _)))) rfl
 clear hK K hR
 rw [grow_self]
 refine RT.op rfl (by rfl) (by simp [baseD]) (fun v4 hR K hK => ?_)
 replace hF := hF.rely hR
 go_simp
 refine hK _ _ ⟨by rw [listed_nil (by simp [go_sem])]; exact DBw.alloc _ _ _, ?_⟩
 clear hK K hR
 have ho4 := hF.fresh
 have ht4 : grow T v4 (v4.alloc (.cells #[.string ⟨#[]⟩, .pointer none, .int .i64 0, .int .i64 0, .pointer none] 183)) v4.heap.size := .inr ⟨Nat.le_refl _, by rw [alloc_size]; exact Nat.lt_succ_self _⟩
 replace hF := hF.alloc (.cells #[.string ⟨#[]⟩, .pointer none, .int .i64 0, .int .i64 0, .pointer none] 183)
 generalize grow _ v4 (v4.alloc (.cells #[.string ⟨#[]⟩, .pointer none, .int .i64 0, .int .i64 0, .pointer none] 183)) = T4 at hF ht4 ⊢
 generalize hb4 : v4.heap.size = b4 at hF ho4 ht4 ⊢
 generalize v4.alloc (.cells #[.string ⟨#[]⟩, .pointer none, .int .i64 0, .int .i64 0, .pointer none] 183) = u4 at hF ⊢
 clear hb4 v4
 refine RT.op rfl (by rfl) (by simp [baseD]) (fun v5 hR K hK => ?_)
 replace hF := hF.rely hR
 have hb := hF.get (.head _)
 have hc0 := hF.cell (i := 0) (.head _) rfl
 have hc1 := hF.cell (i := 1) (.head _) rfl
 have hc2 := hF.cell (i := 2) (.head _) rfl
 have hc3 := hF.cell (i := 3) (.head _) rfl
 have hc4 := hF.cell (i := 4) (.head _) rfl
 have hz : ∀ i, v5.frozen? ⟨b4, i, none⟩ = false := fun i => by simp [World.frozen?, hb]
 go_simp
 refine hK _ _ ⟨?_, ?_⟩
 ·refine DBw.sets (b := b4) ht4 (by simp only [setCell_size]) (fun k hk => (setCell_other _ _ _ hk).trans ((setCell_other _ _ _ hk).trans ((setCell_other _ _ _ hk).trans ((setCell_other _ _ _ hk).trans (setCell_other _ _ _ hk))))) rfl rfl rfl (fun e he => ?_)
  have hm := mem_listed he
  simp [go_sem, events_store (v := Value.string p.name) (hv := rfl), events_store (v := Value.pointer p.sent) (hv := rfl), events_store (v := Value.pointer p.strm) (hv := rfl), *] at hm
  rcases hm with rfl | rfl | rfl | rfl | rfl <;> exact ⟨_, rfl, rfl⟩
 clear hK K hR
 rw [grow_same _ (by simp only [setCell_size])]
 replace hF := ((((hF.set (i := 0) (v := .string p.name) ho4.1 ho4.2).set (i := 1) (v := .pointer p.sent) ho4.1 ho4.2).set (i := 2) (v := .int .i64 p.node) ho4.1 ho4.2).set (i := 3) (v := .int .i64 p.ver) ho4.1 ho4.2).set (i := 4) (v := .pointer p.strm) ho4.1 ho4.2
 generalize World.setCell _ _ _ = x2 at hF ⊢
 refine RT.nil TT ?_
 replace hF : HB c Ro T₀ w₀ T4 x2 ((b4, .cells #[.string p.name, .pointer p.sent, .int .i64 p.node, .int .i64 p.ver, .pointer p.strm] 183) :: FSc c p5 p2 p3 pb po ps.length cap sb so n cp num time at_ parr mp arr m) := hF
 have hIR : ∀ (S : Nat → Prop) (x y : World), HB c Ro T₀ w₀ S x ((b4, .cells #[.string p.name, .pointer p.sent, .int .i64 p.node, .int .i64 p.ver, .pointer p.strm] 183) :: FSc c p5 p2 p3 pb po ps.length cap sb so n cp num time at_ parr mp arr m) → RBw c Ro S x y → HB c Ro T₀ w₀ S y ((b4, .cells #[.string p.name, .pointer p.sent, .int .i64 p.node, .int .i64 p.ver, .pointer p.strm] 183) :: FSc c p5 p2 p3 pb po ps.length cap sb so n cp num time at_ parr mp arr m) := fun S x y h r => h.rely r
 let Qv : Act → List Value → (Nat → Prop) → World → Prop := fun a L' S w' => ∃ t10 t11 t12 t13 t14 t15 t16 t17 t18 t19, a = ⟨#[.pointer (some ⟨p5, 0, none⟩), .pointer (some ⟨p2, 0, none⟩), .pointer (some ⟨p3, 0, none⟩), u3, .pointer (some ⟨b4, 0, none⟩), .chan (some c), .slice (some ⟨pb, po, none⟩) ps.length cap, .int .i64 ps.length, .int .i64 k, .bool true, t10, t11, t12, t13, t14, t15, t16, t17, t18, t19], [dclose c]⟩ ∧ L' = L ∧ HB c Ro T₀ w₀ S w' ((b4, .cells #[.string p.name, .pointer p.sent, .int .i64 p.node, .int .i64 p.ver, .pointer p.strm] 183) :: FSc c p5 p2 p3 pb po ps.length cap sb so n cp num time at_ parr mp arr m)
 have hQR : ∀ a L S x y, Qv a L S x → RBw c Ro S x y → Qv a L S y := by
  rintro a L S x y ⟨t10, t11, t12, t13, t14, t15, t16, t17, t18, t19, h1, h2, h3⟩ r
  exact ⟨t10, t11, t12, t13, t14, t15, t16, t17, t18, t19, h1, h2, h3.rely r⟩
 refine RT.drawn (Stop := fun L T g w => SB Tryz.prog c (RBw c Ro) (DBw c Ro) (CB1 c Ro) nn L T g w) (L := letter num time p :: L) (c := c) (Q := Qv) (I := fun S w' => HB c Ro T₀ w₀ S w' ((b4, .cells #[.string p.name, .pointer p.sent, .int .i64 p.node, .int .i64 p.ver, .pointer p.strm] 183) :: FSc c p5 p2 p3 pb po ps.length cap sb so n cp num time at_ parr mp arr m)) (fn := 133) (fin := 99) TT (SB.sends PP _) rfl (by simp [baseD]) (by kernel_rfl) (fun a L S w' hq => ?_) (fun w₁ hR => ?_)
 case refine_2 =>
  replace hF := hF.rely hR
  replace hF := hF.rely (w' := { w₁ with drawn := w₁.drawn + 1 }) ⟨Nat.le_refl _, fun _ _ _ _ => rfl⟩
  simp only [List.size_toArray, List.length_cons, List.length_nil, Nat.reduceAdd, Nat.zero_add]
  generalize ({ w₁ with drawn := w₁.drawn + 1 } : World) = x3 at hF ⊢
  have hI := hF
  refine anyR_take TT hIR hQR 0 (v := ?v0) rfl (by decide +kernel) (by decide +kernel) (by decide +kernel) (by decide +kernel) ⟨by simp, by rfl, fun S' w' hw => ⟨run_eq_of ?r0, ?g0⟩⟩ hI ?_
  case r0 =>
   intro K hK
   have hc1 := hw.cell (i := 0) (.tail _ (.head _)) rfl
   go_simp
   exact hK
  case g0 =>
   have hc1 := hw.cell (i := 0) (.tail _ (.head _)) rfl
   refine DBw.reads fun e he => ?_
   have hm := mem_listed he
   simp [go_sem, *] at hm
   rcases hm with rfl <;> exact hw.read (.tail _ (.head _)) rfl
  try walk_nrm
  refine anyR_take TT hIR hQR 1 (v := ?v1) rfl (by decide +kernel) (by decide +kernel) (by decide +kernel) (by decide +kernel) ⟨by simp, by rfl, fun S' w' hw => ⟨run_eq_of ?r1, ?g1⟩⟩ hI ?_
  case r1 =>
   intro K hK
   go_simp
   exact hK
  case g1 =>
   rw [listed_nil (by simp [go_sem])]; exact TT.idle _ _
  try walk_nrm
  refine anyR_take TT hIR hQR 2 (v := ?v2) rfl (by decide +kernel) (by decide +kernel) (by decide +kernel) (by decide +kernel) ⟨by simp, by rfl, fun S' w' hw => ⟨run_eq_of ?r2, ?g2⟩⟩ hI ?_
  case r2 =>
   intro K hK
   have hc1 := hw.cell (i := 4) (.head _) rfl
   go_simp
   exact hK
  case g2 =>
   have hc1 := hw.cell (i := 4) (.head _) rfl
   refine DBw.reads fun e he => ?_
   have hm := mem_listed he
   simp [go_sem, *] at hm
   rcases hm with rfl <;> exact hw.read (.head _) rfl
  try walk_nrm
  refine anyR_take TT hIR hQR 3 (v := ?v3) rfl (by decide +kernel) (by decide +kernel) (by decide +kernel) (by decide +kernel) ⟨by simp, by rfl, fun S' w' hw => ⟨run_eq_of ?r3, ?g3⟩⟩ hI ?_
  case r3 =>
   intro K hK
   have hc0 := hw.cell (i := 0) (.head _) rfl
   have hc1 := hw.cell (i := 1) (.head _) rfl
   have hc2 := hw.cell (i := 2) (.head _) rfl
   have hc3 := hw.cell (i := 3) (.head _) rfl
   have hc4 := hw.cell (i := 4) (.head _) rfl
   go_simp
   exact hK
  case g3 =>
   have hc0 := hw.cell (i := 0) (.head _) rfl
   have hc1 := hw.cell (i := 1) (.head _) rfl
   have hc2 := hw.cell (i := 2) (.head _) rfl
   have hc3 := hw.cell (i := 3) (.head _) rfl
   have hc4 := hw.cell (i := 4) (.head _) rfl
   refine DBw.reads fun e he => ?_
   have hm := mem_listed he
   simp [go_sem, *] at hm
   rcases hm with rfl | rfl | rfl | rfl | rfl <;> exact hw.read (.head _) rfl
  try walk_nrm
  refine anyR_take TT hIR hQR 4 (v := ?v4) rfl (by decide +kernel) (by decide +kernel) (by decide +kernel) (by decide +kernel) ⟨by simp, by rfl, fun S' w' hw => ⟨run_eq_of ?r4, ?g4⟩⟩ hI ?_
  case r4 =>
   intro K hK
   have hc0 := hw.cell (i := 0) (.tail _ (.tail _ (.tail _ (.head _)))) rfl
   have hc1 := hw.cell (i := 1) (.tail _ (.tail _ (.tail _ (.head _)))) rfl
   have hc2 := hw.cell (i := 2) (.tail _ (.tail _ (.tail _ (.head _)))) rfl
   have hc3 := hw.cell (i := 3) (.tail _ (.tail _ (.tail _ (.head _)))) rfl
   go_simp
   exact hK
  case g4 =>
   have hc0 := hw.cell (i := 0) (.tail _ (.tail _ (.tail _ (.head _)))) rfl
   have hc1 := hw.cell (i := 1) (.tail _ (.tail _ (.tail _ (.head _)))) rfl
   have hc2 := hw.cell (i := 2) (.tail _ (.tail _ (.tail _ (.head _)))) rfl
   have hc3 := hw.cell (i := 3) (.tail _ (.tail _ (.tail _ (.head _)))) rfl
   refine DBw.reads fun e he => ?_
   have hm := mem_listed he
   simp [go_sem, *] at hm
   rcases hm with rfl | rfl | rfl | rfl <;> exact hw.read (.tail _ (.tail _ (.tail _ (.head _)))) rfl
  try walk_nrm
  refine anyR_one (i := 5) (by decide +kernel) (OpR.call TT rfl (by rfl) rfl Go.Proofs.Tryz.func134 (by rfl) rfl (fun w₂ hR2 => ?_))
  replace hF := hF.rely hR2
  simp only [List.map_toArray, List.map_cons, List.map_nil]
  change RCalls Tryz.prog false (RBw c Ro) (DBw c Ro) 134 #[.agg #[.string p.name, .pointer p.sent, .int .i64 p.node, .int .i64 p.ver, .pointer p.strm], .agg #[.int .i64 num, .int .i64 time, at_, .slice (some ⟨sb, so, none⟩) n cp]] _ w₂ _
  refine RCalls.mono (verdict_c H (.string p.name) (.pointer p.sent) (.pointer p.strm) at_ p.ver num time sb so n cp p.node arr m p.v _ w₂ hF.lt (hF.facts _ (.tail _ (.tail _ (.tail _ (.tail _ (.tail _ (.head _))))))) (hso p (List.mem_of_getElem? hk)).1 (hso p (List.mem_of_getElem? hk)).2) ?_
  rintro r S' w3 ⟨rfl, hs', hr'⟩
  replace hF := hF.call hs' hr'
  refine ⟨fun _ => hF, ?_⟩
  try walk_nrm
  refine anyR_one (i := 6) (by decide +kernel) (OpR.op rfl (by rfl) (by simp) (fun w₄ hR4 K hK => ?_))
  replace hF := hF.rely hR4
  go_simp
  refine hK _ _ ⟨by rw [listed_nil (by simp [go_sem])]; exact TT.idle _ _, ?_⟩
  clear hK K
  rw [grow_self]
  refine ⟨fun _ => hF, ?_⟩
  try walk_nrm
  refine anyR_one (i := 7) (by decide +kernel) (OpR.send (L' := L) rfl (by rfl) rfl rfl rfl (fun w₅ hR5 => ?_))
  replace hF := hF.rely hR5
  refine ⟨fun _ => hF, ?_⟩
  try walk_nrm
  exact anyR_done (by decide +kernel) ⟨_, _, _, _, _, _, _, _, _, _, rfl, rfl, hF⟩ _
 obtain ⟨t10, t11, t12, t13, t14, t15, t16, t17, t18, t19, rfl, rfl, hG⟩ := hq
 clear hF
 have hF := hG
 clear hG
 refine RT.inBlock TT ?_
 refine RT.region TT ?_
 simp only [List.size_toArray, List.length_cons, List.length_nil, Nat.reduceAdd, Nat.zero_add, List.range, List.range.loop]
 refine RT.op rfl (by rfl) (by simp [baseD]) (fun v6 hR K hK => ?_)
 replace hF := hF.rely hR
 go_simp
 refine hK _ _ ⟨by rw [listed_nil (by simp [go_sem])]; exact TT.idle _ _, ?_⟩
 clear hK K hR
 rw [grow_self]
 refine RT.op rfl (by rfl) (by simp [baseD]) (fun v7 hR K hK => ?_)
 replace hF := hF.rely hR
 go_simp
 refine hK _ _ ⟨by rw [listed_nil (by simp [go_sem])]; exact TT.idle _ _, ?_⟩
 clear hK K hR
 rw [grow_self]
 refine RT.nil TT ?_
 refine RT.inLoop TT ?_
 have hwr : IntKind.i64.wrap ((k : Int) + 1) = ((k + 1 : Nat) : Int) := by rw [IntKind.wrap_i64]; omega
 try rw [hwr]
 exact hnx _ _ _ _ _ _ _ _ _ _ _ _ _ _ _ ⟨hF.sub, hF.keep, hF.lt, fun q hq => hF.facts q (.tail _ hq)⟩
end Go.Proofs.YtpbbmagjhkakgaaGreatDoor.Lf
