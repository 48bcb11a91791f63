/-
  What past.Take does where the oldest events are dropped: the drawn region that drops them and appends the new one.
-/
/-
  What past.Take does where the oldest events are dropped, whole: what it leaves (TakeD).
-/
/-
  What watch.Event does where the event may be, whatever is dropped, beside goroutines that are only leaving: what is kept, its rows, and what every stream has taken.
-/
import Derived.Test.YtpbbmagjhkakgaaGreatDoorEdDelToEvTake3
import Derived.Test.YtpbbmagjhkakgaaGreatDoorEvStateToEvEvent
namespace Go.Proofs.YtpbbmagjhkakgaaGreatDoor.Ev
open Go.RowKit Go.Deep
set_option maxRecDepth 100000 in
set_option maxHeartbeats 8000000 in
theorem region5_drop (Q : Exit → Act → World → Prop) (hQ : ∀ c a d v w, Q (.panic c) (Act.put a d v) w → Q (.panic c) a w) (wtb nx : Nat) (retain : Int) (rm nvv : Value) (g : Nat) (ecap : Nat) (pv : Value) (C : List EvC) (num time : Int) (ao2 : Option Addr) (al2 ac2 : Nat) (W : World) (x2 x3 x4 x5 x6 x8 x9 x10 x11 x12 x13 x14 x15 x16 x17 x18 x19 x20 x21 x22 x23 x24 x25 x26 x27 x28 x29 x30 u31 u32 u33 u34 u35 u36 u37 u38 u39 u40 u41 u42 u43 u44 u45 u46 u47 u48 u49 u50 u51 u52 u53 : Value)
    (hw : W.heap[wtb]? = some (.cells #[.int .i64 retain, rm, nvv, .slice (some ⟨g, 0, none⟩) C.length ecap, pv] 153 (0, 0))) (hE : EvsAt W (.slice (some ⟨g, 0, none⟩) C.length ecap) C) (hn : C.length ≤ 1000) (ht : 0 ≤ time ∧ time ≤ 1000000000000) (hr : 0 ≤ retain ∧ retain ≤ 1000000000) (k : Nat) (hold : oldF (time - retain) C = k) (hk0 : 0 < k) (hkn : k ≤ C.length)
    (hnx : W.heap[nx]? = some (.cells #[.int .i64 num, .int .i64 time, .slice ao2 al2 ac2, .slice none 0 0] 159 (0, 0))) (hnxe : (Value.slice (some ⟨g, 0, none⟩) C.length ecap).ownBlock ≠ some nx)
    (hK : ∀ (ev' : Value) (W' : World) (v41 : Value), W'.heap[wtb]? = some (.cells #[.int .i64 retain, rm, nvv, ev', pv] 153 (0, 0)) → EvsAt W' ev' (C.drop k ++ [(⟨num, time, ao2, al2, ac2, none, 0, 0⟩ : EvC)]) → Spare (fun b => b = wtb ∨ (Value.slice (some ⟨g, 0, none⟩) C.length ecap).ownBlock = some b) W W' → (∀ b, ev'.ownBlock = some b → (Value.slice (some ⟨g, 0, none⟩) C.length ecap).ownBlock = some b ∨ W.heap.size ≤ b) →
      Q .normal ⟨#[(.pointer (some ⟨wtb, 0, none⟩)), (.int .i64 time), x2, x3, x4, x5, x6, (.pointer (some ⟨nx, 0, none⟩)), x8, x9, x10, x11, x12, x13, x14, x15, x16, x17, x18, x19, x20, x21, x22, x23, x24, x25, x26, x27, x28, x29, x30, (.pointer (some ⟨wtb, 0, none⟩)), (.pointer (some ⟨wtb, 0, none⟩)), (.pointer (some ⟨wtb, 0, none⟩)), (.pointer (some ⟨wtb, 3, none⟩)), (.slice (some ⟨g, 0, none⟩) C.length ecap), (.pointer (some ⟨wtb, 0, none⟩)), (.int .i64 time), (.int .i64 (k : Int)), (.slice (some ⟨g, 0, none⟩) (C.length - k) ecap), (.agg #[.int .i64 num, .int .i64 time, .slice ao2 al2 ac2, .slice none 0 0]), v41, ev', (.pointer (some ⟨wtb, 0, none⟩)), (.pointer (some ⟨wtb, 3, none⟩)), u45, u46, u47, u48, u49, u50, u51, u52, u53], []⟩ W') :
    (Code.region 5 opsT5 true).wp Tryz.prog Q ⟨#[(.pointer (some ⟨wtb, 0, none⟩)), (.int .i64 time), x2, x3, x4, x5, x6, (.pointer (some ⟨nx, 0, none⟩)), x8, x9, x10, x11, x12, x13, x14, x15, x16, x17, x18, x19, x20, x21, x22, x23, x24, x25, x26, x27, x28, x29, x30, u31, u32, u33, u34, u35, u36, u37, u38, u39, u40, u41, u42, u43, u44, u45, u46, u47, u48, u49, u50, u51, u52, u53], []⟩ W := by
  have hlt := heap_lt hw
  have hnl := heap_lt hnx
  obtain ⟨i0, hi, hz0, hz1, hz2⟩ := info_parts infoEvent
  have HO : Hid (∀ w', Below W.heap.size W w' → Calls Tryz.prog 131 #[.pointer (some ⟨wtb, 0, none⟩), .int .i64 time] w' fun e w'' => e = .returned (.int .i64 (k : Int)) ∧ Below w'.heap.size w' w'') := fun w' hb => by
    have := old_any wtb retain rm nvv (.slice (some ⟨g, 0, none⟩) C.length ecap) pv C time w' (hb.heapOf hw) (hE.below hb) (by omega) ht hr
    rw [hold] at this
    exact this
  have Hst : Hid (∀ w', Below W.heap.size W w' → (fun w' => w'.cell? ⟨wtb, 3, none⟩ = some (.slice (some ⟨g, 0, none⟩) C.length ecap) ∧ w'.cell? ⟨nx, 0, none⟩ = some (.int .i64 num) ∧ w'.cell? ⟨nx, 1, none⟩ = some (.int .i64 time) ∧ w'.cell? ⟨nx, 2, none⟩ = some (.slice ao2 al2 ac2) ∧ w'.cell? ⟨nx, 3, none⟩ = some (.slice none 0 0)) w') := fun w' hb => ⟨cell_at (hb.heapOf hw) rfl, cell_at (hb.heapOf hnx) rfl, cell_at (hb.heapOf hnx) rfl, cell_at (hb.heapOf hnx) rfl, cell_at (hb.heapOf hnx) rfl⟩
  have HstH : Hid (∀ w' : World, w'.heap[wtb]? = some (.cells #[.int .i64 retain, rm, nvv, .slice (some ⟨g, 0, none⟩) C.length ecap, pv] 153 (0, 0)) → w'.heap[nx]? = some (.cells #[.int .i64 num, .int .i64 time, .slice ao2 al2 ac2, .slice none 0 0] 159 (0, 0)) → (fun w' => w'.cell? ⟨wtb, 3, none⟩ = some (.slice (some ⟨g, 0, none⟩) C.length ecap) ∧ w'.cell? ⟨nx, 0, none⟩ = some (.int .i64 num) ∧ w'.cell? ⟨nx, 1, none⟩ = some (.int .i64 time) ∧ w'.cell? ⟨nx, 2, none⟩ = some (.slice ao2 al2 ac2) ∧ w'.cell? ⟨nx, 3, none⟩ = some (.slice none 0 0)) w') := fun w' h1 h2 => ⟨cell_at h1 rfl, cell_at h2 rfl, cell_at h2 rfl, cell_at h2 rfl, cell_at h2 rfl⟩
  have hgl : g < W.heap.size := (hE.lt g rfl).2
  have hwg : wtb ≠ g := by
    intro e
    obtain ⟨cs, h1⟩ := own_tag hE (g := g) rfl
    rw [← e, hw] at h1
    cases h1
  have hng : nx ≠ g := fun e => hnxe (by rw [e]; rfl)
  have after : ∀ (w1 wd : World), Below W.heap.size W w1 → Only g w1 wd → wd.heap[wtb]? = some (.cells #[.int .i64 retain, rm, nvv, .slice (some ⟨g, 0, none⟩) C.length ecap, pv] 153 (0, 0)) ∧ wd.heap[nx]? = some (.cells #[.int .i64 num, .int .i64 time, .slice ao2 al2 ac2, .slice none 0 0] 159 (0, 0)) ∧ Spare (fun b => b = wtb ∨ (Value.slice (some ⟨g, 0, none⟩) C.length ecap).ownBlock = some b) W wd := fun w1 wd hb ho =>
    ⟨(ho.block wtb (heap_lt (hb.heapOf hw)) hwg).trans (hb.heapOf hw), (ho.block nx (heap_lt (hb.heapOf hnx)) hng).trans (hb.heapOf hnx), (Spare.of_below hb).trans (Spare.of_only ho (fun x hx => .inr (by rw [hx]; rfl)))⟩
  replace after : Hid _ := after
  have hS0 := Hst.out _ (Below.refl _ W).drew
  have tail5 : ∀ (V : World) (sl : Nat), V.heap[wtb]? = some (.cells #[.int .i64 retain, rm, nvv, .slice (some ⟨g, 0, none⟩) C.length ecap, pv] 153 (0, 0)) → V.heap[nx]? = some (.cells #[.int .i64 num, .int .i64 time, .slice ao2 al2 ac2, .slice none 0 0] 159 (0, 0)) → EvsAt V (.slice (some ⟨g, 0, none⟩) (C.length - k) ecap) (C.drop k) → Spare (fun b => b = wtb ∨ (Value.slice (some ⟨g, 0, none⟩) C.length ecap).ownBlock = some b) W V → (∀ j u, (evCells (⟨num, time, ao2, al2, ac2, none, 0, 0⟩ : EvC))[j]? = some u → V.cell? ((⟨sl, 0, none⟩ : Addr).add j) = some u) →
      AnyF Tryz.prog .any opsT5 Q (fun w' => w'.cell? ⟨wtb, 3, none⟩ = some (.slice (some ⟨g, 0, none⟩) C.length ecap) ∧ w'.cell? ⟨nx, 0, none⟩ = some (.int .i64 num) ∧ w'.cell? ⟨nx, 1, none⟩ = some (.int .i64 time) ∧ w'.cell? ⟨nx, 2, none⟩ = some (.slice ao2 al2 ac2) ∧ w'.cell? ⟨nx, 3, none⟩ = some (.slice none 0 0)) 14 4 #[true, true, true, true, true, true, true, true, true, true, true, false, false, false, false] ⟨#[(.pointer (some ⟨wtb, 0, none⟩)), (.int .i64 time), x2, x3, x4, x5, x6, (.pointer (some ⟨nx, 0, none⟩)), x8, x9, x10, x11, x12, x13, x14, x15, x16, x17, x18, x19, x20, x21, x22, x23, x24, x25, x26, x27, x28, x29, x30, (.pointer (some ⟨wtb, 0, none⟩)), (.pointer (some ⟨wtb, 0, none⟩)), (.pointer (some ⟨wtb, 0, none⟩)), (.pointer (some ⟨wtb, 3, none⟩)), (.slice (some ⟨g, 0, none⟩) C.length ecap), (.pointer (some ⟨wtb, 0, none⟩)), (.int .i64 time), (.int .i64 (k : Int)), (.slice (some ⟨g, 0, none⟩) (C.length - k) ecap), (.agg #[.int .i64 num, .int .i64 time, .slice ao2 al2 ac2, .slice none 0 0]), (.slice (some ⟨sl, 0, none⟩) 1 1), u42, u43, u44, u45, u46, u47, u48, u49, u50, u51, u52, u53], []⟩ V := by
    intro V sl hwV hnV hEV hspV hcell
    have hEV' : V.ownsRow 0 159 4 (.slice (some ⟨g, 0, none⟩) (C.length - k) ecap) (C.length - k) (flatE (C.drop k)) := by
      have := hEV
      unfold EvsAt at this
      rw [List.length_drop] at this
      exact this
    simp only [opsT5, body87, Tryz.f87, Option.getD_some]
    refine AnyF.one (i := 11) (by decide +kernel) rfl (by rfl) (wp_append_own (.tmp 39) (.tmp 41) 146 rfl 0 159 i0 _ 4 64 Tryz.underlying146 hi hz0 hz1 hz2 rfl (by decide) (.slice (some ⟨g, 0, none⟩) (C.length - k) ecap) (C.length - k) (flatE (C.drop k)) rfl hEV' ⟨sl, 0, none⟩ 1 1 (evCells (⟨num, time, ao2, al2, ac2, none, 0, 0⟩ : EvC)) rfl rfl hcell (evOne _) (by unfold maxLen; omega) (by omega) (Nat.zero_le _) ?_)
    intro v' w2 hown' hgrow hor
    obtain ⟨g2, c2, rfl⟩ := ownsRow_succ hown'
    have hneV : ∀ b, (Value.slice (some ⟨g, 0, none⟩) C.length ecap).ownBlock = some b → ∃ cs, V.heap[b]? = some (.cells cs 159 (0, 0)) := fun b hb => own_tag hEV hb
    have hwt2 : w2.heap[wtb]? = some (.cells #[.int .i64 retain, rm, nvv, .slice (some ⟨g, 0, none⟩) C.length ecap, pv] 153 (0, 0)) := by
      rw [hgrow.block wtb (heap_lt hwV) (fun e => by obtain ⟨cs, h1⟩ := hneV wtb e.symm; rw [hwV] at h1; cases h1)]; exact hwV
    have hc3 : w2.cell? ⟨wtb, 3, none⟩ = some (.slice (some ⟨g, 0, none⟩) C.length ecap) := cell_at hwt2 rfl
    have hf3 : w2.frozen? ⟨wtb, 3, none⟩ = false := Lib.frozen_of_heap hwt2 _
    have hnx2 : w2.heap[nx]? = some (.cells #[.int .i64 num, .int .i64 time, .slice ao2 al2 ac2, .slice none 0 0] 159 (0, 0)) := by
      rw [hgrow.block nx (heap_lt hnV) (fun e => hnxe e.symm)]; exact hnV
    have hS2 : (fun w' => w'.cell? ⟨wtb, 3, none⟩ = some (.slice (some ⟨g, 0, none⟩) C.length ecap) ∧ w'.cell? ⟨nx, 0, none⟩ = some (.int .i64 num) ∧ w'.cell? ⟨nx, 1, none⟩ = some (.int .i64 time) ∧ w'.cell? ⟨nx, 2, none⟩ = some (.slice ao2 al2 ac2) ∧ w'.cell? ⟨nx, 3, none⟩ = some (.slice none 0 0)) w2 := ⟨hc3, cell_at hnx2 rfl, cell_at hnx2 rfl, cell_at hnx2 rfl, cell_at hnx2 rfl⟩
    refine ⟨fun _ => hS2, ?_⟩
    try walk_nrm
    refine AnyF.op (i := 12) (by decide +kernel) rfl (by rfl) (fun K' hK' => ?_)
    unfold Oper.wp
    go_simp
    refine hK' _ _ ⟨fun _ => hS2, ?_⟩
    clear hK' K'
    try walk_nrm
    refine AnyF.op (i := 13) (by decide +kernel) rfl (by rfl) (fun K' hK' => ?_)
    unfold Oper.wp
    go_simp
    refine hK' _ _ ⟨fun _ => hS2, ?_⟩
    clear hK' K'
    try walk_nrm
    refine AnyF.op (i := 14) (by decide +kernel) rfl (by rfl) (fun K' hK' => ?_)
    unfold Oper.wp
    go_simp
    refine hK' _ _ ⟨fun x => absurd rfl x, ?_⟩
    clear hK' K'
    refine AnyF.done (by decide +kernel) ?_ _
    try walk_nrm
    have hg2 : g2 ≠ wtb := by
      rintro rfl
      obtain ⟨_, ⟨h2, _⟩ | ⟨g', cap', cur, e1, _, e2, _⟩⟩ := hown'
      · cases h2
      · cases e1; rw [hwt2] at e2; cases e2
    refine hK (.slice (some ⟨g2, 0, none⟩) (C.length - k + 1) c2) _ _ (set_heap (i := 3) hwt2) ?_ ?_ ?_
    · show World.ownsRow _ 0 159 4 _ _ _
      have el : (C.drop k ++ [(⟨num, time, ao2, al2, ac2, none, 0, 0⟩ : EvC)]).length = C.length - k + 1 := by simp
      rw [el, flatE_snoc]
      exact own_heap hown' fun b hbb => Below.heap_setCell _ _ _ _ (by cases hbb; exact hg2)
    · have s1 : Spare (fun b => b = wtb ∨ (Value.slice (some ⟨g, 0, none⟩) C.length ecap).ownBlock = some b) W w2 := hspV.trans (Spare.of_grown hgrow (fun x hx => .inr hx))
      exact s1.trans (Spare.of_only ((Only.refl wtb w2).setCell (p := ⟨wtb, 3, none⟩) (.inl rfl) _) (fun x hx => .inl hx))
    · intro b hb
      rcases hor with e | e
      · exact .inl (e ▸ hb)
      · rw [e] at hb; cases hb; exact .inr hspV.size
  simp only [opsT5, body87, Tryz.f87, Option.getD_some] at tail5 ⊢
  refine AnyF.begin (S := (fun w' => w'.cell? ⟨wtb, 3, none⟩ = some (.slice (some ⟨g, 0, none⟩) C.length ecap) ∧ w'.cell? ⟨nx, 0, none⟩ = some (.int .i64 num) ∧ w'.cell? ⟨nx, 1, none⟩ = some (.int .i64 time) ∧ w'.cell? ⟨nx, 2, none⟩ = some (.slice ao2 al2 ac2) ∧ w'.cell? ⟨nx, 3, none⟩ = some (.slice none 0 0))) (fin := 14) (by kernel_rfl) ?_
  simp only [List.size_toArray, List.length_cons, List.length_nil, Nat.reduceAdd, Nat.zero_add]
  refine AnyF.take 0 (v := ?vq0) rfl (by decide +kernel) (by decide +kernel) (by decide +kernel) (by decide +kernel) (fun c a w h => hQ c a _ _ w h) (by rfl) (fun w' hS => Go.Conc.run_eq_of ?rq0) hS0 ?_
  case rq0 =>
    intro K' hK'
    obtain ⟨y1, y2, y3, y4, y5⟩ := hS
    go_simp
    exact hK'
  try walk_nrm
  refine AnyF.take 1 (v := ?vq1) rfl (by decide +kernel) (by decide +kernel) (by decide +kernel) (by decide +kernel) (fun c a w h => hQ c a _ _ w h) (by rfl) (fun w' hS => Go.Conc.run_eq_of ?rq1) hS0 ?_
  case rq1 =>
    intro K' hK'
    obtain ⟨y1, y2, y3, y4, y5⟩ := hS
    go_simp
    exact hK'
  try walk_nrm
  refine AnyF.take 2 (v := ?vq2) rfl (by decide +kernel) (by decide +kernel) (by decide +kernel) (by decide +kernel) (fun c a w h => hQ c a _ _ w h) (by rfl) (fun w' hS => Go.Conc.run_eq_of ?rq2) hS0 ?_
  case rq2 =>
    intro K' hK'
    obtain ⟨y1, y2, y3, y4, y5⟩ := hS
    go_simp
    exact hK'
  try walk_nrm
  refine AnyF.take 3 (v := ?vq3) rfl (by decide +kernel) (by decide +kernel) (by decide +kernel) (by decide +kernel) (fun c a w h => hQ c a _ _ w h) (by rfl) (fun w' hS => Go.Conc.run_eq_of ?rq3) hS0 ?_
  case rq3 =>
    intro K' hK'
    obtain ⟨y1, y2, y3, y4, y5⟩ := hS
    go_simp
    exact hK'
  try walk_nrm
  refine AnyF.take 4 (v := ?vq4) rfl (by decide +kernel) (by decide +kernel) (by decide +kernel) (by decide +kernel) (fun c a w h => hQ c a _ _ w h) (by rfl) (fun w' hS => Go.Conc.run_eq_of ?rq4) hS0 ?_
  case rq4 =>
    intro K' hK'
    obtain ⟨y1, y2, y3, y4, y5⟩ := hS
    go_simp
    exact hK'
  try walk_nrm
  refine AnyF.take 5 (v := ?vq5) rfl (by decide +kernel) (by decide +kernel) (by decide +kernel) (by decide +kernel) (fun c a w h => hQ c a _ _ w h) (by rfl) (fun w' hS => Go.Conc.run_eq_of ?rq5) hS0 ?_
  case rq5 =>
    intro K' hK'
    obtain ⟨y1, y2, y3, y4, y5⟩ := hS
    go_simp
    exact hK'
  try walk_nrm
  refine AnyF.take 6 (v := ?vq6) rfl (by decide +kernel) (by decide +kernel) (by decide +kernel) (by decide +kernel) (fun c a w h => hQ c a _ _ w h) (by rfl) (fun w' hS => Go.Conc.run_eq_of ?rq6) hS0 ?_
  case rq6 =>
    intro K' hK'
    obtain ⟨y1, y2, y3, y4, y5⟩ := hS
    go_simp
    exact hK'
  try walk_nrm
  refine AnyF.take 9 (v := ?vq9) rfl (by decide +kernel) (by decide +kernel) (by decide +kernel) (by decide +kernel) (fun c a w h => hQ c a _ _ w h) (by rfl) (fun w' hS => Go.Conc.run_eq_of ?rq9) hS0 ?_
  case rq9 =>
    intro K' hK'
    obtain ⟨y1, y2, y3, y4, y5⟩ := hS
    go_simp
    exact hK'
  try walk_nrm
  refine AnyF.two (i := 7) (j := 10) (by decide +kernel) rfl (by rfl) rfl (by rfl) (fun K' hK' => ?_) (fun K' hK' => ?_)
  · unfold Oper.wp
    rw [Go.Conc.run_call_body (f := 131) (args := #[.tmp 36, .tmp 37]) (ats := #[232, 3]) rfl Tryz.func131 (by decide) rfl]
    simp only [Oper.upon, List.map_toArray, List.map_cons, List.map_nil]
    change Calls Tryz.prog 131 #[.pointer (some ⟨wtb, 0, none⟩), .int .i64 time] W.drew _
    refine (HO.out W.drew (Below.refl W.heap.size W).drew).mono ?_
    rintro e w1 ⟨rfl, hb1⟩
    replace hb1 : Below W.heap.size W w1 := ((Below.refl W.heap.size W).drew).trans (hb1.mono ((Below.refl W.heap.size W).drew).size)
    refine hK' _ _ ⟨fun _ => Hst.out _ hb1, ?_⟩
    clear hK' K'
    try walk_nrm
    refine AnyF.two (i := 8) (j := 10) (by decide +kernel) rfl (by rfl) rfl (by rfl) (fun K' hK' => ?_) (fun K' hK' => ?_)
    · unfold Oper.wp
      rw [Go.Conc.run_call_body (f := 130) (args := #[.tmp 35, .const (.int .i64 0), .tmp 38]) (ats := #[146, 3, 3]) rfl Tryz.func130 (by decide) rfl]
      simp only [Oper.upon, List.map_toArray, List.map_cons, List.map_nil]
      change Calls Tryz.prog 130 #[.slice (some ⟨g, 0, none⟩) C.length ecap, .int .i64 0, .int .i64 (k : Int)] w1 _
      refine (delete_any g ecap k C w1 (hE.below hb1) hk0 hkn hn).mono ?_
      rintro e wd ⟨rfl, hEd, hOd⟩
      obtain ⟨hd1, hd2, hd3⟩ := after.out w1 wd hb1 hOd
      refine hK' _ _ ⟨fun _ => HstH.out _ hd1 hd2, ?_⟩
      clear hK' K'
      try walk_nrm
      refine AnyF.op (i := 10) (by decide +kernel) rfl (by rfl) (fun K' hK' => ?_)
      unfold Oper.wp
      go_simp
      have hba := fun o => (Below.refl wd.heap.size wd).al o
      refine hK' _ _ ⟨fun _ => HstH.out _ ((hba _).heapOf hd1) ((hba _).heapOf hd2), ?_⟩
      clear hK' K'
      try walk_nrm
      exact tail5 _ wd.heap.size ((hba _).heapOf hd1) ((hba _).heapOf hd2) (hEd.below (hba _)) (hd3.trans (Spare.of_below (hba _))) (cells_four_new wd (⟨num, time, ao2, al2, ac2, none, 0, 0⟩ : EvC) 159)
    · unfold Oper.wp
      go_simp
      refine hK' _ _ ⟨fun _ => Hst.out _ ((hb1).al _), ?_⟩
      clear hK' K'
      try walk_nrm
      refine AnyF.op (i := 8) (by decide +kernel) rfl (by rfl) (fun K' hK' => ?_)
      unfold Oper.wp
      rw [Go.Conc.run_call_body (f := 130) (args := #[.tmp 35, .const (.int .i64 0), .tmp 38]) (ats := #[146, 3, 3]) rfl Tryz.func130 (by decide) rfl]
      simp only [Oper.upon, List.map_toArray, List.map_cons, List.map_nil]
      change Calls Tryz.prog 130 #[.slice (some ⟨g, 0, none⟩) C.length ecap, .int .i64 0, .int .i64 (k : Int)] (w1.alloc (.cells #[.int .i64 num, .int .i64 time, .slice ao2 al2 ac2, .slice none 0 0] 159)) _
      refine (delete_any g ecap k C (w1.alloc (.cells #[.int .i64 num, .int .i64 time, .slice ao2 al2 ac2, .slice none 0 0] 159)) (hE.below (hb1.al _)) hk0 hkn hn).mono ?_
      rintro e wd ⟨rfl, hEd, hOd⟩
      obtain ⟨hd1, hd2, hd3⟩ := after.out (w1.alloc (.cells #[.int .i64 num, .int .i64 time, .slice ao2 al2 ac2, .slice none 0 0] 159)) wd (hb1.al _) hOd
      refine hK' _ _ ⟨fun _ => HstH.out _ hd1 hd2, ?_⟩
      clear hK' K'
      try walk_nrm
      refine tail5 _ w1.heap.size hd1 hd2 hEd hd3 (fun j u hj => ?_)
      have h1 := cells_four_new w1 (⟨num, time, ao2, al2, ac2, none, 0, 0⟩ : EvC) 159 j u hj
      have hs1 := hb1.size
      have e1 : (⟨w1.heap.size, 0, none⟩ : Addr).add j = ⟨w1.heap.size, j, none⟩ := by simp [Addr.add]; omega
      rw [e1] at h1 ⊢
      rw [← h1]
      exact World.cell?_of_block (hOd.block w1.heap.size (by simp) (by have := hgl; omega))
  · unfold Oper.wp
    go_simp
    refine hK' _ _ ⟨fun _ => Hst.out _ (((Below.refl W.heap.size W).drew).al _), ?_⟩
    clear hK' K'
    try walk_nrm
    refine AnyF.op (i := 7) (by decide +kernel) rfl (by rfl) (fun K' hK' => ?_)
    have hbA : Below W.heap.size W (W.drew.alloc (.cells #[.int .i64 num, .int .i64 time, .slice ao2 al2 ac2, .slice none 0 0] 159)) := ((Below.refl _ W).drew.al _)
    unfold Oper.wp
    rw [Go.Conc.run_call_body (f := 131) (args := #[.tmp 36, .tmp 37]) (ats := #[232, 3]) rfl Tryz.func131 (by decide) rfl]
    simp only [Oper.upon, List.map_toArray, List.map_cons, List.map_nil]
    change Calls Tryz.prog 131 #[.pointer (some ⟨wtb, 0, none⟩), .int .i64 time] (W.drew.alloc (.cells #[.int .i64 num, .int .i64 time, .slice ao2 al2 ac2, .slice none 0 0] 159)) _
    refine (HO.out (W.drew.alloc (.cells #[.int .i64 num, .int .i64 time, .slice ao2 al2 ac2, .slice none 0 0] 159)) hbA).mono ?_
    rintro e w1 ⟨rfl, hb1⟩
    have hbB := hb1
    replace hb1 : Below W.heap.size W w1 := (hbA).trans (hb1.mono (hbA).size)
    refine hK' _ _ ⟨fun _ => Hst.out _ hb1, ?_⟩
    clear hK' K'
    try walk_nrm
    refine AnyF.op (i := 8) (by decide +kernel) rfl (by rfl) (fun K' hK' => ?_)
    unfold Oper.wp
    rw [Go.Conc.run_call_body (f := 130) (args := #[.tmp 35, .const (.int .i64 0), .tmp 38]) (ats := #[146, 3, 3]) rfl Tryz.func130 (by decide) rfl]
    simp only [Oper.upon, List.map_toArray, List.map_cons, List.map_nil]
    change Calls Tryz.prog 130 #[.slice (some ⟨g, 0, none⟩) C.length ecap, .int .i64 0, .int .i64 (k : Int)] w1 _
    refine (delete_any g ecap k C w1 (hE.below hb1) hk0 hkn hn).mono ?_
    rintro e wd ⟨rfl, hEd, hOd⟩
    obtain ⟨hd1, hd2, hd3⟩ := after.out w1 wd hb1 hOd
    refine hK' _ _ ⟨fun _ => HstH.out _ hd1 hd2, ?_⟩
    clear hK' K'
    try walk_nrm
    have hsl : W.heap.size < (W.drew.alloc (.cells #[.int .i64 num, .int .i64 time, .slice ao2 al2 ac2, .slice none 0 0] 159)).heap.size := heap_lt (heap_new W.drew (.cells #[.int .i64 num, .int .i64 time, .slice ao2 al2 ac2, .slice none 0 0] 159) W.heap.size rfl)
    refine tail5 _ W.heap.size hd1 hd2 hEd hd3 (fun j u hj => ?_)
    have h1 := cells_four_new W.drew (⟨num, time, ao2, al2, ac2, none, 0, 0⟩ : EvC) 159 j u hj
    have e1 : (⟨W.heap.size, 0, none⟩ : Addr).add j = ⟨W.heap.size, j, none⟩ := by simp [Addr.add]; omega
    have e2 : (⟨W.drew.heap.size, 0, none⟩ : Addr).add j = ⟨W.heap.size, j, none⟩ := e1
    rw [e2] at h1
    have hlt1 : W.heap.size < w1.heap.size := Nat.lt_of_lt_of_le hsl hbB.size
    rw [e1, World.cell?_of_block (hOd.block W.heap.size hlt1 (by have := hgl; omega)), hbB.cell (p := ⟨W.heap.size, j, none⟩) hsl]
    exact h1
end Go.Proofs.YtpbbmagjhkakgaaGreatDoor.Ev

namespace Go.Proofs.YtpbbmagjhkakgaaGreatDoor.Ev
open Go.RowKit Go.Deep
def TakeD (wtb : Nat) (retain : Int) (rm : Value) (no : Option Addr) (ncap : Nat) (K : List Key) (ea : Option Addr) (ecap : Nat) (pv : Value) (C D : List EvC) (F : List Pe) (time : Int) (A : List ByteArray) (w : World) (e : Ending) (W' : World) : Prop :=
  ∃ (c : EvC) (ev' : Value) (sb : Nat) (cur : Array Value), e = .returned (evVal c) ∧ c.so = some ⟨sb, 0, none⟩ ∧ w.heap.size ≤ sb ∧ W'.heap[sb]? = some (.cells cur 4 (0, 0)) ∧ W'.heap[wtb]? = some (.cells #[.int .i64 retain, rm, .slice no K.length ncap, ev', pv] 153 (0, 0)) ∧ EvsAt W' ev' (D ++ [c]) ∧
    EvIn W' c (workF F.reverse K (⟨nextN C, time, A, []⟩ : Pe).bare) ∧ EvT W' c ∧ Spare (fun b => b = wtb ∨ (Value.slice ea C.length ecap).ownBlock = some b) w W' ∧ (∀ b, ev'.ownBlock = some b → (Value.slice ea C.length ecap).ownBlock = some b ∨ w.heap.size ≤ b)
set_option maxRecDepth 100000 in
set_option maxHeartbeats 8000000 in
theorem take_drop (wtb : Nat) (retain : Int) (rm : Value) (no : Option Addr) (ncap : Nat) (K : List Key) (ea : Option Addr) (ecap : Nat) (pv : Value) (C : List EvC) (E : List Pe) (time : Int) (ao : Option Addr) (A : List ByteArray) (cap : Nat) (w : World)
    (hw : w.heap[wtb]? = some (.cells #[.int .i64 retain, rm, .slice no K.length ncap, .slice ea C.length ecap, pv] 153 (0, 0))) (hE : EvsAt w (.slice ea C.length ecap) C) (hlen : C.length = E.length) (hIn : ∀ (i : Nat) c e, C[i]? = some c → E[i]? = some e → EvIn w c e) (hT : ∀ c ∈ C, EvT w c) (hn : C.length ≤ 1000) (ht : 0 ≤ time ∧ time ≤ 1000000000000) (hr : 0 ≤ retain ∧ retain ≤ 1000000000) (k : Nat) (hold : oldF (time - retain) C = k) (hk0 : 0 < k) (hkn : k ≤ C.length)
    (hnum : ∀ c, C.getLast? = some c → 0 ≤ c.number ∧ c.number ≤ 1000000000000) (h : StrsIn w ao A) (hA : A.length ≤ 1000) (hcap : A.length ≤ cap) (hs : ∀ j, j < A.length → (A.getD j ByteArray.empty).size ≤ 1000)
    (hK : K.length ≤ 1000) (hnc : K.length ≤ ncap) (hN : NodesIn w no K) (hNt : ∀ a, no = some a → ∃ cs m, w.heap[a.block]? = some (.cells cs 226 m)) (hop : ∀ k ∈ K, CoreOp k.op) (hAh : Ahead K) (hrow : ∀ e ∈ E, e.so.length = K.length + 1) :
    Calls Tryz.prog 87 #[.pointer (some ⟨wtb, 0, none⟩), .int .i64 time, .slice ao A.length cap] w (TakeD wtb retain rm no ncap K ea ecap pv C (C.drop k) (E.drop k) time A w) := by
  have hInD : ∀ (i : Nat) c e, (C.drop k)[i]? = some c → (E.drop k)[i]? = some e → EvIn w c e := fun i c e h1 h2 => hIn (k + i) c e (by rw [← List.getElem?_drop]; exact h1) (by rw [← List.getElem?_drop]; exact h2)
  have hTD : ∀ c ∈ C.drop k, EvT w c := fun c hc => hT c (List.mem_of_mem_drop hc)
  have hlenD : (C.drop k).length = (E.drop k).length := by rw [List.length_drop, List.length_drop, hlen]
  have hrowD : ∀ e ∈ E.drop k, e.so.length = K.length + 1 := fun e he => hrow e (List.mem_of_mem_drop he)
  have hnD : (C.drop k).length ≤ 1000 := by rw [List.length_drop]; omega
  have hE0 := hE
  clear hIn hT hlen hrow
  obtain ⟨D, hD⟩ : ∃ D, D = C.drop k := ⟨_, rfl⟩
  obtain ⟨F, hF⟩ : ∃ F, F = E.drop k := ⟨_, rfl⟩
  have hDl : D.length = C.length - k := by rw [hD, List.length_drop]
  rw [← hD] at hInD hTD hlenD hnD ⊢
  rw [← hF] at hInD hlenD hrowD ⊢
  have hlt := heap_lt hw
  have Hlen : Hid (D.length = F.length) := hlenD
  clear hlenD
  have HDl : Hid (D.length = C.length - k) := hDl
  clear hDl
  have hc3 : w.cell? ⟨wtb, 3, none⟩ = some (.slice ea C.length ecap) := cell_at hw rfl
  have hecap : C.length ≤ ecap := by
    rcases hE.cases with ⟨h1, rfl⟩ | ⟨g, cp, hev, h1, _, _⟩
    · simp
    · cases hev; exact h1
  have hCo := copyOf_any ao A cap (w.alloc (.cells #[.int .i64 0, .int .i64 0, .slice none 0 0, .slice none 0 0] 159)) (h.below ((Below.refl _ _).al _)) hA hcap hs
  go_enter Tryz.func87, Tryz.ntmps87
  go_wp2_with fail
  refine hCo.mono ?_
  rintro e w1 ⟨v1, rfl, hrow1, hb1⟩
  obtain ⟨ao2, ac2, rfl, hac2, hst2, hao2⟩ := strs_of_row hrow1
  have hbw1 : Below w.heap.size w w1 := ((Below.refl _ _).al _).tr hb1
  have hres1 : w1.heap[w.heap.size]? = some (.cells #[.int .i64 0, .int .i64 0, .slice none 0 0, .slice none 0 0] 159 (0, 0)) := hb1.heapOf (heap_new _ _ _ rfl)
  have hlt1 : wtb < w1.heap.size := Nat.lt_of_lt_of_le hlt hbw1.size
  have hbN : Below w.heap.size w (w1.alloc (.cells #[.int .i64 1, .int .i64 time, .slice ao2 A.length ac2, .slice none 0 0] 159)) := hbw1.al _
  have y3 : (w1.alloc (.cells #[.int .i64 1, .int .i64 time, .slice ao2 A.length ac2, .slice none 0 0] 159)).cell? ⟨wtb, 3, none⟩ = some (.slice ea C.length ecap) := (hbN.cell (p := ⟨wtb, 3, none⟩) hlt).trans hc3
  have hown_lt : ∀ b, (Value.slice ea C.length ecap).ownBlock = some b → b < w.heap.size := fun b hb => (hE.lt b hb).2
  have hnotP : ∀ b cs t m, w.heap[b]? = some (.cells cs t m) → t ≠ 153 → t ≠ 159 → ¬ (b = wtb ∨ (Value.slice ea C.length ecap).ownBlock = some b) := fun b cs t m hb h1 h2 hp => by
    rcases hp with rfl | hp
    · rw [hw] at hb; injection hb with hb; injection hb with _ hb _; exact h1 hb.symm
    · obtain ⟨cur, hc⟩ := own_tag hE hp
      rw [hc] at hb; injection hb with hb; injection hb with _ hb _; exact h2 hb.symm
  have hrowN : ∀ a, ao2 = some a → w.heap.size + 1 ≤ a.block ∧ ∃ cs, w1.heap[a.block]? = some (.cells cs 9 (0, 0)) := fun a ha => by have := hao2 a ha; simpa using this
  have fin : ∀ (num : Int), num = nextN C → ∀ (ev' : Value) (W' : World), W'.heap[wtb]? = some (.cells #[.int .i64 retain, rm, .slice no K.length ncap, ev', pv] 153 (0, 0)) → EvsAt W' ev' (D ++ [(⟨num, time, ao2, A.length, ac2, none, 0, 0⟩ : EvC)]) → Spare (fun b => b = wtb ∨ (Value.slice ea C.length ecap).ownBlock = some b) (w1.alloc (.cells #[.int .i64 num, .int .i64 time, .slice ao2 A.length ac2, .slice none 0 0] 159)) W' → (∀ b, ev'.ownBlock = some b → (Value.slice ea C.length ecap).ownBlock = some b ∨ (w1.alloc (.cells #[.int .i64 num, .int .i64 time, .slice ao2 A.length ac2, .slice none 0 0] 159)).heap.size ≤ b) →
      ∃ g gcap, ev' = .slice (some ⟨g, 0, none⟩) (D.length + 1) gcap ∧ (∀ (i : Nat) c e, D[i]? = some c → F[i]? = some e → EvIn W' c e) ∧ (∀ c ∈ D, EvT W' c) ∧ EvPre W' (⟨num, time, ao2, A.length, ac2, none, 0, 0⟩ : EvC) (⟨nextN C, time, A, []⟩ : Pe) ∧ (∀ a, ao2 = some a → ∃ cs m, W'.heap[a.block]? = some (.cells cs 9 m)) ∧ NodesIn W' no K ∧ (∀ a, no = some a → ∃ cs m, W'.heap[a.block]? = some (.cells cs 226 m)) ∧ W'.heap[w.heap.size]? = some (.cells #[.int .i64 0, .int .i64 0, .slice none 0 0, .slice none 0 0] 159 (0, 0)) ∧ w.heap.size ≠ g ∧
      ∀ (sb sc : Nat) (cur : Array Value) (W'' : World), W'.heap.size ≤ sb → W''.heap[sb]? = some (.cells cur 4 (0, 0)) → Spare (fun b => b = g ∨ b = w.heap.size) W' W'' → EvsAt W'' (.slice (some ⟨g, 0, none⟩) (D.length + 1) gcap) (D ++ [(⟨num, time, ao2, A.length, ac2, none, 0, 0⟩ : EvC).withSo sb (K.length + 1) sc]) → EvIn W'' ((⟨num, time, ao2, A.length, ac2, none, 0, 0⟩ : EvC).withSo sb (K.length + 1) sc) (workF F.reverse K (⟨nextN C, time, A, []⟩ : Pe).bare) →
        TakeD wtb retain rm no ncap K ea ecap pv C D F time A w (.returned (evVal ((⟨num, time, ao2, A.length, ac2, none, 0, 0⟩ : EvC).withSo sb (K.length + 1) sc))) W'' := by
    intro num hnumE ev' W' f1 f2 f3 f4
    have hbW : Below w.heap.size w (w1.alloc (.cells #[.int .i64 num, .int .i64 time, .slice ao2 A.length ac2, .slice none 0 0] 159)) := hbw1.al _
    have hWs : (w1.alloc (.cells #[.int .i64 num, .int .i64 time, .slice ao2 A.length ac2, .slice none 0 0] 159)).heap.size = w1.heap.size + 1 := by simp
    have hW1 : ∀ b o, w1.heap[b]? = some o → (w1.alloc (.cells #[.int .i64 num, .int .i64 time, .slice ao2 A.length ac2, .slice none 0 0] 159)).heap[b]? = some o := fun b o hb => (Below.heap_alloc _ _ _ (heap_lt hb)).trans hb
    generalize (w1.alloc (.cells #[.int .i64 num, .int .i64 time, .slice ao2 A.length ac2, .slice none 0 0] 159)) = W at *
    have hws := hbw1.size
    have hrl := heap_lt hres1
    have sp : Spare (fun b => b = wtb ∨ (Value.slice ea C.length ecap).ownBlock = some b) w W' := (Spare.of_below hbW).trans f3
    have el : (D ++ [(⟨num, time, ao2, A.length, ac2, none, 0, 0⟩ : EvC)]).length = D.length + 1 := by simp
    obtain ⟨g, gcap, rfl⟩ : ∃ g gcap, ev' = .slice (some ⟨g, 0, none⟩) (D.length + 1) gcap := by
      rcases f2.cases with ⟨_, h2⟩ | ⟨g, cp, hev, _⟩
      · simp at h2
      · rw [el] at hev; exact ⟨g, cp, hev⟩
    have hgt : ∃ cg, W'.heap[g]? = some (.cells cg 159 (0, 0)) := own_tag f2 rfl
    obtain ⟨cg, hgt⟩ := hgt
    have hgf := f4 g rfl
    have hao3 : ∀ a, ao2 = some a → ∃ cs m, W'.heap[a.block]? = some (.cells cs 9 m) := fun a ha => by
      obtain ⟨h1, cs, h2⟩ := hrowN a ha
      refine ⟨cs, (0, 0), (f3.block _ (heap_lt (hW1 _ _ h2)) (fun hp => ?_)).trans (hW1 _ _ h2)⟩
      rcases hp with e | e
      · omega
      · have := hown_lt _ e; omega
    refine ⟨g, gcap, rfl, fun i c e h1 h2 => ?_, fun c hc => ?_, ⟨hnumE, rfl, ⟨by show -1000000000000 ≤ time; omega, ht.2⟩, rfl, by show A.length ≤ _; omega, fun hne => ?_⟩, hao3, hN.spare sp (fun a ha => ?_), fun a ha => ?_, ?_, ?_, ?_⟩
    · have ht := hTD c (List.mem_of_getElem? h1)
      exact (hInD i c e h1 h2).spare sp (fun a ha => by obtain ⟨cs, m, k⟩ := ht.so a ha; exact hnotP _ _ _ _ k (by decide) (by decide)) (fun a ha => by obtain ⟨cs, m, k⟩ := ht.ao a ha; exact hnotP _ _ _ _ k (by decide) (by decide))
    · have ht := hTD c hc
      exact ht.spare sp (fun a ha => by obtain ⟨cs, m, k⟩ := ht.so a ha; exact hnotP _ _ _ _ k (by decide) (by decide)) (fun a ha => by obtain ⟨cs, m, k⟩ := ht.ao a ha; exact hnotP _ _ _ _ k (by decide) (by decide))
    · obtain ⟨b, off, h1, h2, h3⟩ := hst2 hne
      obtain ⟨k1, cs, k2⟩ := hrowN _ h1
      have hb : W'.heap[b]? = w1.heap[b]? := ((f3.block b (by omega) (fun hp => by
        rcases hp with e | e
        · have : w.heap.size + 1 ≤ b := k1; omega
        · have := hown_lt _ e; have : w.heap.size + 1 ≤ b := k1; omega)).trans (hW1 b _ k2)).trans k2.symm
      exact ⟨b, off, h1, by have := f3.size; omega, fun j hj => by rw [World.cell?_of_block hb]; exact h3 j hj⟩
    · obtain ⟨cs, m, k⟩ := hNt a ha; exact hnotP _ _ _ _ k (by decide) (by decide)
    · obtain ⟨cs, m, k⟩ := hNt a ha; exact ⟨cs, m, (sp.block _ (heap_lt k) (hnotP _ _ _ _ k (by decide) (by decide))).trans k⟩
    · refine (f3.block _ (by omega) (fun hp => ?_)).trans (hW1 _ _ hres1)
      rcases hp with e | e
      · omega
      · have := hown_lt _ e; omega
    · rcases hgf with e | e
      · have := hown_lt _ e; omega
      · omega
    · intro sb sc cur W'' a1 a2 a3 a4 a5
      have hss := f3.size
      have hgw : g ≠ wtb := by rintro rfl; rw [f1] at hgt; cases hgt
      refine ⟨_, _, sb, cur, rfl, rfl, by omega, a2, (a3.block wtb (heap_lt f1) (fun hp => hp.elim (fun e => hgw e.symm) (fun e => by omega))).trans f1, a4, a5, ⟨fun a ha => ?_, fun a ha => ?_⟩, ⟨a3.os.trans sp.os, a3.tape.trans sp.tape, a3.output.trans sp.output, Nat.le_trans sp.size a3.size, fun b hb hp => (a3.block b (Nat.lt_of_lt_of_le hb sp.size) (fun e => ?_)).trans (sp.block b hb hp)⟩, fun b hb => ?_⟩
      · have : some (⟨sb, 0, none⟩ : Addr) = some a := ha
        cases this
        exact ⟨cur, (0, 0), a2⟩
      · obtain ⟨cs, m, k⟩ := hao3 a ha
        obtain ⟨k1, _⟩ := hrowN a ha
        refine ⟨cs, m, (a3.block _ (heap_lt k) (fun hp => ?_)).trans k⟩
        rcases hp with e | e
        · rw [e, hgt] at k; cases k
        · omega
      · rcases e with e | e
        · rcases hgf with e2 | e2
          · exact hp (.inr (e ▸ e2))
          · omega
        · omega
      · exact (f4 b hb).imp id (fun x => by omega)
  rcases List.eq_nil_or_concat C with rfl | ⟨C0, cl, rfl⟩
  · simp at hkn; omega
  · rw [List.concat_eq_append] at *
    have hcl : (C0 ++ [cl])[C0.length]? = some cl := by simp
    have hlen1 : (C0 ++ [cl]).length = C0.length + 1 := by simp
    rcases hE.cases with ⟨_, h2⟩ | ⟨g0, cp, hev, _, _, hgl⟩
    · simp at h2
    cases hev
    have hq := hE.cell (k := 0) hcl rfl
    have y0 : (w1.alloc (.cells #[.int .i64 1, .int .i64 time, .slice ao2 A.length ac2, .slice none 0 0] 159)).cell? ⟨g0, C0.length * 4, none⟩ = some (.int .i64 cl.number) := (hbN.cell (p := ⟨g0, C0.length * 4, none⟩) hgl).trans hq
    have hnb := hnum cl (by simp)
    have hnn : cl.number + 1 = nextN (C0 ++ [cl]) := by simp [nextN]
    rw [hlen1] at y3
    go_wp2_with fail
    refine region5_drop _ ?hq5b wtb w1.heap.size retain rm (.slice no K.length ncap) _ _ pv _ _ time ao2 A.length ac2 _ _ _ _ _ _ _ _ _ _ _ _ _ _ _ _ _ _ _ _ _ _ _ _ _ _ _ _ _ _ _ _ _ _ _ _ _ _ _ _ _ _ _ _ _ _ _ _ _ _ _ _ ((hbw1.al _).heapOf hw) (hE.below (hbw1.al _)) hn ht hr k hold hk0 hkn (heap_new _ _ _ rfl) (fun e => by have := hown_lt _ e; have := hbw1.size; omega) ?_
    case hq5b => exact fun _ _ d _ _ h => by cases d <;> exact h
    intro ev' W' v41 f1 f2 f3 f4
    rw [← hD] at f2
    have hDl := HDl.out
    obtain ⟨g, gcap, rfl, k1, k2, k3, k4, k5, k6, k7, k8, k9⟩ := fin (nextN (C0 ++ [cl])) rfl _ _ f1 f2 f3 f4
    go_wp2_with fail
    refine region6_any _ ?hq6b wtb w.heap.size g gcap (.int .i64 retain) rm no ncap K pv D _ F _ W' _ _ _ _ _ _ _ _ _ _ _ _ _ _ _ _ _ _ _ _ _ _ _ _ _ _ _ _ _ _ _ _ _ _ _ _ _ _ _ _ _ _ _ _ _ _ _ _ _ _ _ _ f1 f2 hnD Hlen.out k1 k2 k3 k4 hK hnc k5 k6 hop hAh hrowD k7 k8 ?_
    case hq6b => exact fun _ _ d _ _ h => by cases d <;> exact h
    intro sb sc cur W'' a1 a2 a3 a4 a5 a6
    have q0 := cell_at (i := 0) a6 rfl
    have q1 := cell_at (i := 1) a6 rfl
    have q2 := cell_at (i := 2) a6 rfl
    have q3 := cell_at (i := 3) a6 rfl
    have K9 := k9 sb sc cur W'' a1 a2 a3 a4 a5
    clear k1 k2 k3 k4 k5 k6 k7 k9 f1 f2 f3 f4 a1 a2 a3 a4 a5
    go_wp2_with fail
    rw [hD, hF] at K9
    refine ⟨rfl, _, ?_, K9⟩
    simp [results, Tryz.f87, go_sem, loadVar, evVal, EvC.withSo, q0, q1, q2, q3]
end Go.Proofs.YtpbbmagjhkakgaaGreatDoor.Ev

namespace Go.Proofs.YtpbbmagjhkakgaaGreatDoor.Ev
open Go.RowKit Go.Deep Go.Proofs.YtpbbmagjhkakgaaGreatDoor.Lf Go.Conc
theorem take_all (wtb : Nat) (retain : Int) (rm : Value) (no : Option Addr) (ncap : Nat) (K : List Key) (ea : Option Addr) (ecap : Nat) (pv : Value) (C : List EvC) (E : List Pe) (time : Int) (ao : Option Addr) (A : List ByteArray) (cap : Nat) (w : World)
    (hw : w.heap[wtb]? = some (.cells #[.int .i64 retain, rm, .slice no K.length ncap, .slice ea C.length ecap, pv] 153 (0, 0))) (hE : EvsAt w (.slice ea C.length ecap) C) (hlen : C.length = E.length) (hIn : ∀ (i : Nat) c e, C[i]? = some c → E[i]? = some e → EvIn w c e) (hT : ∀ c ∈ C, EvT w c) (hn : C.length ≤ 1000) (ht : 0 ≤ time ∧ time ≤ 1000000000000) (hr : 0 ≤ retain ∧ retain ≤ 1000000000) (k : Nat) (hold : oldF (time - retain) C = k)
    (hnum : ∀ c, C.getLast? = some c → 0 ≤ c.number ∧ c.number ≤ 1000000000000) (h : StrsIn w ao A) (hA : A.length ≤ 1000) (hcap : A.length ≤ cap) (hs : ∀ j, j < A.length → (A.getD j ByteArray.empty).size ≤ 1000)
    (hK : K.length ≤ 1000) (hnc : K.length ≤ ncap) (hN : NodesIn w no K) (hNt : ∀ a, no = some a → ∃ cs m, w.heap[a.block]? = some (.cells cs 226 m)) (hop : ∀ k ∈ K, CoreOp k.op) (hAh : Ahead K) (hrow : ∀ e ∈ E, e.so.length = K.length + 1) :
    Calls Tryz.prog 87 #[.pointer (some ⟨wtb, 0, none⟩), .int .i64 time, .slice ao A.length cap] w (TakeD wtb retain rm no ncap K ea ecap pv C (C.drop k) (E.drop k) time A w) := by
  by_cases hk : k = 0
  · subst hk
    exact take_any wtb retain rm no ncap K ea ecap pv C E time ao A cap w hw hE hlen hIn hT hn ht hr hold hnum h hA hcap hs hK hnc hN hNt hop hAh hrow
  · exact take_drop wtb retain rm no ncap K ea ecap pv C E time ao A cap w hw hE hlen hIn hT hn ht hr k hold (by omega) (by rw [← hold]; exact oldF_le _ _) hnum h hA hcap hs hK hnc hN hNt hop hAh hrow
def EvDoneD (w : World) (wtb : Nat) (retain room : Int) (no : Option Addr) (ncap : Nat) (K : List Key) (ea : Option Addr) (C D : List EvC) (F : List Pe) (pa : Option Addr) (pcap : Nat) (ps : List Pol) (ss : List Strm) (time : Int) (A : List ByteArray) (W' : World) : Prop :=
  ∃ (c : EvC) (ea' : Option Addr) (ecap' : Nat) (ss' : List Strm), WatchAt W' wtb retain room no ncap K ea' ecap' (D ++ [c]) (F ++ [workF F.reverse K (⟨nextN C, time, A, []⟩ : Pe).bare]) pa pcap ps ss' ∧ c.time = time ∧ c.number = nextN C ∧ SpareR (Own46 wtb ea ss) w W' ∧ (∀ a, ea' = some a → (∃ a0, ea = some a0 ∧ a0.block = a.block) ∨ w.heap.size ≤ a.block) ∧
    (∀ (i : Nat) (s : Strm) (p : Pol), ss[i]? = some s → ps[i]? = some p → ∃ t, ss'[i]? = some t ∧ t.stb = s.stb ∧ t.n = s.n + 1 ∧ t.xs = s.xs ++ verCells (nextN C) time p.ver ((workF F.reverse K (⟨nextN C, time, A, []⟩ : Pe).bare).at (p.node : Int)) ∧ (t.sv.ownBlock = s.sv.ownBlock ∨ ∃ g, t.sv.ownBlock = some g ∧ w.heap.size ≤ g))
def TakeMidD (wtb : Nat) (retain room : Int) (no : Option Addr) (ncap : Nat) (K : List Key) (ea : Option Addr) (ecap : Nat) (C D : List EvC) (F : List Pe) (pa : Option Addr) (pcap : Nat) (ps : List Pol) (time : Int) (A : List ByteArray) (w1 : World) (c : EvC) (evb : Nat) (w2 : World) : Prop :=
  ∃ (ev' : Value) (sb : Nat) (cur : Array Value), c.so = some ⟨sb, 0, none⟩ ∧ w1.heap.size ≤ sb ∧ w2.heap[sb]? = some (.cells cur 4 (0, 0)) ∧ w2.heap[wtb]? = some (.cells #[.int .i64 retain, .int .i64 room, .slice no K.length ncap, ev', .slice pa ps.length pcap] 153 (0, 0)) ∧ EvsAt w2 ev' (D ++ [c]) ∧
    EvIn w2 c (workF F.reverse K (⟨nextN C, time, A, []⟩ : Pe).bare) ∧ EvT w2 c ∧ SpareR (fun b => b = wtb ∨ (Value.slice ea C.length ecap).ownBlock = some b) w1 w2 ∧ (∀ b, ev'.ownBlock = some b → (Value.slice ea C.length ecap).ownBlock = some b ∨ w1.heap.size ≤ b) ∧ w2.heap[evb]? = some (.cells #[.int .i64 c.number, .int .i64 c.time, c.av, c.sv] 159 (0, 0))
theorem TakeMidD.tapeR {wtb : Nat} {retain room : Int} {no : Option Addr} {ncap : Nat} {K : List Key} {ea : Option Addr} {ecap : Nat} {C D : List EvC} {F : List Pe} {pa : Option Addr} {pcap : Nat} {ps : List Pol} {time : Int} {A : List ByteArray} {w1 : World} {c : EvC} {evb : Nat} {w2 : World} (h : TakeMidD wtb retain room no ncap K ea ecap C D F pa pcap ps time A w1 c evb w2) (τ : Tape) (d : Nat) : TakeMidD wtb retain room no ncap K ea ecap C D F pa pcap ps time A w1 c evb (re w2 τ d) := by
  obtain ⟨ev', sb, cur, t1, t2, t3, t4, t5, t6, t7, t8, t9, t10⟩ := h
  exact ⟨ev', sb, cur, t1, t2, t3, t4, t5, t6.tapeR τ d, ⟨t7.so, t7.ao⟩, t8.tapeR τ d, t9, t10⟩
set_option maxRecDepth 100000 in
set_option maxHeartbeats 4000000 in
theorem event_drop {w : World} {wtb : Nat} {retain room : Int} {no : Option Addr} {ncap : Nat} {K : List Key} {ea : Option Addr} {ecap : Nat} {C : List EvC} {E : List Pe} {pa : Option Addr} {pcap : Nat} {ps : List Pol} {ss : List Strm} (h : WatchAt w wtb retain room no ncap K ea ecap C E pa pcap ps ss) (time : Int) (ao : Option Addr) (A : List ByteArray) (cap : Nat)
    (ht : 0 ≤ time ∧ time ≤ 1000000000000) (hl : ∀ e, C.getLast? = some e → e.time < time) (k : Nat) (hold : oldF (time - retain) C = k) (hroom : (C.length : Int) - (k : Int) + 1 ≤ room) (hA : StrsIn w ao A) (hA10 : A.length ≤ 10) (hcap : A.length ≤ cap) (hN : ∀ j, j < A.length → NameOK (A.getD j ByteArray.empty)) (hD : ∀ j, j < A.length → Lib.containsS (A.take j) (A.getD j ByteArray.empty) = false)
    (hfew : C.length + 1 ≤ 1000) (hnx : 0 ≤ nextN C ∧ nextN C ≤ 1000000000) (hfull : ∀ s ∈ ss, s.n < 30) :
    HCalls Tryz.prog 46 #[.pointer (some ⟨wtb, 0, none⟩), .int .i64 time, .slice ao A.length cap] w fun e W' => e = .returned .nilIface ∧ EvDoneD w wtb retain room no ncap K ea C (C.drop k) (E.drop k) pa pcap ps ss time A W' := by
  have hP := plain_prog
  obtain ⟨D, hDe⟩ : ∃ D, D = C.drop k := ⟨_, rfl⟩
  obtain ⟨F, hFe⟩ : ∃ F, F = E.drop k := ⟨_, rfl⟩
  have hDF : D.length = F.length := by rw [hDe, hFe, List.length_drop, List.length_drop, h.len]
  have hfewD : D.length + 1 ≤ 1000 := by rw [hDe, List.length_drop]; omega
  have hrowF : ∀ e ∈ F, e.so.length = K.length + 1 := fun e he => h.rows e (by rw [hFe] at he; exact List.mem_of_mem_drop he)
  rw [← hDe, ← hFe]
  replace hDe : Hid _ := hDe
  replace hFe : Hid _ := hFe
  have hi0 : ∀ it ∈ ([] : List Item), okItem it := by simp
  have hi1 : ∀ (c : Code), ∀ it ∈ [Item.code c], okItem it := fun c => okItems_cons trivial (by simp)
  have hi2 : ∀ (c d : Code), ∀ it ∈ [Item.code c, Item.code d], okItem it := fun c d => okItems_cons trivial (okItems_cons trivial (by simp))
  have hroomy : Roomy w ps := fun i p hp => by
    have hi : i < ss.length := by rw [h.plen]; exact (List.getElem?_eq_some_iff.1 hp).1
    have hsm : ss[i] ∈ ss := List.getElem_mem hi
    have hso := h.sok _ hsm
    obtain ⟨o, n, cp, hsv, hn⟩ : ∃ o n cp, ss[i].sv = .slice o n cp ∧ n < 30 := by
      have hf := hfull _ hsm
      rcases hso.2.2 with ⟨e, e2⟩ | ⟨g, cp, cur, e, _⟩
      · exact ⟨_, _, _, e, by omega⟩
      · exact ⟨_, _, _, e, hf⟩
    exact ⟨ss[i].stb, o, n, cp, h.pstr i _ p (List.getElem?_eq_getElem hi) hp, by rw [← hsv]; exact hso.1, hn⟩
  have hsz8 : ∀ j, j < A.length → (A.getD j ByteArray.empty).size ≤ 1000 := fun j hj => by have := (hN j hj).high; omega
  have hCk : Hid (∀ τ d, Calls Tryz.prog 86 #[.pointer (some ⟨wtb, 0, none⟩), .int .i64 time, .slice ao A.length cap] (re w τ d) fun e w' => e = .returned .nilIface ∧ Below (re w τ d).heap.size (re w τ d) w') := fun τ d => by
    have hh := h.tapeR τ d
    have hlo := h.few
    have hp := h.pfew
    exact checkEvent_ok wtb retain room _ _ pa pcap ps C time ao A cap (re w τ d) hh.cell hh.evs (by omega) ht hh.ret hl (by rw [hold]; exact hroom) hA hA10 hcap hN hD hh.pols (by omega) hh.pcp hroomy
  refine HCalls.of_lead Tryz.func46 rfl (fun cs hcs => ?_)
  simp only [Tryz.ntmps46, List.size_toArray, List.length_cons, List.length_nil, Nat.reduceAdd, Nat.reduceSub, Array.replicate_succ, Array.replicate_zero, List.push_toArray, List.append_toArray, List.nil_append, List.cons_append]
  refine LeadsR.seq hP hi0 hcs ?_
  refine LeadsR.piece hP (fun a' w' => a' = ⟨#[.pointer (some ⟨wtb, 0, none⟩), .int .i64 time, .slice ao A.length cap, undef, undef, undef, .nilIface, undef, undef, undef, undef, undef, undef, undef, undef, undef, undef, undef, undef, undef, undef, undef, undef, undef, undef, undef, undef, undef, undef, undef, undef, undef, undef, undef, undef, undef, undef, undef, undef, undef, undef], []⟩ ∧ ∃ τ d, w' = re w τ d) (fun a w τ d x => ⟨x.1, by obtain ⟨_, τ', d', rfl⟩ := x; exact ⟨τ, d, rfl⟩⟩) (hi1 _) hcs (fun τ d => ?_) ?_
  · go_wp2_with fail
    exact ⟨τ, d, rfl⟩
  rintro a' w' ⟨rfl, τ, d, rfl⟩
  refine LeadsR.other ?_ τ d
  dsimp only
  refine LeadsR.seq hP hi0 hcs ?_
  refine LeadsR.piece hP (fun a' w' => a' = ⟨#[.pointer (some ⟨wtb, 0, none⟩), .int .i64 time, .slice ao A.length cap, undef, undef, undef, .nilIface, .nilIface, undef, undef, .pointer (some ⟨wtb, 0, none⟩), .int .i64 time, .slice ao A.length cap, .nilIface, .nilIface, .bool false, undef, undef, undef, undef, undef, undef, undef, undef, undef, undef, undef, undef, undef, undef, undef, undef, undef, undef, undef, undef, undef, undef, undef, undef, undef], []⟩ ∧ SpareR (fun _ => False) w w') (fun a w τ d x => ⟨x.1, x.2.tapeR τ d⟩) (hi1 _) hcs (fun τ d => ?_) ?_
  · have hc := hCk.out τ d
    clear hCk
    go_wp2_with fail
    refine hc.mono ?_
    rintro e w1 ⟨rfl, hb1⟩
    go_wp2_with fail
    exact (SpareR.of_below hb1).tape0
  rintro a' w1 ⟨rfl, hs1⟩
  dsimp only
  have h1w := h.move hs1 (Kinds.none _ _)
  have hA1 := hA.move hs1
  have hTk : Hid (∀ τ d, Calls Tryz.prog 87 #[.pointer (some ⟨wtb, 0, none⟩), .int .i64 time, .slice ao A.length cap] (re w1 τ d) (TakeD wtb retain (.int .i64 room) no ncap K ea ecap (.slice pa ps.length pcap) C D F time A (re w1 τ d))) := fun τ d => by
    have hh := h1w.tapeR τ d
    rw [hDe.out, hFe.out]
    exact take_all wtb retain (.int .i64 room) no ncap K ea ecap _ C E time ao A cap (re w1 τ d) hh.cell hh.evs hh.len hh.ins hh.typed hh.few ht hh.ret k hold (fun c hc => by have := hh.nums c hc; omega) hA1 (by omega) hcap hsz8 hh.nfew hh.ncp hh.nodes hh.ntyped hh.core hh.ahead hh.rows
  refine LeadsR.seq hP hi0 hcs ?_
  refine LeadsR.piece hP (fun a' w2 => ∃ c evb, a' = ⟨#[.pointer (some ⟨wtb, 0, none⟩), .int .i64 time, .slice ao A.length cap, undef, undef, undef, .nilIface, .nilIface, .pointer (some ⟨evb, 0, none⟩), undef, .pointer (some ⟨wtb, 0, none⟩), .int .i64 time, .slice ao A.length cap, .nilIface, .nilIface, .bool false, undef, undef, undef, undef, undef, .pointer (some ⟨wtb, 0, none⟩), .pointer (some ⟨wtb, 0, none⟩), .pointer (some ⟨wtb, 0, none⟩), .int .i64 time, .slice ao A.length cap, evVal c, undef, undef, undef, undef, undef, undef, undef, undef, undef, undef, undef, undef, undef, undef], []⟩ ∧ TakeMidD wtb retain room no ncap K ea ecap C D F pa pcap ps time A w1 c evb w2) (fun a w τ d x => by obtain ⟨c, evb, x1, x2⟩ := x; exact ⟨c, evb, x1, x2.tapeR τ d⟩) (hi1 _) hcs (fun τ d => ?_) ?_
  · have hc := hTk.out τ d
    clear hCk hTk
    go_wp2_with fail
    refine hc.mono ?_
    rintro e w2 ⟨c, ev', sb, cur, rfl, t1, t2, t3, t4, t5, t6, t7, t8, t9⟩
    have hmid : TakeMidD wtb retain room no ncap K ea ecap C D F pa pcap ps time A w1 c w2.heap.size (w2.alloc (.cells #[.int .i64 c.number, .int .i64 c.time, .slice c.ao c.al c.ac, .slice c.so c.sl c.sc] 159)) := by
      have hsp : SpareR (fun _ => False) w2 (w2.alloc (.cells #[.int .i64 c.number, .int .i64 c.time, .slice c.ao c.al c.ac, .slice c.so c.sl c.sc] 159)) := SpareR.of_below ((Below.refl _ _).al _)
      exact ⟨ev', sb, cur, t1, t2, hsp.get t3 (fun x => x), hsp.get t4 (fun x => x), t5.move hsp (Kinds.none _ _), t6.move t7 hsp (Kinds.none _ _), t7.move hsp (Kinds.none _ _), (SpareR.of_spare t8).tape0.trans (hsp.mono fun _ _ x => x.elim), t9, heap_new _ _ _ rfl⟩
    clear t1 t2 t3 t4 t5 t6 t7 t8 t9
    simp only [evVal]
    go_wp2_with fail
    refine ⟨c, w2.heap.size, ?_, hmid⟩
    simp [evVal]
  rintro a' w2 ⟨c, evb, rfl, ev', sb, cur, t1, t2, t3, t4, t5, t6, t7, t8, t9, t10⟩
  clear hCk hTk
  dsimp only
  refine LeadsR.seq hP hi0 hcs ?_
  -- what the row says of each policy
  obtain ⟨q1, q2, q3, q4, _⟩ := workF_same F.reverse K (⟨nextN C, time, A, []⟩ : Pe).bare
  generalize hpe : workF F.reverse K (⟨nextN C, time, A, []⟩ : Pe).bare = pe at *
  have hnum : c.number = nextN C := t6.number.trans q1
  have htime : c.time = time := t6.time.trans q2
  have hpl : pe.so.length = K.length + 1 := by rw [q4]; simp [Pe.bare]; omega
  have hkt : Kinds w1 (fun b => b = wtb ∨ (Value.slice ea C.length ecap).ownBlock = some b) [4, 9, 226, 183, 177, 59] := fun b cs t m hb ht hp => by
    rcases hp with rfl | hp
    · rw [h1w.cell] at hb; injection hb with hb; injection hb with _ hb _; subst hb; simp at ht
    · obtain ⟨cur', hc⟩ := own_tag h1w.evs hp
      rw [hc] at hb; injection hb with hb; injection hb with _ hb _; subst hb; simp at ht
  have hok2 : ∀ s ∈ ss, StrOK w2 s := fun s hs => StrOK.move (h1w.sok s hs) t8 (hkt.less (by simp))
  have hpo2 := PolsIn.move h1w.pols t8 (hkt.less (by simp))
  have hso2 : SoIn w2 c.sv (ps.map fun p => { p with v := pe.at (p.node : Int) }) := by
    obtain ⟨sb', s1, s2, s3⟩ := t6.so
    have hse : sb' = sb := by rw [t1] at s1; simp at s1; exact s1.symm
    subst hse
    refine ⟨sb', 0, c.sl, c.sc, cur, (0, 0), by simp [EvC.sv, t1], t3, fun p hp => ?_⟩
    simp at hp
    obtain ⟨q, hq, rfl⟩ := hp
    have hqn := h.pnode q hq
    have hql : q.node < pe.so.length := by omega
    have hbit := EvIn.bit s3 hql
    refine ⟨?_, by rw [t6.sl]; exact hql⟩
    simp only [Nat.zero_add]
    simpa [World.cell?, t3] using hbit
  refine LeadsR.mono (rest_any (w := w2) wtb evb pa pcap c.number c.time c.av c.sv ss (ps.map fun p => { p with v := pe.at (p.node : Int) }) (polsIn_says _ hpo2) hso2 (fun s hs => by have := hfull s hs; omega) (by have := h.pfew; simp; omega) (by simp [h.plen]) (fun i s p h1 h2 => by simp at h2; obtain ⟨q, hq, rfl⟩ := h2; exact h.pstr i s q h1 hq) hok2 h.apart _ _ _ _ _ _ _ _ _ _ _ _ _ _ _ _ _ _ _ _ _ _ _ _ _ _ _ _ _ _ cs hcs _ _ _ _ _ _ _ _ _ _ _ _ _ (by rw [List.length_map]; exact t4) t10) ?_
  rintro g' W' ⟨e, fr, r1, r2, ⟨rfl, p1, p2, p3, p4, S, now, p5, p6⟩, r4, r5⟩
  refine ⟨_, fr, r1, r2, ⟨rfl, ?_⟩, r4, r5⟩
  subst hpe
  have hsp3 : SpareR (Ms ss) w2 W' := ⟨p1, p2, p3, p4⟩
  have hkm : Kinds w2 (Ms ss) [4, 9, 226, 183, 159, 153] := fun b cs t m hb ht => by
    refine Ms.not hok2 hb ?_ ?_ <;> (rintro rfl; simp at ht)
  obtain ⟨ea', ecap', rfl, f1, f2, f3⟩ := t5.form
  have hin2 : ∀ (i : Nat) c' e, D[i]? = some c' → F[i]? = some e → EvIn w2 c' e := fun i c' e h1 h2 => (h1w.ins (k + i) c' e (by rw [← List.getElem?_drop, ← hDe.out]; exact h1) (by rw [← List.getElem?_drop, ← hFe.out]; exact h2)).move (h1w.typed c' (List.mem_of_mem_drop (hDe.out ▸ List.mem_of_getElem? h1))) t8 (hkt.less (by simp))
  have hty2 : ∀ c' ∈ D, EvT w2 c' := fun c' hc' => (h1w.typed c' (List.mem_of_mem_drop (hDe.out ▸ hc'))).move t8 (hkt.less (by simp))
  have hap := h.plen
  refine ⟨c, ea', ecap', now, ?_, htime, hnum, ?_, ?_, ?_⟩
  · refine ⟨hsp3.get t4 (hkm _ _ _ _ t4 (by simp)), t5.move hsp3 (hkm.less (by simp)), by simp [hDF], fun i c' e h1 h2 => ?_, fun c' hc' => ?_, by simpa using hfewD, h.ret, fun c' hc' => ?_, h.nfew, h.ncp, ?_, ?_, h.core, h.ahead, fun e he => ?_, PolsIn.move hpo2 hsp3 (hkm.less (by simp)), h.pfew, h.pcp, by rw [p6.len]; exact h.plen, fun i s p h1 h2 => ?_, p6.ok, p6.apart, h.pnode⟩
    · rcases Nat.lt_or_ge i D.length with hi | hi
      · rw [List.getElem?_append_left hi] at h1
        rw [List.getElem?_append_left (by rw [← hDF]; exact hi)] at h2
        exact (hin2 i c' e h1 h2).move (hty2 c' (List.mem_of_getElem? h1)) hsp3 (hkm.less (by simp))
      · have hi' : i = D.length := by have := (List.getElem?_eq_some_iff.1 h1).1; simp at this; omega
        subst hi'
        rw [hDF] at h2
        simp at h1 h2
        subst h1; subst h2
        exact t6.move t7 hsp3 (hkm.less (by simp))
    · rcases List.mem_append.1 hc' with hc' | hc'
      · exact (hty2 c' hc').move hsp3 (hkm.less (by simp))
      · simp at hc'; subst hc'; exact t7.move hsp3 (hkm.less (by simp))
    · simp at hc'; subst hc'; rw [hnum]; exact hnx
    · exact (h1w.nodes.move h1w.ntyped t8 (hkt.less (by simp))).move (typed.move h1w.ntyped t8 (hkt.less (by simp))) hsp3 (hkm.less (by simp))
    · exact typed.move (typed.move h1w.ntyped t8 (hkt.less (by simp))) hsp3 (hkm.less (by simp))
    · rcases List.mem_append.1 he with he | he
      · exact hrowF e he
      · simp at he; subst he; exact hpl
    · have hi : i < ss.length := by rw [← p6.len]; exact (List.getElem?_eq_some_iff.1 h1).1
      obtain ⟨t, k1, k2, _⟩ := p6.done i ss[i] _ (by simp; rw [← h.plen]; exact hi) (List.getElem?_eq_getElem hi) (by rw [List.getElem?_map, h2]; rfl)
      rw [h1] at k1; cases k1
      rw [k2]
      exact h.pstr i ss[i] p (List.getElem?_eq_getElem hi) h2
  · have s1 : SpareR (Own46 wtb ea ss) w w1 := hs1.mono fun _ _ x => x.elim
    have s2 : SpareR (Own46 wtb ea ss) w1 w2 := t8.mono fun b _ hb => by
      rcases hb with hb | hb
      · exact .inl hb
      · cases ea with
        | none => cases hb
        | some a => exact .inr (.inl ⟨a, rfl, by cases hb; rfl⟩)
    exact (s1.trans s2).trans (hsp3.mono fun _ _ x => .inr (.inr x))
  · intro a ha
    subst ha
    rcases t9 a.block rfl with hb | hb
    · cases ea with
      | none => cases hb
      | some a0 => exact .inl ⟨a0, rfl, by simpa [Value.ownBlock] using hb⟩
    · exact .inr (by have := hs1.size; omega)
  · intro i s p h1 h2
    obtain ⟨t, k1, k2, k3, k4, k5⟩ := p6.done i s { p with v := (workF F.reverse K (⟨nextN C, time, A, []⟩ : Pe).bare).at (p.node : Int) } (by simp; exact (List.getElem?_eq_some_iff.1 h2).1) h1 (by rw [List.getElem?_map, h2]; rfl)
    refine ⟨t, k1, k2, k3, ?_, k5.imp id fun ⟨g, g1, g2⟩ => ⟨g, g1, by have := p5 g g2; have := t8.size; have := hs1.size; omega⟩⟩
    rw [k4, hnum, htime]
end Go.Proofs.YtpbbmagjhkakgaaGreatDoor.Ev
