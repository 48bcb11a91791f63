import Derived.Test.YtpbbmagjhkakgaaGreatDoorLfPlainToLfSent
import Derived.Test.YtpbbmagjhkakgaaGreatDoorScanToEvBack
namespace Go.Proofs.YtpbbmagjhkakgaaGreatDoor.Lf
open Go Go.Conc Go.RowKit
open Go.Proofs (Tryz.f46 Tryz.f88 Tryz.prog Tryz.func46 Tryz.ntmps46 Tryz.func88 Tryz.ntmps88 Tryz.func89)
variable {w : World} {Ro : Nat → Prop}
structure EvPost (w w' : World) (ss : List Strm) (num time : Int) (ps : List Pol) : Prop where
 os : w'.os = w.os
 output : w'.output = w.output
 size : w.heap.size ≤ w'.heap.size
 keep : ∀ b, b < w.heap.size → ¬ Ms ss b → w'.heap[b]? = w.heap[b]?
 taken : ∃ (S : Nat → Prop) (now : List Strm), (∀ b, S b → w.heap.size ≤ b) ∧ Taken (w.heap.size + 4) ss num time ps ps.length S w' now
theorem EvPost.re {w' : World} {ss : List Strm} {num time : Int} {ps : List Pol} (h : EvPost w w' ss num time ps) (τ : Tape) (d : Nat) : EvPost w (re w' τ d) ss num time ps := by
 obtain ⟨h1, h2, h3, h4, S, now, h5, h6⟩ := h
 exact ⟨h1, h2, h3, h4, S, now, h5, h6.len, h6.rest, h6.done, h6.ok, h6.apart, h6.mine⟩
noncomputable def midE : Code := match body46 with
 | .seq _ (.seq _ (.seq _ (.seq x _))) => x
 | _ => .skip
set_option maxRecDepth 100000 in
set_option maxHeartbeats 2000000 in
theorem end_e (R : Ending → World → Prop) (c : Nat) (x0 x1 x2 x3 x4 x5 x6 x7 x8 x10 x11 x12 x13 x14 x15 x16 x17 x18 x19 x20 x21 x22 x23 x24 x25 x26 x27 x28 x29 x30 x31 : Value) (cs : List Frame) (hcs : ∀ fr ∈ cs, okFrame fr) (u9 u33 u34 u35 u36 u37 u38 u39 u40 : Value) (w : World) (hR : ∀ τ d, R (.returned .nilIface) (re w τ d)) :
  LeadsR Tryz.prog (fun g w' => ∃ e fr, g = G fr cs ∧ okFrame fr ∧ R e w' ∧ fr.fn = 46 ∧ fr.leaving Tryz.prog w' e) (endE c x0 x1 x2 x3 x4 x5 x6 x7 x8 x10 x11 x12 x13 x14 x15 x16 x17 x18 x19 x20 x21 x22 x23 x24 x25 x26 x27 x28 x29 x30 x31 cs u9 u33 u34 u35 u36 u37 u38 u39 u40) w := by
 have hP := plain_prog
 have hi4 : ∀ (a b d : Code), ∀ it ∈ [Item.code a, .inLoop b, .inBlock 0, .code d], okItem it := fun a b d => okItems_cons trivial (okItems_cons trivial (okItems_cons trivial (okItems_cons trivial (by simp))))
 have hi3 : ∀ (b d : Code), ∀ it ∈ [Item.inLoop b, .inBlock 0, .code d], okItem it := fun b d => okItems_cons trivial (okItems_cons trivial (okItems_cons trivial (by simp)))
 have hi1 : ∀ (c : Code), ∀ it ∈ [Item.code c], okItem it := fun c => okItems_cons trivial (by simp)
 have hi0 : ∀ it ∈ ([] : List Item), okItem it := by simp
 simp only [endE, loopE, tailE, opsE, body46, Tryz.f46, Option.getD_some]
 refine LeadsR.val hP (w' := w) (v := .bool false) rfl (by rfl) (fun τ d => run_eq_of ?r0) (hi4 _ _ _) hcs ?_
 case r0 => intro K hK; go_simp; exact hK
 try walk_nrm
 refine LeadsR.nil hP (hi4 _ _ _) hcs ?_
 refine LeadsR.seq hP (hi3 _ _) hcs ?_
 refine LeadsR.code (Q := fun e a' w' => e = .exit 0 ∧ a' = _ ∧ ∃ τ d, w' = re w τ d) (HWp.cond hP (t := false) rfl (HWp.exit hP (fun τ d => ⟨rfl, rfl, τ, d, rfl⟩))) ⟨hi4 _ _ _, hcs, fun id a w x => by obtain ⟨x, _⟩ := x; cases x; exact ⟨_, rfl⟩, fun id a w x => by cases x.1⟩ (fun e a' w' g x y => ?_)
 obtain ⟨rfl, rfl, τ, d, rfl⟩ := x
 obtain ⟨k', hk', rfl⟩ := y
 cases hk'
 refine LeadsR.other ?_ τ d
 refine LeadsR.seq hP hi0 hcs ?_
 refine LeadsR.region hP (hi1 _) hcs ?_
 simp only [List.size_toArray, List.length_cons, List.length_nil, Nat.zero_add, List.range, List.range.loop]
 refine LeadsR.val hP (w' := w) (v := .nilIface) rfl (by rfl) (fun τ d => run_eq_of ?r1) (hi1 _) hcs ?_
 case r1 => intro K hK; go_simp; exact hK
 try walk_nrm
 refine LeadsR.nil hP (hi1 _) hcs ?_
 exact LeadsR.ret hP hi0 hcs Tryz.func46 rfl (fun τ d => by simp [results, go_sem, Tryz.f46]) hR
set_option maxRecDepth 100000 in
set_option maxHeartbeats 4000000 in
theorem rest_e (wtb evb : Nat) (pa : Option Addr) (cap : Nat) (num time : Int) (at_ sv : Value) (ss : List Strm) (ps : List Pol) (H : Terr (w.heap.size + 2) (w.heap.size + 4) (Ms ss) Ro) (hn : ∀ s ∈ ss, s.n ≤ 1000000) (hN : ps.length ≤ 1000000)
  (hlen : ss.length = ps.length) (hps : ∀ (i : Nat) (s : Strm) (p : Pol), ss[i]? = some s → ps[i]? = some p → p.strm = some ⟨s.stb, 0, none⟩) (hok : ∀ s ∈ ss, StrOK w s) (hap : Apart ss) (x1 x2 x3 x4 x5 x6 x7 x10 x11 x12 x13 x14 x15 x16 x17 x18 x19 x20 x21 x22 x23 x24 x25 x26 x27 x28 x29 x30 x31 x32 : Value) (cs : List Frame) (hcs : ∀ fr ∈ cs, okFrame fr) (u9 u33 u34 u35 u36 u37 u38 u39 u40 : Value)
  (r1 r2 r3 r4 : Value) (hwt : w.heap[wtb]? = some (.cells #[r1, r2, r3, r4, .slice pa ps.length cap] 153 (0, 0))) (hev : w.heap[evb]? = some (.cells #[.int .i64 num, .int .i64 time, at_, sv] 159 (0, 0)))
  (hB : ∀ w₁ : World, w₁.heap = (wGo w (.slice pa ps.length cap) num time at_ sv ps.length).heap → SB Tryz.prog (w.heap.size + 2) (RBw (w.heap.size + 2) Ro) (DBw (w.heap.size + 2) Ro) (CB1 (w.heap.size + 2) Ro) ps.length (ps.map (letter num time)) (fun _ => False) (born Tryz.prog (call133 (w.heap.size + 3) w.heap.size (w.heap.size + 1))) w₁) :
  LeadsR Tryz.prog (fun g w' => ∃ e fr, g = G fr cs ∧ okFrame fr ∧ (e = .returned .nilIface ∧ EvPost w w' ss num time ps) ∧ fr.fn = 46 ∧ fr.leaving Tryz.prog w' e) (G ((base 46).at ⟨#[(.pointer (some ⟨wtb, 0, none⟩)), x1, x2, x3, x4, x5, x6, x7, (.pointer (some ⟨evb, 0, none⟩)), u9, x10, x11, x12, x13, x14, x15, x16, x17, x18, x19, x20, x21, x22, x23, x24, x25, x26, x27, x28, x29, x30, x31, x32, u33, u34, u35, u36, u37, u38, u39, u40], []⟩ [.code midE, .code tailE]) cs) w := by
 have hP := plain_prog
 have hi0 : ∀ it ∈ ([] : List Item), okItem it := by simp
 have hi1 : ∀ (c : Code), ∀ it ∈ [Item.code c], okItem it := fun c => okItems_cons trivial (by simp)
 have hi2 : ∀ (c d : Code), ∀ it ∈ [Item.code c, Item.code d], okItem it := fun c d => okItems_cons trivial (okItems_cons trivial (by simp))
 have last : LeadsR Tryz.prog (fun g w' => ∃ e fr, g = G fr cs ∧ okFrame fr ∧ (e = .returned .nilIface ∧ EvPost w w' ss num time ps) ∧ fr.fn = 46 ∧ fr.leaving Tryz.prog w' e) (G ((base 46).at ⟨#[(.pointer (some ⟨wtb, 0, none⟩)), x1, x2, x3, x4, x5, x6, x7, (.pointer (some ⟨evb, 0, none⟩)), u9, x10, x11, x12, x13, x14, x15, x16, x17, x18, x19, x20, x21, x22, x23, x24, x25, x26, (.pointer (some ⟨wtb, 0, none⟩)), (.pointer (some ⟨wtb, 0, none⟩)), (.pointer (some ⟨wtb, 4, none⟩)), (.slice pa ps.length cap), (.agg #[.int .i64 num, .int .i64 time, at_, sv]), x32, u33, u34, u35, u36, u37, u38, u39, u40], []⟩ [.inRegion ops5 [5], .code blockE, .code tailE]) cs) w := by
  have hs := send_e pa cap num time at_ sv ss ps H hn hN hlen hps hok hap (.pointer (some ⟨wtb, 0, none⟩)) x1 x2 x3 x4 x5 x6 x7 (.pointer (some ⟨evb, 0, none⟩)) x10 x11 x12 x13 x14 x15 x16 x17 x18 x19 x20 x21 x22 x23 x24 x25 x26 (.pointer (some ⟨wtb, 0, none⟩)) (.pointer (some ⟨wtb, 0, none⟩)) (.pointer (some ⟨wtb, 4, none⟩)) (.slice pa ps.length cap) (.agg #[.int .i64 num, .int .i64 time, at_, sv]) x32 cs hcs u9 u33 u34 u35 u36 u37 u38 u39 u40 hB
  have hr : ∀ τ d, (execOp (Act.eval ⟨#[(.pointer (some ⟨wtb, 0, none⟩)), x1, x2, x3, x4, x5, x6, x7, (.pointer (some ⟨evb, 0, none⟩)), u9, x10, x11, x12, x13, x14, x15, x16, x17, x18, x19, x20, x21, x22, x23, x24, x25, x26, (.pointer (some ⟨wtb, 0, none⟩)), (.pointer (some ⟨wtb, 0, none⟩)), (.pointer (some ⟨wtb, 4, none⟩)), (.slice pa ps.length cap), (.agg #[.int .i64 num, .int .i64 time, at_, sv]), x32, u33, u34, u35, u36, u37, u38, u39, u40], []⟩) (ops5.getD 5 default)).run Tryz.prog (re w τ d) = .ok (.enter 88 #[.slice pa ps.length cap, .agg #[.int .i64 num, .int .i64 time, at_, sv]]) (re w τ d) := fun τ d => by rw [run_call_body (o := ops5.getD 5 default) (args := #[.tmp 30, .tmp 31]) (ats := #[151, 159]) rfl Tryz.func88 (by decide) rfl]; simp only [List.map_toArray, List.map_cons, List.map_nil]; rfl
  refine LeadsR.enter hP (o := ops5.getD 5 default) (by simp [ops5, body46, Tryz.f46]) (by simp [ops5, body46, Tryz.f46, Region.wanted]) hr (hi2 _ _) hcs (hs.trans ?_)
  rintro g w' ⟨u9, u33, u34, u35, u36, u37, u38, u39, u40, S, now, w₁, e1, e2, e3, h1, h2, rfl⟩
  refine end_e (fun e w' => e = .returned .nilIface ∧ EvPost w w' ss num time ps) _ (.pointer (some ⟨wtb, 0, none⟩)) x1 x2 x3 x4 x5 x6 x7 (.pointer (some ⟨evb, 0, none⟩)) x10 x11 x12 x13 x14 x15 x16 x17 x18 x19 x20 x21 x22 x23 x24 x25 x26 (.pointer (some ⟨wtb, 0, none⟩)) (.pointer (some ⟨wtb, 0, none⟩)) (.pointer (some ⟨wtb, 4, none⟩)) (.slice pa ps.length cap) (.agg #[.int .i64 num, .int .i64 time, at_, sv]) cs hcs u9 u33 u34 u35 u36 u37 u38 u39 u40 w' (fun τ d => ⟨rfl, EvPost.re ⟨h1.os.trans e2, h1.output.trans e3, ?_, fun b hb hm => ?_, S, now, fun b hb => ?_, h2⟩ τ d⟩)
  ·have := h1.base; omega
  ·rw [h1.keep b (.inr (by omega)) (by have := h1.low; omega) (by omega) hm, e1]; exact wGo_old _ _ _ _ _ _ _ hb
  ·have := (h1.own b hb).1; omega
 simp only [midE, tailE, blockE, ops5, body46, Tryz.f46, Option.getD_some] at last ⊢
 refine LeadsR.seq hP (hi1 _) hcs ?_
 refine LeadsR.draw hP (hi2 _ _) hcs (fun t => ?_)
 have hmem := schedule_mem (P := Tryz.prog) (by kernel_rfl) ops5 t
 rw [show allOrders .any ops5 ops5.size (Array.replicate ops5.size false) = [[0, 1, 2, 3, 4, 5], [0, 1, 2, 4, 3, 5], [0, 1, 4, 2, 3, 5], [0, 4, 1, 2, 3, 5], [4, 0, 1, 2, 3, 5]] from by decide +kernel] at hmem
 simp only [ops5, body46, Tryz.f46, Option.getD_some, List.mem_cons, List.not_mem_nil, or_false] at hmem
 rcases hmem with hm | hm | hm | hm | hm <;> rw [hm] <;> clear hm
 ·refine LeadsR.val hP (w' := w) (v := .pointer (some ⟨wtb, 0, none⟩)) rfl (by rfl) (fun τ d => run_eq_of ?r0) (hi2 _ _) hcs ?_
  case r0 =>
   intro K hK
   go_simp
   exact hK
  try walk_nrm
  refine LeadsR.val hP (w' := w) (v := .pointer (some ⟨wtb, 0, none⟩)) rfl (by rfl) (fun τ d => run_eq_of ?r1) (hi2 _ _) hcs ?_
  case r1 =>
   intro K hK
   go_simp
   exact hK
  try walk_nrm
  refine LeadsR.val hP (w' := w) (v := .pointer (some ⟨wtb, 4, none⟩)) rfl (by rfl) (fun τ d => run_eq_of ?r2) (hi2 _ _) hcs ?_
  case r2 =>
   intro K hK
   go_simp
   exact hK
  try walk_nrm
  refine LeadsR.val hP (w' := w) (v := .slice pa ps.length cap) rfl (by rfl) (fun τ d => run_eq_of ?r3) (hi2 _ _) hcs ?_
  case r3 =>
   intro K hK
   have hc0 : (re w τ d).cell? ⟨wtb, 4, none⟩ = some (.slice pa ps.length cap) := cell_at (w := re w τ d) hwt rfl
   go_simp
   exact hK
  try walk_nrm
  refine LeadsR.val hP (w' := w) (v := .agg #[.int .i64 num, .int .i64 time, at_, sv]) rfl (by rfl) (fun τ d => run_eq_of ?r4) (hi2 _ _) hcs ?_
  case r4 =>
   intro K hK
   have hc0 : (re w τ d).cell? ⟨evb, 0, none⟩ = some (.int .i64 num) := cell_at (w := re w τ d) hev rfl
   have hc1 : (re w τ d).cell? ⟨evb, 1, none⟩ = some (.int .i64 time) := cell_at (w := re w τ d) hev rfl
   have hc2 : (re w τ d).cell? ⟨evb, 2, none⟩ = some (at_) := cell_at (w := re w τ d) hev rfl
   have hc3 : (re w τ d).cell? ⟨evb, 3, none⟩ = some (sv) := cell_at (w := re w τ d) hev rfl
   go_simp
   exact hK
  try walk_nrm
  exact last
 ·refine LeadsR.val hP (w' := w) (v := .pointer (some ⟨wtb, 0, none⟩)) rfl (by rfl) (fun τ d => run_eq_of ?r0) (hi2 _ _) hcs ?_
  case r0 =>
   intro K hK
   go_simp
   exact hK
  try walk_nrm
  refine LeadsR.val hP (w' := w) (v := .pointer (some ⟨wtb, 0, none⟩)) rfl (by rfl) (fun τ d => run_eq_of ?r1) (hi2 _ _) hcs ?_
  case r1 =>
   intro K hK
   go_simp
   exact hK
  try walk_nrm
  refine LeadsR.val hP (w' := w) (v := .pointer (some ⟨wtb, 4, none⟩)) rfl (by rfl) (fun τ d => run_eq_of ?r2) (hi2 _ _) hcs ?_
  case r2 =>
   intro K hK
   go_simp
   exact hK
  try walk_nrm
  refine LeadsR.val hP (w' := w) (v := .agg #[.int .i64 num, .int .i64 time, at_, sv]) rfl (by rfl) (fun τ d => run_eq_of ?r4) (hi2 _ _) hcs ?_
  case r4 =>
   intro K hK
   have hc0 : (re w τ d).cell? ⟨evb, 0, none⟩ = some (.int .i64 num) := cell_at (w := re w τ d) hev rfl
   have hc1 : (re w τ d).cell? ⟨evb, 1, none⟩ = some (.int .i64 time) := cell_at (w := re w τ d) hev rfl
   have hc2 : (re w τ d).cell? ⟨evb, 2, none⟩ = some (at_) := cell_at (w := re w τ d) hev rfl
   have hc3 : (re w τ d).cell? ⟨evb, 3, none⟩ = some (sv) := cell_at (w := re w τ d) hev rfl
   go_simp
   exact hK
  try walk_nrm
  refine LeadsR.val hP (w' := w) (v := .slice pa ps.length cap) rfl (by rfl) (fun τ d => run_eq_of ?r3) (hi2 _ _) hcs ?_
  case r3 =>
   intro K hK
   have hc0 : (re w τ d).cell? ⟨wtb, 4, none⟩ = some (.slice pa ps.length cap) := cell_at (w := re w τ d) hwt rfl
   go_simp
   exact hK
  try walk_nrm
  exact last
 ·refine LeadsR.val hP (w' := w) (v := .pointer (some ⟨wtb, 0, none⟩)) rfl (by rfl) (fun τ d => run_eq_of ?r0) (hi2 _ _) hcs ?_
  case r0 =>
   intro K hK
   go_simp
   exact hK
  try walk_nrm
  refine LeadsR.val hP (w' := w) (v := .pointer (some ⟨wtb, 0, none⟩)) rfl (by rfl) (fun τ d => run_eq_of ?r1) (hi2 _ _) hcs ?_
  case r1 =>
   intro K hK
   go_simp
   exact hK
  try walk_nrm
  refine LeadsR.val hP (w' := w) (v := .agg #[.int .i64 num, .int .i64 time, at_, sv]) rfl (by rfl) (fun τ d => run_eq_of ?r4) (hi2 _ _) hcs ?_
  case r4 =>
   intro K hK
   have hc0 : (re w τ d).cell? ⟨evb, 0, none⟩ = some (.int .i64 num) := cell_at (w := re w τ d) hev rfl
   have hc1 : (re w τ d).cell? ⟨evb, 1, none⟩ = some (.int .i64 time) := cell_at (w := re w τ d) hev rfl
   have hc2 : (re w τ d).cell? ⟨evb, 2, none⟩ = some (at_) := cell_at (w := re w τ d) hev rfl
   have hc3 : (re w τ d).cell? ⟨evb, 3, none⟩ = some (sv) := cell_at (w := re w τ d) hev rfl
   go_simp
   exact hK
  try walk_nrm
  refine LeadsR.val hP (w' := w) (v := .pointer (some ⟨wtb, 4, none⟩)) rfl (by rfl) (fun τ d => run_eq_of ?r2) (hi2 _ _) hcs ?_
  case r2 =>
   intro K hK
   go_simp
   exact hK
  try walk_nrm
  refine LeadsR.val hP (w' := w) (v := .slice pa ps.length cap) rfl (by rfl) (fun τ d => run_eq_of ?r3) (hi2 _ _) hcs ?_
  case r3 =>
   intro K hK
   have hc0 : (re w τ d).cell? ⟨wtb, 4, none⟩ = some (.slice pa ps.length cap) := cell_at (w := re w τ d) hwt rfl
   go_simp
   exact hK
  try walk_nrm
  exact last
 ·refine LeadsR.val hP (w' := w) (v := .pointer (some ⟨wtb, 0, none⟩)) rfl (by rfl) (fun τ d => run_eq_of ?r0) (hi2 _ _) hcs ?_
  case r0 =>
   intro K hK
   go_simp
   exact hK
  try walk_nrm
  refine LeadsR.val hP (w' := w) (v := .agg #[.int .i64 num, .int .i64 time, at_, sv]) rfl (by rfl) (fun τ d => run_eq_of ?r4) (hi2 _ _) hcs ?_
  case r4 =>
   intro K hK
   have hc0 : (re w τ d).cell? ⟨evb, 0, none⟩ = some (.int .i64 num) := cell_at (w := re w τ d) hev rfl
   have hc1 : (re w τ d).cell? ⟨evb, 1, none⟩ = some (.int .i64 time) := cell_at (w := re w τ d) hev rfl
   have hc2 : (re w τ d).cell? ⟨evb, 2, none⟩ = some (at_) := cell_at (w := re w τ d) hev rfl
   have hc3 : (re w τ d).cell? ⟨evb, 3, none⟩ = some (sv) := cell_at (w := re w τ d) hev rfl
   go_simp
   exact hK
  try walk_nrm
  refine LeadsR.val hP (w' := w) (v := .pointer (some ⟨wtb, 0, none⟩)) rfl (by rfl) (fun τ d => run_eq_of ?r1) (hi2 _ _) hcs ?_
  case r1 =>
   intro K hK
   go_simp
   exact hK
  try walk_nrm
  refine LeadsR.val hP (w' := w) (v := .pointer (some ⟨wtb, 4, none⟩)) rfl (by rfl) (fun τ d => run_eq_of ?r2) (hi2 _ _) hcs ?_
  case r2 =>
   intro K hK
   go_simp
   exact hK
  try walk_nrm
  refine LeadsR.val hP (w' := w) (v := .slice pa ps.length cap) rfl (by rfl) (fun τ d => run_eq_of ?r3) (hi2 _ _) hcs ?_
  case r3 =>
   intro K hK
   have hc0 : (re w τ d).cell? ⟨wtb, 4, none⟩ = some (.slice pa ps.length cap) := cell_at (w := re w τ d) hwt rfl
   go_simp
   exact hK
  try walk_nrm
  exact last
 ·refine LeadsR.val hP (w' := w) (v := .agg #[.int .i64 num, .int .i64 time, at_, sv]) rfl (by rfl) (fun τ d => run_eq_of ?r4) (hi2 _ _) hcs ?_
  case r4 =>
   intro K hK
   have hc0 : (re w τ d).cell? ⟨evb, 0, none⟩ = some (.int .i64 num) := cell_at (w := re w τ d) hev rfl
   have hc1 : (re w τ d).cell? ⟨evb, 1, none⟩ = some (.int .i64 time) := cell_at (w := re w τ d) hev rfl
   have hc2 : (re w τ d).cell? ⟨evb, 2, none⟩ = some (at_) := cell_at (w := re w τ d) hev rfl
   have hc3 : (re w τ d).cell? ⟨evb, 3, none⟩ = some (sv) := cell_at (w := re w τ d) hev rfl
   go_simp
   exact hK
  try walk_nrm
  refine LeadsR.val hP (w' := w) (v := .pointer (some ⟨wtb, 0, none⟩)) rfl (by rfl) (fun τ d => run_eq_of ?r0) (hi2 _ _) hcs ?_
  case r0 =>
   intro K hK
   go_simp
   exact hK
  try walk_nrm
  refine LeadsR.val hP (w' := w) (v := .pointer (some ⟨wtb, 0, none⟩)) rfl (by rfl) (fun τ d => run_eq_of ?r1) (hi2 _ _) hcs ?_
  case r1 =>
   intro K hK
   go_simp
   exact hK
  try walk_nrm
  refine LeadsR.val hP (w' := w) (v := .pointer (some ⟨wtb, 4, none⟩)) rfl (by rfl) (fun τ d => run_eq_of ?r2) (hi2 _ _) hcs ?_
  case r2 =>
   intro K hK
   go_simp
   exact hK
  try walk_nrm
  refine LeadsR.val hP (w' := w) (v := .slice pa ps.length cap) rfl (by rfl) (fun τ d => run_eq_of ?r3) (hi2 _ _) hcs ?_
  case r3 =>
   intro K hK
   have hc0 : (re w τ d).cell? ⟨wtb, 4, none⟩ = some (.slice pa ps.length cap) := cell_at (w := re w τ d) hwt rfl
   go_simp
   exact hK
  try walk_nrm
  exact last
end Go.Proofs.YtpbbmagjhkakgaaGreatDoor.Lf
namespace Go.Proofs.YtpbbmagjhkakgaaGreatDoor.Lf
open Go Go.Conc Go.RowKit
open Go.Proofs (Tryz.f46 Tryz.f88 Tryz.prog)
variable {w : World}
def PolsIn (w : World) (pa : Option Addr) (cap : Nat) (ps : List Pol) : Prop :=
  (pa = none ∧ ps = [] ∧ cap = 0) ∨ ∃ pb po parr mp, pa = some ⟨pb, po, none⟩ ∧ w.heap[pb]? = some (.cells parr 183 mp) ∧ PolsAt parr po ps
def SoIn (w : World) (sv : Value) (ps : List Pol) : Prop := ∃ sb so n cp arr m, sv = .slice (some ⟨sb, so, none⟩) n cp ∧ w.heap[sb]? = some (.cells arr 4 m) ∧ ∀ p ∈ ps, arr[so + p.node]? = some (.bool p.v) ∧ p.node < n
theorem Ms.tag {ss : List Strm} (hok : ∀ s ∈ ss, StrOK w s) {b : Nat} (h : Ms ss b) : ∃ cs t, w.heap[b]? = some (.cells cs t (0, 0)) ∧ (t = 177 ∨ t = 59) := by
  obtain ⟨s, hs, rfl | hb⟩ := h
  · exact ⟨_, _, (hok s hs).1, .inl rfl⟩
  · obtain ⟨h1, h2 | ⟨g, cap, cur, e1, _, e2, _⟩⟩ := (hok s hs).2
    · rw [h2.1] at hb; cases hb
    · rw [e1] at hb; cases hb; exact ⟨_, _, e2, .inr rfl⟩
theorem Ms.not {ss : List Strm} (hok : ∀ s ∈ ss, StrOK w s) {b : Nat} {cs : Array Value} {t : TypeId} {m : Nat × Nat} (hb : w.heap[b]? = some (.cells cs t m)) (h1 : t ≠ 177) (h2 : t ≠ 59) : ¬ Ms ss b := fun h => by
  obtain ⟨cs', t', e, ht⟩ := Ms.tag hok h
  rw [hb] at e
  injection e with e
  injection e with _ e _
  subst e
  exact ht.elim h1 h2
set_option maxRecDepth 100000 in
theorem rest_any (wtb evb : Nat) (pa : Option Addr) (cap : Nat) (num time : Int) (at_ sv : Value) (ss : List Strm) (ps : List Pol) (hP : PolsIn w pa cap ps) (hS : SoIn w sv ps) (hn : ∀ s ∈ ss, s.n ≤ 1000000) (hN : ps.length ≤ 1000000)
    (hlen : ss.length = ps.length) (hps : ∀ (i : Nat) (s : Strm) (p : Pol), ss[i]? = some s → ps[i]? = some p → p.strm = some ⟨s.stb, 0, none⟩) (hok : ∀ s ∈ ss, StrOK w s) (hap : Apart ss) (x1 x2 x3 x4 x5 x6 x7 x10 x11 x12 x13 x14 x15 x16 x17 x18 x19 x20 x21 x22 x23 x24 x25 x26 x27 x28 x29 x30 x31 x32 : Value) (cs : List Frame) (hcs : ∀ fr ∈ cs, okFrame fr) (u9 u33 u34 u35 u36 u37 u38 u39 u40 : Value)
    (r1 r2 r3 r4 : Value) (hwt : w.heap[wtb]? = some (.cells #[r1, r2, r3, r4, .slice pa ps.length cap] 153 (0, 0))) (hev : w.heap[evb]? = some (.cells #[.int .i64 num, .int .i64 time, at_, sv] 159 (0, 0))) :
    LeadsR Tryz.prog (fun g w' => ∃ e fr, g = G fr cs ∧ okFrame fr ∧ (e = .returned .nilIface ∧ EvPost w w' ss num time ps) ∧ fr.fn = 46 ∧ fr.leaving Tryz.prog w' e) (G ((base 46).at ⟨#[(.pointer (some ⟨wtb, 0, none⟩)), x1, x2, x3, x4, x5, x6, x7, (.pointer (some ⟨evb, 0, none⟩)), u9, x10, x11, x12, x13, x14, x15, x16, x17, x18, x19, x20, x21, x22, x23, x24, x25, x26, x27, x28, x29, x30, x31, x32, u33, u34, u35, u36, u37, u38, u39, u40], []⟩ [.code midE, .code tailE]) cs) w := by
  have hMl : ∀ b, Ms ss b → b < w.heap.size := fun b hb => by
    obtain ⟨cs, t, e, _⟩ := Ms.tag hok hb
    exact heap_lt e
  obtain ⟨sb, so, n, cp, arr, m, rfl, hsb, hso⟩ := hS
  rcases hP with ⟨rfl, rfl, rfl⟩ | ⟨pb, po, parr, mp, rfl, hpb, hpat⟩
  · have H : Terr (w.heap.size + 2) (w.heap.size + 4) (Ms ss) (fun b => b = w.heap.size + 3 ∨ b = w.heap.size) := by
      refine ⟨by omega, fun b hb => by have := hMl b hb; omega, fun b hb => ?_⟩
      rcases hb with rfl | rfl
      · exact ⟨by omega, by omega, fun h => by have := hMl _ h; omega⟩
      · exact ⟨by omega, by omega, fun h => by have := hMl _ h; omega⟩
    refine rest_e wtb evb none 0 num time at_ _ ss [] H hn hN hlen hps hok hap x1 x2 x3 x4 x5 x6 x7 x10 x11 x12 x13 x14 x15 x16 x17 x18 x19 x20 x21 x22 x23 x24 x25 x26 x27 x28 x29 x30 x31 x32 cs hcs u9 u33 u34 u35 u36 u37 u38 u39 u40 r1 r2 r3 r4 hwt hev (fun w₁ hw => ?_)
    refine child0_c H _ _ _ _ _ w₁ (by rw [hw, wGo_size]; omega) (fun q hq => ?_)
    simp at hq
    rcases hq with rfl | rfl
    · exact ⟨.inr (.inl rfl), by simp, by rw [hw]; exact wGo_p5 _ _ _ _ _ _ _⟩
    · exact ⟨.inr (.inr rfl), by simp, by rw [hw]; exact wGo_p2 _ _ _ _ _ _ _⟩
  · have l1 := heap_lt hpb
    have l2 := heap_lt hsb
    have H : Terr (w.heap.size + 2) (w.heap.size + 4) (Ms ss) (fun b => b = w.heap.size + 3 ∨ b = w.heap.size ∨ b = w.heap.size + 1 ∨ b = pb ∨ b = sb) := by
      refine ⟨by omega, fun b hb => by have := hMl b hb; omega, fun b hb => ?_⟩
      rcases hb with rfl | rfl | rfl | rfl | rfl
      · exact ⟨by omega, by omega, fun h => by have := hMl _ h; omega⟩
      · exact ⟨by omega, by omega, fun h => by have := hMl _ h; omega⟩
      · exact ⟨by omega, by omega, fun h => by have := hMl _ h; omega⟩
      · exact ⟨by omega, by omega, Ms.not hok hpb (by decide) (by decide)⟩
      · exact ⟨by omega, by omega, Ms.not hok hsb (by decide) (by decide)⟩
    refine rest_e wtb evb (some ⟨pb, po, none⟩) cap num time at_ _ ss ps H hn hN hlen hps hok hap x1 x2 x3 x4 x5 x6 x7 x10 x11 x12 x13 x14 x15 x16 x17 x18 x19 x20 x21 x22 x23 x24 x25 x26 x27 x28 x29 x30 x31 x32 cs hcs u9 u33 u34 u35 u36 u37 u38 u39 u40 r1 r2 r3 r4 hwt hev (fun w₁ hw => ?_)
    refine child_c H _ _ _ pb po cap sb so n cp num time at_ parr mp arr m ps hpat (by omega) hso _ _ w₁ (by rw [hw, wGo_size]; omega) (fun q hq => ?_)
    simp at hq
    rcases hq with rfl | rfl | rfl | rfl | rfl
    · exact ⟨.inr (.inl rfl), by simp, by rw [hw]; exact wGo_p5 _ _ _ _ _ _ _⟩
    · exact ⟨.inr (.inr (.inl rfl)), by simp, by rw [hw]; exact wGo_p2 _ _ _ _ _ _ _⟩
    · exact ⟨.inr (.inr (.inr (.inl rfl))), by simp, by rw [hw]; exact wGo_p3 _ _ _ _ _ _ _⟩
    · exact ⟨.inr (.inr (.inr (.inr (.inl rfl)))), by simp; omega, by rw [hw, wGo_old _ _ _ _ _ _ _ l1]; exact hpb⟩
    · exact ⟨.inr (.inr (.inr (.inr (.inr rfl)))), by simp; omega, by rw [hw, wGo_old _ _ _ _ _ _ _ l2]; exact hsb⟩
end Go.Proofs.YtpbbmagjhkakgaaGreatDoor.Lf
namespace Go.Proofs.YtpbbmagjhkakgaaGreatDoor.Ev
open Go.RowKit Go.Deep Go.Proofs.YtpbbmagjhkakgaaGreatDoor.Lf
def Roomy (w : World) (ps : List Pol) : Prop := ∀ (i : Nat) (p : Pol), ps[i]? = some p → ∃ stb o n cap, p.strm = some ⟨stb, 0, none⟩ ∧ w.heap[stb]? = some (.cells #[.slice o n cap] 177 (0, 0)) ∧ n < 30
set_option maxHeartbeats 1000000 in
theorem checkEvent_ok (wtb : Nat) (retain room : Int) (nv ev : Value) (pa : Option Addr) (pcap : Nat) (ps : List Pol) (E : List EvC) (time : Int) (ao : Option Addr) (A : List ByteArray) (cap : Nat) (w : World) (hw : w.heap[wtb]? = some (.cells #[.int .i64 retain, .int .i64 room, nv, ev, .slice pa ps.length pcap] 153 (0, 0))) (hE : EvsAt w ev E) (hn : E.length ≤ 1000000) (ht : 0 ≤ time ∧ time ≤ 1000000000000) (hr : 0 ≤ retain ∧ retain ≤ 1000000000)
    (hl : ∀ e, E.getLast? = some e → e.time < time) (hroom : (E.length : Int) - oldF (time - retain) E + 1 ≤ room) (h : StrsIn w ao A) (hA : A.length ≤ 10) (hcap : A.length ≤ cap) (hN : ∀ j, j < A.length → NameOK (A.getD j ByteArray.empty)) (hD : ∀ j, j < A.length → Lib.containsS (A.take j) (A.getD j ByteArray.empty) = false)
    (hP : PolsIn w pa pcap ps) (hps : ps.length ≤ 1000000) (hpc : ps.length ≤ pcap) (hS : Roomy w ps) :
    Calls Tryz.prog 86 #[.pointer (some ⟨wtb, 0, none⟩), .int .i64 time, .slice ao A.length cap] w fun e w' => e = .returned .nilIface ∧ Below w.heap.size w w' := by
  have hT := checkTime_ok wtb (.int .i64 retain) (.int .i64 room) nv ev (.slice pa ps.length pcap) E time w hw hE hn ht hl
  have hAt : Hid (∀ w', Below w.heap.size w w' → Calls Tryz.prog 126 #[.slice ao A.length cap] w' fun e w'' => e = .returned .nilIface ∧ Below w'.heap.size w' w'') := fun w' hb => checkAtoms_ok ao A cap w' (h.below hb) hA hcap hN hD
  have hRm : Hid (∀ w', Below w.heap.size w w' → Calls Tryz.prog 128 #[.pointer (some ⟨wtb, 0, none⟩), .int .i64 time] w' fun e w'' => e = .returned .nilIface ∧ Below w'.heap.size w' w'') := fun w' hb => checkRoom_ok wtb retain room nv ev (.slice pa ps.length pcap) E time w' (hb.heapOf hw) (hE.below hb) hn ht hr hroom
  have hlt := heap_lt hw
  have hc4 : Hid (∀ w', Below w.heap.size w w' → w'.cell? ⟨wtb, 4, none⟩ = some (.slice pa ps.length pcap)) := fun w' hb => cell_at (hb.heapOf hw) rfl
  generalize hlen : ps.length = n at *
  clear hw hE hl hroom h hA hcap hN hD hr hn
  go_enter Tryz.func86, Tryz.ntmps86
  go_wp2_with fail
  refine hT.mono ?_
  rintro e w0 ⟨rfl, hw0⟩
  have hw0 := hw0.symm
  subst hw0
  clear hT
  go_wp2_with fail
  refine (hAt.out _ (Below.refl _ _)).mono ?_
  rintro e w1 ⟨rfl, hb1⟩
  have q4 := hc4.out w1 hb1
  go_wp2_with fail
  go_loopw [29] (fun iv wr => ∃ i : Nat, iv = .int .i64 i ∧ i ≤ n ∧ Below w.heap.size w wr) (fun iv _ => n - (intOf iv).toNat)
  case atStart => exact ⟨0, rfl, Nat.zero_le _, hb1⟩
  case round =>
    clear hb1 q4
    obtain ⟨i, rfl, hin, hbw⟩ := hrel
    by_cases hi : i < n
    · have hget : ps[i]? = some ps[i] := List.getElem?_eq_getElem (by omega)
      obtain ⟨stb, o, k, c, hst, hsb, hk⟩ := hS i _ hget
      rcases hP with ⟨_, rfl, _⟩ | ⟨pb, po, parr, mp, rfl, hpb, hpat⟩
      · simp at hlen; omega
      · obtain ⟨p0, p1, p2, p3, p4⟩ := hpat i _ hget
        generalize ps[i] = p at *
        rw [hst] at p4
        have hpb' := hbw.heapOf hpb
        have z0 := cell_at hpb' p0
        have z1 := cell_at hpb' p1
        have z2 := cell_at hpb' p2
        have z3 := cell_at hpb' p3
        have z4 := cell_at hpb' p4
        have hF := isFull_any stb o k c (wr.alloc (.cells #[.string p.name, .pointer p.sent, .int .i64 p.node, .int .i64 p.ver, .pointer (some ⟨stb, 0, none⟩)] 183)) ((hbw.al _).heapOf hsb)
        rw [show decide ((k : Int) ≥ 30) = false from decide_eq_false (by omega)] at hF
        have hb2 : Below w.heap.size w (wr.alloc (.cells #[.string p.name, .pointer p.sent, .int .i64 p.node, .int .i64 p.ver, .pointer (some ⟨stb, 0, none⟩)] 183)) := hbw.al _
        clear hS hpat hpb hpb' p0 p1 p2 p3 p4 hget
        go_wp2_with fail
        refine hF.mono ?_
        rintro e w2 ⟨rfl, rfl⟩
        go_wp2_with fail
        go_roundw
        case rel => exact ⟨i + 1, by go_num, by omega, hb2⟩
        case measure => simp only [intOf]; omega
    · obtain rfl : i = n := by omega
      go_wp2_with fail
      refine (hRm.out _ hbw).mono ?_
      rintro e w2 ⟨rfl, hb2⟩
      go_wp2_with fail
      go_ret
      exact ⟨rfl, hbw.tr hb2⟩
end Go.Proofs.YtpbbmagjhkakgaaGreatDoor.Ev
