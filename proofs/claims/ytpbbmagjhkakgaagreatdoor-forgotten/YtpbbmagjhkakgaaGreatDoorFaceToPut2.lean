import Derived.Test.YtpbbmagjhkakgaaGreatDoorRead
import Derived.Test.YtpbbmagjhkakgaaGreatDoorErrs2
import Derived.Test.YtpbbmagjhkakgaaGreatDoorEvStateToEdTake
import Derived.Test.YtpbbmagjhkakgaaGreatDoorPut
import Derived.WalkSpells
namespace Go.Proofs.YtpbbmagjhkakgaaGreatDoor
open Go.RowKit Go.Deep
structure Glob (w : World) : Prop where
  conv : ConvAt w
  ns : ∃ eb eo, w.cell? ⟨0, 0, none⟩ = some (.iface 357 (.pointer (some ⟨eb, eo, none⟩)))
  et : w.cell? ⟨7, 0, none⟩ = some (.iface 266 (.agg #[.pointer (some ⟨14, 89, none⟩)]))
  tab : ∃ e m, w.heap[9]? = some (.cells (Lib.pow10Tab.map fun z => Value.int .u64 z).toArray e m)
theorem Glob.only {s : Nat} {w w' : World} (h : Glob w) (ho : Only s w w') (hs : 14 ≤ s) : Glob w' := by
  obtain ⟨h1, ⟨eb, eo, h2⟩, h3, ⟨e, m, h4⟩⟩ := h
  have c : ∀ k, k < 14 → k < w.heap.size → w'.cell? ⟨k, 0, none⟩ = w.cell? ⟨k, 0, none⟩ := fun k hk hl => World.cell?_of_block (w := w) (a := ⟨k, 0, none⟩) (ho.block k hl (by omega))
  exact ⟨h1.only ho hs, ⟨eb, eo, by rw [c _ (by decide) (cell_lt h2)]; exact h2⟩, by rw [c _ (by decide) (cell_lt h3)]; exact h3, ⟨e, m, ho.heap h4 (by omega)⟩⟩
theorem Glob.below {w w' : World} (h : Glob w) (hb : Below w.heap.size w w') : Glob w' := h.only (s := 14) (Only.of_below hb) (Nat.le_refl _)
def ReadTop (s : ByteArray) (w : World) (res : Option (BT Pay) × Int) (e : Ending) (w' : World) : Prop :=
  Below w.heap.size w w' ∧ ((∃ x v, res = (some x, 0) ∧ e = .returned (.tuple #[v, .nilIface]) ∧ SentAt 143 w.heap.size w' x v ∧ depthT x ≤ 12)
    ∨ (res = (none, 1) ∧ ∃ tb fa, e = .returned (.tuple #[.pointer none, .iface 125 (.pointer (some ⟨tb, 0, none⟩))]) ∧ w'.heap[tb]? = some (.cells #[.string s, .iface 201 (.pointer (some fa))] 127 (0, 0)))
    ∨ (res = (none, 2) ∧ ∃ tb fa, e = .returned (.tuple #[.pointer none, .iface 125 (.pointer (some ⟨tb, 0, none⟩))]) ∧ w'.heap[tb]? = some (.cells #[.string s, .iface 130 (.pointer (some fa))] 127 (0, 0))))
set_option maxHeartbeats 400000 in
theorem readTop_any (s : ByteArray) (w : World) (hm : s.size ≤ maxLen) (hg : Glob w) (hw7 : 14 ≤ w.heap.size) : Calls Tryz.prog 39 #[.string s] w (ReadTop s w (readF s)) := by
  have hr : Calls Tryz.prog 74 #[.string s] w (ReadEnd w (readF s)) := by
    by_cases hs : 300 < s.size
    · exact read_long s w hs hm
    · exact read_short s w (by omega) hg.conv hw7
  generalize readF s = res at *
  go_enter Tryz.func39, Tryz.ntmps39
  go_wp2_with fail
  refine hr.mono ?_
  rintro e w1 ⟨hb, ⟨x, v, h1, rfl, hx, hd⟩ | ⟨h1, fa, rfl⟩ | ⟨h1, fa, rfl⟩⟩
  · have H1 : Hid (res = (some x, 0)) := h1
    obtain ⟨vv, rfl⟩ := sent_ptr hx
    clear h1 hr hg
    go_wp2_with fail
    go_ret2
    exact ⟨hb, .inl ⟨x, _, H1.out, rfl, hx, hd⟩⟩
  · have H1 : Hid (res = (none, 1)) := h1
    clear h1 hr hg
    go_wp2_with fail
    go_ret2
    exact ⟨hb.al _, .inr (.inl ⟨H1.out, _, _, rfl, heap_new _ _ _ rfl⟩)⟩
  · have H1 : Hid (res = (none, 2)) := h1
    clear h1 hr hg
    go_wp2_with fail
    go_ret2
    exact ⟨hb.al _, .inr (.inr ⟨H1.out, _, _, rfl, heap_new _ _ _ rfl⟩)⟩
set_option maxHeartbeats 400000 in
theorem errno_text (s : ByteArray) (tb : Nat) (fa : Addr) (w : World) (hg : Glob w) (ht : w.heap[tb]? = some (.cells #[.string s, .iface 201 (.pointer (some fa))] 127 (0, 0))) :
    Calls Tryz.prog 40 #[.iface 125 (.pointer (some ⟨tb, 0, none⟩))] w fun e w' => e = .returned (.int .i64 1) ∧ Below w.heap.size w w' := by
  obtain ⟨_, ⟨eb, eo, h2⟩, _, _⟩ := hg
  have h1 := cell_at (i := 1) ht rfl
  go_enter Tryz.func40, Tryz.ntmps40
  go_wp2_with fail
  refine (is_fault tb eb eo fa _ h2 h1).mono ?_
  rintro e w1 ⟨rfl, rfl⟩
  go_wp2_with fail
  go_ret
  exact ⟨rfl, Below.refl _ _⟩
set_option maxHeartbeats 400000 in
theorem isA_deep (s : ByteArray) (tb : Nat) (fa : Addr) (w : World) (hg : Glob w) (ht : w.heap[tb]? = some (.cells #[.string s, .iface 130 (.pointer (some fa))] 127 (0, 0))) :
    Calls Tryz.prog 76 #[.iface 125 (.pointer (some ⟨tb, 0, none⟩))] w fun e w' => e = .returned (.bool true) ∧ Below w.heap.size w w' := by
  have hg1 : Glob (w.alloc (.cells #[.pointer none] 130)) := hg.below ((Below.refl _ _).al _)
  obtain ⟨_, ⟨eb, eo, h2⟩, h3, _⟩ := hg1
  have h1 := cell_at (i := 1) (((Below.refl _ w).al (.cells #[.pointer none] 130 (0, 0))).heapOf ht) rfl
  have hk := heap_new w (.cells #[.pointer none] 130 (0, 0)) _ rfl
  go_enter Tryz.func76, Tryz.ntmps76
  go_wp2_with fail
  refine (as_deep tb w.heap.size fa _ h3 h1 hk).mono ?_
  rintro e w2 ⟨rfl, ho⟩
  go_wp2_with fail
  go_ret
  exact ⟨rfl, ((Below.refl _ _).al _).trans (ho.below (Nat.le_refl _) (by simp))⟩
set_option maxHeartbeats 400000 in
theorem errno_deep (s : ByteArray) (tb : Nat) (fa : Addr) (w : World) (hg : Glob w) (ht : w.heap[tb]? = some (.cells #[.string s, .iface 130 (.pointer (some fa))] 127 (0, 0))) :
    Calls Tryz.prog 40 #[.iface 125 (.pointer (some ⟨tb, 0, none⟩))] w fun e w' => e = .returned (.int .i64 2) ∧ Below w.heap.size w w' := by
  have hA := isA_deep s tb fa w hg ht
  obtain ⟨_, ⟨eb, eo, h2⟩, h3, _⟩ := hg
  have h1 := cell_at (i := 1) ht rfl
  go_enter Tryz.func40, Tryz.ntmps40
  go_wp2_with fail
  refine (is_deep tb eb eo fa _ h1).mono ?_
  rintro e w1 ⟨rfl, rfl⟩
  go_wp2_with fail
  refine hA.mono ?_
  rintro e w2 ⟨rfl, hb⟩
  go_wp2_with fail
  go_ret
  exact ⟨rfl, hb⟩
end Go.Proofs.YtpbbmagjhkakgaaGreatDoor
namespace Go.Proofs.YtpbbmagjhkakgaaGreatDoor.Ev
open Go.RowKit Go.Deep Go.Proofs.YtpbbmagjhkakgaaGreatDoor.Lf Go.Conc
theorem checkRange_ok (s : ByteArray) (v lo hi : Int) (w : World) (h : lo ≤ v ∧ v ≤ hi) : Calls Tryz.prog 124 #[.string s, .int .i64 v, .int .i64 lo, .int .i64 hi] w fun e w' => e = .returned .nilIface ∧ w' = w := by
  go_enter Tryz.func124, Tryz.ntmps124
  go_wp2_with fail
  go_ret
  exact ⟨rfl, rfl⟩
set_option maxHeartbeats 1000000 in
theorem pastNew_ok (retain room : Int) (w : World) (h1 : 0 ≤ retain ∧ retain ≤ 100000) (h2 : 1 ≤ room ∧ room ≤ 60) : Calls Tryz.prog 85 #[.int .i64 retain, .int .i64 room] w fun e w' => e = .returned (.tuple #[.agg #[.int .i64 retain, .int .i64 room, .slice none 0 0, .slice none 0 0], .nilIface]) ∧ Below w.heap.size w w' := by
  have hc1 := checkRange_ok ⟨#[114, 101, 116, 97, 105, 110]⟩ retain 0 100000 (w.alloc (.cells #[.int .i64 0, .int .i64 0, .slice none 0 0, .slice none 0 0] 148)) h1
  have hc2 := checkRange_ok ⟨#[114, 111, 111, 109]⟩ room 1 60 (w.alloc (.cells #[.int .i64 0, .int .i64 0, .slice none 0 0, .slice none 0 0] 148)) h2
  go_enter Tryz.func85, Tryz.ntmps85
  go_wp2_with fail
  refine hc1.mono ?_
  rintro e w1 ⟨rfl, rfl⟩
  go_wp2_with fail
  refine hc2.mono ?_
  rintro e w1 ⟨rfl, rfl⟩
  go_wp2_with fail
  have hR : (w.alloc (.cells #[.int .i64 retain, .int .i64 room, .slice none 0 0, .slice none 0 0] 148)).heap[w.heap.size]? = some (.cells #[.int .i64 retain, .int .i64 room, .slice none 0 0, .slice none 0 0] 148 (0, 0)) := heap_new _ _ _ rfl
  have q0 := cell_at (i := 0) hR rfl
  have q1 := cell_at (i := 1) hR rfl
  have q2 := cell_at (i := 2) hR rfl
  have q3 := cell_at (i := 3) hR rfl
  refine ⟨rfl, _, ?_, rfl, (Below.refl _ _).al _⟩
  simp [results, Tryz.f85, go_sem, loadVar, q0, q1, q2, q3]
set_option maxHeartbeats 1000000 in
theorem watchNew_ok (retain room : Int) (w : World) (h1 : 0 ≤ retain ∧ retain ≤ 100000) (h2 : 1 ≤ room ∧ room ≤ 60) : Calls Tryz.prog 45 #[.int .i64 retain, .int .i64 room] w fun e w' => ∃ wtb, e = .returned (.tuple #[.pointer (some ⟨wtb, 0, none⟩), .nilIface]) ∧ w.heap.size ≤ wtb ∧ w'.heap[wtb]? = some (.cells #[.int .i64 retain, .int .i64 room, .slice none 0 0, .slice none 0 0, .slice none 0 0] 153 (0, 0)) ∧ Below w.heap.size w w' := by
  have hp := pastNew_ok retain room w h1 h2
  go_enter Tryz.func45, Tryz.ntmps45
  go_wp2_with fail
  refine hp.mono ?_
  rintro e w1 ⟨rfl, hb1⟩
  have hs := hb1.size
  go_wp2_with fail
  go_ret2
  exact ⟨_, rfl, by first | omega | (simp; omega), by first | exact heap_new _ _ _ rfl | exact heap_new _ _ _ (by simp), by first | exact (hb1.al _).al _ | exact hb1.al _⟩
theorem new_ok (retain room : Int) (w : World) (h1 : 0 ≤ retain ∧ retain ≤ 100000) (h2 : 1 ≤ room ∧ room ≤ 60) : Calls Tryz.prog 23 #[.int .i64 retain, .int .i64 room] w fun e w' => ∃ mb wtb, e = .returned (.tuple #[.pointer (some ⟨mb, 0, none⟩), .int .i64 0]) ∧ w.heap.size ≤ mb ∧ w.heap.size ≤ wtb ∧ w'.heap[mb]? = some (.cells #[.pointer (some ⟨wtb, 0, none⟩)] 104 (0, 0)) ∧ w'.heap[wtb]? = some (.cells #[.int .i64 retain, .int .i64 room, .slice none 0 0, .slice none 0 0, .slice none 0 0] 153 (0, 0)) ∧ Below w.heap.size w w' := by
  have hp := watchNew_ok retain room w h1 h2
  go_enter Tryz.func23, Tryz.ntmps23
  go_wp2_with fail
  refine hp.mono ?_
  rintro e w1 ⟨wtb, rfl, hw, hh, hb1⟩
  have hs := hb1.size
  go_wp2_with fail
  go_ret2
  exact ⟨_, wtb, rfl, hs, hw, heap_new _ _ _ rfl, (Below.heap_alloc _ _ _ (heap_lt hh)).trans hh, hb1.al _⟩
theorem errno_nil (w : World) : Calls Tryz.prog 40 #[.nilIface] w fun e w' => e = .returned (.int .i64 0) ∧ w' = w := by
  go_enter Tryz.func40, Tryz.ntmps40
  go_wp2_with fail
  go_ret
  exact ⟨rfl, rfl⟩
theorem errno_nilH (w : World) : HCalls Tryz.prog 40 #[.nilIface] w fun e w' => e = .returned (.int .i64 0) ∧ ∃ τ d, w' = re w τ d :=
  HCalls.of_calls plain_prog (fun e w τ d x => ⟨x.1, by obtain ⟨_, τ', d', rfl⟩ := x; exact ⟨τ, d, rfl⟩⟩) (fun w x => by cases x.1) (fun τ d => (errno_nil (re w τ d)).mono fun e w' ⟨h1, h2⟩ => ⟨h1, τ, d, h2⟩)
set_option maxRecDepth 100000 in
set_option maxHeartbeats 1000000 in
theorem monEvent {w : World} {mb wtb : Nat} {time : Int} {ao : Option Addr} {n cap : Nat} {D : World → Prop} (hm : w.heap[mb]? = some (.cells #[.pointer (some ⟨wtb, 0, none⟩)] 104 (0, 0))) (hD : ∀ w τ d, D w → D (re w τ d))
    (h : HCalls Tryz.prog 46 #[.pointer (some ⟨wtb, 0, none⟩), .int .i64 time, .slice ao n cap] w fun e W' => e = .returned .nilIface ∧ D W') : HCalls Tryz.prog 24 #[.pointer (some ⟨mb, 0, none⟩), .int .i64 time, .slice ao n cap] w fun e W' => e = .returned (.int .i64 0) ∧ D W' := by
  have hP := plain_prog
  have hi0 : ∀ it ∈ ([] : List Item), okItem it := by simp
  have hi1 : ∀ (c : Code), ∀ it ∈ [Item.code c], okItem it := fun c => okItems_cons trivial (by simp)
  have hc0 : ∀ τ d, (re w τ d).cell? ⟨mb, 0, none⟩ = some (.pointer (some ⟨wtb, 0, none⟩)) := fun τ d => cell_at (w := re w τ d) hm rfl
  refine HCalls.of_lead Tryz.func24 rfl (fun cs hcs => ?_)
  simp only [Tryz.ntmps24, List.size_toArray, List.length_cons, List.length_nil, Nat.reduceAdd, Nat.reduceSub, Array.replicate_succ, Array.replicate_zero, List.push_toArray, List.append_toArray, List.nil_append, List.cons_append]
  refine LeadsR.seq hP hi0 hcs ?_
  refine LeadsR.region hP (hi1 _) hcs ?_
  simp only [List.size_toArray, List.length_cons, List.length_nil, Nat.zero_add, List.range, List.range.loop]
  refine LeadsR.val hP (w' := w) (v := .int .i64 0) rfl (by rfl) (fun τ d => run_eq_of ?r0) (hi1 _) hcs ?_
  case r0 => intro K hK; go_simp; exact hK
  try walk_nrm
  refine LeadsR.nil hP (hi1 _) hcs ?_
  refine LeadsR.seq hP hi0 hcs ?_
  refine LeadsR.region hP (hi1 _) hcs ?_
  simp only [List.size_toArray, List.length_cons, List.length_nil, Nat.reduceAdd, Nat.zero_add, List.range, List.range.loop]
  refine LeadsR.val hP (w' := w) (v := .pointer (some ⟨mb, 0, none⟩)) rfl (by rfl) (fun τ d => run_eq_of ?r1) (hi1 _) hcs ?_
  case r1 => intro K hK; go_simp; exact hK
  try walk_nrm
  refine LeadsR.val hP (w' := w) (v := .pointer (some ⟨mb, 0, none⟩)) rfl (by rfl) (fun τ d => run_eq_of ?r2) (hi1 _) hcs ?_
  case r2 => intro K hK; go_simp; exact hK
  try walk_nrm
  refine LeadsR.val hP (w' := w) (v := .pointer (some ⟨mb, 0, none⟩)) rfl (by rfl) (fun τ d => run_eq_of ?r3) (hi1 _) hcs ?_
  case r3 => intro K hK; go_simp; exact hK
  try walk_nrm
  refine LeadsR.val hP (w' := w) (v := .pointer (some ⟨wtb, 0, none⟩)) rfl (by rfl) (fun τ d => run_eq_of ?r4) (hi1 _) hcs ?_
  case r4 => intro K hK; have := hc0 τ d; go_simp; exact hK
  try walk_nrm
  refine LeadsR.val hP (w' := w) (v := .int .i64 time) rfl (by rfl) (fun τ d => run_eq_of ?r5) (hi1 _) hcs ?_
  case r5 => intro K hK; go_simp; exact hK
  try walk_nrm
  refine LeadsR.val hP (w' := w) (v := .slice ao n cap) rfl (by rfl) (fun τ d => run_eq_of ?r6) (hi1 _) hcs ?_
  case r6 => intro K hK; go_simp; exact hK
  try walk_nrm
  refine LeadsR.call hP (f := 46) (args := #[.pointer (some ⟨wtb, 0, none⟩), .int .i64 time, .slice ao n cap]) rfl (by rfl) (fun τ d => ?c7) (hi1 _) hcs h (fun e w' x => ⟨_, x.1⟩) ?_
  case c7 => rw [run_call_body (f := 46) (args := #[.tmp 10, .tmp 11, .tmp 12]) (ats := #[100, 3, 31]) rfl Tryz.func46 (by decide) rfl]; simp only [List.map_toArray, List.map_cons, List.map_nil]; rfl
  rintro v w1 ⟨hv, hD1⟩
  cases hv
  try walk_nrm
  refine LeadsR.call hP (f := 40) (args := #[.nilIface]) rfl (by rfl) (fun τ d => ?c8) (hi1 _) hcs (errno_nilH w1) (fun e w' x => ⟨_, x.1⟩) ?_
  case c8 => rw [run_call_body (f := 40) (args := #[.tmp 13]) (ats := #[89]) rfl Tryz.func40 (by decide) rfl]; simp only [List.map_toArray, List.map_cons, List.map_nil]; rfl
  rintro v w2 ⟨hv, τ, d, rfl⟩
  cases hv
  refine LeadsR.other ?_ τ d
  try walk_nrm
  refine LeadsR.val hP (w' := w1) (v := .int .i64 0) rfl (by rfl) (fun τ d => run_eq_of ?r9) (hi1 _) hcs ?_
  case r9 => intro K hK; go_simp; exact hK
  try walk_nrm
  refine LeadsR.nil hP (hi1 _) hcs ?_
  exact LeadsR.ret hP hi0 hcs Tryz.func24 rfl (fun τ d => by simp [results, go_sem, Tryz.f24]) (fun τ d => ⟨rfl, hD _ _ _ hD1⟩)
end Go.Proofs.YtpbbmagjhkakgaaGreatDoor.Ev
namespace Go.Proofs.YtpbbmagjhkakgaaGreatDoor
open Go.RowKit Go.Deep Go.Maps
theorem key_ok (a : Pay) (p q : Int) (hop : isSign a.op ∨ a.op = 116 ∨ a.op = 97) (hn : a.name.size ≤ 8) (h0 : 0 ≤ a.lo ∧ a.lo ≤ a.hi ∧ a.hi ≤ 1000000) (hp : 0 ≤ p ∧ p ≤ 1000000000000000000) (hq : 0 ≤ q ∧ q ≤ 1000000000000000000) : Key.OK ⟨a.op, a.name, a.lo, a.hi, p, q⟩ :=
  ⟨by rcases hop with (e | e | e | e | e | e | e) | e | e <;> (show (Lit.int .i32 a.op).wf = true; rw [e]; decide), Nat.le_trans hn (by decide), (show (Lit.int .i64 (a.lo)).wf = true from WalkArith.wf_i64 (by omega)), (show (Lit.int .i64 (a.hi)).wf = true from WalkArith.wf_i64 (by omega)), (show (Lit.int .i64 (p)).wf = true from WalkArith.wf_i64 (by omega)), (show (Lit.int .i64 (q)).wf = true from WalkArith.wf_i64 (by omega))⟩
theorem empty_small : ByteArray.empty.size ≤ 8 := by decide
theorem put_any : ∀ x : BT Pay, PutOK x := by
  intro x
  induction x with
  | nil =>
    intro v Bt B tb mb nv K w hs _ ht _
    obtain rfl : v = .pointer none := hs
    refine (put_nil _ w).mono ?_
    rintro e w' ⟨rfl, rfl⟩
    exact ⟨rfl, nv, ht, Keep.refl _ _ _ _ _⟩
  | node b0 o0 a l r il ir =>
    intro v Bt B tb mb nv K w hs hg ht hlen
    have hg : Good (.node b0 o0 a l r) := by
      rcases hg with hg | hg
      · cases hg
      · exact hg
    have hlen2 : K.length + (nodesT l + nodesT r + 1) ≤ 1000000000000 := hlen
    rcases hg with ⟨h1, h2, h3, h4, rfl, rfl⟩ | ⟨h1, ⟨_, n2, _⟩, h3, h4, rfl, rfl⟩ | ⟨h1, h2, h3, h4, gl, gr⟩ | ⟨h1, h2, h3, h4, gl, rfl⟩
    · exact put_node b0 o0 a _ _ il ir (.inl rfl) (.inl rfl) v Bt B tb mb nv K w hs (fun p q a1 a2 a3 a4 => key_ok a p q (.inr (.inl h1)) (by rw [h2]; exact empty_small) (by omega) ⟨a1, a2⟩ ⟨a3, a4⟩) ht hlen2
    · exact put_node b0 o0 a _ _ il ir (.inl rfl) (.inl rfl) v Bt B tb mb nv K w hs (fun p q a1 a2 a3 a4 => key_ok a p q (.inr (.inr h1)) n2 (by omega) ⟨a1, a2⟩ ⟨a3, a4⟩) ht hlen2
    · exact put_node b0 o0 a _ _ il ir (.inr gl) (.inr gr) v Bt B tb mb nv K w hs (fun p q a1 a2 a3 a4 => key_ok a p q (.inl (by unfold isSign; omega)) (by rw [h2]; exact empty_small) h3 ⟨a1, a2⟩ ⟨a3, a4⟩) ht hlen2
    · exact put_node b0 o0 a _ _ il ir (.inr gl) (.inl rfl) v Bt B tb mb nv K w hs (fun p q a1 a2 a3 a4 => key_ok a p q (.inl (by unfold isSign; omega)) (by rw [h2]; exact empty_small) h3 ⟨a1, a2⟩ ⟨a3, a4⟩) ht hlen2
def TabV (B tb : Nat) (w : World) (K : List Key) : Prop := (w.heap[tb]? = some (.cells #[.map none, .slice none 0 0] 97 (0, 0)) ∧ K = [] ∧ B ≤ tb) ∨ ∃ mb nv, TabAt B tb mb nv w K
theorem TabV.new (B : Nat) (w : World) (hB : B ≤ w.heap.size) : TabV B w.heap.size (w.alloc (.cells #[.map none, .slice none 0 0] 97 (0, 0))) [] := .inl ⟨heap_new _ _ _ rfl, rfl, hB⟩
theorem TabV.below {B tb : Nat} {w w' : World} {K : List Key} (h : TabV B tb w K) (hb : Below w.heap.size w w') : TabV B tb w' K := by
  rcases h with ⟨h1, h2, h3⟩ | ⟨mb, nv, h2⟩
  · exact .inl ⟨hb.heapOf h1, h2, h3⟩
  · exact .inr ⟨mb, nv, h2.below hb⟩
theorem heap_set1 {w : World} {k : Nat} {u v x : Value} {e : TypeId} {m : Nat × Nat} (h : w.heap[k]? = some (.cells #[u, x] e m)) : (w.setCell ⟨k, 0, none⟩ v).heap[k]? = some (.cells #[v, x] e m) := by
  simp [World.setCell, Array.getElem?_modify, h]
set_option maxHeartbeats 400000 in
theorem count_any (B tb : Nat) (K : List Key) (w : World) (ht : TabV B tb w K) :
    Calls Tryz.prog 44 #[.pointer (some ⟨tb, 0, none⟩)] w fun e w' => e = .returned (.int .i64 (K.length : Int)) ∧ w' = w := by
  rcases ht with ⟨h1, rfl, _⟩ | ⟨mb, nv, h2⟩
  · have hc0 : w.cell? ⟨tb, 1, none⟩ = some (.slice none 0 0) := cell_at h1 rfl
    go_enter Tryz.func44, Tryz.ntmps44
    go_wp2_with fail
    go_ret
    exact ⟨rfl, rfl⟩
  · obtain ⟨h1, _, ⟨_, ⟨rfl, h3⟩ | ⟨g, cap, cur, rfl, _⟩⟩, _⟩ := h2
    · have hc0 : w.cell? ⟨tb, 1, none⟩ = some (.slice none 0 0) := cell_at h1 rfl
      rw [h3]
      go_enter Tryz.func44, Tryz.ntmps44
      go_wp2_with fail
      go_ret
      exact ⟨rfl, rfl⟩
    · have hc0 : w.cell? ⟨tb, 1, none⟩ = some (.slice (some ⟨g, 0, none⟩) K.length cap) := cell_at h1 rfl
      go_enter Tryz.func44, Tryz.ntmps44
      go_wp2_with fail
      go_ret
      exact ⟨rfl, rfl⟩
end Go.Proofs.YtpbbmagjhkakgaaGreatDoor
