import Derived.Test.YtpbbmagjhkakgaaGreatDoorSnActToSnWatch
import Derived.Test.YtpbbmagjhkakgaaGreatDoorEdInvToSnReach
namespace Go.Proofs.YtpbbmagjhkakgaaGreatDoor.Ev
open Go.RowKit Go.Deep Go.Maps Go.Proofs.YtpbbmagjhkakgaaGreatDoor.Lf Go.Conc
set_option maxRecDepth 100000 in
set_option maxHeartbeats 4000000 in
theorem event21_drop (text : ByteArray) (x : BT Pay) (L : List (Int × Int)) (retain : Int) (eo : Option Addr) (cap mb wtb : Nat) (w0 : World) (i : Nat) (a : Act) (w : World) (hLm : L.length ≤ 9223372036854775807) (hL : ∀ p ∈ L, I64 p.1 ∧ I64 p.2) (hC : ComesAt w0 eo L) (hgx : Good x) (hR : reachT x ≤ retain) (h : StW text x L retain eo cap mb wtb w0 (timeZ L (i + 1)) i i a w) (h1 : i < 25) (h2 : i < L.length) : HWp Tryz.prog event21 (fun e a' w' => e = .normal ∧ StX text x L retain eo cap mb wtb w0 (timeZ L (i + 1)) i (i + 1) a' w') a w := by
  have hP := plain_prog
  obtain ⟨hA, hW, hs⟩ := h
  obtain ⟨u, rfl⟩ := hA.open
  obtain ⟨b, off, rfl, hbl, hcells⟩ := (hC.move hs) (by intro e; rw [e] at h2; simp at h2)
  have c2 : ∀ τ d, (re w τ d).cell? ⟨b, off + i * 2 + 1, none⟩ = some (.int .i64 (L.getD i (0, 0)).2) := fun τ d => (hcells i h2).2
  have hmem : L.getD i (0, 0) ∈ L := by rw [List.getD_eq_getElem?_getD, List.getElem?_eq_getElem h2]; exact List.getElem_mem h2
  have hat := atoms_H (L.getD i (0, 0)).2 w (hL _ hmem).2
  have hAe : atomsL (pickZ (L.getD i (0, 0)).2 8).toNat = atomsAt L i := rfl
  rw [hAe] at hat
  have HI : Hid (WInv x ⟨#[112]⟩ L w0.heap.size mb wtb retain i w ∧ SpareR (fun _ => False) w0 w) := ⟨hW, hs⟩
  have HL : Hid (L.length ≤ 9223372036854775807) := hLm
  clear hcells hA hW hs hAe hC hL hmem
  refine HWp.of_lead fun b' k cs hi0 hcs => ?_
  simp only [event21, loop21, body21, Tryz.f21, Option.getD_some]
  refine LeadsR.region hP hi0 hcs ?_
  simp only [List.size_toArray, List.length_cons, List.length_nil, Nat.reduceAdd, Nat.zero_add, List.range, List.range.loop]
  generalize hl : L.length = ln at *
  generalize (L.getD i (0, 0)).2 = ac at *
  generalize hz : timeZ L (i + 1) = tz at *
  refine LeadsR.val hP (w' := w) (v := ?v0) rfl (by rfl) (fun τ d => run_eq_of ?r0) hi0 hcs ?_
  case r0 => intro K hK; have := c2 τ d; go_simp; exact hK
  try walk_nrm
  refine LeadsR.val hP (w' := w) (v := ?v1) rfl (by rfl) (fun τ d => run_eq_of ?r1) hi0 hcs ?_
  case r1 => intro K hK; have := c2 τ d; go_simp; exact hK
  try walk_nrm
  refine LeadsR.val hP (w' := w) (v := ?v2) rfl (by rfl) (fun τ d => run_eq_of ?r2) hi0 hcs ?_
  case r2 => intro K hK; have := c2 τ d; go_simp; exact hK
  try walk_nrm
  refine LeadsR.val hP (w' := w) (v := ?v3) rfl (by rfl) (fun τ d => run_eq_of ?r3) hi0 hcs ?_
  case r3 => intro K hK; have := c2 τ d; go_simp; exact hK
  try walk_nrm
  refine LeadsR.val hP (w' := w) (v := ?v4) rfl (by rfl) (fun τ d => run_eq_of ?r4) hi0 hcs ?_
  case r4 => intro K hK; have := c2 τ d; go_simp; exact hK
  try walk_nrm
  refine LeadsR.val hP (w' := w) (v := ?v5) rfl (by rfl) (fun τ d => run_eq_of ?r5) hi0 hcs ?_
  case r5 => intro K hK; have := c2 τ d; go_simp; exact hK
  try walk_nrm
  refine LeadsR.val hP (w' := w) (v := ?v6) rfl (by rfl) (fun τ d => run_eq_of ?r6) hi0 hcs ?_
  case r6 => intro K hK; have := c2 τ d; go_simp; exact hK
  try walk_nrm
  refine LeadsR.call hP (f := 25) (args := #[.int .i64 ac]) rfl (by rfl) (fun τ d => ?c7) hi0 hcs hat (fun e w' x => by obtain ⟨ao, cp, x1, _⟩ := x; exact ⟨_, x1⟩) ?_
  case c7 => rw [run_call_body (f := 25) (args := #[.tmp 63]) (ats := #[3]) rfl Tryz.func25 (by decide) rfl]; simp only [List.map_toArray, List.map_cons, List.map_nil]; rfl
  rintro v w1 ⟨ao, acap, hv, hcp, hst, hs1⟩
  cases hv
  try walk_nrm
  have hev := step_drop (HI.out.1.move hs1) hgx (Int.le_trans (reach_core hgx) hR) h1 ao acap hst hcp
  rw [hz] at hev
  refine LeadsR.call hP (f := 24) (args := #[.pointer (some ⟨mb, 0, none⟩), .int .i64 tz, .slice ao (atomsAt L i).length acap]) rfl (by rfl) (fun τ d => ?c8) hi0 hcs hev (fun e w' x => ⟨_, x.1⟩) ?_
  case c8 => rw [run_call_body (f := 24) (args := #[.tmp 57, .tmp 58, .tmp 64]) (ats := #[47, 3, 31]) rfl Tryz.func24 (by decide) rfl]; simp only [List.map_toArray, List.map_cons, List.map_nil]; rfl
  rintro v w2 ⟨hv, hW2, hs2⟩
  cases hv
  try walk_nrm
  refine LeadsR.val hP (w' := w2) (v := ?v9) rfl (by rfl) (fun τ d => run_eq_of ?r9) hi0 hcs ?_
  case r9 => intro K hK; go_simp; exact hK
  try walk_nrm
  refine LeadsR.nil hP hi0 hcs ?_
  subst hl
  subst hz
  exact LeadsR.here fun τ d => ⟨_, ⟨⟨rfl, rfl, rfl, rfl, rfl, rfl, rfl, rfl, rfl, rfl⟩, hW2.tapeR τ d, (spare_out (HI.out.2.trans hs1) hs2).tapeR τ d⟩, rfl⟩
theorem round21_drop (text : ByteArray) (x : BT Pay) (L : List (Int × Int)) (retain : Int) (eo : Option Addr) (cap mb wtb : Nat) (w0 : World) (i : Nat) (a : Act) (w : World) (hLm : L.length ≤ 9223372036854775807) (hL : ∀ p ∈ L, I64 p.1 ∧ I64 p.2) (hC : ComesAt w0 eo L) (hgx : Good x) (hR : reachT x ≤ retain) (h : StW text x L retain eo cap mb wtb w0 (timeZ L i) i i a w) (h1 : i ≤ 25) (h2 : i ≤ L.length) :
    HWp Tryz.prog loop21 (fun e a' w' => (e = .normal ∧ i < 25 ∧ i < L.length ∧ StW text x L retain eo cap mb wtb w0 (timeZ L (i + 1)) ((i + 1 : Nat) : Int) (i + 1) a' w') ∨ (e = .exit 0 ∧ (i = 25 ∨ i = L.length) ∧ StW text x L retain eo cap mb wtb w0 (timeZ L i) i i a' w')) a w := by
  have hP := plain_prog
  have e0 : loop21 = .seq head21 (.seq (.block 1 (.seq later21 (.seq event21 ok21))) next21) := rfl
  rw [e0]
  by_cases hin : i < 25 ∧ i < L.length
  · obtain ⟨h3, h4⟩ := hin
    refine HWp.seqL hP (StW text x L retain eo cap mb wtb w0 (timeZ L i) i i) (fun _ _ τ d x => x.tapeR τ d) (fun τ d => head21_go text x L retain eo cap mb wtb w0 i a _ hLm (h.tapeR τ d) h3 h4) fun a w h => ?_
    refine HWp.seqH hP (StW text x L retain eo cap mb wtb w0 (timeZ L (i + 1)) i (i + 1)) (HWp.blockN hP (fun _ _ τ d x => x.tapeR τ d) ?_) fun a w h => ?_
    · refine HWp.seqL hP (StW text x L retain eo cap mb wtb w0 (timeZ L (i + 1)) i i) (fun _ _ τ d x => x.tapeR τ d) (fun τ d => later21_go text x L retain eo cap mb wtb w0 i a _ hLm hL hC (h.tapeR τ d) h3 h4) fun a w h => ?_
      refine HWp.seqH hP (StX text x L retain eo cap mb wtb w0 (timeZ L (i + 1)) i (i + 1)) (event21_drop text x L retain eo cap mb wtb w0 i a w hLm hL hC hgx hR h h3 h4) fun a w h => ?_
      exact HWp.loneN hP (fun _ _ τ d x => x.tapeR τ d) fun τ d => ok21_go text x L retain eo cap mb wtb w0 _ _ (i + 1) a _ (h.tapeR τ d)
    · refine (HWp.loneN hP (J := StW text x L retain eo cap mb wtb w0 (timeZ L (i + 1)) ((i + 1 : Nat) : Int) (i + 1)) (fun _ _ τ d x => x.tapeR τ d) fun τ d => next21_go text x L retain eo cap mb wtb w0 i a _ h3 (h.tapeR τ d)).mono ?_
      rintro e a w ⟨rfl, h⟩
      exact .inl ⟨rfl, h3, h4, h⟩
  · have h3 : i = 25 ∨ i = L.length := by omega
    refine HWp.seq hP ((HWp.of_wp hP (Q := fun e a' w' => e = .exit 0 ∧ StW text x L retain eo cap mb wtb w0 (timeZ L i) i i a' w') (fun _ _ _ τ d x => ⟨x.1, x.2.tapeR τ d⟩) (fun _ _ x => by cases x.1) (fun τ d => head21_end text x L retain eo cap mb wtb w0 i a _ hLm (h.tapeR τ d) h1 h2 h3)).mono ?_)
    rintro e a w ⟨rfl, h⟩
    exact .inr ⟨rfl, h3, h⟩
theorem watched_any (text : ByteArray) (x : BT Pay) (L : List (Int × Int)) (retain : Int) (eo : Option Addr) (cap : Nat) (w : World) (hg : Glob w) (hw7 : 14 ≤ w.heap.size) (hm : text.size ≤ maxLen) (hr : readF text = (some x, 0)) (hR : reachT x ≤ retain) (hK : (KAt (fun _ => x) 1).length ≤ 40) (hX : nodesT (coreT x) ≤ 1000000) (hret : 0 ≤ retain ∧ retain ≤ 100000)
    (hLm : L.length ≤ 9223372036854775807) (hL : ∀ p ∈ L, I64 p.1 ∧ I64 p.2) (hC : ComesAt w eo L) :
    HCalls Tryz.prog 21 #[.string text, .int .i64 retain, .slice eo L.length cap] w (WatchedPost x L w) := by
  have hP := plain_prog
  have hgx : Good x := (readF_sound hr).1
  have hi0 : ∀ it ∈ ([] : List Item), okItem it := by simp
  have hi1 : ∀ (c : Code), ∀ it ∈ [Item.code c], okItem it := fun c => okItems_cons trivial (by simp)
  have hi2 : ∀ (c d : Code), ∀ it ∈ [Item.code c, Item.code d], okItem it := fun c d => okItems_cons trivial (hi1 d)
  have hb : Tryz.f21.body = some body21 := rfl
  have e0 : body21 = unseq pre21 (.seq (.seq zero21 (.block 0 (.loop loop21))) rest21) := rfl
  refine HCalls.of_lead Tryz.func21 hb fun cs hcs => ?_
  rw [e0]
  refine LeadsR.pieces hP pre21 (PreOK text x L retain eo cap w) ?_ hi0 hcs (fun τ d => ?_) ?_
  · rintro a w' τ d ⟨mb, wtb, h1, h2, h3⟩
    exact ⟨mb, wtb, h1, h2.tapeR τ d, h3.tapeR τ d⟩
  · exact pre21_go text x L retain eo cap w (re w τ d) ((SpareR.refl _ w).tapeR τ d) rfl (glob_tape hg τ d) hw7 hm hr hR hK hX hret
  rintro a w1 ⟨mb, wtb, hA, hW, hs⟩
  refine LeadsR.seq hP hi0 hcs (LeadsR.seq hP (hi1 _) hcs ?_)
  refine LeadsR.piece hP (StW text x L retain eo cap mb wtb w (timeZ L 0) (0 : Nat) 0) (fun _ _ τ d x => x.tapeR τ d) (hi2 _ _) hcs (fun τ d => zero21_go text x L retain eo cap mb wtb w a _ hA (hW.tapeR τ d) (hs.tapeR τ d)) fun a w1 h0 => ?_
  refine LeadsR.hpiece (StW text x L retain eo cap mb wtb w (timeZ L (min L.length 25)) (min L.length 25 : Nat) (min L.length 25)) (hi1 _) hcs (HWp.blockLoop hP (fun n a w' => ∃ i : Nat, n = 25 - i ∧ i ≤ 25 ∧ i ≤ L.length ∧ StW text x L retain eo cap mb wtb w (timeZ L i) i i a w') _ (fun _ _ τ d x => x.tapeR τ d) 25 ⟨0, rfl, by omega, by omega, h0⟩ ?_) fun a w2 h2 => ?_
  · rintro n a w2 ⟨i, rfl, h1, h2, h3⟩
    refine (round21_drop text x L retain eo cap mb wtb w i a w2 hLm hL hC hgx hR h3 h1 h2).mono ?_
    rintro e a w3 (⟨rfl, h4, h5, h6⟩ | ⟨rfl, h4, h6⟩)
    · exact .inl ⟨rfl, 25 - (i + 1), by omega, i + 1, rfl, by omega, by omega, h6⟩
    · have e1 : i = min L.length 25 := by omega
      subst e1
      exact .inr ⟨rfl, h6⟩
  · refine LeadsR.last hP hcs Tryz.func21 ?_ ?_ fun τ d => rest21_go text x L retain eo cap mb wtb w _ a _ (h2.tapeR τ d)
    · rintro e w' τ d ⟨h1, h2⟩
      exact ⟨h1, h2.tapeR τ d⟩
    · rintro w' ⟨h1, _⟩
      cases h1
end Go.Proofs.YtpbbmagjhkakgaaGreatDoor.Ev
namespace Go.Proofs.YtpbbmagjhkakgaaGreatDoor.Ev
open Go.RowKit Go.Deep Go.Maps Go.Proofs.YtpbbmagjhkakgaaGreatDoor.Lf
theorem histZ_len (L : List (Int × Int)) : ∀ i, (histZ L i).length = i
  | 0 => rfl
  | i + 1 => by simp [histZ, histZ_len L i]
theorem histZ_at (L : List (Int × Int)) : ∀ (i q : Nat) (h : Hap), (histZ L i)[q]? = some h → h.1 = timeZ L (i - q)
  | 0, q, h, hq => by simp [histZ] at hq
  | i + 1, 0, h, hq => by simp [histZ] at hq; subst hq; rfl
  | i + 1, q + 1, h, hq => by
    have := histZ_at L i q h (by simpa [histZ] using hq)
    rw [this]
    congr 1
    omega
theorem Run.len {L : List (Int × Int)} {K : List Key} {i : Nat} {E : List Pe} {dr : List Hap} (h : Run L K i E dr) : E.length ≤ i := by
  have := congrArg List.length h.hist
  simp [histZ_len] at this
  omega
theorem Run.time {L : List (Int × Int)} {K : List Key} {i : Nat} {E : List Pe} {dr : List Hap} (h : Run L K i E dr) (j : Nat) (e : Pe) (hj : E[j]? = some e) : e.time = timeZ L (i + 1 + j - E.length) := by
  have hl := h.len
  have hjl := (List.getElem?_eq_some_iff.1 hj).1
  have h1 : (histZ L i)[E.length - 1 - j]? = some e.hap := by
    rw [← h.hist, List.getElem?_append_left (by simp; omega), List.getElem?_map, List.getElem?_reverse (by omega)]
    have : E.length - 1 - (E.length - 1 - j) = j := by omega
    rw [this, hj]
    rfl
  have h2 := histZ_at L i _ _ h1
  have h3 : i - (E.length - 1 - j) = i + 1 + j - E.length := by omega
  rw [h3] at h2
  exact h2
theorem oldF_ge (t : Int) : ∀ (C : List EvC) (c : EvC), C[oldF t C]? = some c → t ≤ c.time
  | [], c, h => by simp at h
  | d :: C, c, h => by
    simp only [oldF] at h
    split at h
    · rename_i hd; simp at h; subst h; omega
    · exact oldF_ge t C c (by simpa using h)
theorem timeZ_le (L : List (Int × Int)) {a b : Nat} (h : a ≤ b) : timeZ L a ≤ timeZ L b := by
  have := timeZ_mono L a (b - a)
  have e : a + (b - a) = b := by omega
  rwa [e] at this
def kN (L : List (Int × Int)) (thr : Int) : Nat → Nat
  | 0 => 0
  | j + 1 => kN L thr j + (if thr ≤ timeZ L (j + 1) then 1 else 0)
theorem kN_le (L : List (Int × Int)) (thr : Int) : ∀ j, kN L thr j ≤ j
  | 0 => Nat.le_refl _
  | j + 1 => by have := kN_le L thr j; simp only [kN]; split <;> omega
def cntH (thr : Int) : List Hap → Nat
  | [] => 0
  | h :: l => cntH thr l + (if thr ≤ h.1 then 1 else 0)
theorem cnt_hist (L : List (Int × Int)) (thr : Int) : ∀ j, cntH thr (histZ L j) = kN L thr j
  | 0 => rfl
  | j + 1 => by simp only [histZ, cntH, kN, cnt_hist L thr j]
theorem cnt_append (thr : Int) : ∀ a b, cntH thr (a ++ b) = cntH thr a + cntH thr b
  | [], b => by simp [cntH]
  | h :: a, b => by simp only [List.cons_append, cntH, cnt_append thr a b]; omega
theorem cnt_all {thr : Int} : ∀ {l : List Hap}, (∀ h ∈ l, thr ≤ h.1) → cntH thr l = l.length
  | [], _ => rfl
  | h :: l, hl => by
    have ih := cnt_all (l := l) (fun x hx => hl x (List.mem_cons_of_mem _ hx))
    simp only [cntH, ih, if_pos (hl h (by simp)), List.length_cons]
theorem cnt_none {thr : Int} : ∀ {l : List Hap}, (∀ h ∈ l, h.1 < thr) → cntH thr l = 0
  | [], _ => rfl
  | h :: l, hl => by
    have := hl h (by simp)
    have ih := cnt_none (l := l) (fun x hx => hl x (List.mem_cons_of_mem _ hx))
    simp only [cntH, ih]
    rw [if_neg (by omega)]
theorem Run.kept {L : List (Int × Int)} {K : List Key} {i : Nat} {E : List Pe} {dr : List Hap} (h : Run L K i E dr) {thr : Int} (h1 : ∀ d ∈ dr, d.1 < thr) (h2 : ∀ e ∈ E, thr ≤ e.time) : E.length = kN L thr i := by
  rw [← cnt_hist, ← h.hist, cnt_append, cnt_none h1, cnt_all]
  · simp
  · intro x hx
    obtain ⟨e, he, rfl⟩ := List.mem_map.1 hx
    exact h2 e (List.mem_reverse.1 he)
structure ZInv (L : List (Int × Int)) (B0 mb wtb : Nat) (n : Int) (i : Nat) (w : World) : Prop where
  ex : ∃ ea ecap C E dr, WatchAt w wtb n 60 none 0 [] ea ecap C E none 0 [] [] ∧ Run L [] i E dr ∧ (∀ d ∈ dr, d.1 < timeZ L i - n) ∧ (∀ e ∈ E, timeZ L i - n ≤ e.time) ∧ C.length ≤ i ∧ (C = [] → i = 0) ∧ (∀ c, C.getLast? = some c → c.number = i ∧ c.time = timeZ L i) ∧ (∀ a, ea = some a → B0 ≤ a.block)
  mon : w.heap[mb]? = some (.cells #[.pointer (some ⟨wtb, 0, none⟩)] 104 (0, 0))
  wt : B0 ≤ wtb
theorem ZInv.tapeR {L : List (Int × Int)} {B0 mb wtb : Nat} {n : Int} {i : Nat} {w : World} (h : ZInv L B0 mb wtb n i w) (τ : Tape) (d : Nat) : ZInv L B0 mb wtb n i (re w τ d) := by
  obtain ⟨⟨ea, ecap, C, E, dr, h1, h2⟩, h3, h4⟩ := h
  exact ⟨⟨ea, ecap, C, E, dr, h1.tapeR τ d, h2⟩, h3, h4⟩
theorem ZInv.move {L : List (Int × Int)} {B0 mb wtb : Nat} {n : Int} {i : Nat} {w w' : World} (h : ZInv L B0 mb wtb n i w) (hs : SpareR (fun _ => False) w w') : ZInv L B0 mb wtb n i w' := by
  obtain ⟨⟨ea, ecap, C, E, dr, h1, h2⟩, h3, h4⟩ := h
  exact ⟨⟨ea, ecap, C, E, dr, h1.move hs (Kinds.none _ _), h2⟩, hs.get h3 id, h4⟩
theorem ZInv.start {L : List (Int × Int)} {B0 mb wtb : Nat} {n : Int} {w : World} (hn : 0 ≤ n ∧ n ≤ 1000000000) (h1 : w.heap[mb]? = some (.cells #[.pointer (some ⟨wtb, 0, none⟩)] 104 (0, 0))) (h2 : w.heap[wtb]? = some (.cells #[.int .i64 n, .int .i64 60, .slice none 0 0, .slice none 0 0, .slice none 0 0] 153 (0, 0))) (hB : B0 ≤ wtb) : ZInv L B0 mb wtb n 0 w := by
  refine ⟨⟨none, 0, [], [], [], ?_, Run.start L _, by simp, by simp, by simp, by simp, by simp, by simp⟩, h1, hB⟩
  exact { cell := h2, evs := World.ownsRow_nil _ _ _ _, len := rfl, ins := by simp, typed := by simp, few := by simp, ret := hn, nums := by simp, nfew := by simp, ncp := by simp, nodes := fun h => absurd rfl h, ntyped := by simp, core := by simp, ahead := fun i k hk => by simp at hk, rows := by simp, pols := .inl ⟨rfl, rfl, rfl⟩, pfew := by simp, pcp := by simp, plen := rfl, pstr := by simp, sok := by simp, apart := fun i j s t hs => by simp at hs, pnode := by simp }
def IntsKept (w W' : World) : Prop := ∀ (b : Nat) (cs : Array Value) (m : Nat × Nat), w.heap[b]? = some (.cells cs 3 m) → W'.heap[b]? = some (.cells cs 3 m)
theorem step_none {L : List (Int × Int)} {B0 mb wtb : Nat} {n : Int} {i : Nat} {w : World} (h : ZInv L B0 mb wtb n i w) (hi : i < 25) (ao : Option Addr) (cap : Nat) (hA : StrsIn w ao (atomsAt L i)) (hcap : (atomsAt L i).length ≤ cap) :
    HCalls Tryz.prog 24 #[.pointer (some ⟨mb, 0, none⟩), .int .i64 (timeZ L (i + 1)), .slice ao (atomsAt L i).length cap] w fun e W' => e = .returned (.int .i64 0) ∧ ZInv L B0 mb wtb n (i + 1) W' ∧ SpareR (fun b => B0 ≤ b) w W' ∧ IntsKept w W' := by
  obtain ⟨⟨ea, ecap, C, E, dr, h1, h2, h3, h3b, h4, h5, h6, h10⟩, hm, hwt⟩ := h
  have hT := timeZ_range L (i + 1)
  have hTs := timeZ_step L i
  have hret := h1.ret
  have hpk := pickZ_range (L.getD i (0, 0)).2 8 (by decide)
  have hnx : nextN C = (i : Int) + 1 := by
    unfold nextN
    cases hc : C.getLast? with
    | none => have := h5 (List.getLast?_eq_none_iff.1 hc); simp [this]
    | some c => simp [(h6 c hc).1]
  obtain ⟨k, hk⟩ : ∃ k, oldF (timeZ L (i + 1) - n) C = k := ⟨_, rfl⟩
  have hkn : k ≤ C.length := by rw [← hk]; exact oldF_le _ _
  have hdr : ∀ d ∈ (E.take k).reverse.map Pe.hap ++ dr, d.1 < timeZ L (i + 1) - n := by
    intro d hd
    rcases List.mem_append.1 hd with hd | hd
    · obtain ⟨e, he, rfl⟩ := List.mem_map.1 hd
      obtain ⟨j, hj⟩ := List.mem_iff_getElem?.1 (List.mem_reverse.1 he)
      rw [List.getElem?_take] at hj
      split at hj
      · rename_i hjk
        have hjc : j < C.length := by omega
        have hin := h1.ins j C[j] e (List.getElem?_eq_getElem hjc) hj
        have hlt := oldF_lt (timeZ L (i + 1) - n) C j C[j] (List.getElem?_eq_getElem hjc) (by omega)
        show e.time < _
        rw [← hin.time]
        exact hlt
      · cases hj
    · have := h3 d hd; omega
  have hkeep : ∀ e ∈ E.drop k, timeZ L (i + 1) - n ≤ e.time := by
    intro e he
    obtain ⟨j, hj⟩ := List.mem_iff_getElem?.1 he
    rw [List.getElem?_drop] at hj
    have hjl := (List.getElem?_eq_some_iff.1 hj).1
    have hkl : k < C.length := by rw [h1.len]; omega
    have hkE : k < E.length := by omega
    have t1 := h2.time (k + j) e hj
    have t2 := h2.time k E[k] (List.getElem?_eq_getElem hkE)
    have hin := h1.ins k C[k] E[k] (List.getElem?_eq_getElem hkl) (List.getElem?_eq_getElem hkE)
    have hge := oldF_ge (timeZ L (i + 1) - n) C C[k] (by rw [hk]; exact List.getElem?_eq_getElem hkl)
    have hmo := timeZ_le L (a := i + 1 + k - E.length) (b := i + 1 + (k + j) - E.length) (by omega)
    have := hin.time
    omega
  have hev := event_drop h1 (timeZ L (i + 1)) ao (atomsAt L i) cap (by omega) (fun c hc => by rw [(h6 c hc).2]; omega) k hk (by omega) hA
    (Nat.le_trans (atomsTo_len _ 3) (by decide)) hcap (atoms_names _) (atoms_once _ (by omega)) (by omega) (by omega) (fun t ht => by simp at ht)
  refine (monEvent hm (D := fun W' => ZInv L B0 mb wtb n (i + 1) W' ∧ SpareR (fun b => B0 ≤ b) w W' ∧ IntsKept w W') (fun w τ d x => ⟨x.1.tapeR τ d, x.2.1.tapeR τ d, x.2.2⟩) (hev.mono ?_))
  rintro e W' ⟨rfl, c, ea', ecap', ss', k1, k2, k3, k4, k5, k6⟩
  refine ⟨rfl, ?_⟩
  have hlen := k1.plen
  have hss : ss' = [] := List.length_eq_zero_iff.1 hlen
  subst hss
  have hown : ∀ b, Own46 wtb ea [] b → B0 ≤ b := by
    rintro b (rfl | ⟨a, e1, rfl⟩ | ⟨s', hs', _⟩)
    · exact hwt
    · exact h10 a e1
    · simp at hs'
  have hsr : SpareR (fun b => B0 ≤ b) w W' := k4.mono fun b _ hb => hown b hb
  obtain ⟨_, w2, _, _⟩ := workF_same (E.drop k).reverse [] (⟨nextN C, timeZ L (i + 1), atomsAt L i, []⟩ : Pe).bare
  refine ⟨⟨⟨ea', ecap', C.drop k ++ [c], _, (E.take k).reverse.map Pe.hap ++ dr, k1, (h2.drop k).next (nextN C), hdr, ?_, ?_, ?_, ?_, ?_⟩, ?_, hwt⟩, hsr, ?_⟩
  · intro e he
    rcases List.mem_append.1 he with he | he
    · exact hkeep e he
    · simp only [List.mem_singleton] at he
      subst he
      rw [w2]
      show _ ≤ timeZ L (i + 1)
      omega
  · simp; omega
  · intro e; simp at e
  · intro c' hc'
    simp at hc'
    subst hc'
    exact ⟨by rw [k3, hnx]; simp, k2⟩
  · intro a ha
    rcases k5 a ha with ⟨a0, e1, e2⟩ | e
    · rw [← e2]; exact h10 a0 e1
    · have := heap_lt h1.cell; omega
  · refine (k4.block mb (heap_lt hm) ?_).trans hm
    rintro (e | ⟨a, e1, e2⟩ | hM)
    · subst e; rw [h1.cell] at hm; cases hm
    · have hb : (Value.slice ea C.length ecap).ownBlock = some mb := by rw [e1]; rw [← e2]; rfl
      obtain ⟨cs, hcs⟩ := own_tag h1.evs hb
      rw [hm] at hcs; cases hcs
    · obtain ⟨cs, t', ht', e | e⟩ := Ms.tag h1.sok hM
      · rw [hm] at ht'; cases ht'; cases e
      · rw [hm] at ht'; cases ht'; cases e
  · intro b cs m hb
    refine (k4.block b (heap_lt hb) ?_).trans hb
    rintro (e | ⟨a, e1, e2⟩ | hM)
    · subst e; rw [h1.cell] at hb; cases hb
    · have hb2 : (Value.slice ea C.length ecap).ownBlock = some b := by rw [e1]; rw [← e2]; rfl
      obtain ⟨cs', hcs⟩ := own_tag h1.evs hb2
      rw [hb] at hcs; cases hcs
    · obtain ⟨cs', t', ht', e | e⟩ := Ms.tag h1.sok hM
      · rw [hb] at ht'; cases ht'; cases e
      · rw [hb] at ht'; cases ht'; cases e
set_option maxHeartbeats 1000000 in
theorem pastKept (wtb : Nat) (n rm nv pv : Value) (ea : Option Addr) (m ecap : Nat) (w : World) (h : w.heap[wtb]? = some (.cells #[n, rm, nv, .slice ea m ecap, pv] 153 (0, 0))) : Calls Tryz.prog 90 #[.pointer (some ⟨wtb, 0, none⟩)] w fun e w' => e = .returned (.int .i64 (m : Int)) ∧ w' = w := by
  have c3 : w.cell? ⟨wtb, 3, none⟩ = some (.slice ea m ecap) := cell_at h rfl
  go_enter Tryz.func90, Tryz.ntmps90
  go_wp2_with fail
  go_ret
  exact ⟨rfl, rfl⟩
theorem watchKept (wtb : Nat) (n rm nv pv : Value) (ea : Option Addr) (m ecap : Nat) (w : World) (h : w.heap[wtb]? = some (.cells #[n, rm, nv, .slice ea m ecap, pv] 153 (0, 0))) : Calls Tryz.prog 47 #[.pointer (some ⟨wtb, 0, none⟩)] w fun e w' => e = .returned (.int .i64 (m : Int)) ∧ w' = w := by
  have hp := pastKept wtb n rm nv pv ea m ecap w h
  go_enter Tryz.func47, Tryz.ntmps47
  go_wp2_with fail
  refine hp.mono ?_
  rintro e w1 ⟨rfl, rfl⟩
  go_wp2_with fail
  go_ret
  exact ⟨rfl, rfl⟩
theorem monKept (mb wtb : Nat) (n rm nv pv : Value) (ea : Option Addr) (m ecap : Nat) (w : World) (hm : w.heap[mb]? = some (.cells #[.pointer (some ⟨wtb, 0, none⟩)] 104 (0, 0))) (h : w.heap[wtb]? = some (.cells #[n, rm, nv, .slice ea m ecap, pv] 153 (0, 0))) : Calls Tryz.prog 26 #[.pointer (some ⟨mb, 0, none⟩)] w fun e w' => e = .returned (.int .i64 (m : Int)) ∧ w' = w := by
  have hp := watchKept wtb n rm nv pv ea m ecap w h
  have c0 : w.cell? ⟨mb, 0, none⟩ = some (.pointer (some ⟨wtb, 0, none⟩)) := cell_at hm rfl
  go_enter Tryz.func26, Tryz.ntmps26
  go_wp2_with fail
  refine hp.mono ?_
  rintro e w1 ⟨rfl, rfl⟩
  go_wp2_with fail
  go_ret
  exact ⟨rfl, rfl⟩
theorem ZInv.keptIs {L : List (Int × Int)} {B0 mb wtb : Nat} {n : Int} {i : Nat} {w : World} (h : ZInv L B0 mb wtb n i w) : Calls Tryz.prog 26 #[.pointer (some ⟨mb, 0, none⟩)] w fun e w' => e = .returned (.int .i64 (kN L (timeZ L i - n) i : Nat)) ∧ w' = w := by
  obtain ⟨⟨ea, ecap, C, E, dr, h1, h2, h3, h3b, _⟩, hm, _⟩ := h
  have := monKept mb wtb _ _ _ _ ea C.length ecap w hm h1.cell
  rw [h1.len, h2.kept h3 h3b] at this
  exact this
end Go.Proofs.YtpbbmagjhkakgaaGreatDoor.Ev
namespace Go.Proofs.YtpbbmagjhkakgaaGreatDoor.Ev
open Go.RowKit Go.Deep Go.Maps Go.Proofs.YtpbbmagjhkakgaaGreatDoor.Lf Go.Conc
def IsOp (ops : Array Oper) (i d : Nat) (op : Op) : Prop := ∃ o, ops[i]? = some o ∧ o.dst = some d ∧ o.op = op ∧ o.guard = none
section
variable {P : Program} {K : Goroutine → World → Prop} {b : Frame} {k : List Item} {cs : List Frame} {A : Act} {w : World} {ops : Array Oper} {i d : Nat} {rest : List Nat} {v : Value}
theorem put_facts (A : Act) (d : Nat) (v : Value) (hd : d < A.tmps.size) : (A.put (some d) v).tmps.size = A.tmps.size ∧ (A.put (some d) v).defers = A.defers ∧ (A.put (some d) v).tmps[d]? = some v ∧ ∀ j, j ≠ d → (A.put (some d) v).tmps[j]? = A.tmps[j]? := by
  refine ⟨by simp [Act.put], rfl, by simp [Act.put, hd], fun j hj => ?_⟩
  simp only [Act.put, Array.getElem?_setIfInBounds]
  rw [if_neg (fun e => hj e.symm)]
theorem eval_tmp {j : Nat} (h : A.tmps[j]? = some v) : A.eval (.tmp j) = v := by
  show A.tmps.getD j undef = v
  rw [Array.getD_eq_getD_getElem?, h]
  rfl
theorem isOp_wanted {o : Oper} {y : Nat → Option Bool} (h : o.guard = none) : Region.wanted o y = true := by
  unfold Region.wanted
  rw [h]
theorem LeadsR.isVal (hP : Plain P) {op : Op} (h : IsOp ops i d op) (hr : ∀ o : Oper, o.op = op → ∀ w, (execOp A.eval o).run P w = .ok (.value v) w) (hi : ∀ it ∈ k, okItem it) (hc : ∀ fr ∈ cs, okFrame fr)
    (hk : LeadsR P K (G (b.at (A.put (some d) v) (.inRegion ops rest :: k)) cs) w) : LeadsR P K (G (b.at A (.inRegion ops (i :: rest) :: k)) cs) w := by
  obtain ⟨o, h1, h2, h3, h4⟩ := h
  refine LeadsR.val hP (w' := w) (v := v) h1 (isOp_wanted h4) (fun τ d => hr o h3 _) hi hc ?_
  rw [h2]
  exact hk
theorem LeadsR.mv (hP : Plain P) {x : Operand} (h : IsOp ops i d (.move x)) (hx : A.eval x = v) (hi : ∀ it ∈ k, okItem it) (hc : ∀ fr ∈ cs, okFrame fr)
    (hk : LeadsR P K (G (b.at (A.put (some d) v) (.inRegion ops rest :: k)) cs) w) : LeadsR P K (G (b.at A (.inRegion ops (i :: rest) :: k)) cs) w :=
  LeadsR.isVal hP h (fun o ho w => by unfold execOp; rw [ho, ← hx]; rfl) hi hc hk
theorem LeadsR.asg (hP : Plain P) {x : Operand} (h : IsOp ops i d (.assign x)) (hx : A.eval x = v) (hi : ∀ it ∈ k, okItem it) (hc : ∀ fr ∈ cs, okFrame fr)
    (hk : LeadsR P K (G (b.at (A.put (some d) v) (.inRegion ops rest :: k)) cs) w) : LeadsR P K (G (b.at A (.inRegion ops (i :: rest) :: k)) cs) w :=
  LeadsR.isVal hP h (fun o ho w => by unfold execOp; rw [ho, ← hx]; rfl) hi hc hk
theorem LeadsR.ext (hP : Plain P) {x : Operand} {n : Nat} {vs : Array Value} (h : IsOp ops i d (.extract x n)) (hx : A.eval x = .tuple vs) (hv : vs[n]? = some v) (hi : ∀ it ∈ k, okItem it) (hc : ∀ fr ∈ cs, okFrame fr)
    (hk : LeadsR P K (G (b.at (A.put (some d) v) (.inRegion ops rest :: k)) cs) w) : LeadsR P K (G (b.at A (.inRegion ops (i :: rest) :: k)) cs) w :=
  LeadsR.isVal hP h (fun o ho w => by unfold execOp; rw [ho]; simp [hx, Instr.extract, hv]) hi hc hk
theorem LeadsR.callF (hP : Plain P) {f : FuncId} {fn : Func} {args : Array Operand} {ats : Array TypeId} {vs : Array Value} {R : Ending → World → Prop} (h : IsOp ops i d (.call { callee := .value (.func f), args, argTypes := ats }))
    (hf : P.funcs[f]? = some fn) (hname : (fn.name == "runtime.NumGoroutine") = false) (hb : fn.body.isNone = false) (hargs : args.map A.eval = vs) (hi : ∀ it ∈ k, okItem it) (hc : ∀ fr ∈ cs, okFrame fr) (hC : HCalls P f vs w R) (hR : ∀ e w', R e w' → ∃ v, e = .returned v)
    (hk : ∀ v w', R (.returned v) w' → LeadsR P K (G (b.at (A.put (some d) v) (.inRegion ops rest :: k)) cs) w') : LeadsR P K (G (b.at A (.inRegion ops (i :: rest) :: k)) cs) w := by
  obtain ⟨o, h1, h2, h3, h4⟩ := h
  refine LeadsR.call hP h1 (isOp_wanted h4) (fun τ d => by rw [run_call_body h3 hf hname hb, hargs]) hi hc hC hR ?_
  rw [h2]
  exact hk
end
section
variable {K : Goroutine → World → Prop} {b : Frame} {k : List Item} {cs : List Frame} {A : Act} {w : World} {ops : Array Oper} {i d : Nat} {rest : List Nat} {v : Value}
theorem watch_tail {x y z : Operand} {text : ByteArray} {retain : Int} {eo : Option Addr} {L : List (Int × Int)} {cap : Nat} {X : BT Pay} {i0 i1 i2 i3 i4 i5 d0 d1 d2 d3 dA dB : Nat}
    (c0 : IsOp ops i0 d0 (.call { callee := .value (.func 21), args := #[x, y, z], argTypes := #[9, 3, 34] })) (c1 : IsOp ops i1 d1 (.move (.tmp d0))) (c2 : IsOp ops i2 d2 (.extract (.tmp d1) 0)) (c3 : IsOp ops i3 d3 (.extract (.tmp d1) 1)) (c4 : IsOp ops i4 dA (.assign (.tmp d2))) (c5 : IsOp ops i5 dB (.assign (.tmp d3)))
    (hz : d0 < A.tmps.size ∧ d1 < A.tmps.size ∧ d2 < A.tmps.size ∧ d3 < A.tmps.size ∧ dA < A.tmps.size ∧ dB < A.tmps.size) (hne : d1 ≠ d2 ∧ d2 ≠ d3 ∧ dA ≠ d3 ∧ dA ≠ dB)
    (hx : A.eval x = .string text) (hy : A.eval y = .int .i64 retain) (hzz : A.eval z = .slice eo L.length cap) (hi : ∀ it ∈ k, okItem it) (hc : ∀ fr ∈ cs, okFrame fr)
    (hC : HCalls Tryz.prog 21 #[.string text, .int .i64 retain, .slice eo L.length cap] w (WatchedPost X L w))
    (hk : ∀ A' w', A'.tmps.size = A.tmps.size → A'.defers = A.defers → A'.tmps[dA]? = some (.string (verS X L (min L.length 25))) → A'.tmps[dB]? = some (.bool true) → (∀ j, j ≠ d0 → j ≠ d1 → j ≠ d2 → j ≠ d3 → j ≠ dA → j ≠ dB → A'.tmps[j]? = A.tmps[j]?) → SpareR (fun _ => False) w w' → LeadsR Tryz.prog K (G (b.at A' k) cs) w') :
    LeadsR Tryz.prog K (G (b.at A (.inRegion ops [i0, i1, i2, i3, i4, i5] :: k)) cs) w := by
  have hP := plain_prog
  obtain ⟨z0, z1, z2, z3, zA, zB⟩ := hz
  obtain ⟨n1, n2, n3, n4⟩ := hne
  refine LeadsR.callF hP c0 Tryz.func21 (by decide) rfl (by simp only [List.map_toArray, List.map_cons, List.map_nil, hx, hy, hzz]) hi hc hC (fun e w' x => ⟨_, x.1⟩) ?_
  rintro v w1 ⟨hv, hs⟩
  cases hv
  generalize verS X L (min L.length 25) = s at *
  have p0 := put_facts A d0 (.tuple #[.string s, .bool true]) z0
  generalize A.put (some d0) (.tuple #[.string s, .bool true]) = A0 at *
  refine LeadsR.mv hP c1 (eval_tmp p0.2.2.1) hi hc ?_
  have p1 := put_facts A0 d1 (.tuple #[.string s, .bool true]) (by omega)
  generalize A0.put (some d1) (.tuple #[.string s, .bool true]) = A1 at *
  refine LeadsR.ext hP c2 (eval_tmp p1.2.2.1) (v := .string s) rfl hi hc ?_
  have p2 := put_facts A1 d2 (.string s) (by omega)
  generalize A1.put (some d2) (.string s) = A2 at *
  refine LeadsR.ext hP c3 (eval_tmp ((p2.2.2.2 d1 n1).trans p1.2.2.1)) (v := .bool true) rfl hi hc ?_
  have p3 := put_facts A2 d3 (.bool true) (by omega)
  generalize A2.put (some d3) (.bool true) = A3 at *
  refine LeadsR.asg hP c4 (eval_tmp ((p3.2.2.2 d2 n2).trans p2.2.2.1)) hi hc ?_
  have p4 := put_facts A3 dA (.string s) (by omega)
  generalize A3.put (some dA) (.string s) = A4 at *
  refine LeadsR.asg hP c5 (eval_tmp ((p4.2.2.2 d3 (fun e => n3 e.symm)).trans p3.2.2.1)) hi hc ?_
  have p5 := put_facts A4 dB (.bool true) (by omega)
  generalize A4.put (some dB) (.bool true) = A5 at *
  refine LeadsR.nil hP hi hc (hk A5 w1 (by omega) (by rw [p5.2.1, p4.2.1, p3.2.1, p2.2.1, p1.2.1, p0.2.1]) ((p5.2.2.2 dA n4).trans p4.2.2.1) p5.2.2.1 ?_ hs)
  intro j j0 j1 j2 j3 jA jB
  rw [p5.2.2.2 j jB, p4.2.2.2 j jA, p3.2.2.2 j j3, p2.2.2.2 j j2, p1.2.2.2 j j1, p0.2.2.2 j j0]
end
end Go.Proofs.YtpbbmagjhkakgaaGreatDoor.Ev
