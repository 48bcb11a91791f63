/-
  What past.Take does where nothing is dropped: its last regions.
-/
/-
  What past.Take does where nothing is dropped, whole: what it leaves (TakePost).
-/
/-
  A walk in company without a count of steps: a goroutine's own steps to a stop, whatever the others do within the rely; its rules; for every program.
-/
import Derived.Test.YtpbbmagjhkakgaaGreatDoorExpectToEvTake
import Derived.Conc.CompanyMem
namespace Go.Proofs.YtpbbmagjhkakgaaGreatDoor.Ev
open Go.RowKit Go.Deep
theorem backL_list (L : List Pe) (d : Pe) : backL (fun i => L.getD i d) L.length = L.reverse := by
  unfold backL
  rw [downTo_map (fun i => L.getD i d) _ _ (Nat.le_refl _)]
  apply List.ext_getElem?
  intro i
  by_cases hi : i < L.length
  · simp [hi]
    have : L.length - 1 - i < L.length := by omega
    simp [this]
  · simp [hi]
theorem row_array {w : World} {base size n : Nat} {e : TypeId} {v : Value} {xs : List Value} (h : w.ownsRow base e size v n xs) {g cap : Nat} (hv : v = .slice (some ⟨g, 0, none⟩) n cap) : ∃ cur, w.heap[g]? = some (.cells cur e (0, 0)) ∧ (∀ (j : Nat) (x : Value), xs[j]? = some x → cur[j]? = some x) ∧ n ≤ cap ∧ cap ≤ maxLen ∧ cur.size = cap * size ∧ cur.toList.take (n * size) = xs := by
  obtain ⟨h1, ⟨rfl, h2⟩ | ⟨g', cap', cur, e1, h3, h4, h5, h6, h7, h8⟩⟩ := h
  · cases hv
  · rw [hv] at e1
    cases e1
    refine ⟨cur, h4, fun j x hx => ?_, h5, h6, h7, h8⟩
    have hj : j < n * size := by have := (List.getElem?_eq_some_iff.1 hx).1; omega
    rw [← h8, List.getElem?_take, if_pos hj] at hx
    rw [← Array.getElem?_toList]; exact hx
theorem flatE_set (C : List EvC) (c : EvC) (sb sl sc : Nat) : (flatE (C ++ [c])).set (C.length * 4 + 3) (.slice (some ⟨sb, 0, none⟩) sl sc) = flatE (C ++ [c.withSo sb sl sc]) := by
  have hl : (flatE C).length = C.length * 4 := flat_len evCells 4 (fun _ => rfl) C
  rw [flatE_snoc, flatE_snoc, List.set_append_right _ _ (by omega), hl]
  have : C.length * 4 + 3 - C.length * 4 = 3 := by omega
  rw [this]
  rfl
set_option maxRecDepth 100000 in
set_option maxHeartbeats 8000000 in
theorem region6_any (Q : Exit → Act → World → Prop) (hQ : ∀ c a d v w, Q (.panic c) (Act.put a d v) w → Q (.panic c) a w) (wtb rb g gcap : Nat) (r1 r2 : Value) (no : Option Addr) (ncap : Nat) (K : List Key) (pv : Value) (C : List EvC) (nxt : EvC) (E : List Pe) (pe : Pe) (W : World) (x1 x2 x3 x4 x5 x7 x8 x9 x10 x11 x12 x13 x14 x15 x16 x17 x18 x19 x20 x21 x22 x23 x24 x25 x26 x27 x28 x29 x30 x31 x32 x33 x34 x35 x36 x37 x38 x39 x40 x41 x42 x43 x44 u45 u46 u47 u48 u49 u50 u51 u52 u53 : Value)
    (hw : W.heap[wtb]? = some (.cells #[r1, r2, .slice no K.length ncap, .slice (some ⟨g, 0, none⟩) (C.length + 1) gcap, pv] 153 (0, 0))) (hE : EvsAt W (.slice (some ⟨g, 0, none⟩) (C.length + 1) gcap) (C ++ [nxt])) (hn : C.length ≤ 1000) (hlen : C.length = E.length)
    (hIn : ∀ (i : Nat) c e, C[i]? = some c → E[i]? = some e → EvIn W c e) (hT : ∀ c ∈ C, EvT W c) (hM : EvPre W nxt pe) (hMt : ∀ a, nxt.ao = some a → ∃ cs m, W.heap[a.block]? = some (.cells cs 9 m)) (hK : K.length ≤ 1000) (hnc : K.length ≤ ncap) (hN : NodesIn W no K) (hNt : ∀ a, no = some a → ∃ cs m, W.heap[a.block]? = some (.cells cs 226 m)) (hop : ∀ k ∈ K, CoreOp k.op) (hAh : Ahead K) (hrow : ∀ e ∈ E, e.so.length = K.length + 1)
    (hrb : W.heap[rb]? = some (.cells #[.int .i64 0, .int .i64 0, .slice none 0 0, .slice none 0 0] 159 (0, 0))) (hrg : rb ≠ g)
    (hk : ∀ (sb sc : Nat) (cur : Array Value) (W' : World), W.heap.size ≤ sb → W'.heap[sb]? = some (.cells cur 4 (0, 0)) → Spare (fun b => b = g ∨ b = rb) W W' → EvsAt W' (.slice (some ⟨g, 0, none⟩) (C.length + 1) gcap) (C ++ [nxt.withSo sb (K.length + 1) sc]) → EvIn W' (nxt.withSo sb (K.length + 1) sc) (workF E.reverse K pe.bare) →
      W'.heap[rb]? = some (.cells #[.int .i64 nxt.number, .int .i64 nxt.time, .slice nxt.ao nxt.al nxt.ac, .slice (some ⟨sb, 0, none⟩) (K.length + 1) sc] 159 (0, 0)) → Q .normal ⟨#[(.pointer (some ⟨wtb, 0, none⟩)), x1, x2, x3, x4, x5, (.pointer (some ⟨rb, 0, none⟩)), x7, x8, x9, x10, x11, x12, x13, x14, x15, x16, x17, x18, x19, x20, x21, x22, x23, x24, x25, x26, x27, x28, x29, x30, x31, x32, x33, x34, x35, x36, x37, x38, x39, x40, x41, x42, x43, x44, (.pointer (some ⟨wtb, 0, none⟩)), (.pointer (some ⟨wtb, 0, none⟩)), (.pointer (some ⟨wtb, 2, none⟩)), (.slice no K.length ncap), (.pointer (some ⟨wtb, 0, none⟩)), (.pointer (some ⟨wtb, 0, none⟩)), (.pointer (some ⟨wtb, 3, none⟩)), (.slice (some ⟨g, 0, none⟩) (C.length + 1) gcap), (evVal (nxt.withSo sb (K.length + 1) sc))], []⟩ W') :
    (Code.region 6 opsT6 true).wp Tryz.prog Q ⟨#[(.pointer (some ⟨wtb, 0, none⟩)), x1, x2, x3, x4, x5, (.pointer (some ⟨rb, 0, none⟩)), x7, x8, x9, x10, x11, x12, x13, x14, x15, x16, x17, x18, x19, x20, x21, x22, x23, x24, x25, x26, x27, x28, x29, x30, x31, x32, x33, x34, x35, x36, x37, x38, x39, x40, x41, x42, x43, x44, u45, u46, u47, u48, u49, u50, u51, u52, u53], []⟩ W := by
  have hlt := heap_lt hw
  have el : (C ++ [nxt]).length = C.length + 1 := by simp
  have hE' : World.ownsRow W 0 159 4 (.slice (some ⟨g, 0, none⟩) (C.length + 1) gcap) (C.length + 1) (flatE (C ++ [nxt])) := by
    have h0 := hE
    unfold EvsAt at h0
    rw [el] at h0
    exact h0
  obtain ⟨cg, hg, hcg, hgc, hgm, hgs, hgt⟩ := row_array hE' rfl
  have hW : Calls Tryz.prog 132 #[.slice no K.length ncap, .slice (some ⟨g, 0, none⟩) (C.length + 1) gcap] W.drew fun e W' => ∃ sb sc cur, e = .returned (evVal (nxt.withSo sb (K.length + 1) sc)) ∧ W.heap.size ≤ sb ∧ Only g W W' ∧
      W'.heap[g]? = some (.cells (cg.setIfInBounds (C.length * 4 + 3) (.slice (some ⟨sb, 0, none⟩) (K.length + 1) sc)) 159 (0, 0)) ∧ W'.heap[sb]? = some (.cells cur 4 (0, 0)) ∧ EvIn W' (nxt.withSo sb (K.length + 1) sc) (workF E.reverse K pe.bare) := by
    have hbd : Below W.heap.size W W.drew := (Below.refl _ W).drew
    have hcm : (C ++ [nxt]).getD C.length nxt = nxt := by simp
    have hem : (E ++ [pe]).getD C.length pe = pe := by rw [hlen]; simp
    have hci : ∀ i, i < C.length → ∃ c e, (C ++ [nxt]).getD i nxt = c ∧ (E ++ [pe]).getD i pe = e ∧ C[i]? = some c ∧ E[i]? = some e := fun i hi => by
      have h1 : i < E.length := by omega
      exact ⟨C[i], E[i], by rw [List.getD_eq_getElem?_getD, List.getElem?_append_left hi, List.getElem?_eq_getElem hi]; rfl, by rw [List.getD_eq_getElem?_getD, List.getElem?_append_left h1, List.getElem?_eq_getElem h1]; rfl, List.getElem?_eq_getElem hi, List.getElem?_eq_getElem h1⟩
    have := workOut_any no ncap K g gcap C.length cg (fun i => (C ++ [nxt]).getD i nxt) (fun i => (E ++ [pe]).getD i pe) W.drew (by omega) hgc hK hnc hg ?_ (fun hne => hN hne) ?_ hop hAh ?_ ?_ ?_ (by simp only [hcm, hem]; exact ⟨hM.number, hM.time, hM.low, hM.al, hM.alen, hM.atoms⟩) ?_
    · simp only [hcm, hem] at this
      have hb : backL (fun i => (E ++ [pe]).getD i pe) C.length = E.reverse := by
        rw [backL_congr (F := fun i => E.getD i pe) (fun i hi => by
          have h1 : i < E.length := by omega
          show (E ++ [pe]).getD i pe = E.getD i pe
          rw [List.getD_eq_getElem?_getD, List.getElem?_append_left h1, ← List.getD_eq_getElem?_getD]), hlen]
        exact backL_list E pe
      rw [hb] at this
      refine this.mono ?_
      rintro e W' ⟨sb, sc, cur, h1, h2, h3, h4, h5, h6⟩
      exact ⟨sb, sc, cur, h1, h2, ⟨h3.os, h3.tape, h3.output, h3.size, h3.block⟩, h4, h5, h6⟩
    · intro i k v hi hv
      have hc : (C ++ [nxt])[i]? = some ((C ++ [nxt]).getD i nxt) := by
        have : i < (C ++ [nxt]).length := by omega
        rw [List.getD_eq_getElem?_getD, List.getElem?_eq_getElem this]; rfl
      exact hcg _ _ (flat_get evCells 4 (fun _ => rfl) (C ++ [nxt]) i k _ v hc hv)
    · intro a ha e
      obtain ⟨cs, m, h1⟩ := hNt a ha
      rw [e, hg] at h1; cases h1
    · intro i hi
      obtain ⟨c, e, h1, h2, h3, h4⟩ := hci i hi
      simp only [h1, h2]
      exact (hIn i c e h3 h4).below hbd
    · intro i hi
      obtain ⟨c, e, h1, h2, h3, h4⟩ := hci i hi
      simp only [h2]
      exact hrow e (List.mem_of_getElem? h4)
    · intro i hi
      obtain ⟨c, e, h1, h2, h3, h4⟩ := hci i hi
      simp only [h1]
      exact (hT c (List.mem_of_getElem? h3)).off hg
    · simp only [hcm]
      intro a ha e
      obtain ⟨cs, m, h1⟩ := hMt a ha
      rw [e, hg] at h1; cases h1
  have Hst : Hid (∀ w', Only g W w' → (fun w' => w'.cell? ⟨wtb, 2, none⟩ = some (.slice no K.length ncap) ∧ w'.cell? ⟨wtb, 3, none⟩ = some (.slice (some ⟨g, 0, none⟩) (C.length + 1) gcap)) w') := fun w' ho => by
    have hwg : wtb ≠ g := by rintro rfl; rw [hw] at hg; cases hg
    have h1 := ho.heap hw hwg
    exact ⟨cell_at h1 rfl, cell_at h1 rfl⟩
  have hS0 := Hst.out _ (Only.refl g W).drew
  clear hIn hT hM hN hNt hop hAh hrow hlen el
  simp only [opsT6, body87, Tryz.f87, Option.getD_some]
  refine AnyF.begin (S := (fun w' => w'.cell? ⟨wtb, 2, none⟩ = some (.slice no K.length ncap) ∧ w'.cell? ⟨wtb, 3, none⟩ = some (.slice (some ⟨g, 0, none⟩) (C.length + 1) gcap))) (fin := 9) (by kernel_rfl) ?_
  simp only [List.size_toArray, List.length_cons, List.length_nil, Nat.reduceAdd, Nat.zero_add]
  refine AnyF.take 0 (v := ?vq0) rfl (by decide +kernel) (by decide +kernel) (by decide +kernel) (by decide +kernel) (fun c a w h => hQ c a _ _ w h) (by rfl) (fun w' hS => Go.Conc.run_eq_of ?rq0) hS0 ?_
  case rq0 =>
    intro K' hK'
    obtain ⟨y1, y2⟩ := hS
    go_simp
    exact hK'
  try walk_nrm
  refine AnyF.take 1 (v := ?vq1) rfl (by decide +kernel) (by decide +kernel) (by decide +kernel) (by decide +kernel) (fun c a w h => hQ c a _ _ w h) (by rfl) (fun w' hS => Go.Conc.run_eq_of ?rq1) hS0 ?_
  case rq1 =>
    intro K' hK'
    obtain ⟨y1, y2⟩ := hS
    go_simp
    exact hK'
  try walk_nrm
  refine AnyF.take 2 (v := ?vq2) rfl (by decide +kernel) (by decide +kernel) (by decide +kernel) (by decide +kernel) (fun c a w h => hQ c a _ _ w h) (by rfl) (fun w' hS => Go.Conc.run_eq_of ?rq2) hS0 ?_
  case rq2 =>
    intro K' hK'
    obtain ⟨y1, y2⟩ := hS
    go_simp
    exact hK'
  try walk_nrm
  refine AnyF.take 3 (v := ?vq3) rfl (by decide +kernel) (by decide +kernel) (by decide +kernel) (by decide +kernel) (fun c a w h => hQ c a _ _ w h) (by rfl) (fun w' hS => Go.Conc.run_eq_of ?rq3) hS0 ?_
  case rq3 =>
    intro K' hK'
    obtain ⟨y1, y2⟩ := hS
    go_simp
    exact hK'
  try walk_nrm
  refine AnyF.take 4 (v := ?vq4) rfl (by decide +kernel) (by decide +kernel) (by decide +kernel) (by decide +kernel) (fun c a w h => hQ c a _ _ w h) (by rfl) (fun w' hS => Go.Conc.run_eq_of ?rq4) hS0 ?_
  case rq4 =>
    intro K' hK'
    obtain ⟨y1, y2⟩ := hS
    go_simp
    exact hK'
  try walk_nrm
  refine AnyF.take 5 (v := ?vq5) rfl (by decide +kernel) (by decide +kernel) (by decide +kernel) (by decide +kernel) (fun c a w h => hQ c a _ _ w h) (by rfl) (fun w' hS => Go.Conc.run_eq_of ?rq5) hS0 ?_
  case rq5 =>
    intro K' hK'
    obtain ⟨y1, y2⟩ := hS
    go_simp
    exact hK'
  try walk_nrm
  refine AnyF.take 6 (v := ?vq6) rfl (by decide +kernel) (by decide +kernel) (by decide +kernel) (by decide +kernel) (fun c a w h => hQ c a _ _ w h) (by rfl) (fun w' hS => Go.Conc.run_eq_of ?rq6) hS0 ?_
  case rq6 =>
    intro K' hK'
    obtain ⟨y1, y2⟩ := hS
    go_simp
    exact hK'
  try walk_nrm
  refine AnyF.take 7 (v := ?vq7) rfl (by decide +kernel) (by decide +kernel) (by decide +kernel) (by decide +kernel) (fun c a w h => hQ c a _ _ w h) (by rfl) (fun w' hS => Go.Conc.run_eq_of ?rq7) hS0 ?_
  case rq7 =>
    intro K' hK'
    obtain ⟨y1, y2⟩ := hS
    go_simp
    exact hK'
  try walk_nrm
  refine AnyF.one (i := 8) (by decide +kernel) rfl (by rfl) ?_
  unfold Oper.wp
  rw [Go.Conc.run_call_body (f := 132) (args := #[.tmp 48, .tmp 52]) (ats := #[95, 146]) rfl Tryz.func132 (by decide) rfl]
  simp only [Oper.upon, List.map_toArray, List.map_cons, List.map_nil]
  change Calls Tryz.prog 132 #[.slice no K.length ncap, .slice (some ⟨g, 0, none⟩) (C.length + 1) gcap] W.drew _
  refine hW.mono ?_
  rintro e W1 ⟨sb, sc, cur, rfl, hsb, hO, hg1, hcur, hin⟩
  refine ⟨fun _ => Hst.out _ hO, ?_⟩
  try walk_nrm
  have hrb1 := hO.heap hrb hrg
  have r0 := cell_at (i := 0) hrb1 rfl
  have r1' := cell_at (i := 1) hrb1 rfl
  have r2' := cell_at (i := 2) hrb1 rfl
  have r3' := cell_at (i := 3) hrb1 rfl
  have fz : ∀ q, W1.frozen? ⟨rb, q, none⟩ = false := fun q => Lib.frozen_of_heap hrb1 q
  refine AnyF.op (i := 9) (by decide +kernel) rfl (by rfl) (fun K' hK' => ?_)
  unfold Oper.wp
  simp only [evVal, EvC.withSo]
  go_simp
  refine hK' _ _ ⟨fun x => absurd rfl x, ?_⟩
  clear hK' K'
  refine AnyF.done (by decide +kernel) ?_ _
  try walk_nrm
  have hR := set_heap (i := 3) (v := .slice (some ⟨sb, 0, none⟩) (K.length + 1) sc) (set_heap (i := 2) (v := .slice nxt.ao nxt.al nxt.ac) (set_heap (i := 1) (v := .int .i64 nxt.time) (set_heap (i := 0) (v := .int .i64 nxt.number) hrb1)))
  simp only [List.setIfInBounds_toArray, List.set_cons_zero, List.set_cons_succ] at hR
  have hO4 : Only rb W1 ((((W1.setCell ⟨rb, 0, none⟩ (.int .i64 nxt.number)).setCell ⟨rb, 1, none⟩ (.int .i64 nxt.time)).setCell ⟨rb, 2, none⟩ (.slice nxt.ao nxt.al nxt.ac)).setCell ⟨rb, 3, none⟩ (.slice (some ⟨sb, 0, none⟩) (K.length + 1) sc)) := ((((Only.refl _ W1).setCell (p := ⟨rb, 0, none⟩) (.inl rfl) _).setCell (p := ⟨rb, 1, none⟩) (.inl rfl) _).setCell (p := ⟨rb, 2, none⟩) (.inl rfl) _).setCell (p := ⟨rb, 3, none⟩) (.inl rfl) _
  generalize ((((W1.setCell ⟨rb, 0, none⟩ (.int .i64 nxt.number)).setCell ⟨rb, 1, none⟩ (.int .i64 nxt.time)).setCell ⟨rb, 2, none⟩ (.slice nxt.ao nxt.al nxt.ac)).setCell ⟨rb, 3, none⟩ (.slice (some ⟨sb, 0, none⟩) (K.length + 1) sc)) = W4 at hR hO4 ⊢
  have hrl := heap_lt hrb
  refine hk sb sc cur W4 hsb (hO4.heap hcur (by omega)) ⟨hO4.os.trans hO.os, hO4.tape.trans hO.tape, hO4.output.trans hO.output, Nat.le_trans hO.size hO4.size, fun b hb hp => (hO4.block b (Nat.lt_of_lt_of_le hb hO.size) (fun e => hp (.inr e))).trans (hO.block b hb (fun e => hp (.inl e)))⟩ ?_ ?_ hR
  · have el2 : (C ++ [nxt.withSo sb (K.length + 1) sc]).length = C.length + 1 := by simp
    show World.ownsRow _ 0 159 4 _ _ _
    rw [el2]
    refine ⟨by rw [flatE, flat_len evCells 4 (fun _ => rfl), el2], .inr ⟨g, gcap, _, rfl, Nat.zero_le _, hO4.heap hg1 (Ne.symm hrg), hgc, hgm, by simpa using hgs, ?_⟩⟩
    rw [← flatE_set, ← hgt, Array.toList_setIfInBounds, List.take_set]
  · refine hin.only ⟨fun a ha => ?_, fun a ha => ?_⟩ hO4
    · have : some (⟨sb, 0, none⟩ : Addr) = some a := ha
      cases this
      show sb ≠ rb
      omega
    · intro e
      obtain ⟨cs, m, h1⟩ := hMt a ha
      rw [e, hrb] at h1; cases h1
end Go.Proofs.YtpbbmagjhkakgaaGreatDoor.Ev

namespace Go.Proofs.YtpbbmagjhkakgaaGreatDoor.Ev
open Go.RowKit Go.Deep
def TakePost (wtb : Nat) (retain : Int) (rm : Value) (no : Option Addr) (ncap : Nat) (K : List Key) (ea : Option Addr) (ecap : Nat) (pv : Value) (C : List EvC) (E : List Pe) (time : Int) (A : List ByteArray) (w : World) (e : Ending) (W' : World) : Prop :=
  ∃ (c : EvC) (ev' : Value) (sb : Nat) (cur : Array Value), e = .returned (evVal c) ∧ c.so = some ⟨sb, 0, none⟩ ∧ w.heap.size ≤ sb ∧ W'.heap[sb]? = some (.cells cur 4 (0, 0)) ∧ W'.heap[wtb]? = some (.cells #[.int .i64 retain, rm, .slice no K.length ncap, ev', pv] 153 (0, 0)) ∧ EvsAt W' ev' (C ++ [c]) ∧
    EvIn W' c (workF E.reverse K (⟨nextN C, time, A, []⟩ : Pe).bare) ∧ EvT W' c ∧ Spare (fun b => b = wtb ∨ (Value.slice ea C.length ecap).ownBlock = some b) w W' ∧ (∀ b, ev'.ownBlock = some b → (Value.slice ea C.length ecap).ownBlock = some b ∨ w.heap.size ≤ b)
set_option maxRecDepth 100000 in
set_option maxHeartbeats 8000000 in
theorem take_any (wtb : Nat) (retain : Int) (rm : Value) (no : Option Addr) (ncap : Nat) (K : List Key) (ea : Option Addr) (ecap : Nat) (pv : Value) (C : List EvC) (E : List Pe) (time : Int) (ao : Option Addr) (A : List ByteArray) (cap : Nat) (w : World)
    (hw : w.heap[wtb]? = some (.cells #[.int .i64 retain, rm, .slice no K.length ncap, .slice ea C.length ecap, pv] 153 (0, 0))) (hE : EvsAt w (.slice ea C.length ecap) C) (hlen : C.length = E.length) (hIn : ∀ (i : Nat) c e, C[i]? = some c → E[i]? = some e → EvIn w c e) (hT : ∀ c ∈ C, EvT w c) (hn : C.length ≤ 1000) (ht : 0 ≤ time ∧ time ≤ 1000000000000) (hr : 0 ≤ retain ∧ retain ≤ 1000000000) (hold : oldF (time - retain) C = 0)
    (hnum : ∀ c, C.getLast? = some c → 0 ≤ c.number ∧ c.number ≤ 1000000000000) (h : StrsIn w ao A) (hA : A.length ≤ 1000) (hcap : A.length ≤ cap) (hs : ∀ j, j < A.length → (A.getD j ByteArray.empty).size ≤ 1000)
    (hK : K.length ≤ 1000) (hnc : K.length ≤ ncap) (hN : NodesIn w no K) (hNt : ∀ a, no = some a → ∃ cs m, w.heap[a.block]? = some (.cells cs 226 m)) (hop : ∀ k ∈ K, CoreOp k.op) (hAh : Ahead K) (hrow : ∀ e ∈ E, e.so.length = K.length + 1) :
    Calls Tryz.prog 87 #[.pointer (some ⟨wtb, 0, none⟩), .int .i64 time, .slice ao A.length cap] w (TakePost wtb retain rm no ncap K ea ecap pv C E time A w) := by
  have hlt := heap_lt hw
  have Hlen : Hid (C.length = E.length) := hlen
  clear hlen
  have hc3 : w.cell? ⟨wtb, 3, none⟩ = some (.slice ea C.length ecap) := cell_at hw rfl
  have hecap : C.length ≤ ecap := by
    rcases hE.cases with ⟨h1, rfl⟩ | ⟨g, cp, hev, h1, _, _⟩
    · simp
    · cases hev; exact h1
  have hCo := copyOf_any ao A cap (w.alloc (.cells #[.int .i64 0, .int .i64 0, .slice none 0 0, .slice none 0 0] 159)) (h.below ((Below.refl _ _).al _)) hA hcap hs
  go_enter Tryz.func87, Tryz.ntmps87
  go_wp2_with fail
  refine hCo.mono ?_
  rintro e w1 ⟨v1, rfl, hrow1, hb1⟩
  obtain ⟨ao2, ac2, rfl, hac2, hst2, hao2⟩ := strs_of_row hrow1
  have hbw1 : Below w.heap.size w w1 := ((Below.refl _ _).al _).tr hb1
  have hres1 : w1.heap[w.heap.size]? = some (.cells #[.int .i64 0, .int .i64 0, .slice none 0 0, .slice none 0 0] 159 (0, 0)) := hb1.heapOf (heap_new _ _ _ rfl)
  have hlt1 : wtb < w1.heap.size := Nat.lt_of_lt_of_le hlt hbw1.size
  have hbN : Below w.heap.size w (w1.alloc (.cells #[.int .i64 1, .int .i64 time, .slice ao2 A.length ac2, .slice none 0 0] 159)) := hbw1.al _
  have y3 : (w1.alloc (.cells #[.int .i64 1, .int .i64 time, .slice ao2 A.length ac2, .slice none 0 0] 159)).cell? ⟨wtb, 3, none⟩ = some (.slice ea C.length ecap) := (hbN.cell (p := ⟨wtb, 3, none⟩) hlt).trans hc3
  have hown_lt : ∀ b, (Value.slice ea C.length ecap).ownBlock = some b → b < w.heap.size := fun b hb => (hE.lt b hb).2
  have hnotP : ∀ b cs t m, w.heap[b]? = some (.cells cs t m) → t ≠ 153 → t ≠ 159 → ¬ (b = wtb ∨ (Value.slice ea C.length ecap).ownBlock = some b) := fun b cs t m hb h1 h2 hp => by
    rcases hp with rfl | hp
    · rw [hw] at hb; injection hb with hb; injection hb with _ hb _; exact h1 hb.symm
    · obtain ⟨cur, hc⟩ := own_tag hE hp
      rw [hc] at hb; injection hb with hb; injection hb with _ hb _; exact h2 hb.symm
  have hrowN : ∀ a, ao2 = some a → w.heap.size + 1 ≤ a.block ∧ ∃ cs, w1.heap[a.block]? = some (.cells cs 9 (0, 0)) := fun a ha => by have := hao2 a ha; simpa using this
  have fin : ∀ (num : Int), num = nextN C → ∀ (ev' : Value) (W' : World), W'.heap[wtb]? = some (.cells #[.int .i64 retain, rm, .slice no K.length ncap, ev', pv] 153 (0, 0)) → EvsAt W' ev' (C ++ [(⟨num, time, ao2, A.length, ac2, none, 0, 0⟩ : EvC)]) → Spare (fun b => b = wtb ∨ (Value.slice ea C.length ecap).ownBlock = some b) (w1.alloc (.cells #[.int .i64 num, .int .i64 time, .slice ao2 A.length ac2, .slice none 0 0] 159)) W' → (∀ b, ev'.ownBlock = some b → (Value.slice ea C.length ecap).ownBlock = some b ∨ (w1.alloc (.cells #[.int .i64 num, .int .i64 time, .slice ao2 A.length ac2, .slice none 0 0] 159)).heap.size ≤ b) →
      ∃ g gcap, ev' = .slice (some ⟨g, 0, none⟩) (C.length + 1) gcap ∧ (∀ (i : Nat) c e, C[i]? = some c → E[i]? = some e → EvIn W' c e) ∧ (∀ c ∈ C, EvT W' c) ∧ EvPre W' (⟨num, time, ao2, A.length, ac2, none, 0, 0⟩ : EvC) (⟨nextN C, time, A, []⟩ : Pe) ∧ (∀ a, ao2 = some a → ∃ cs m, W'.heap[a.block]? = some (.cells cs 9 m)) ∧ NodesIn W' no K ∧ (∀ a, no = some a → ∃ cs m, W'.heap[a.block]? = some (.cells cs 226 m)) ∧ W'.heap[w.heap.size]? = some (.cells #[.int .i64 0, .int .i64 0, .slice none 0 0, .slice none 0 0] 159 (0, 0)) ∧ w.heap.size ≠ g ∧
      ∀ (sb sc : Nat) (cur : Array Value) (W'' : World), W'.heap.size ≤ sb → W''.heap[sb]? = some (.cells cur 4 (0, 0)) → Spare (fun b => b = g ∨ b = w.heap.size) W' W'' → EvsAt W'' (.slice (some ⟨g, 0, none⟩) (C.length + 1) gcap) (C ++ [(⟨num, time, ao2, A.length, ac2, none, 0, 0⟩ : EvC).withSo sb (K.length + 1) sc]) → EvIn W'' ((⟨num, time, ao2, A.length, ac2, none, 0, 0⟩ : EvC).withSo sb (K.length + 1) sc) (workF E.reverse K (⟨nextN C, time, A, []⟩ : Pe).bare) →
        TakePost wtb retain rm no ncap K ea ecap pv C E time A w (.returned (evVal ((⟨num, time, ao2, A.length, ac2, none, 0, 0⟩ : EvC).withSo sb (K.length + 1) sc))) W'' := by
    intro num hnumE ev' W' f1 f2 f3 f4
    have hbW : Below w.heap.size w (w1.alloc (.cells #[.int .i64 num, .int .i64 time, .slice ao2 A.length ac2, .slice none 0 0] 159)) := hbw1.al _
    have hWs : (w1.alloc (.cells #[.int .i64 num, .int .i64 time, .slice ao2 A.length ac2, .slice none 0 0] 159)).heap.size = w1.heap.size + 1 := by simp
    have hW1 : ∀ b o, w1.heap[b]? = some o → (w1.alloc (.cells #[.int .i64 num, .int .i64 time, .slice ao2 A.length ac2, .slice none 0 0] 159)).heap[b]? = some o := fun b o hb => (Below.heap_alloc _ _ _ (heap_lt hb)).trans hb
    generalize (w1.alloc (.cells #[.int .i64 num, .int .i64 time, .slice ao2 A.length ac2, .slice none 0 0] 159)) = W at *
    have hws := hbw1.size
    have hrl := heap_lt hres1
    have sp : Spare (fun b => b = wtb ∨ (Value.slice ea C.length ecap).ownBlock = some b) w W' := (Spare.of_below hbW).trans f3
    have el : (C ++ [(⟨num, time, ao2, A.length, ac2, none, 0, 0⟩ : EvC)]).length = C.length + 1 := by simp
    obtain ⟨g, gcap, rfl⟩ : ∃ g gcap, ev' = .slice (some ⟨g, 0, none⟩) (C.length + 1) gcap := by
      rcases f2.cases with ⟨_, h2⟩ | ⟨g, cp, hev, _⟩
      · simp at h2
      · rw [el] at hev; exact ⟨g, cp, hev⟩
    have hgt : ∃ cg, W'.heap[g]? = some (.cells cg 159 (0, 0)) := own_tag f2 rfl
    obtain ⟨cg, hgt⟩ := hgt
    have hgf := f4 g rfl
    have hao3 : ∀ a, ao2 = some a → ∃ cs m, W'.heap[a.block]? = some (.cells cs 9 m) := fun a ha => by
      obtain ⟨h1, cs, h2⟩ := hrowN a ha
      refine ⟨cs, (0, 0), (f3.block _ (heap_lt (hW1 _ _ h2)) (fun hp => ?_)).trans (hW1 _ _ h2)⟩
      rcases hp with e | e
      · omega
      · have := hown_lt _ e; omega
    refine ⟨g, gcap, rfl, fun i c e h1 h2 => ?_, fun c hc => ?_, ⟨hnumE, rfl, ⟨by show -1000000000000 ≤ time; omega, ht.2⟩, rfl, by show A.length ≤ _; omega, fun hne => ?_⟩, hao3, hN.spare sp (fun a ha => ?_), fun a ha => ?_, ?_, ?_, ?_⟩
    · have ht := hT c (List.mem_of_getElem? h1)
      exact (hIn i c e h1 h2).spare sp (fun a ha => by obtain ⟨cs, m, k⟩ := ht.so a ha; exact hnotP _ _ _ _ k (by decide) (by decide)) (fun a ha => by obtain ⟨cs, m, k⟩ := ht.ao a ha; exact hnotP _ _ _ _ k (by decide) (by decide))
    · have ht := hT c hc
      exact ht.spare sp (fun a ha => by obtain ⟨cs, m, k⟩ := ht.so a ha; exact hnotP _ _ _ _ k (by decide) (by decide)) (fun a ha => by obtain ⟨cs, m, k⟩ := ht.ao a ha; exact hnotP _ _ _ _ k (by decide) (by decide))
    · obtain ⟨b, off, h1, h2, h3⟩ := hst2 hne
      obtain ⟨k1, cs, k2⟩ := hrowN _ h1
      have hb : W'.heap[b]? = w1.heap[b]? := ((f3.block b (by omega) (fun hp => by
        rcases hp with e | e
        · have : w.heap.size + 1 ≤ b := k1; omega
        · have := hown_lt _ e; have : w.heap.size + 1 ≤ b := k1; omega)).trans (hW1 b _ k2)).trans k2.symm
      exact ⟨b, off, h1, by have := f3.size; omega, fun j hj => by rw [World.cell?_of_block hb]; exact h3 j hj⟩
    · obtain ⟨cs, m, k⟩ := hNt a ha; exact hnotP _ _ _ _ k (by decide) (by decide)
    · obtain ⟨cs, m, k⟩ := hNt a ha; exact ⟨cs, m, (sp.block _ (heap_lt k) (hnotP _ _ _ _ k (by decide) (by decide))).trans k⟩
    · refine (f3.block _ (by omega) (fun hp => ?_)).trans (hW1 _ _ hres1)
      rcases hp with e | e
      · omega
      · have := hown_lt _ e; omega
    · rcases hgf with e | e
      · have := hown_lt _ e; omega
      · omega
    · intro sb sc cur W'' a1 a2 a3 a4 a5
      have hss := f3.size
      have hgw : g ≠ wtb := by rintro rfl; rw [f1] at hgt; cases hgt
      refine ⟨_, _, sb, cur, rfl, rfl, by omega, a2, (a3.block wtb (heap_lt f1) (fun hp => hp.elim (fun e => hgw e.symm) (fun e => by omega))).trans f1, a4, a5, ⟨fun a ha => ?_, fun a ha => ?_⟩, ⟨a3.os.trans sp.os, a3.tape.trans sp.tape, a3.output.trans sp.output, Nat.le_trans sp.size a3.size, fun b hb hp => (a3.block b (Nat.lt_of_lt_of_le hb sp.size) (fun e => ?_)).trans (sp.block b hb hp)⟩, fun b hb => ?_⟩
      · have : some (⟨sb, 0, none⟩ : Addr) = some a := ha
        cases this
        exact ⟨cur, (0, 0), a2⟩
      · obtain ⟨cs, m, k⟩ := hao3 a ha
        obtain ⟨k1, _⟩ := hrowN a ha
        refine ⟨cs, m, (a3.block _ (heap_lt k) (fun hp => ?_)).trans k⟩
        rcases hp with e | e
        · rw [e, hgt] at k; cases k
        · omega
      · rcases e with e | e
        · rcases hgf with e2 | e2
          · exact hp (.inr (e ▸ e2))
          · omega
        · omega
      · exact (f4 b hb).imp id (fun x => by omega)
  rcases List.eq_nil_or_concat C with rfl | ⟨C0, cl, rfl⟩
  · go_wp2_with fail
    refine region5_any _ ?hq5a wtb w1.heap.size retain rm (.slice no K.length ncap) _ _ pv _ _ time ao2 A.length ac2 _ _ _ _ _ _ _ _ _ _ _ _ _ _ _ _ _ _ _ _ _ _ _ _ _ _ _ _ _ _ _ _ _ _ _ _ _ _ _ _ _ _ _ _ _ _ _ _ _ _ _ _ ((hbw1.al _).heapOf hw) (hE.below (hbw1.al _)) hn hecap ht hr hold (heap_new _ _ _ rfl) (fun e => by have := hown_lt _ e; have := hbw1.size; omega) ?_
    case hq5a => exact fun _ _ d _ _ h => by cases d <;> exact h
    intro ev' W' v41 f1 f2 f3 f4
    obtain ⟨g, gcap, rfl, k1, k2, k3, k4, k5, k6, k7, k8, k9⟩ := fin 1 rfl _ _ f1 f2 f3 f4
    go_wp2_with fail
    refine region6_any _ ?hq6a wtb w.heap.size g gcap (.int .i64 retain) rm no ncap K pv _ _ E _ W' _ _ _ _ _ _ _ _ _ _ _ _ _ _ _ _ _ _ _ _ _ _ _ _ _ _ _ _ _ _ _ _ _ _ _ _ _ _ _ _ _ _ _ _ _ _ _ _ _ _ _ _ f1 f2 hn Hlen.out k1 k2 k3 k4 hK hnc k5 k6 hop hAh hrow k7 k8 ?_
    case hq6a => exact fun _ _ d _ _ h => by cases d <;> exact h
    intro sb sc cur W'' a1 a2 a3 a4 a5 a6
    have q0 := cell_at (i := 0) a6 rfl
    have q1 := cell_at (i := 1) a6 rfl
    have q2 := cell_at (i := 2) a6 rfl
    have q3 := cell_at (i := 3) a6 rfl
    have K9 := k9 sb sc cur W'' a1 a2 a3 a4 a5
    clear k1 k2 k3 k4 k5 k6 k7 k9 f1 f2 f3 f4 a1 a2 a3 a4 a5
    go_wp2_with fail
    refine ⟨rfl, _, ?_, K9⟩
    simp [results, Tryz.f87, go_sem, loadVar, evVal, EvC.withSo, q0, q1, q2, q3]
  · rw [List.concat_eq_append] at *
    have hcl : (C0 ++ [cl])[C0.length]? = some cl := by simp
    have hlen1 : (C0 ++ [cl]).length = C0.length + 1 := by simp
    rcases hE.cases with ⟨_, h2⟩ | ⟨g0, cp, hev, _, _, hgl⟩
    · simp at h2
    cases hev
    have hq := hE.cell (k := 0) hcl rfl
    have y0 : (w1.alloc (.cells #[.int .i64 1, .int .i64 time, .slice ao2 A.length ac2, .slice none 0 0] 159)).cell? ⟨g0, C0.length * 4, none⟩ = some (.int .i64 cl.number) := (hbN.cell (p := ⟨g0, C0.length * 4, none⟩) hgl).trans hq
    have hnb := hnum cl (by simp)
    have hnn : cl.number + 1 = nextN (C0 ++ [cl]) := by simp [nextN]
    rw [hlen1] at y3
    go_wp2_with fail
    refine region5_any _ ?hq5b wtb w1.heap.size retain rm (.slice no K.length ncap) _ _ pv _ _ time ao2 A.length ac2 _ _ _ _ _ _ _ _ _ _ _ _ _ _ _ _ _ _ _ _ _ _ _ _ _ _ _ _ _ _ _ _ _ _ _ _ _ _ _ _ _ _ _ _ _ _ _ _ _ _ _ _ ((hbw1.al _).heapOf hw) (hE.below (hbw1.al _)) hn hecap ht hr hold (heap_new _ _ _ rfl) (fun e => by have := hown_lt _ e; have := hbw1.size; omega) ?_
    case hq5b => exact fun _ _ d _ _ h => by cases d <;> exact h
    intro ev' W' v41 f1 f2 f3 f4
    obtain ⟨g, gcap, rfl, k1, k2, k3, k4, k5, k6, k7, k8, k9⟩ := fin (nextN (C0 ++ [cl])) rfl _ _ f1 f2 f3 f4
    go_wp2_with fail
    refine region6_any _ ?hq6b wtb w.heap.size g gcap (.int .i64 retain) rm no ncap K pv _ _ E _ W' _ _ _ _ _ _ _ _ _ _ _ _ _ _ _ _ _ _ _ _ _ _ _ _ _ _ _ _ _ _ _ _ _ _ _ _ _ _ _ _ _ _ _ _ _ _ _ _ _ _ _ _ f1 f2 hn Hlen.out k1 k2 k3 k4 hK hnc k5 k6 hop hAh hrow k7 k8 ?_
    case hq6b => exact fun _ _ d _ _ h => by cases d <;> exact h
    intro sb sc cur W'' a1 a2 a3 a4 a5 a6
    have q0 := cell_at (i := 0) a6 rfl
    have q1 := cell_at (i := 1) a6 rfl
    have q2 := cell_at (i := 2) a6 rfl
    have q3 := cell_at (i := 3) a6 rfl
    have K9 := k9 sb sc cur W'' a1 a2 a3 a4 a5
    clear k1 k2 k3 k4 k5 k6 k7 k9 f1 f2 f3 f4 a1 a2 a3 a4 a5
    go_wp2_with fail
    refine ⟨rfl, _, ?_, K9⟩
    simp [results, Tryz.f87, go_sem, loadVar, evVal, EvC.withSo, q0, q1, q2, q3]
end Go.Proofs.YtpbbmagjhkakgaaGreatDoor.Ev

namespace Go.Proofs.YtpbbmagjhkakgaaGreatDoor.Lf
open Go Go.Conc
variable {P : Program} {main : Bool} {R : (Nat → Prop) → World → World → Prop} {D : (Nat → Prop) → World → World → Array Event → Prop}
def grow (S : Nat → Prop) (w w' : World) : Nat → Prop := fun b => S b ∨ (w.heap.size ≤ b ∧ b < w'.heap.size)
theorem grow_same (S : Nat → Prop) {w w' : World} (h : w'.heap.size = w.heap.size) : grow S w w' = S := by
  funext b
  exact propext ⟨fun h' => h'.elim id fun x => absurd x.2 (by omega), .inl⟩
@[simp] theorem grow_self (S : Nat → Prop) (w : World) : grow S w w = S := grow_same S rfl
structure TermsG (R : (Nat → Prop) → World → World → Prop) (D : (Nat → Prop) → World → World → Array Event → Prop) : Prop where
  trans : ∀ S a b c, R S a b → R S b c → R S a c
  idle : ∀ S w, D S w w #[]
  draw : ∀ S w, D S w { w with drawn := w.drawn + 1 } #[]
inductive RT (P : Program) (main : Bool) (R : (Nat → Prop) → World → World → Prop) (D : (Nat → Prop) → World → World → Array Event → Prop) (Stop : (Nat → Prop) → Goroutine → World → Prop) : (Nat → Prop) → Goroutine → World → Prop
  | stop {S : Nat → Prop} {g : Goroutine} {w : World} : (∀ w₁, R S w w₁ → Stop S g w₁) → RT P main R D Stop S g w
  | step {S : Nat → Prop} {g : Goroutine} {w : World} (f : World → Goroutine × World × Array Event) : g.status = .running → (∀ w₁, R S w w₁ → stepG P main g w₁ = .go (f w₁).1 (f w₁).2.1 (f w₁).2.2 ∧ D S w₁ (f w₁).2.1 (f w₁).2.2) →
      (∀ w₁, R S w w₁ → RT P main R D Stop (grow S w₁ (f w₁).2.1) (f w₁).1 (f w₁).2.1) → RT P main R D Stop S g w
theorem RT.one {Stop : (Nat → Prop) → Goroutine → World → Prop} {S : Nat → Prop} {g : Goroutine} {w : World} (hs : g.status = .running) (h : ∀ w₁, R S w w₁ → (stepG P main g w₁).goes fun g' w' es => D S w₁ w' es ∧ RT P main R D Stop (grow S w₁ w') g' w') : RT P main R D Stop S g w := by
  have key : ∀ w₁, R S w w₁ → ∃ x : Goroutine × World × Array Event, stepG P main g w₁ = .go x.1 x.2.1 x.2.2 ∧ D S w₁ x.2.1 x.2.2 ∧ RT P main R D Stop (grow S w₁ x.2.1) x.1 x.2.1 := by
    intro w₁ h₁
    have := h w₁ h₁
    revert this
    cases hx : stepG P main g w₁ <;> simp only [GStep.goes, false_imp_iff]
    rename_i g' w' es
    exact fun ⟨d, r⟩ => ⟨(g', w', es), rfl, d, r⟩
  have key' : ∀ w₁, ∃ x : Goroutine × World × Array Event, R S w w₁ → stepG P main g w₁ = .go x.1 x.2.1 x.2.2 ∧ D S w₁ x.2.1 x.2.2 ∧ RT P main R D Stop (grow S w₁ x.2.1) x.1 x.2.1 := by
    intro w₁
    by_cases hr : R S w w₁
    · obtain ⟨x, hx⟩ := key w₁ hr; exact ⟨x, fun _ => hx⟩
    · exact ⟨(g, w, #[]), fun h => absurd h hr⟩
  refine .step (fun w₁ => Classical.choose (key' w₁)) hs (fun w₁ h₁ => ?_) (fun w₁ h₁ => ?_)
  · exact ⟨(Classical.choose_spec (key' w₁) h₁).1, (Classical.choose_spec (key' w₁) h₁).2.1⟩
  · exact (Classical.choose_spec (key' w₁) h₁).2.2
theorem RT.rely (T : TermsG R D) {Stop : (Nat → Prop) → Goroutine → World → Prop} {S : Nat → Prop} {g : Goroutine} {w w₁ : World} (h : RT P main R D Stop S g w) (hr : R S w w₁) : RT P main R D Stop S g w₁ := by
  cases h with
  | stop h => exact .stop fun w₂ h₂ => h w₂ (T.trans _ _ _ _ hr h₂)
  | step f hs h h' => exact .step f hs (fun w₂ h₂ => h w₂ (T.trans _ _ _ _ hr h₂)) (fun w₂ h₂ => h' w₂ (T.trans _ _ _ _ hr h₂))
section
variable {Stop : (Nat → Prop) → Goroutine → World → Prop} {S : Nat → Prop} {b : Frame} {a : Act} {k : List Item} {cs : List Frame} {w : World}
theorem RT.skip (T : TermsG R D) (h : RT P main R D Stop S (G (b.at a k) cs) w) : RT P main R D Stop S (G (b.at a (.code .skip :: k)) cs) w := .one rfl fun w₁ h₁ => by rw [stepG_skip]; rw [goes_go, grow_self]; exact ⟨T.idle _ _, h.rely T h₁⟩
theorem RT.seq (T : TermsG R D) {x y : Code} (h : RT P main R D Stop S (G (b.at a (.code x :: .code y :: k)) cs) w) : RT P main R D Stop S (G (b.at a (.code (.seq x y) :: k)) cs) w := .one rfl fun w₁ h₁ => by rw [stepG_seq]; rw [goes_go, grow_self]; exact ⟨T.idle _ _, h.rely T h₁⟩
theorem RT.cond (T : TermsG R D) {c : Operand} {x y : Code} (t : Bool) (hc : a.eval c = .bool t) (h : RT P main R D Stop S (G (b.at a (.code (if t then x else y) :: k)) cs) w) : RT P main R D Stop S (G (b.at a (.code (.cond c x y) :: k)) cs) w := .one rfl fun w₁ h₁ => by rw [stepG_cond hc]; rw [goes_go, grow_self]; exact ⟨T.idle _ _, h.rely T h₁⟩
theorem RT.block (T : TermsG R D) {id : Nat} {c : Code} (h : RT P main R D Stop S (G (b.at a (.code c :: .inBlock id :: k)) cs) w) : RT P main R D Stop S (G (b.at a (.code (.block id c) :: k)) cs) w := .one rfl fun w₁ h₁ => by rw [stepG_block]; rw [goes_go, grow_self]; exact ⟨T.idle _ _, h.rely T h₁⟩
theorem RT.inBlock (T : TermsG R D) {id : Nat} (h : RT P main R D Stop S (G (b.at a k) cs) w) : RT P main R D Stop S (G (b.at a (.inBlock id :: k)) cs) w := .one rfl fun w₁ h₁ => by rw [stepG_inBlock]; rw [goes_go, grow_self]; exact ⟨T.idle _ _, h.rely T h₁⟩
theorem RT.loop (T : TermsG R D) {c : Code} (h : RT P main R D Stop S (G (b.at a (.code c :: .inLoop c :: k)) cs) w) : RT P main R D Stop S (G (b.at a (.code (.loop c) :: k)) cs) w := .one rfl fun w₁ h₁ => by rw [stepG_loop]; rw [goes_go, grow_self]; exact ⟨T.idle _ _, h.rely T h₁⟩
theorem RT.inLoop (T : TermsG R D) {c : Code} (h : RT P main R D Stop S (G (b.at a (.code c :: .inLoop c :: k)) cs) w) : RT P main R D Stop S (G (b.at a (.inLoop c :: k)) cs) w := .one rfl fun w₁ h₁ => by rw [stepG_inLoop]; rw [goes_go, grow_self]; exact ⟨T.idle _ _, h.rely T h₁⟩
theorem RT.exit (T : TermsG R D) {id : Nat} {k' : List Item} (hk : exitTo id k = some k') (h : RT P main R D Stop S (G (b.at a k') cs) w) : RT P main R D Stop S (G (b.at a (.code (.exit id) :: k)) cs) w := .one rfl fun w₁ h₁ => by rw [stepG_exit hk]; rw [goes_go, grow_self]; exact ⟨T.idle _ _, h.rely T h₁⟩
theorem RT.ret (T : TermsG R D) (h : RT P main R D Stop S (G { b.at a (.code .ret :: k) with mode := .returning } cs) w) : RT P main R D Stop S (G (b.at a (.code .ret :: k)) cs) w := .one rfl fun w₁ h₁ => by rw [stepG_ret']; rw [goes_go, grow_self]; exact ⟨T.idle _ _, h.rely T h₁⟩
theorem RT.ends (T : TermsG R D) (h : RT P main R D Stop S (G { b.at a [] with mode := .returning } cs) w) : RT P main R D Stop S (G (b.at a []) cs) w := .one rfl fun w₁ h₁ => by rw [stepG_end]; rw [goes_go, grow_self]; exact ⟨T.idle _ _, h.rely T h₁⟩
theorem RT.region (T : TermsG R D) {id : Nat} {ops : Array Oper} (h : RT P main R D Stop S (G (b.at a (.inRegion ops (List.range ops.size) :: k)) cs) w) : RT P main R D Stop S (G (b.at a (.code (.region id ops false) :: k)) cs) w := .one rfl fun w₁ h₁ => by rw [stepG_region]; rw [goes_go, grow_self]; exact ⟨T.idle _ _, h.rely T h₁⟩
theorem RT.nil (T : TermsG R D) {ops : Array Oper} (h : RT P main R D Stop S (G (b.at a k) cs) w) : RT P main R D Stop S (G (b.at a (.inRegion ops [] :: k)) cs) w := .one rfl fun w₁ h₁ => by rw [stepG_region_end]; rw [goes_go, grow_self]; exact ⟨T.idle _ _, h.rely T h₁⟩
theorem RT.draw (T : TermsG R D) {id : Nat} {ops : Array Oper} (h : ∀ w₁, R S w w₁ → ∀ t, RT P main R D Stop S (G (b.at a (.inRegion ops (Region.schedule (P.follows .mixedOrders) ops t) :: k)) cs) { w₁ with drawn := w₁.drawn + 1 }) : RT P main R D Stop S (G (b.at a (.code (.region id ops true) :: k)) cs) w := .one rfl fun w₁ h₁ => by rw [stepG_region_draw]; rw [goes_go, grow_same S (w := w₁) (w' := { w₁ with drawn := w₁.drawn + 1 }) rfl]; exact ⟨T.draw _ _, h w₁ h₁ _⟩
theorem RT.op {ops : Array Oper} {i : Nat} {rest : List Nat} {o : Oper} (ho : ops[i]? = some o) (hw : Region.wanted o (yielded ops a.tmps) = true) (hk : b.kind ≠ .early)
    (h : ∀ w₁, R S w w₁ → ∀ K : Act → World → Prop, (∀ a' w', D S w₁ w' (listed P b.fn a o w₁) ∧ RT P main R D Stop (grow S w₁ w') (G (b.at a' (.inRegion ops rest :: k)) cs) w' → K a' w') → uponK o a K ((execOp a.eval o).run P w₁)) :
    RT P main R D Stop S (G (b.at a (.inRegion ops (i :: rest) :: k)) cs) w := by
  refine .one rfl fun w₁ h₁ => goes_oper ho hw hk ?_
  have := h w₁ h₁ _ (fun _ _ x => x)
  revert this
  cases (execOp a.eval o).run P w₁ with
  | ok x w' => cases x <;> first | exact fun ⟨d, g⟩ => ⟨d, g⟩ | exact id
  | halt _ _ => exact id
def RCalls (P : Program) (main : Bool) (R : (Nat → Prop) → World → World → Prop) (D : (Nat → Prop) → World → World → Array Event → Prop) (f : FuncId) (args : Array Value) (S : Nat → Prop) (w : World) (Post : Value → (Nat → Prop) → World → Prop) : Prop :=
  ∀ (Stop : (Nat → Prop) → Goroutine → World → Prop) (c : Frame) (cs : List Frame), (∀ v S' w', Post v S' w' → RT P main R D Stop S' (G (c.finish v) cs) w') → RT P main R D Stop S (G (Frame.enter P f args .normal) (c :: cs)) w
theorem RCalls.mono {f : FuncId} {args : Array Value} {S : Nat → Prop} {w : World} {Post Post' : Value → (Nat → Prop) → World → Prop} (h : RCalls P main R D f args S w Post) (hp : ∀ v S w, Post v S w → Post' v S w) : RCalls P main R D f args S w Post' :=
  fun Stop c cs hk => h Stop c cs fun v S' w' x => hk v S' w' (hp v S' w' x)
theorem RT.call (T : TermsG R D) {ops : Array Oper} {i : Nat} {rest : List Nat} {o : Oper} {f : FuncId} {fn : Func} {args : Array Operand} {ats : Array TypeId} {Post : Value → (Nat → Prop) → World → Prop} (ho : ops[i]? = some o) (hw : Region.wanted o (yielded ops a.tmps) = true) (hk : b.kind ≠ .early) (hop : o.op = .call { callee := .value (.func f), args, argTypes := ats })
    (hf : P.funcs[f]? = some fn) (hname : (fn.name == "runtime.NumGoroutine") = false) (hb : fn.body.isNone = false)
    (hcall : ∀ w₁, R S w w₁ → RCalls P main R D f (args.map a.eval) S w₁ Post) (hnext : ∀ v S' w', Post v S' w' → RT P main R D Stop S' (G (b.at (a.put o.dst v) (.inRegion ops rest :: k)) cs) w') :
    RT P main R D Stop S (G (b.at a (.inRegion ops (i :: rest) :: k)) cs) w := by
  have hfin : ∀ v, (b.at a (.inRegion ops (i :: rest) :: k)).finish v = b.at (a.put o.dst v) (.inRegion ops rest :: k) := fun v => by rw [Frame.finish_at, ho]; rfl
  refine .one rfl fun w₁ h₁ => ?_
  have hl : listed P b.fn a o w₁ = #[] := by unfold listed; rw [events_call_body hop hf hname hb]; exact seen_none P _
  rw [stepG_enter ho hw hk (run_call_body hop hf hname hb), hl]
  refine ⟨T.idle _ _, by rw [grow_self]; exact hcall w₁ h₁ Stop _ cs fun v S' w' x => by rw [hfin]; exact hnext v S' w' x⟩
theorem stepG_leaveE {fn : Func} {todo : List Item} {c : Frame} {v : Value} (hn : b.kind = .normal) (hd : a.defers = []) (hf : P.funcs[b.fn]? = some fn) (hr : (results fn a.tmps).run P w = .ok v w) :
    stepG P main (G { b.at a todo with mode := .returning } (c :: cs)) w = .go (G (c.finish v) cs) w (seen P b.fn ((results fn a.tmps).events P w #[])) := by
  simp [G, stepG, unwind, doReturn, Frame.at, hn, hd, hf, hr, GStep.after]
theorem RT.leave (T : TermsG R D) {fn : Func} {todo : List Item} {c : Frame} {v : Value} (hn : b.kind = .normal) (hd : a.defers = []) (hf : P.funcs[b.fn]? = some fn) (hr : ∀ w₁, R S w w₁ → (results fn a.tmps).run P w₁ = .ok v w₁ ∧ D S w₁ w₁ (seen P b.fn ((results fn a.tmps).events P w₁ #[])))
    (h : RT P main R D Stop S (G (c.finish v) cs) w) : RT P main R D Stop S (G { b.at a todo with mode := .returning } (c :: cs)) w :=
  .one rfl fun w₁ h₁ => by rw [stepG_leaveE hn hd hf (hr w₁ h₁).1]; rw [goes_go, grow_self]; exact ⟨(hr w₁ h₁).2, h.rely T h₁⟩
end
end Go.Proofs.YtpbbmagjhkakgaaGreatDoor.Lf
