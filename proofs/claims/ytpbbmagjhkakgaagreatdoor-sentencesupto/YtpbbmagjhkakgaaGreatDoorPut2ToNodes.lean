/-
  What (*Table).put, Put and Count do: for every sentence that is made as it should be, and every table; the table is the nil map or a map.
-/
/-
  What the face Nodes does: for every list of at most fifty million texts, in a world whose package-level variables are as the program's text lays them.
-/
import Derived.Test.YtpbbmagjhkakgaaGreatDoorPut
import Derived.Test.YtpbbmagjhkakgaaGreatDoorPureEndsToFace2
import Derived.WalkSpells
namespace Go.Proofs.YtpbbmagjhkakgaaGreatDoor
open Go.RowKit Go.Deep Go.Maps

theorem key_ok (a : Pay) (p q : Int) (hop : isSign a.op ∨ a.op = 116 ∨ a.op = 97) (hn : a.name.size ≤ 8) (h0 : 0 ≤ a.lo ∧ a.lo ≤ a.hi ∧ a.hi ≤ 1000000) (hp : 0 ≤ p ∧ p ≤ 1000000000000000000) (hq : 0 ≤ q ∧ q ≤ 1000000000000000000) : Key.OK ⟨a.op, a.name, a.lo, a.hi, p, q⟩ :=
  ⟨by rcases hop with (e | e | e | e | e | e | e) | e | e <;> (show (Lit.int .i32 a.op).wf = true; rw [e]; decide), Nat.le_trans hn (by decide), (show (Lit.int .i64 (a.lo)).wf = true from WalkArith.wf_i64 (by omega)), (show (Lit.int .i64 (a.hi)).wf = true from WalkArith.wf_i64 (by omega)), (show (Lit.int .i64 (p)).wf = true from WalkArith.wf_i64 (by omega)), (show (Lit.int .i64 (q)).wf = true from WalkArith.wf_i64 (by omega))⟩

theorem empty_small : ByteArray.empty.size ≤ 8 := by decide

theorem put_any : ∀ x : BT Pay, PutOK x := by
  intro x
  induction x with
  | nil =>
    intro v Bt B tb mb nv K w hs _ ht _
    obtain rfl : v = .pointer none := hs
    refine (put_nil _ w).mono ?_
    rintro e w' ⟨rfl, rfl⟩
    exact ⟨rfl, nv, ht, Keep.refl _ _ _ _ _⟩
  | node b0 o0 a l r il ir =>
    intro v Bt B tb mb nv K w hs hg ht hlen
    have hg : Good (.node b0 o0 a l r) := by
      rcases hg with hg | hg
      · cases hg
      · exact hg
    have hlen2 : K.length + (nodesT l + nodesT r + 1) ≤ 1000000000000 := hlen
    rcases hg with ⟨h1, h2, h3, h4, rfl, rfl⟩ | ⟨h1, ⟨_, n2, _⟩, h3, h4, rfl, rfl⟩ | ⟨h1, h2, h3, h4, gl, gr⟩ | ⟨h1, h2, h3, h4, gl, rfl⟩
    · exact put_node b0 o0 a _ _ il ir (.inl rfl) (.inl rfl) v Bt B tb mb nv K w hs (fun p q a1 a2 a3 a4 => key_ok a p q (.inr (.inl h1)) (by rw [h2]; exact empty_small) (by omega) ⟨a1, a2⟩ ⟨a3, a4⟩) ht hlen2
    · exact put_node b0 o0 a _ _ il ir (.inl rfl) (.inl rfl) v Bt B tb mb nv K w hs (fun p q a1 a2 a3 a4 => key_ok a p q (.inr (.inr h1)) n2 (by omega) ⟨a1, a2⟩ ⟨a3, a4⟩) ht hlen2
    · exact put_node b0 o0 a _ _ il ir (.inr gl) (.inr gr) v Bt B tb mb nv K w hs (fun p q a1 a2 a3 a4 => key_ok a p q (.inl (by unfold isSign; omega)) (by rw [h2]; exact empty_small) h3 ⟨a1, a2⟩ ⟨a3, a4⟩) ht hlen2
    · exact put_node b0 o0 a _ _ il ir (.inr gl) (.inl rfl) v Bt B tb mb nv K w hs (fun p q a1 a2 a3 a4 => key_ok a p q (.inl (by unfold isSign; omega)) (by rw [h2]; exact empty_small) h3 ⟨a1, a2⟩ ⟨a3, a4⟩) ht hlen2

/-- A table that may have no map yet; it lies at or above B, with all that is its own. -/
def TabV (B tb : Nat) (w : World) (K : List Key) : Prop := (w.heap[tb]? = some (.cells #[.map none, .slice none 0 0] 97 (0, 0)) ∧ K = [] ∧ B ≤ tb) ∨ ∃ mb nv, TabAt B tb mb nv w K

theorem TabV.new (B : Nat) (w : World) (hB : B ≤ w.heap.size) : TabV B w.heap.size (w.alloc (.cells #[.map none, .slice none 0 0] 97 (0, 0))) [] := .inl ⟨heap_new _ _ _ rfl, rfl, hB⟩

theorem TabV.below {B tb : Nat} {w w' : World} {K : List Key} (h : TabV B tb w K) (hb : Below w.heap.size w w') : TabV B tb w' K := by
  rcases h with ⟨h1, h2, h3⟩ | ⟨mb, nv, h2⟩
  · exact .inl ⟨hb.heapOf h1, h2, h3⟩
  · exact .inr ⟨mb, nv, h2.below hb⟩

theorem heap_set1 {w : World} {k : Nat} {u v x : Value} {e : TypeId} {m : Nat × Nat} (h : w.heap[k]? = some (.cells #[u, x] e m)) : (w.setCell ⟨k, 0, none⟩ v).heap[k]? = some (.cells #[v, x] e m) := by
  simp [World.setCell, Array.getElem?_modify, h]

set_option maxHeartbeats 400000 in
theorem putTop_any (x : BT Pay) (v : Value) (Bt B tb : Nat) (K : List Key) (w : World) (hs : SentAt 143 Bt w x v) (hg : Good x) (hBt : Bt ≤ w.heap.size) (htB : tb < Bt) (ht : TabV B tb w K) (hlen : K.length + nodesT (coreT x) ≤ 1000000000000) :
    Calls Tryz.prog 43 #[.pointer (some ⟨tb, 0, none⟩), v] w fun e w' => e = .returned (.int .i64 (putK K (coreT x)).1) ∧ TabV B tb w' (putK K (coreT x)).2 ∧ Below B w w' := by
  obtain ⟨vv, rfl⟩ : ∃ vv, v = Value.pointer vv := sent_ptr hs
  have q1 : ∀ (w : World) (r : Option Nat), (binOp .eql 94 (.map r) (.map none)).run Tryz.prog w = .ok (.bool r.isNone) w := fun w r => run_eql_map_nil w _ _ _ r Tryz.underlying94
  have gc := good_core hg
  rcases ht with ⟨h1, rfl, hB⟩ | ⟨mb, nv, h2⟩
  · have hc0 : w.cell? ⟨tb, 0, none⟩ = some (.map none) := cell_at h1 rfl
    have hf0 : w.frozen? ⟨tb, 0, none⟩ = false := Lib.frozen_of_heap h1 0
    have hlt := heap_lt h1
    have hne : tb ≠ w.heap.size := by omega
    have hsz : (w.setCell ⟨tb, 0, none⟩ (.map (some w.heap.size))).heap.size = w.heap.size := by simp [World.setCell]
    have hoT : Only tb w ((w.setCell ⟨tb, 0, none⟩ (.map (some w.heap.size))).alloc (.map #[] 0)) := ((Only.refl tb w).setCell (p := ⟨tb, 0, none⟩) (.inl rfl) _).alloc _
    have hT : TabAt B tb w.heap.size (.slice none 0 0) ((w.setCell ⟨tb, 0, none⟩ (.map (some w.heap.size))).alloc (.map #[] 0)) [] := by
      refine ⟨?_, ?_, World.ownsRow_nil _ _ _ _, hB, by omega⟩
      · rw [Below.heap_alloc _ _ _ (by rw [hsz]; exact hlt)]; exact heap_set1 h1
      · have := MapAt.made (w.setCell ⟨tb, 0, none⟩ (.map (some w.heap.size)))
        rw [hsz] at this
        exact this
    have hO := of_any x (.pointer vv) Bt _ (hs.only hoT htB) hg (Nat.le_trans hBt hoT.size)
    have hmm : (Instr.makeMap 94 none).run Tryz.prog w = .ok (.map (some w.heap.size)) (w.alloc (.map #[] 0)) := rfl
    go_enter Tryz.func43, Tryz.ntmps43
    go_wp2_with fail
    refine hO.mono ?_
    rintro e w1 ⟨p, rfl, hs1, hb1⟩
    have hP := put_any (coreT x) (.pointer p) Bt B tb w.heap.size (.slice none 0 0) [] w1 hs1 (.inr gc) (hT.below hb1) hlen
    clear hO
    go_wp2_with fail
    refine hP.mono ?_
    rintro e w2 ⟨rfl, nv2, ht2, ho2⟩
    clear hP
    go_wp2_with fail
    go_ret
    refine ⟨rfl, .inr ⟨w.heap.size, nv2, ht2⟩, ?_⟩
    have b1 : Below B w w1 := (hoT.below hB (by omega)).trans (hb1.mono (by have := hoT.size; omega))
    exact b1.trans ho2.below
  · have hc0 : w.cell? ⟨tb, 0, none⟩ = some (.map (some mb)) := cell_at h2.1 rfl
    have hBw := h2.base
    have hO := of_any x (.pointer vv) Bt w hs hg hBt
    go_enter Tryz.func43, Tryz.ntmps43
    go_wp2_with fail
    refine hO.mono ?_
    rintro e w1 ⟨p, rfl, hs1, hb1⟩
    have hP := put_any (coreT x) (.pointer p) Bt B tb mb nv K w1 hs1 (.inr gc) (h2.below hb1) hlen
    clear hO
    go_wp2_with fail
    refine hP.mono ?_
    rintro e w2 ⟨rfl, nv2, ht2, ho2⟩
    clear hP
    go_wp2_with fail
    go_ret
    refine ⟨rfl, .inr ⟨mb, nv2, ht2⟩, ?_⟩
    have b1 : Below B w w1 := hb1.mono (by omega)
    exact b1.trans ho2.below

set_option maxHeartbeats 400000 in
theorem count_any (B tb : Nat) (K : List Key) (w : World) (ht : TabV B tb w K) :
    Calls Tryz.prog 44 #[.pointer (some ⟨tb, 0, none⟩)] w fun e w' => e = .returned (.int .i64 (K.length : Int)) ∧ w' = w := by
  rcases ht with ⟨h1, rfl, _⟩ | ⟨mb, nv, h2⟩
  · have hc0 : w.cell? ⟨tb, 1, none⟩ = some (.slice none 0 0) := cell_at h1 rfl
    go_enter Tryz.func44, Tryz.ntmps44
    go_wp2_with fail
    go_ret
    exact ⟨rfl, rfl⟩
  · obtain ⟨h1, _, ⟨_, ⟨rfl, h3⟩ | ⟨g, cap, cur, rfl, _⟩⟩, _⟩ := h2
    · have hc0 : w.cell? ⟨tb, 1, none⟩ = some (.slice none 0 0) := cell_at h1 rfl
      rw [h3]
      go_enter Tryz.func44, Tryz.ntmps44
      go_wp2_with fail
      go_ret
      exact ⟨rfl, rfl⟩
    · have hc0 : w.cell? ⟨tb, 1, none⟩ = some (.slice (some ⟨g, 0, none⟩) K.length cap) := cell_at h1 rfl
      go_enter Tryz.func44, Tryz.ntmps44
      go_wp2_with fail
      go_ret
      exact ⟨rfl, rfl⟩

end Go.Proofs.YtpbbmagjhkakgaaGreatDoor

namespace Go.Proofs.YtpbbmagjhkakgaaGreatDoor
open Go.RowKit Go.Deep

/-- What Nodes answers, from a table on: a number and an error. -/
def nodesF : List Key → List ByteArray → Int × Int
  | K, [] => ((K.length : Int), 0)
  | K, t :: ts => match (readF t).1 with
    | some x => nodesF (putK K (coreT x)).2 ts
    | none => (0, (readF t).2)

theorem nodesF_at (K : List Key) (texts : List ByteArray) (i : Nat) (h : i < texts.length) : nodesF K (texts.drop i) = match (readF (texts.getD i ByteArray.empty)).1 with
    | some x => nodesF (putK K (coreT x)).2 (texts.drop (i + 1))
    | none => (0, (readF (texts.getD i ByteArray.empty)).2) := by
  have e : texts.getD i ByteArray.empty = texts[i] := by simp [List.getD, h]
  rw [List.drop_eq_getElem_cons h, e]
  rfl

set_option maxHeartbeats 1000000 in
theorem nodes_any (texts : List ByteArray) (xb xo cap : Nat) (w : World) (hg : Glob w) (hw7 : 14 ≤ w.heap.size) (hn : texts.length ≤ 50000000) (hxb : xb < w.heap.size)
    (hc : ∀ j, j < texts.length → w.cell? ⟨xb, xo + j, none⟩ = some (.string (texts.getD j ByteArray.empty))) (hm : ∀ j, j < texts.length → (texts.getD j ByteArray.empty).size ≤ maxLen) :
    Calls Tryz.prog 16 #[.slice (some ⟨xb, xo, none⟩) texts.length cap] w fun e w' => e = .returned (.tuple #[.int .i64 (nodesF [] texts).1, .int .i64 (nodesF [] texts).2]) ∧ Below w.heap.size w w' := by
  generalize hres : nodesF [] texts = res
  generalize hlen : texts.length = n at *
  go_enter Tryz.func16, Tryz.ntmps16
  go_wp2_with fail
  go_loopw [11] (fun iv wr => ∃ (i : Nat) (K : List Key), iv = .int .i64 i ∧ i ≤ n ∧ TabV w.heap.size w.heap.size wr K ∧ Below w.heap.size w wr ∧ w.heap.size < wr.heap.size ∧ K.length ≤ 16384 * i ∧ Hid (nodesF K (texts.drop i) = res)) (fun iv _ => n - (intOf iv).toNat)
  case atStart =>
    exact ⟨0, [], rfl, Nat.zero_le _, TabV.new _ w (Nat.le_refl _), (Below.refl _ _).al _, by simp, by simp, hres⟩
  case round =>
    clear hres
    obtain ⟨i, K, rfl, hin, hT, hbw, hsz, hK, hR⟩ := hrel
    by_cases hi : i < n
    · have hcell : wr.cell? ⟨xb, xo + i, none⟩ = some (.string (texts.getD i ByteArray.empty)) := by rw [hbw.cell (p := ⟨xb, xo + i, none⟩) hxb]; exact hc i hi
      have hRd := readTop_any (texts.getD i ByteArray.empty) wr (hm i hi) (hg.below hbw) (by omega)
      have hso : ∀ x m, readF (texts.getD i ByteArray.empty) = (some x, m) → Good x ∧ ZeroT x ∧ depthT x ≤ 12 ∧ m = 0 := fun x m h => readF_sound h
      have hR2 := nodesF_at K texts i (by omega)
      rw [hR.out] at hR2
      have HR2 : Hid (res = _) := hR2
      clear hR2 hR hc hm
      generalize texts.getD i ByteArray.empty = t at *
      generalize readF t = rd at *
      go_wp2_with fail
      refine hRd.mono ?_
      rintro e w1 ⟨hb, ⟨x, v, h1, rfl, hx, hd⟩ | ⟨h1, tb, fa, rfl, ht⟩ | ⟨h1, tb, fa, rfl, ht⟩⟩
      · subst h1
        obtain ⟨hgd, _, hd, _⟩ := hso x 0 rfl
        obtain ⟨vv, rfl⟩ := sent_ptr hx
        have hnl := nodes_le hd
        have hP := putTop_any x _ wr.heap.size w.heap.size w.heap.size K w1 hx hgd hb.size hsz (hT.below hb) (by omega)
        have hpl := putK_len (coreT x) K
        have HR3 : Hid (res = nodesF (putK K (coreT x)).2 (texts.drop (i + 1))) := HR2.out
        clear HR2 hso hRd
        generalize putK K (coreT x) = pk at *
        go_wp2_with fail
        refine hP.mono ?_
        rintro e w2 ⟨rfl, hT2, hb2⟩
        clear hP
        go_wp2_with fail
        go_roundw
        case rel => exact ⟨i + 1, pk.2, by go_num, by omega, hT2, (hbw.trans (hb.mono hbw.size)).trans hb2, by have := hb.size; have := hb2.size; omega, by omega, HR3.out.symm⟩
        case measure => simp only [intOf]; omega
      · subst h1
        have hE := errno_text t tb fa w1 ((hg.below hbw).below hb) ht
        have HR3 : Hid (res = (0, 1)) := HR2.out
        clear HR2 hso hRd
        go_wp2_with fail
        refine hE.mono ?_
        rintro e w2 ⟨rfl, hb2⟩
        go_wp2_with fail
        go_ret2
        exact ⟨by cases HR3.out; rfl, (hbw.tr hb).tr hb2⟩
      · subst h1
        have hE := errno_deep t tb fa w1 ((hg.below hbw).below hb) ht
        have HR3 : Hid (res = (0, 2)) := HR2.out
        clear HR2 hso hRd
        go_wp2_with fail
        refine hE.mono ?_
        rintro e w2 ⟨rfl, hb2⟩
        go_wp2_with fail
        go_ret2
        exact ⟨by cases HR3.out; rfl, (hbw.tr hb).tr hb2⟩
    · obtain rfl : i = n := by omega
      have HR3 : Hid (res = ((K.length : Int), 0)) := by show _ = _; rw [← hR.out, List.drop_of_length_le (by omega)]; rfl
      have hC := count_any w.heap.size w.heap.size K wr hT
      clear hR hc hm
      go_wp2_with fail
      refine hC.mono ?_
      rintro e w2 ⟨rfl, rfl⟩
      go_wp2_with fail
      go_ret2
      exact ⟨by cases HR3.out; rfl, hbw⟩

end Go.Proofs.YtpbbmagjhkakgaaGreatDoor
