/-
  What (*Table).put, Put and Count do: for every sentence that is made as it should be, and every table; the table is the nil map or a map.
-/
import Derived.Test.YtpbbmagjhkakgaaGreatDoorPut
import Derived.WalkSpells
namespace Go.Proofs.YtpbbmagjhkakgaaGreatDoor
open Go.RowKit Go.Deep Go.Maps

theorem key_ok (a : Pay) (p q : Int) (hop : isSign a.op ∨ a.op = 116 ∨ a.op = 97) (hn : a.name.size ≤ 8) (h0 : 0 ≤ a.lo ∧ a.lo ≤ a.hi ∧ a.hi ≤ 1000000) (hp : 0 ≤ p ∧ p ≤ 1000000000000000000) (hq : 0 ≤ q ∧ q ≤ 1000000000000000000) : Key.OK ⟨a.op, a.name, a.lo, a.hi, p, q⟩ :=
  ⟨by rcases hop with (e | e | e | e | e | e | e) | e | e <;> (show (Lit.int .i32 a.op).wf = true; rw [e]; decide), Nat.le_trans hn (by decide), (show (Lit.int .i64 (a.lo)).wf = true from WalkArith.wf_i64 (by omega)), (show (Lit.int .i64 (a.hi)).wf = true from WalkArith.wf_i64 (by omega)), (show (Lit.int .i64 (p)).wf = true from WalkArith.wf_i64 (by omega)), (show (Lit.int .i64 (q)).wf = true from WalkArith.wf_i64 (by omega))⟩

theorem empty_small : ByteArray.empty.size ≤ 8 := by decide

theorem put_any : ∀ x : BT Pay, PutOK x := by
  intro x
  induction x with
  | nil =>
    intro v Bt B tb mb nv K w hs _ ht _
    obtain rfl : v = .pointer none := hs
    refine (put_nil _ w).mono ?_
    rintro e w' ⟨rfl, rfl⟩
    exact ⟨rfl, nv, ht, Keep.refl _ _ _ _ _⟩
  | node b0 o0 a l r il ir =>
    intro v Bt B tb mb nv K w hs hg ht hlen
    have hg : Good (.node b0 o0 a l r) := by
      rcases hg with hg | hg
      · cases hg
      · exact hg
    have hlen2 : K.length + (nodesT l + nodesT r + 1) ≤ 1000000000000 := hlen
    rcases hg with ⟨h1, h2, h3, h4, rfl, rfl⟩ | ⟨h1, ⟨_, n2, _⟩, h3, h4, rfl, rfl⟩ | ⟨h1, h2, h3, h4, gl, gr⟩ | ⟨h1, h2, h3, h4, gl, rfl⟩
    · exact put_node b0 o0 a _ _ il ir (.inl rfl) (.inl rfl) v Bt B tb mb nv K w hs (fun p q a1 a2 a3 a4 => key_ok a p q (.inr (.inl h1)) (by rw [h2]; exact empty_small) (by omega) ⟨a1, a2⟩ ⟨a3, a4⟩) ht hlen2
    · exact put_node b0 o0 a _ _ il ir (.inl rfl) (.inl rfl) v Bt B tb mb nv K w hs (fun p q a1 a2 a3 a4 => key_ok a p q (.inr (.inr h1)) n2 (by omega) ⟨a1, a2⟩ ⟨a3, a4⟩) ht hlen2
    · exact put_node b0 o0 a _ _ il ir (.inr gl) (.inr gr) v Bt B tb mb nv K w hs (fun p q a1 a2 a3 a4 => key_ok a p q (.inl (by unfold isSign; omega)) (by rw [h2]; exact empty_small) h3 ⟨a1, a2⟩ ⟨a3, a4⟩) ht hlen2
    · exact put_node b0 o0 a _ _ il ir (.inr gl) (.inl rfl) v Bt B tb mb nv K w hs (fun p q a1 a2 a3 a4 => key_ok a p q (.inl (by unfold isSign; omega)) (by rw [h2]; exact empty_small) h3 ⟨a1, a2⟩ ⟨a3, a4⟩) ht hlen2

/-- A table that may have no map yet; it lies at or above B, with all that is its own. -/
def TabV (B tb : Nat) (w : World) (K : List Key) : Prop := (w.heap[tb]? = some (.cells #[.map none, .slice none 0 0] 97 (0, 0)) ∧ K = [] ∧ B ≤ tb) ∨ ∃ mb nv, TabAt B tb mb nv w K

theorem TabV.new (B : Nat) (w : World) (hB : B ≤ w.heap.size) : TabV B w.heap.size (w.alloc (.cells #[.map none, .slice none 0 0] 97 (0, 0))) [] := .inl ⟨heap_new _ _ _ rfl, rfl, hB⟩

theorem TabV.below {B tb : Nat} {w w' : World} {K : List Key} (h : TabV B tb w K) (hb : Below w.heap.size w w') : TabV B tb w' K := by
  rcases h with ⟨h1, h2, h3⟩ | ⟨mb, nv, h2⟩
  · exact .inl ⟨hb.heapOf h1, h2, h3⟩
  · exact .inr ⟨mb, nv, h2.below hb⟩

theorem heap_set1 {w : World} {k : Nat} {u v x : Value} {e : TypeId} {m : Nat × Nat} (h : w.heap[k]? = some (.cells #[u, x] e m)) : (w.setCell ⟨k, 0, none⟩ v).heap[k]? = some (.cells #[v, x] e m) := by
  simp [World.setCell, Array.getElem?_modify, h]

set_option maxHeartbeats 400000 in
theorem putTop_any (x : BT Pay) (v : Value) (Bt B tb : Nat) (K : List Key) (w : World) (hs : SentAt 143 Bt w x v) (hg : Good x) (hBt : Bt ≤ w.heap.size) (htB : tb < Bt) (ht : TabV B tb w K) (hlen : K.length + nodesT (coreT x) ≤ 1000000000000) :
    Calls Tryz.prog 43 #[.pointer (some ⟨tb, 0, none⟩), v] w fun e w' => e = .returned (.int .i64 (putK K (coreT x)).1) ∧ TabV B tb w' (putK K (coreT x)).2 ∧ Below B w w' := by
  obtain ⟨vv, rfl⟩ : ∃ vv, v = Value.pointer vv := sent_ptr hs
  have q1 : ∀ (w : World) (r : Option Nat), (binOp .eql 94 (.map r) (.map none)).run Tryz.prog w = .ok (.bool r.isNone) w := fun w r => run_eql_map_nil w _ _ _ r Tryz.underlying94
  have gc := good_core hg
  rcases ht with ⟨h1, rfl, hB⟩ | ⟨mb, nv, h2⟩
  · have hc0 : w.cell? ⟨tb, 0, none⟩ = some (.map none) := cell_at h1 rfl
    have hf0 : w.frozen? ⟨tb, 0, none⟩ = false := Lib.frozen_of_heap h1 0
    have hlt := heap_lt h1
    have hne : tb ≠ w.heap.size := by omega
    have hsz : (w.setCell ⟨tb, 0, none⟩ (.map (some w.heap.size))).heap.size = w.heap.size := by simp [World.setCell]
    have hoT : Only tb w ((w.setCell ⟨tb, 0, none⟩ (.map (some w.heap.size))).alloc (.map #[] 0)) := ((Only.refl tb w).setCell (p := ⟨tb, 0, none⟩) (.inl rfl) _).alloc _
    have hT : TabAt B tb w.heap.size (.slice none 0 0) ((w.setCell ⟨tb, 0, none⟩ (.map (some w.heap.size))).alloc (.map #[] 0)) [] := by
      refine ⟨?_, ?_, World.ownsRow_nil _ _ _ _, hB, by omega⟩
      · rw [Below.heap_alloc _ _ _ (by rw [hsz]; exact hlt)]; exact heap_set1 h1
      · have := MapAt.made (w.setCell ⟨tb, 0, none⟩ (.map (some w.heap.size)))
        rw [hsz] at this
        exact this
    have hO := of_any x (.pointer vv) Bt _ (hs.only hoT htB) hg (Nat.le_trans hBt hoT.size)
    have hmm : (Instr.makeMap 94 none).run Tryz.prog w = .ok (.map (some w.heap.size)) (w.alloc (.map #[] 0)) := rfl
    go_enter Tryz.func43, Tryz.ntmps43
    go_wp2_with fail
    refine hO.mono ?_
    rintro e w1 ⟨p, rfl, hs1, hb1⟩
    have hP := put_any (coreT x) (.pointer p) Bt B tb w.heap.size (.slice none 0 0) [] w1 hs1 (.inr gc) (hT.below hb1) hlen
    clear hO
    go_wp2_with fail
    refine hP.mono ?_
    rintro e w2 ⟨rfl, nv2, ht2, ho2⟩
    clear hP
    go_wp2_with fail
    go_ret
    refine ⟨rfl, .inr ⟨w.heap.size, nv2, ht2⟩, ?_⟩
    have b1 : Below B w w1 := (hoT.below hB (by omega)).trans (hb1.mono (by have := hoT.size; omega))
    exact b1.trans ho2.below
  · have hc0 : w.cell? ⟨tb, 0, none⟩ = some (.map (some mb)) := cell_at h2.1 rfl
    have hBw := h2.base
    have hO := of_any x (.pointer vv) Bt w hs hg hBt
    go_enter Tryz.func43, Tryz.ntmps43
    go_wp2_with fail
    refine hO.mono ?_
    rintro e w1 ⟨p, rfl, hs1, hb1⟩
    have hP := put_any (coreT x) (.pointer p) Bt B tb mb nv K w1 hs1 (.inr gc) (h2.below hb1) hlen
    clear hO
    go_wp2_with fail
    refine hP.mono ?_
    rintro e w2 ⟨rfl, nv2, ht2, ho2⟩
    clear hP
    go_wp2_with fail
    go_ret
    refine ⟨rfl, .inr ⟨mb, nv2, ht2⟩, ?_⟩
    have b1 : Below B w w1 := hb1.mono (by omega)
    exact b1.trans ho2.below

set_option maxHeartbeats 400000 in
theorem count_any (B tb : Nat) (K : List Key) (w : World) (ht : TabV B tb w K) :
    Calls Tryz.prog 44 #[.pointer (some ⟨tb, 0, none⟩)] w fun e w' => e = .returned (.int .i64 (K.length : Int)) ∧ w' = w := by
  rcases ht with ⟨h1, rfl, _⟩ | ⟨mb, nv, h2⟩
  · have hc0 : w.cell? ⟨tb, 1, none⟩ = some (.slice none 0 0) := cell_at h1 rfl
    go_enter Tryz.func44, Tryz.ntmps44
    go_wp2_with fail
    go_ret
    exact ⟨rfl, rfl⟩
  · obtain ⟨h1, _, ⟨_, ⟨rfl, h3⟩ | ⟨g, cap, cur, rfl, _⟩⟩, _⟩ := h2
    · have hc0 : w.cell? ⟨tb, 1, none⟩ = some (.slice none 0 0) := cell_at h1 rfl
      rw [h3]
      go_enter Tryz.func44, Tryz.ntmps44
      go_wp2_with fail
      go_ret
      exact ⟨rfl, rfl⟩
    · have hc0 : w.cell? ⟨tb, 1, none⟩ = some (.slice (some ⟨g, 0, none⟩) K.length cap) := cell_at h1 rfl
      go_enter Tryz.func44, Tryz.ntmps44
      go_wp2_with fail
      go_ret
      exact ⟨rfl, rfl⟩

end Go.Proofs.YtpbbmagjhkakgaaGreatDoor
