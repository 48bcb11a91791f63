/-
  What (*reader).take does: it hands the first token out and drops it, unless it is the one for the end; for every reader whose tokens are there.
-/
import Derived.Test.YtpbbmagjhkakgaaGreatDoorProg
import Derived.Test.YtpbbmagjhkakgaaGreatDoorHeap
namespace Go.Proofs.YtpbbmagjhkakgaaGreatDoor
open Go.RowKit

set_option maxHeartbeats 400000 in
theorem takeF_end (rb tb off n cap : Nat) (pl : Int) (wd : ByteArray) (w : World) (hr : w.heap[rb]? = some (.cells #[.slice (some ⟨tb, off, none⟩) (n + 1) cap] 208 (0, 0)))
    (h0 : w.cell? ⟨tb, off, none⟩ = some (.int .i32 (-1))) (h1 : w.cell? ⟨tb, off + 1, none⟩ = some (.int .i64 pl)) (h2 : w.cell? ⟨tb, off + 2, none⟩ = some (.string wd)) :
    Calls Tryz.prog 154 #[.pointer (some ⟨rb, 0, none⟩)] w fun e w' => e = .returned (.agg #[.int .i32 (-1), .int .i64 pl, .string wd]) ∧ Below w.heap.size w w' := by
  have hc : w.cell? ⟨rb, 0, none⟩ = some (.slice (some ⟨tb, off, none⟩) (n + 1) cap) := cell_at hr rfl
  have hrl : rb < w.heap.size := heap_lt hr
  have htl : tb < w.heap.size := cell_lt h0
  go_enter Tryz.func154, Tryz.ntmps154
  go_wp2
  refine bodyPost_ret (v := .agg #[.int .i32 (-1), .int .i64 pl, .string wd]) (by simp [results, Tryz.results154, go_sem]) rfl ⟨rfl, ?_⟩
  exact ((Below.refl _ _).alloc (Nat.le_refl _) _).alloc (by simp) _

set_option maxHeartbeats 400000 in
theorem take_go (rb tb off n cap : Nat) (sg pl : Int) (wd : ByteArray) (w : World) (hr : w.heap[rb]? = some (.cells #[.slice (some ⟨tb, off, none⟩) (n + 1) cap] 208 (0, 0)))
    (h0 : w.cell? ⟨tb, off, none⟩ = some (.int .i32 sg)) (h1 : w.cell? ⟨tb, off + 1, none⟩ = some (.int .i64 pl)) (h2 : w.cell? ⟨tb, off + 2, none⟩ = some (.string wd)) (hsg : (sg != -1) = true) (hcap : n + 1 ≤ cap) (_hmax : cap ≤ maxLen) (hn : 1 ≤ n) :
    Calls Tryz.prog 154 #[.pointer (some ⟨rb, 0, none⟩)] w fun e w' => e = .returned (.agg #[.int .i32 sg, .int .i64 pl, .string wd]) ∧ Only rb w w' ∧ w'.heap[rb]? = some (.cells #[.slice (some ⟨tb, off + 3, none⟩) n (cap - 1)] 208 (0, 0)) := by
  have hc : w.cell? ⟨rb, 0, none⟩ = some (.slice (some ⟨tb, off, none⟩) (n + 1) cap) := cell_at hr rfl
  have hrl : rb < w.heap.size := heap_lt hr
  have htl : tb < w.heap.size := cell_lt h0
  have hfz : w.frozen? ⟨rb, 0, none⟩ = false := Lib.frozen_of_heap hr 0
  unfold maxLen at _hmax
  go_enter Tryz.func154, Tryz.ntmps154
  go_wp2
  refine bodyPost_ret (v := .agg #[.int .i32 sg, .int .i64 pl, .string wd]) (by simp [results, Tryz.results154, go_sem]) rfl ⟨rfl, ?_, ?_⟩
  · exact (((Only.refl rb w).setCell (p := ⟨rb, 0, none⟩) (.inl rfl) _).alloc _).alloc _
  · rw [Lib.alloc_old _ _ _ (by simp [World.setCell]; omega), Lib.alloc_old _ _ _ (by simp [World.setCell]; omega)]
    simp [World.setCell, Array.getElem?_modify, hr]

/-- take: the next token; what is left. -/
theorem take_any (rb : Nat) (ts : List Tok) (w : World) (h : RdAt 208 rb w ts) (he : Ends ts) :
    Calls Tryz.prog 154 #[.pointer (some ⟨rb, 0, none⟩)] w fun e w' => e = .returned (.agg #[.int .i32 (takeF ts).1.sign, .int .i64 (takeF ts).1.place, .string (takeF ts).1.word]) ∧ Only rb w w' ∧ RdAt 208 rb w' (takeF ts).2 := by
  have hl := he.take
  obtain ⟨v, hv, ht⟩ := h
  match ts, he, hl, ht with
  | [], ⟨f, e, hfe, _⟩, _, _ => exact absurd hfe (by simp)
  | t :: r, he, hl, ht =>
    obtain ⟨tb, off, cap, rfl, htb, hcap, hmax, h0, h1, h2, hrest⟩ := toks_head ht
    by_cases hs : t.sign = -1
    · rw [hs] at h0
      refine (takeF_end rb tb off r.length cap t.place t.word w hv h0 h1 h2).mono ?_
      rintro e w' ⟨rfl, hb⟩
      have e1 : takeF (t :: r) = (t, t :: r) := by simp [takeF, hs]
      rw [e1, hs]
      exact ⟨rfl, Only.of_below hb, _, Below.heapOf hb hv, ht.only (Only.of_below hb) (Nat.le_refl _)⟩
    · have e1 : takeF (t :: r) = (t, r) := by simp [takeF, hs]
      have hn : 1 ≤ r.length := by
        obtain ⟨f, e, hfe, hes, _⟩ := he
        cases f with
        | nil => simp at hfe; exact absurd (hfe.1 ▸ hes) hs
        | cons a f => simp at hfe; rw [hfe.2]; simp
      refine (take_go rb tb off r.length cap t.sign t.place t.word w hv h0 h1 h2 (by simp [hs]) hcap hmax hn).mono ?_
      rintro e w' ⟨rfl, ho, hr'⟩
      rw [e1]
      exact ⟨rfl, ho, _, hr', hrest rb w' ho (Nat.le_refl _)⟩

end Go.Proofs.YtpbbmagjhkakgaaGreatDoor
