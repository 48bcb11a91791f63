/-
  What the face Nodes does: for every list of at most fifty million texts, in a world whose package-level variables are as the program's text lays them.
-/
import Derived.Test.YtpbbmagjhkakgaaGreatDoorPut2
import Derived.Test.YtpbbmagjhkakgaaGreatDoorFace2
namespace Go.Proofs.YtpbbmagjhkakgaaGreatDoor
open Go.RowKit Go.Deep

/-- What Nodes answers, from a table on: a number and an error. -/
def nodesF : List Key → List ByteArray → Int × Int
  | K, [] => ((K.length : Int), 0)
  | K, t :: ts => match (readF t).1 with
    | some x => nodesF (putK K (coreT x)).2 ts
    | none => (0, (readF t).2)

theorem nodesF_at (K : List Key) (texts : List ByteArray) (i : Nat) (h : i < texts.length) : nodesF K (texts.drop i) = match (readF (texts.getD i ByteArray.empty)).1 with
    | some x => nodesF (putK K (coreT x)).2 (texts.drop (i + 1))
    | none => (0, (readF (texts.getD i ByteArray.empty)).2) := by
  have e : texts.getD i ByteArray.empty = texts[i] := by simp [List.getD, h]
  rw [List.drop_eq_getElem_cons h, e]
  rfl

set_option maxHeartbeats 1000000 in
theorem nodes_any (texts : List ByteArray) (xb xo cap : Nat) (w : World) (hg : Glob w) (hw7 : 14 ≤ w.heap.size) (hn : texts.length ≤ 50000000) (hxb : xb < w.heap.size)
    (hc : ∀ j, j < texts.length → w.cell? ⟨xb, xo + j, none⟩ = some (.string (texts.getD j ByteArray.empty))) (hm : ∀ j, j < texts.length → (texts.getD j ByteArray.empty).size ≤ maxLen) :
    Calls Tryz.prog 16 #[.slice (some ⟨xb, xo, none⟩) texts.length cap] w fun e w' => e = .returned (.tuple #[.int .i64 (nodesF [] texts).1, .int .i64 (nodesF [] texts).2]) ∧ Below w.heap.size w w' := by
  generalize hres : nodesF [] texts = res
  generalize hlen : texts.length = n at *
  go_enter Tryz.func16, Tryz.ntmps16
  go_wp2_with fail
  go_loopw [11] (fun iv wr => ∃ (i : Nat) (K : List Key), iv = .int .i64 i ∧ i ≤ n ∧ TabV w.heap.size w.heap.size wr K ∧ Below w.heap.size w wr ∧ w.heap.size < wr.heap.size ∧ K.length ≤ 16384 * i ∧ Hid (nodesF K (texts.drop i) = res)) (fun iv _ => n - (intOf iv).toNat)
  case atStart =>
    exact ⟨0, [], rfl, Nat.zero_le _, TabV.new _ w (Nat.le_refl _), (Below.refl _ _).al _, by simp, by simp, hres⟩
  case round =>
    clear hres
    obtain ⟨i, K, rfl, hin, hT, hbw, hsz, hK, hR⟩ := hrel
    by_cases hi : i < n
    · have hcell : wr.cell? ⟨xb, xo + i, none⟩ = some (.string (texts.getD i ByteArray.empty)) := by rw [hbw.cell (p := ⟨xb, xo + i, none⟩) hxb]; exact hc i hi
      have hRd := readTop_any (texts.getD i ByteArray.empty) wr (hm i hi) (hg.below hbw) (by omega)
      have hso : ∀ x m, readF (texts.getD i ByteArray.empty) = (some x, m) → Good x ∧ ZeroT x ∧ depthT x ≤ 12 ∧ m = 0 := fun x m h => readF_sound h
      have hR2 := nodesF_at K texts i (by omega)
      rw [hR.out] at hR2
      have HR2 : Hid (res = _) := hR2
      clear hR2 hR hc hm
      generalize texts.getD i ByteArray.empty = t at *
      generalize readF t = rd at *
      go_wp2_with fail
      refine hRd.mono ?_
      rintro e w1 ⟨hb, ⟨x, v, h1, rfl, hx, hd⟩ | ⟨h1, tb, fa, rfl, ht⟩ | ⟨h1, tb, fa, rfl, ht⟩⟩
      · subst h1
        obtain ⟨hgd, _, hd, _⟩ := hso x 0 rfl
        obtain ⟨vv, rfl⟩ := sent_ptr hx
        have hnl := nodes_le hd
        have hP := putTop_any x _ wr.heap.size w.heap.size w.heap.size K w1 hx hgd hb.size hsz (hT.below hb) (by omega)
        have hpl := putK_len (coreT x) K
        have HR3 : Hid (res = nodesF (putK K (coreT x)).2 (texts.drop (i + 1))) := HR2.out
        clear HR2 hso hRd
        generalize putK K (coreT x) = pk at *
        go_wp2_with fail
        refine hP.mono ?_
        rintro e w2 ⟨rfl, hT2, hb2⟩
        clear hP
        go_wp2_with fail
        go_roundw
        case rel => exact ⟨i + 1, pk.2, by go_num, by omega, hT2, (hbw.trans (hb.mono hbw.size)).trans hb2, by have := hb.size; have := hb2.size; omega, by omega, HR3.out.symm⟩
        case measure => simp only [intOf]; omega
      · subst h1
        have hE := errno_text t tb fa w1 ((hg.below hbw).below hb) ht
        have HR3 : Hid (res = (0, 1)) := HR2.out
        clear HR2 hso hRd
        go_wp2_with fail
        refine hE.mono ?_
        rintro e w2 ⟨rfl, hb2⟩
        go_wp2_with fail
        go_ret2
        exact ⟨by cases HR3.out; rfl, (hbw.tr hb).tr hb2⟩
      · subst h1
        have hE := errno_deep t tb fa w1 ((hg.below hbw).below hb) ht
        have HR3 : Hid (res = (0, 2)) := HR2.out
        clear HR2 hso hRd
        go_wp2_with fail
        refine hE.mono ?_
        rintro e w2 ⟨rfl, hb2⟩
        go_wp2_with fail
        go_ret2
        exact ⟨by cases HR3.out; rfl, (hbw.tr hb).tr hb2⟩
    · obtain rfl : i = n := by omega
      have HR3 : Hid (res = ((K.length : Int), 0)) := by show _ = _; rw [← hR.out, List.drop_of_length_le (by omega)]; rfl
      have hC := count_any w.heap.size w.heap.size K wr hT
      clear hR hc hm
      go_wp2_with fail
      refine hC.mono ?_
      rintro e w2 ⟨rfl, rfl⟩
      go_wp2_with fail
      go_ret2
      exact ⟨by cases HR3.out; rfl, hbw⟩

end Go.Proofs.YtpbbmagjhkakgaaGreatDoor
