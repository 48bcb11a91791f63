/-
  What the statements' own still does: true where every list of the caller's reads as its owner wrote it; no condition but those that stand in each theorem.
-/
/-
  What the statements' own reads does at Print, Reach and Nodes: true; in a world whose package-level variables are as the program's text lays them, at texts of at most two million bytes.
-/
import Derived.Test.YtpbbmagjhkakgaaGreatDoorLaw2ToLaw3
import Derived.Test.YtpbbmagjhkakgaaGreatDoorRNodesToLaw1
import Derived.Deep.RegionHeld3
namespace Go.Proofs.YtpbbmagjhkakgaaGreatDoor
open Go.RowKit Go.Deep

theorem flatE_len (E : List Ent) : (flatE E).length = E.length * 3 := by
  induction E with
  | nil => rfl
  | cons a l ih =>
    have : flatE (a :: l) = entCells a ++ flatE l := by simp [flatE]
    rw [this, List.length_append, ih, List.length_cons]
    simp [entCells]
    omega

theorem flatE_at : ∀ (E : List Ent) (i : Nat) (e : Ent) (j : Nat), E[i]? = some e → j < 3 → (flatE E)[i * 3 + j]? = (entCells e)[j]?
  | [], i, e, j, h, _ => by simp at h
  | a :: l, 0, e, j, h, hj => by
    have h1 : flatE (a :: l) = entCells a ++ flatE l := by simp [flatE]
    simp at h
    subst h
    rw [h1, List.getElem?_append_left (by simp [entCells]; omega)]
    simp
  | a :: l, i + 1, e, j, h, hj => by
    have h1 : flatE (a :: l) = entCells a ++ flatE l := by simp [flatE]
    rw [h1, List.getElem?_append_right (by simp [entCells]; omega), show (i + 1) * 3 + j - (entCells a).length = i * 3 + j by simp [entCells]; omega]
    exact flatE_at l i e j (by simpa using h) hj

set_option maxHeartbeats 4000000 in
set_option maxRecDepth 100000 in
theorem still_any (B wb n : Nat) (E : List Ent) (w : World) (hW : LawAt B wb w n E) (hE : E.length ≤ 1000000000) (hElen : ∀ e, e ∈ E → e.len ≤ 10000000000 ∧ e.len ≤ e.cap) :
    Calls Tryz.prog 38 #[.pointer (some ⟨wb, 0, none⟩)] w fun e w' => e = .returned (.bool true) ∧ Below w.heap.size w w' := by
  obtain ⟨kv, h1, h2, h3, h4⟩ := hW
  have hkf : ∃ pv cq, kv = .slice pv E.length cq ∧ ∀ (i : Nat) (e : Ent), E[i]? = some e → ∃ kb, pv = some ⟨kb, 0, none⟩ ∧ kb < w.heap.size ∧ w.cell? ⟨kb, i * 3, none⟩ = some (.int .i64 (e.n : Int)) ∧ w.cell? ⟨kb, i * 3 + 1, none⟩ = some (.slice none 0 0) ∧ w.cell? ⟨kb, i * 3 + 2, none⟩ = some (.slice (some ⟨e.g, 0, none⟩) e.len e.cap) := by
    by_cases h0 : E.length = 0
    · obtain ⟨_, ⟨rfl, _⟩ | ⟨g, cap, cur, rfl, _⟩⟩ := h3
      · exact ⟨none, 0, by rw [h0], fun i e hi => by have := (List.getElem?_eq_some_iff.1 hi).1; omega⟩
      · exact ⟨_, cap, rfl, fun i e hi => by have := (List.getElem?_eq_some_iff.1 hi).1; omega⟩
    · obtain ⟨g, cap, rfl, hg1, hg2, hg3, hg4⟩ := own_slice h3 (by omega)
      refine ⟨_, cap, rfl, fun i e hi => ⟨g, rfl, hg2, ?_, ?_, ?_⟩⟩
      · have hil := (List.getElem?_eq_some_iff.1 hi).1
        rw [h3.cellAt (i * 3) (by omega)]
        exact flatE_at E i e 0 hi (by omega)
      · have hil := (List.getElem?_eq_some_iff.1 hi).1
        rw [h3.cellAt (i * 3 + 1) (by omega)]
        exact flatE_at E i e 1 hi (by omega)
      · have hil := (List.getElem?_eq_some_iff.1 hi).1
        rw [h3.cellAt (i * 3 + 2) (by omega)]
        exact flatE_at E i e 2 hi (by omega)
  obtain ⟨pv, cq, rfl, hkc⟩ := hkf
  go_enter Tryz.func38, Tryz.ntmps38
  go_wp2_with fail
  go_loopw [3] (fun iv wr => ∃ i : Nat, iv = .int .i64 i ∧ i ≤ E.length ∧ Below w.heap.size w wr) (fun iv _ => E.length - (intOf iv).toNat)
  case atStart => exact ⟨0, rfl, Nat.zero_le _, Below.refl _ _⟩
  case round =>
    obtain ⟨i, rfl, hin, hbw⟩ := hrel
    have hwr := hbw.heapOf h1
    have c2 : wr.cell? ⟨wb, 2, none⟩ = some (.slice pv E.length cq) := cell_at hwr rfl
    by_cases hi : i < E.length
    · have hlt : decide ((i : Int) < (E.length : Int)) = true := by simp; omega
      obtain ⟨e, he⟩ : ∃ e, E[i]? = some e := ⟨E[i], List.getElem?_eq_getElem hi⟩
      obtain ⟨kb, rfl, hkb, k0, k1, k2⟩ := hkc i e he
      have k0' := (hbw.cell (p := ⟨kb, i * 3, none⟩) hkb).trans k0
      have k1' := (hbw.cell (p := ⟨kb, i * 3 + 1, none⟩) hkb).trans k1
      have k2' := (hbw.cell (p := ⟨kb, i * 3 + 2, none⟩) hkb).trans k2
      obtain ⟨_, cur, hg, htx⟩ := h4 e (List.mem_of_getElem? he)
      obtain ⟨hel, hec⟩ := hElen e (List.mem_of_getElem? he)
      clear hkc h4 hElen
      have hb2 := hbw.al (.cells #[.int .i64 (e.n : Int), .slice none 0 0, .slice (some ⟨e.g, 0, none⟩) e.len e.cap] 123 (0, 0))
      have hKB := heap_new wr (.cells #[.int .i64 (e.n : Int), .slice none 0 0, .slice (some ⟨e.g, 0, none⟩) e.len e.cap] 123 (0, 0)) _ rfl
      have hgW := hb2.heapOf hg
      have hT : Hid (∀ W : World, Calls Tryz.prog 73 #[.int .i64 (e.n : Int)] W fun x w' => x = .returned (.string ⟨(textL e.n).toArray⟩) ∧ Below W.heap.size W w') := fun W => text_any e.n W
      generalize (⟨(textL e.n).toArray⟩ : ByteArray) = tx at *
      go_wp2_with fail
      refine wp_loop_rounds 1 ?_
      rw [rounds_succ]
      go_wp2_with fail
      generalize wr.alloc (.cells #[.int .i64 (e.n : Int), .slice none 0 0, .slice (some ⟨e.g, 0, none⟩) e.len e.cap] 123 (0, 0)) = W at *
      generalize wr.heap.size = KB at *
      go_loopw [6] (fun jv wq => ∃ j : Nat, jv = .int .i64 j ∧ j ≤ e.len ∧ Below W.heap.size W wq) (fun jv _ => e.len - (intOf jv).toNat)
      case atStart => exact ⟨0, rfl, Nat.zero_le _, Below.refl _ _⟩
      case round =>
        obtain ⟨j, rfl, hj, hbq⟩ := hrel
        have hKq := hbq.heapOf hKB
        have hgq := hbq.heapOf hgW
        have q0 : wr.cell? ⟨KB, 0, none⟩ = some (.int .i64 (e.n : Int)) := cell_at hKq rfl
        have q2 : wr.cell? ⟨KB, 2, none⟩ = some (.slice (some ⟨e.g, 0, none⟩) e.len e.cap) := cell_at hKq rfl
        by_cases hjl : j < e.len
        · have hlt2 : decide ((j : Int) < (e.len : Int)) = true := by simp; omega
          have qg : wr.cell? ⟨e.g, j, none⟩ = some (.string tx) := cell_at hgq (htx j hjl)
          have hXc : Hid (∀ W', Below wr.heap.size wr W' → W'.cell? ⟨KB, 0, none⟩ = some (.int .i64 (e.n : Int)) ∧ W'.cell? ⟨KB, 2, none⟩ = some (.slice (some ⟨e.g, 0, none⟩) e.len e.cap) ∧ W'.cell? ⟨e.g, j, none⟩ = some (.string tx) ∧ Below wr.heap.size wr W') := fun W' h => ⟨(h.cell (p := ⟨KB, 0, none⟩) (cell_lt q0)).trans q0, (h.cell (p := ⟨KB, 2, none⟩) (cell_lt q2)).trans q2, (h.cell (p := ⟨e.g, j, none⟩) (cell_lt qg)).trans qg, h⟩
          clear htx
          go_wp2_with fail
          go_region_held3 (fun W' => W'.cell? ⟨KB, 0, none⟩ = some (.int .i64 (e.n : Int)) ∧ W'.cell? ⟨KB, 2, none⟩ = some (.slice (some ⟨e.g, 0, none⟩) e.len e.cap) ∧ W'.cell? ⟨e.g, j, none⟩ = some (.string tx) ∧ Below wr.heap.size wr W')
            ((refine hXc.out _ ?_; (repeat (with_reducible (first | exact Below.refl _ _ | refine Below.drew ?_ | refine Below.tr ?_ bA)))))
            (first | (go_at_call_of 73 (Value.int IntKind.i64 (e.n : Int)); refine (hT.out _).mono ?_; rintro x wA ⟨rfl, bA⟩))
          all_goals go_wp2_with fail
          all_goals
            go_roundw
            case rel => exact ⟨j + 1, by go_num, hjl, by repeat (with_reducible (first | exact hbq | refine Below.drew ?_ | refine Below.tr ?_ bA))⟩
            case measure => simp only [intOf]; omega
        · have hlt2 : decide ((j : Int) < (e.len : Int)) = false := by simp; omega
          clear htx
          go_wp2_with fail
          go_roundw
          case rel => exact ⟨i + 1, by go_num, hi, hb2.tr hbq⟩
          case measure => simp only [intOf]; omega
    · have hlt : decide ((i : Int) < (E.length : Int)) = false := by simp; omega
      clear hkc h4 hElen
      go_wp2_with fail
      go_ret
      exact ⟨rfl, hbw⟩

end Go.Proofs.YtpbbmagjhkakgaaGreatDoor

namespace Go.Proofs.YtpbbmagjhkakgaaGreatDoor
open Go.RowKit Go.Deep

def stepV (k a nn mm : Int) (s t : ByteArray) (lv : Value) : Value := .agg #[.int .i64 k, .int .i64 a, .int .i64 nn, .int .i64 mm, .string s, .string t, lv]

set_option maxHeartbeats 4000000 in
set_option maxRecDepth 100000 in
theorem reads_print (wb : Nat) (a nn mm : Int) (s t : ByteArray) (lv : Value) (w : World) (hg : Glob w) (hw7 : 14 ≤ w.heap.size) (hs : s.size ≤ 2000000) :
    Calls Tryz.prog 54 #[.pointer (some ⟨wb, 0, none⟩), stepV 1 a nn mm s t lv] w fun e w' => e = .returned (.bool true) ∧ Below w.heap.size w w' := by
  unfold stepV
  obtain ⟨x, m, hA⟩ : ∃ x m, printA s = .tuple #[.string x, .int .i64 m] := by
    unfold printA
    cases (readF s).1 with
    | some y => exact ⟨_, _, rfl⟩
    | none => exact ⟨_, _, rfl⟩
  have P1 : Hid (∀ W, Below w.heap.size w W → Calls Tryz.prog 14 #[.string s] W fun e w' => e = .returned (.tuple #[.string x, .int .i64 m]) ∧ Below W.heap.size W w') := fun W h => by
    have := print_any s W (by unfold maxLen; omega) (hg.below h) (Nat.le_trans hw7 h.size)
    rwa [hA] at this
  have P2 : Hid (∀ W : World, Calls Tryz.prog 101 #[.string s] W fun e w' => e = .returned (.tuple #[.string x, .int .i64 m]) ∧ Below W.heap.size W w') := fun W => by
    have := rprint_any s W hs
    rwa [hA] at this
  clear hA
  have b0 := (Below.refl w.heap.size w).al (.cells #[.int .i64 1, .int .i64 a, .int .i64 nn, .int .i64 mm, .string s, .string t, lv] 73 (0, 0))
  have hO := heap_new w (.cells #[.int .i64 1, .int .i64 a, .int .i64 nn, .int .i64 mm, .string s, .string t, lv] 73 (0, 0)) _ rfl
  go_enter Tryz.func54, Tryz.ntmps54
  go_wp2_with fail
  refine (P1.out _ b0).mono ?_
  rintro e w1 ⟨rfl, b1⟩
  have c4 : w1.cell? ⟨w.heap.size, 4, none⟩ = some (.string s) := cell_at (b1.heapOf hO) rfl
  go_wp2_with fail
  refine (P2.out _).mono ?_
  rintro e w2 ⟨rfl, b2⟩
  go_wp2_with fail
  refine (num_any m _).mono ?_
  rintro e w3 ⟨rfl, rfl⟩
  go_wp2_with fail
  go_ret
  exact ⟨rfl, (b0.tr b1).tr b2⟩

set_option maxHeartbeats 4000000 in
set_option maxRecDepth 100000 in
theorem reads_reach (wb : Nat) (a nn mm : Int) (s t : ByteArray) (lv : Value) (w : World) (hg : Glob w) (hw7 : 14 ≤ w.heap.size) (hs : s.size ≤ 2000000) :
    Calls Tryz.prog 54 #[.pointer (some ⟨wb, 0, none⟩), stepV 2 a nn mm s t lv] w fun e w' => e = .returned (.bool true) ∧ Below w.heap.size w w' := by
  unfold stepV
  obtain ⟨x, m, hA⟩ : ∃ x m, reachA s = .tuple #[.int .i64 x, .int .i64 m] := by
    unfold reachA
    cases (readF s).1 with
    | some y => exact ⟨_, _, rfl⟩
    | none => exact ⟨_, _, rfl⟩
  have P1 : Hid (∀ W, Below w.heap.size w W → Calls Tryz.prog 15 #[.string s] W fun e w' => e = .returned (.tuple #[.int .i64 x, .int .i64 m]) ∧ Below W.heap.size W w') := fun W h => by
    have := reachTop_any s W (by unfold maxLen; omega) (hg.below h) (Nat.le_trans hw7 h.size)
    rwa [hA] at this
  have P2 : Hid (∀ W : World, Calls Tryz.prog 102 #[.string s] W fun e w' => e = .returned (.tuple #[.int .i64 x, .int .i64 m]) ∧ Below W.heap.size W w') := fun W => by
    have := rreachTop_any s W hs
    rwa [hA] at this
  clear hA
  have b0 := (Below.refl w.heap.size w).al (.cells #[.int .i64 2, .int .i64 a, .int .i64 nn, .int .i64 mm, .string s, .string t, lv] 73 (0, 0))
  have hO := heap_new w (.cells #[.int .i64 2, .int .i64 a, .int .i64 nn, .int .i64 mm, .string s, .string t, lv] 73 (0, 0)) _ rfl
  go_enter Tryz.func54, Tryz.ntmps54
  go_wp2_with fail
  refine (P1.out _ b0).mono ?_
  rintro e w1 ⟨rfl, b1⟩
  have c4 : w1.cell? ⟨w.heap.size, 4, none⟩ = some (.string s) := cell_at (b1.heapOf hO) rfl
  go_wp2_with fail
  refine (P2.out _).mono ?_
  rintro e w2 ⟨rfl, b2⟩
  go_wp2_with fail
  refine (num_any m _).mono ?_
  rintro e w3 ⟨rfl, rfl⟩
  go_wp2_with fail
  go_ret
  exact ⟨rfl, (b0.tr b1).tr b2⟩

set_option maxHeartbeats 1000000 in
theorem rnodes_nil (p : Option Addr) (c : Nat) (w : World) : Calls Tryz.prog 103 #[.slice p 0 c] w fun e w' => e = .returned (.tuple #[.int .i64 0, .int .i64 0]) ∧ Below w.heap.size w w' := by
  go_enter Tryz.func103, Tryz.ntmps103
  go_wp2_with fail
  refine wp_loop_rounds 1 ?_
  rw [rounds_succ]
  go_wp2_with fail
  go_ret2
  exact ⟨rfl, Below.refl _ _⟩

/-- A list that a step hands in: nil, or one that lies below B. -/
def ListAt (B : Nat) (w : World) (L : List ByteArray) (lv : Value) : Prop :=
  ((∃ p c, lv = .slice p 0 c ∧ (p = none → c = 0)) ∧ L = []) ∨ ∃ xb xo cap, lv = .slice (some ⟨xb, xo, none⟩) L.length cap ∧ xb < B ∧ ∀ j, j < L.length → w.cell? ⟨xb, xo + j, none⟩ = some (.string (L.getD j ByteArray.empty))

theorem ListAt.below {B : Nat} {w w' : World} {L : List ByteArray} {lv : Value} (h : ListAt B w L lv) (hb : Below B w w') : ListAt B w' L lv := by
  rcases h with h | ⟨xb, xo, cap, h1, h2, h3⟩
  · exact .inl h
  · exact .inr ⟨xb, xo, cap, h1, h2, fun j hj => (World.cell?_of_block (a := ⟨xb, xo + j, none⟩) (hb.block xb h2)).trans (h3 j hj)⟩

theorem lend_list (B : Nat) (L : List ByteArray) (lv : Value) (w : World) (hL : ListAt B w L lv) (hB : B ≤ w.heap.size) (hn : L.length ≤ 1100000) :
    Calls Tryz.prog 61 #[lv] w fun e w' => Below w.heap.size w w' ∧ ∃ v, e = .returned v ∧ w'.ownsRow w.heap.size 9 1 v (L.length + 2) (bstrs (L ++ [spareB, spareB])) := by
  rcases hL with ⟨⟨p, c, rfl, hp⟩, rfl⟩ | ⟨xb, xo, cap, rfl, h2, h3⟩
  · cases p with
    | none => rw [hp rfl]; exact lend_nil w
    | some a => exact lend_zero a c w
  · exact lend_any L xb xo cap w (by omega) (by omega) h3

theorem rnodes_list (B : Nat) (L : List ByteArray) (lv : Value) (w : World) (hL : ListAt B w L lv) (hB : B ≤ w.heap.size) (hn : L.length ≤ 1100000) (hm : ∀ j, j < L.length → (L.getD j ByteArray.empty).size ≤ 2000000) :
    Calls Tryz.prog 103 #[lv] w fun e w' => e = .returned (.tuple #[.int .i64 (nodesF [] L).1, .int .i64 (nodesF [] L).2]) ∧ Below w.heap.size w w' := by
  rcases hL with ⟨⟨p, c, rfl, _⟩, rfl⟩ | ⟨xb, xo, cap, rfl, h2, h3⟩
  · exact rnodes_nil p c w
  · exact rnodes_any L xb xo cap w (by omega) (by omega) h3 hm

set_option maxHeartbeats 4000000 in
set_option maxRecDepth 100000 in
theorem reads_nodes (B wb n : Nat) (E : List Ent) (a nn mm : Int) (s t : ByteArray) (L : List ByteArray) (lv : Value) (w : World) (hW : LawAt B wb w n E) (hn : n ≤ 1000000000) (hE : E.length ≤ 1000000000) (hEg : ∀ e, e ∈ E → e.g < w.heap.size) (hg : Glob w) (hB7 : 14 ≤ B) (hB : B ≤ w.heap.size) (hL : ListAt B w L lv) (hl : L.length ≤ 1100000) (hm : ∀ j, j < L.length → (L.getD j ByteArray.empty).size ≤ 2000000) :
    Calls Tryz.prog 54 #[.pointer (some ⟨wb, 0, none⟩), stepV 3 a nn mm s t lv] w fun e w' => e = .returned (.bool true) ∧ Below B w w' ∧ ∃ g cap, LawAt B wb w' (n + 1) (E ++ [⟨n + 1, L.length + 2, g, cap⟩]) ∧ L.length + 2 ≤ cap ∧ g < w'.heap.size := by
  unfold stepV
  obtain ⟨pL, cL, hLv⟩ : ∃ p c, lv = .slice p L.length c := by
    rcases hL with ⟨h1, h2⟩ | ⟨xb, xo, cap, h1, _⟩
    · exact (by obtain ⟨p, c, e, _⟩ := h1; exact ⟨p, c, by rw [e, h2]; rfl⟩)
    · exact ⟨_, _, h1⟩
  subst hLv
  have b0 := (Below.refl w.heap.size w).al (.cells #[.int .i64 3, .int .i64 a, .int .i64 nn, .int .i64 mm, .string s, .string t, .slice pL L.length cL] 73 (0, 0))
  have hO := heap_new w (.cells #[.int .i64 3, .int .i64 a, .int .i64 nn, .int .i64 mm, .string s, .string t, .slice pL L.length cL] 73 (0, 0)) _ rfl
  have hLe := lend_list B L _ _ (hL.below (b0.mono hB)) (Nat.le_trans hB b0.size) hl
  go_enter Tryz.func54, Tryz.ntmps54
  go_wp2_with fail
  refine hLe.mono ?_
  rintro e w1 ⟨b1, v, rfl, hown⟩
  obtain ⟨g, cap, rfl, hg1, hg2, hg3, hg4⟩ := own_slice hown (by omega)
  clear hLe
  have bb1 := b0.tr b1
  have hO1 := b1.heapOf hO
  have c6 : w1.cell? ⟨w.heap.size, 6, none⟩ = some (.slice pL L.length cL) := cell_at hO1 rfl
  have hc : ∀ j, j < L.length → w1.cell? ⟨g, 0 + j, none⟩ = some (.string (L.getD j ByteArray.empty)) := fun j hj => by
    rw [Nat.zero_add, hown.cellAt j (by omega)]
    unfold bstrs
    rw [List.getElem?_map, List.getElem?_append_left hj, List.getElem?_eq_getElem hj]
    simp [List.getD, hj]
  have hN := nodes_any L g 0 cap w1 (hg.below bb1) (Nat.le_trans (Nat.le_trans hB7 hB) bb1.size) (by omega) hg2 hc (fun j hj => Nat.le_trans (hm j hj) (by unfold maxLen; omega))
  have hcapI : (L.length : Int) ≤ (cap : Int) := by omega
  generalize hres : nodesF [] L = res at *
  go_wp2_with fail
  refine hN.mono ?_
  rintro e w2 ⟨rfl, b2⟩
  clear hN hc
  have bb2 := bb1.tr b2
  have c6' : w2.cell? ⟨w.heap.size, 6, none⟩ = some (.slice pL L.length cL) := cell_at (b2.heapOf hO1) rfl
  have hR := rnodes_list B L _ w2 (hL.below (bb2.mono hB)) (Nat.le_trans hB bb2.size) hl hm
  rw [hres] at hR
  clear c6
  go_wp2_with fail
  refine hR.mono ?_
  rintro e w3 ⟨rfl, b3⟩
  clear hR
  have bb3 := bb2.tr b3
  have c6'' : w3.cell? ⟨w.heap.size, 6, none⟩ = some (.slice pL L.length cL) := cell_at (b3.heapOf (b2.heapOf hO1)) rfl
  have hL3 := hL.below (bb3.mono hB)
  have hBk := back_any B wb n g cap cL E L pL w3 (hW.below bb3) hn hE (by omega) ((own_below (own_below hown b2) b3).mono (Nat.le_trans hB b0.size)) (fun e he => by have := hEg e he; have := b0.size; omega) (fun j hj => by
    rcases hL3 with ⟨_, h2⟩ | ⟨xb, xo, cap', h1, h2, h3⟩
    · rw [h2] at hj; exact absurd hj (Nat.not_lt_zero _)
    · injection h1 with h1 _ _
      exact ⟨xb, xo, h1, h2, h3 j hj⟩)
  clear c6'
  go_wp2_with fail
  refine hBk.mono ?_
  rintro e w4 ⟨rfl, hW4, b4⟩
  clear hBk
  have hgl : g < w4.heap.size := Nat.lt_of_lt_of_le hg2 (Nat.le_trans b2.size (Nat.le_trans b3.size b4.size))
  go_wp2_with fail
  refine (num_any res.2 _).mono ?_
  rintro e w5 ⟨rfl, rfl⟩
  go_wp2_with fail
  go_ret
  exact ⟨rfl, (bb3.mono hB).trans b4, g, cap, hW4, hg3, hgl⟩

end Go.Proofs.YtpbbmagjhkakgaaGreatDoor
