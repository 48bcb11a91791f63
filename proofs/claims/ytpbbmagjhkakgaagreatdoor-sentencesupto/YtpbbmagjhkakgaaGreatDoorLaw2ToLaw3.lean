/-
  What the statements' calls at the head answer, as far as Print, Reach and Nodes go: true; in a world whose package-level variables are as the program's text lays them.
-/
/-
  What the statements' own back does: a list that was lent and reads as it was: true, and its owner has written it full; no condition but those that stand in each theorem.
-/
import Derived.Test.YtpbbmagjhkakgaaGreatDoorPrinted
import Derived.Test.YtpbbmagjhkakgaaGreatDoorRNodesToLaw1
namespace Go.Proofs.YtpbbmagjhkakgaaGreatDoor
open Go.RowKit Go.Deep

theorem head_print : printA ⟨#[79, 32, 91, 48, 32, 44, 32, 53, 93, 40, 32, 112, 32, 83, 91, 49, 44, 50, 93, 32, 33, 116, 114, 117, 101, 32, 41]⟩ = .tuple #[.string ⟨#[79, 91, 48, 44, 53, 93, 40, 112, 32, 83, 91, 49, 44, 50, 93, 32, 194, 172, 116, 114, 117, 101, 41]⟩, .int .i64 0] := by kernel_rfl
theorem head_reach : reachA ⟨#[89, 91, 48, 44, 51, 93, 79, 91, 49, 44, 53, 93, 112]⟩ = .tuple #[.int .i64 8, .int .i64 0] := by kernel_rfl
theorem head_nodes : nodesF [] [⟨#[40, 97, 32, 124, 32, 98, 41]⟩, ⟨#[33, 40, 33, 97, 32, 38, 32, 33, 98, 41]⟩] = (6, 0) := by kernel_rfl

set_option maxHeartbeats 4000000 in
set_option maxRecDepth 100000 in
theorem heads_three (w : World) (hg : Glob w) (hw7 : 14 ≤ w.heap.size) :
    Calls Tryz.prog 34 #[.int .i64 3] w fun e w' => e = .returned (.bool true) ∧ Below w.heap.size w w' := by
  have p1 := print_any ⟨#[79, 32, 91, 48, 32, 44, 32, 53, 93, 40, 32, 112, 32, 83, 91, 49, 44, 50, 93, 32, 33, 116, 114, 117, 101, 32, 41]⟩ w (by decide) hg hw7
  rw [head_print] at p1
  go_enter Tryz.func34, Tryz.ntmps34
  go_wp2_with fail
  refine p1.mono ?_
  rintro e w1 ⟨rfl, b1⟩
  clear p1
  have p2 := reachTop_any ⟨#[89, 91, 48, 44, 51, 93, 79, 91, 49, 44, 53, 93, 112]⟩ w1 (by decide) (hg.below b1) (Nat.le_trans hw7 b1.size)
  rw [head_reach] at p2
  go_wp2_with fail
  refine p2.mono ?_
  rintro e w2 ⟨rfl, b2⟩
  clear p2
  have b12 := b1.tr b2
  have p3 := nodes_two ⟨#[40, 97, 32, 124, 32, 98, 41]⟩ ⟨#[33, 40, 33, 97, 32, 38, 32, 33, 98, 41]⟩ w2 (by decide) (by decide) (hg.below b12) (Nat.le_trans hw7 b12.size)
  rw [head_nodes] at p3
  go_wp2_with fail
  refine p3.mono ?_
  rintro e w3 ⟨rfl, b3⟩
  clear p3
  go_wp2_with fail
  go_ret
  exact ⟨rfl, b12.tr b3⟩

end Go.Proofs.YtpbbmagjhkakgaaGreatDoor

namespace Go.Proofs.YtpbbmagjhkakgaaGreatDoor
open Go.RowKit Go.Deep

/-- A list of the caller's: its mark, how long it is, its block, its room. -/
structure Ent where
  n : Nat
  len : Nat
  g : Nat
  cap : Nat

def entCells (e : Ent) : List Value := [.int .i64 (e.n : Int), .slice none 0 0, .slice (some ⟨e.g, 0, none⟩) e.len e.cap]
def flatE (E : List Ent) : List Value := (E.map entCells).flatten

/-- It reads as its owner wrote it. -/
def EntAt (B : Nat) (w : World) (e : Ent) : Prop := B ≤ e.g ∧ ∃ cur, w.heap[e.g]? = some (.cells cur 9 (0, 0)) ∧ ∀ j, j < e.len → cur[j]? = some (.string ⟨(textL e.n).toArray⟩)

/-- The statements' world in block wb. -/
def LawAt (B wb : Nat) (w : World) (n : Nat) (E : List Ent) : Prop :=
  ∃ kv, w.heap[wb]? = some (.cells #[.slice none 0 0, .int .i64 (n : Int), kv] 70 (0, 0)) ∧ B ≤ wb ∧ w.ownsRow B 123 3 kv E.length (flatE E) ∧ ∀ e, e ∈ E → EntAt B w e

theorem infoKept : (Tryz.prog.info? 123).map (fun i => (i.zero, i.size, i.bytes)) = some (some (.agg #[.int .i64 0, .slice none 0 0, .slice none 0 0]), 3, 56) := by kernel_rfl

theorem LawAt.below {B wb n : Nat} {w w' : World} {E : List Ent} (h : LawAt B wb w n E) (hb : Below w.heap.size w w') : LawAt B wb w' n E := by
  obtain ⟨kv, h1, h2, h3, h4⟩ := h
  refine ⟨kv, hb.heapOf h1, h2, own_below h3 hb, fun e he => ?_⟩
  obtain ⟨a, cur, b, c⟩ := h4 e he
  exact ⟨a, cur, hb.heapOf b, c⟩

theorem own_tag2 {w : World} {base size n g : Nat} {e : TypeId} {v : Value} {xs : List Value} (h : w.ownsRow base e size v n xs) (hv : v.ownBlock = some g) : ∃ cur, w.heap[g]? = some (.cells cur e (0, 0)) := by
  obtain ⟨_, ⟨rfl, _⟩ | ⟨g', cap, cur, rfl, _, hh, _⟩⟩ := h
  · cases hv
  · cases hv; exact ⟨cur, hh⟩

theorem own_heap2 {w w' : World} {base size n : Nat} {e : TypeId} {v : Value} {xs : List Value} (h : w.ownsRow base e size v n xs) (hh : ∀ k, v.ownBlock = some k → w'.heap[k]? = w.heap[k]?) : w'.ownsRow base e size v n xs := by
  obtain ⟨h1, ⟨rfl, h2⟩ | ⟨g, cap, cur, rfl, h3, h4, h5⟩⟩ := h
  · exact ⟨h1, .inl ⟨rfl, h2⟩⟩
  · exact ⟨h1, .inr ⟨g, cap, cur, rfl, h3, by rw [hh g rfl]; exact h4, h5⟩⟩

theorem cell_new3 (w : World) (x y z : Value) (t : TypeId) : ∀ j u, [x, y, z][j]? = some u → (w.alloc (.cells #[x, y, z] t)).cell? ((⟨w.heap.size, 0, none⟩ : Addr).add j) = some u := by
  intro j u hj
  have hh := heap_new w (.cells #[x, y, z] t (0, 0)) _ rfl
  have : (⟨w.heap.size, 0, none⟩ : Addr).add j = ⟨w.heap.size, j, none⟩ := by simp [Addr.add]; omega
  rw [this]
  exact cell_at hh (by simpa using hj)

/-- A lent list while it is written: the first i cells are the owner's. -/
def lentCells (n i : Nat) (L : List ByteArray) : List Value := List.replicate i (.string ⟨(textL n).toArray⟩) ++ (bstrs (L ++ [spareB, spareB])).drop i

theorem lent_get (n i : Nat) (L : List ByteArray) : (lentCells n i L)[i]? = (bstrs (L ++ [spareB, spareB]))[i]? := by
  unfold lentCells
  rw [List.getElem?_append_right (by simp)]
  simp

theorem lent_set (n i : Nat) (L : List ByteArray) (h : i < L.length + 2) : (lentCells n i L).set i (.string ⟨(textL n).toArray⟩) = lentCells n (i + 1) L := by
  unfold lentCells
  rw [List.set_append_right _ _ (by simp)]
  have hl : i < (bstrs (L ++ [spareB, spareB])).length := by rw [bstrs_len]; simp; omega
  rw [List.length_replicate, Nat.sub_self, List.drop_eq_getElem_cons hl, List.set_cons_zero, List.replicate_succ', List.append_assoc]
  rfl

theorem lent_len (n i : Nat) (L : List ByteArray) (h : i ≤ L.length + 2) : (lentCells n i L).length = L.length + 2 := by
  unfold lentCells
  simp [bstrs]
  omega

set_option maxHeartbeats 4000000 in
set_option maxRecDepth 100000 in
theorem back_any (B wb n g cap kcap : Nat) (E : List Ent) (L : List ByteArray) (kp : Option Addr) (w : World) (hW : LawAt B wb w n E) (hn : n ≤ 1000000000) (hE : E.length ≤ 1000000000) (hLl : L.length ≤ 1000000000)
    (hl : w.ownsRow B 9 1 (.slice (some ⟨g, 0, none⟩) (L.length + 2) cap) (L.length + 2) (bstrs (L ++ [spareB, spareB]))) (hgE : ∀ e, e ∈ E → e.g ≠ g)
    (hk : ∀ j, j < L.length → ∃ kb ko, kp = some ⟨kb, ko, none⟩ ∧ kb < B ∧ w.cell? ⟨kb, ko + j, none⟩ = some (.string (L.getD j ByteArray.empty))) :
    Calls Tryz.prog 63 #[.pointer (some ⟨wb, 0, none⟩), .slice (some ⟨g, 0, none⟩) (L.length + 2) cap, .slice kp L.length kcap] w fun e w' => e = .returned (.bool true) ∧ LawAt B wb w' (n + 1) (E ++ [⟨n + 1, L.length + 2, g, cap⟩]) ∧ Below B w w' := by
  obtain ⟨kv, h1, h2, h3, h4⟩ := hW
  have c1 : w.cell? ⟨wb, 1, none⟩ = some (.int .i64 (n : Int)) := cell_at h1 rfl
  have f1 : w.frozen? ⟨wb, 1, none⟩ = false := Lib.frozen_of_heap h1 1
  obtain ⟨curg, hgh⟩ := own_tag2 hl rfl
  have hgB : B ≤ g := (hl.lt g rfl).1
  have hgw : g ≠ wb := by
    rintro rfl
    rw [h1] at hgh
    injection hgh with hgh
    injection hgh with _ hgh _
    exact absurd hgh (by decide)
  have hwlt := heap_lt h1
  have hglt := heap_lt hgh
  have ho1 : Only wb w (w.setCell ⟨wb, 1, none⟩ (.int .i64 ((n : Int) + 1))) := (Only.refl wb w).setCell (p := ⟨wb, 1, none⟩) (.inl rfl) _
  have hl1 := own_heap2 (w' := w.setCell ⟨wb, 1, none⟩ (.int .i64 ((n : Int) + 1))) hl (fun k hk => ho1.block k (hl.lt k hk).2 (by injection hk with hk; subst hk; exact hgw))
  have hL0 : lentCells (n + 1) 0 L = bstrs (L ++ [spareB, spareB]) := rfl
  rw [← hL0] at hl1
  have hsz1 : (w.setCell ⟨wb, 1, none⟩ (.int .i64 ((n : Int) + 1))).heap.size = w.heap.size := by simp
  have hb1 : Below B w (w.setCell ⟨wb, 1, none⟩ (.int .i64 ((n : Int) + 1))) := (Below.refl B w).setCell (p := ⟨wb, 1, none⟩) h2 _
  have hwb1 : (w.setCell ⟨wb, 1, none⟩ (.int .i64 ((n : Int) + 1))).heap[wb]? = some (.cells #[.slice none 0 0, .int .i64 ((n : Int) + 1), kv] 70 (0, 0)) := by simp [World.setCell, Array.getElem?_modify, h1]
  go_enter Tryz.func63, Tryz.ntmps63
  go_wp2_with fail
  generalize hw1 : w.setCell ⟨wb, 1, none⟩ (.int .i64 ((n : Int) + 1)) = w1 at *
  go_loopw [8, 9] (fun okv iv wr => ∃ i : Nat, okv = .bool true ∧ iv = .int .i64 i ∧ i ≤ L.length + 2 ∧ Only g w1 wr ∧ wr.ownsRow B 9 1 (.slice (some ⟨g, 0, none⟩) (L.length + 2) cap) (L.length + 2) (lentCells (n + 1) i L)) (fun _ iv _ => L.length + 2 - (intOf iv).toNat)
  case atStart => exact ⟨0, rfl, rfl, Nat.zero_le _, Only.refl _ _, hl1⟩
  case round =>
    obtain ⟨i, rfl, rfl, hin, hO, hown⟩ := hrel
    have he : ((n + 1 : Nat) : Int) = (n : Int) + 1 := by omega
    by_cases hi : i < L.length + 2
    · have hlt : decide ((i : Int) < (L.length : Int) + 2) = true := by simp; omega
      have hT : Hid (∀ W : World, Calls Tryz.prog 73 #[.int .i64 ((n : Int) + 1)] W fun e w' => e = .returned (.string ⟨(textL (n + 1)).toArray⟩) ∧ Below W.heap.size W w') := fun W => by
        have := text_any (n + 1) W
        rwa [he] at this
      have hset := lent_set (n + 1) i L hi
      have hci0 := (hown.cellAt i (by omega)).trans (lent_get (n + 1) i L)
      have hglt2 := (hown.lt g rfl).2
      by_cases hk1 : i < L.length
      · have hlk : decide ((i : Int) < (L.length : Int)) = true := by simp; omega
        obtain ⟨kb, ko, rfl, hkB, hkc⟩ := hk i hk1
        have hci : wr.cell? ⟨g, i, none⟩ = some (.string (L.getD i ByteArray.empty)) := by
          rw [hci0]
          unfold bstrs
          rw [List.getElem?_map, List.getElem?_append_left hk1, List.getElem?_eq_getElem hk1]
          simp [List.getD, hk1]
        have hkc1 : wr.cell? ⟨kb, ko + i, none⟩ = some (.string (L.getD i ByteArray.empty)) := by
          have hkl : kb < w.heap.size := by omega
          have e1 : wr.heap[kb]? = w.heap[kb]? := (hO.block kb (by omega) (by omega)).trans (ho1.block kb hkl (by omega))
          rw [World.cell?_of_block (a := ⟨kb, ko + i, none⟩) e1]
          exact hkc
        clear hk hci0 h4
        generalize L.getD i ByteArray.empty = t at *
        generalize textL (n + 1) = tx at *
        go_wp2_with fail
        go_region
        go_wp2_with fail
        refine (hT.out _).mono ?_
        rintro e w2 ⟨rfl, b2⟩
        have hown2 := own_below (own_heap2 (w' := wr.drew) hown (fun _ _ => rfl)) b2
        have c2 : w2.cell? ⟨g, i, none⟩ = some (.string t) := (b2.cell (p := ⟨g, i, none⟩) hglt2).trans hci
        have f2 : w2.frozen? ⟨g, i, none⟩ = false := hown2.frozenAt i
        clear hT
        go_wp2_with fail
        go_roundw
        case rel => exact ⟨i + 1, rfl, by go_num, hi, (hO.drew.tb b2).setCell (p := ⟨g, i, none⟩) (.inl rfl) _, by rw [← hset]; exact (hown2.stored i _).1⟩
        case measure => simp only [intOf]; omega
      · have hlk : decide ((i : Int) < (L.length : Int)) = false := by simp; omega
        have hci : wr.cell? ⟨g, i, none⟩ = some (.string ⟨#[115, 112, 97, 114, 101]⟩) := by
          rw [hci0]
          have : i = L.length ∨ i = L.length + 1 := by omega
          rcases this with rfl | rfl
          · simp [bstrs, spareB]
          · simp [bstrs, spareB]
        clear hk hci0 h4
        generalize textL (n + 1) = tx at *
        go_wp2_with fail
        refine (hT.out _).mono ?_
        rintro e w2 ⟨rfl, b2⟩
        have hown2 := own_below hown b2
        have c2 : w2.cell? ⟨g, i, none⟩ = some (.string ⟨#[115, 112, 97, 114, 101]⟩) := (b2.cell (p := ⟨g, i, none⟩) hglt2).trans hci
        have f2 : w2.frozen? ⟨g, i, none⟩ = false := hown2.frozenAt i
        clear hT
        go_wp2_with fail
        go_roundw
        case rel => exact ⟨i + 1, rfl, by go_num, hi, (hO.tb b2).setCell (p := ⟨g, i, none⟩) (.inl rfl) _, by rw [← hset]; exact (hown2.stored i _).1⟩
        case measure => simp only [intOf]; omega
    · have hlt : decide ((i : Int) < (L.length : Int) + 2) = false := by simp; omega
      have hil : i = L.length + 2 := by omega
      subst hil
      obtain ⟨i0, hi0, hz0, hz1, hz2⟩ := info_parts infoKept
      have hwr : wr.heap[wb]? = some (.cells #[.slice none 0 0, .int .i64 ((n : Int) + 1), kv] 70 (0, 0)) := (hO.block wb (by omega) (fun e => hgw e.symm)).trans hwb1
      have d2 : wr.cell? ⟨wb, 2, none⟩ = some kv := cell_at hwr rfl
      have kvw : kv.ownBlock ≠ some wb := fun e => by
        obtain ⟨cur, hc⟩ := own_tag2 h3 e
        rw [h1] at hc
        injection hc with hc
        injection hc with _ hc _
        exact absurd hc (by decide)
      have kvg : kv.ownBlock ≠ some g := fun e => by
        obtain ⟨cur, hc⟩ := own_tag2 h3 e
        rw [hgh] at hc
        injection hc with hc
        injection hc with _ hc _
        exact absurd hc (by decide)
      have hold : ∀ k, k < w.heap.size → k ≠ wb → k ≠ g → wr.heap[k]? = w.heap[k]? := fun k hk1 hk2 hk3 => (hO.block k (by omega) hk3).trans (ho1.block k hk1 hk2)
      have hkr : wr.ownsRow B 123 3 kv E.length (flatE E) := own_heap2 h3 (fun k hk => hold k (h3.lt k hk).2 (fun e => kvw (by rw [hk, e])) (fun e => kvg (by rw [hk, e])))
      have hzr := hO.size
      have hbr : Below B w wr := hb1.trans (hO.below hgB (by omega))
      clear hk
      go_wp2_with (at_builtin; refine wpList_append_own _ rfl _ _ 68 rfl B 123 i0 _ 3 56 Tryz.underlying68 hi0 hz0 hz1 hz2 rfl (by decide) _ _ _ rfl (hkr.alloc _) ⟨wr.heap.size, 0, none⟩ 1 1 [.int .i64 ((n : Int) + 1), .slice none 0 0, .slice (some ⟨g, 0, none⟩) (L.length + 2) cap] rfl rfl (cell_new3 wr _ _ _ _) (by intro u hu; simp at hu; rcases hu with rfl | rfl | rfl <;> rfl) (by unfold maxLen; omega) (by omega) (by simp; omega) ?_)
      intro v5 w5 hown5 hgrow5 _
      obtain ⟨g5, cap5, rfl, hg51, hg52, hg53, hg54⟩ := own_slice hown5 (by omega)
      have hwrl := heap_lt hwr
      have hall : ∀ k, k < wr.heap.size → kv.ownBlock ≠ some k → w5.heap[k]? = wr.heap[k]? := fun k hk1 hk2 => by
        rw [hgrow5.block k (by simp; omega) (fun e => hk2 e.symm), Below.heap_alloc _ _ _ hk1]
      have hw5 := (hall wb hwrl kvw).trans hwr
      have e2 : w5.cell? ⟨wb, 2, none⟩ = some kv := cell_at hw5 rfl
      have fz2 : w5.frozen? ⟨wb, 2, none⟩ = false := Lib.frozen_of_heap hw5 2
      have hg5w : g5 ≠ wb := by
        rintro rfl
        obtain ⟨cur, hc⟩ := own_tag2 hown5 rfl
        rw [hw5] at hc
        injection hc with hc
        injection hc with _ hc _
        exact absurd hc (by decide)
      have b5 : Below B w w5 := (hbr.alloc (by omega) _).grown hgrow5 (by simp; omega) (fun k hk => (hkr.lt k hk).1)
      obtain ⟨curg2, hgh2⟩ := own_tag2 hown rfl
      have hglr := heap_lt hgh2
      have htx : ∀ j, j < L.length + 2 → curg2[j]? = some (Value.string ⟨(textL (n + 1)).toArray⟩) := fun j hj => by
        have h5 := hown.cellAt j (by omega)
        simp only [World.cell?, hgh2] at h5
        have h6 : curg2[j]? = (lentCells (n + 1) (L.length + 2) L)[j]? := by simpa using h5
        rw [h6]
        unfold lentCells
        rw [List.getElem?_append_left (by simp; omega)]
        simp [hj]
      have hfin : Hid (LawAt B wb (w5.setCell ⟨wb, 2, none⟩ (.slice (some ⟨g5, 0, none⟩) (E.length + 1) cap5)) (n + 1) (E ++ [⟨n + 1, L.length + 2, g, cap⟩])) := by
        refine ⟨.slice (some ⟨g5, 0, none⟩) (E.length + 1) cap5, ?_, h2, ?_, ?_⟩
        · rw [he]
          simp [World.setCell, Array.getElem?_modify, hw5]
        · have h6 := own_heap2 (w' := w5.setCell ⟨wb, 2, none⟩ (.slice (some ⟨g5, 0, none⟩) (E.length + 1) cap5)) hown5 (fun k hk => Below.heap_setCell _ _ _ _ (by injection hk with hk; subst hk; exact hg5w))
          have e7 : flatE (E ++ [⟨n + 1, L.length + 2, g, cap⟩]) = flatE E ++ [.int .i64 ((n : Int) + 1), .slice none 0 0, .slice (some ⟨g, 0, none⟩) (L.length + 2) cap] := by
            rw [← he]
            simp [flatE, entCells]
          rw [e7]
          simpa using h6
        · intro e hm
          rcases List.mem_append.1 hm with hm | hm
          · obtain ⟨a1, cur, a2, a3⟩ := h4 e hm
            have n1 : e.g ≠ wb := fun q => by
              rw [q, h1] at a2
              injection a2 with a2
              injection a2 with _ a2 _
              exact absurd a2 (by decide)
            have n2 : kv.ownBlock ≠ some e.g := fun q => by
              obtain ⟨cur2, hc⟩ := own_tag2 h3 q
              rw [a2] at hc
              injection hc with hc
              injection hc with _ hc _
              exact absurd hc (by decide)
            have n3 := hgE e hm
            have l1 := heap_lt a2
            refine ⟨a1, cur, ?_, a3⟩
            rw [Below.heap_setCell _ _ _ _ (show e.g ≠ wb from n1), hall e.g (by omega) n2, hold e.g l1 n1 n3]
            exact a2
          · simp at hm
            subst hm
            refine ⟨hgB, curg2, ?_, htx⟩
            rw [Below.heap_setCell _ _ _ _ (show g ≠ wb from hgw), hall g hglr kvg]
            exact hgh2
      have b6 : Below B w (w5.setCell ⟨wb, 2, none⟩ (.slice (some ⟨g5, 0, none⟩) (E.length + 1) cap5)) := b5.setCell (p := ⟨wb, 2, none⟩) h2 _
      clear h4 hgE htx hall hold
      go_wp2_with fail
      go_ret
      exact ⟨rfl, hfin.out, b6⟩

end Go.Proofs.YtpbbmagjhkakgaaGreatDoor
