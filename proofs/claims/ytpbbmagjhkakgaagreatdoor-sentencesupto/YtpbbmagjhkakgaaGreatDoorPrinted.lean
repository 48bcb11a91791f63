/-
  What the statement's function Printed answers: true, for every text, in a world whose package-level variables are as the program's text lays them.
-/
import Derived.Test.YtpbbmagjhkakgaaGreatDoorPut2ToNodes
namespace Go.Proofs.YtpbbmagjhkakgaaGreatDoor
open Go.RowKit Go.Deep

theorem nodes_one (s : ByteArray) (w : World) (hm : s.size ≤ maxLen) (hg : Glob w) (hw7 : 14 ≤ w.heap.size) :
    Calls Tryz.prog 16 #[.slice (some ⟨w.heap.size, 0, none⟩) 1 1] (w.alloc (.cells #[.string s] 9 (0, 0))) fun e w' => e = .returned (.tuple #[.int .i64 (nodesF [] [s]).1, .int .i64 (nodesF [] [s]).2]) ∧ Below w.heap.size w w' := by
  have hb := (Below.refl w.heap.size w).al (.cells #[.string s] 9 (0, 0))
  have hh := heap_new w (.cells #[.string s] 9 (0, 0)) _ rfl
  refine (nodes_any [s] w.heap.size 0 1 _ (hg.below hb) (Nat.le_trans hw7 hb.size) (by simp) (by simp) ?_ ?_).mono ?_
  · intro j hj
    obtain rfl : j = 0 := by simp at hj; omega
    exact cell_at hh rfl
  · intro j hj
    obtain rfl : j = 0 := by simp at hj; omega
    exact hm
  · rintro e w' ⟨rfl, hb2⟩
    exact ⟨rfl, hb.tr hb2⟩

theorem nodes_two (s t : ByteArray) (w : World) (hm : s.size ≤ maxLen) (hm2 : t.size ≤ maxLen) (hg : Glob w) (hw7 : 14 ≤ w.heap.size) :
    Calls Tryz.prog 16 #[.slice (some ⟨w.heap.size, 0, none⟩) 2 2] (w.alloc (.cells #[.string s, .string t] 9 (0, 0))) fun e w' => e = .returned (.tuple #[.int .i64 (nodesF [] [s, t]).1, .int .i64 (nodesF [] [s, t]).2]) ∧ Below w.heap.size w w' := by
  have hb := (Below.refl w.heap.size w).al (.cells #[.string s, .string t] 9 (0, 0))
  have hh := heap_new w (.cells #[.string s, .string t] 9 (0, 0)) _ rfl
  refine (nodes_any [s, t] w.heap.size 0 2 _ (hg.below hb) (Nat.le_trans hw7 hb.size) (by simp) (by simp) ?_ ?_).mono ?_
  · intro j hj
    have : j = 0 ∨ j = 1 := by simp at hj; omega
    rcases this with rfl | rfl
    · exact cell_at hh rfl
    · exact cell_at hh rfl
  · intro j hj
    have : j = 0 ∨ j = 1 := by simp at hj; omega
    rcases this with rfl | rfl
    · exact hm
    · exact hm2
  · rintro e w' ⟨rfl, hb2⟩
    exact ⟨rfl, hb.tr hb2⟩

theorem first_text : printA ⟨#[40, 32, 97, 38, 33, 98, 32, 41]⟩ = .tuple #[.string ⟨#[40, 97, 32, 226, 136, 167, 32, 194, 172, 98, 41]⟩, .int .i64 0] := by kernel_rfl
theorem second_text : printA ⟨#[79, 91, 48, 44, 53, 93, 112]⟩ = .tuple #[.string ⟨#[79, 91, 48, 44, 53, 93, 112]⟩, .int .i64 0] := by kernel_rfl

set_option maxHeartbeats 1000000 in
theorem printed_any (s : ByteArray) (w : World) (hm : s.size ≤ maxLen) (hg : Glob w) (hw7 : 14 ≤ w.heap.size) :
    Calls Tryz.prog 4 #[.string s] w fun e w' => e = .returned (.bool true) ∧ Below w.heap.size w w' := by
  have p1 := print_any ⟨#[40, 32, 97, 38, 33, 98, 32, 41]⟩ w (by decide) hg hw7
  rw [first_text] at p1
  go_enter Tryz.func4, Tryz.ntmps4
  go_wp2_with fail
  refine p1.mono ?_
  rintro e w1 ⟨rfl, hb1⟩
  clear p1
  have p2 := print_any ⟨#[79, 91, 48, 44, 53, 93, 112]⟩ w1 (by decide) (hg.below hb1) (Nat.le_trans hw7 hb1.size)
  rw [second_text] at p2
  go_wp2_with fail
  refine p2.mono ?_
  rintro e w2 ⟨rfl, hb2'⟩
  have hb2 := hb1.tr hb2'
  clear p2 hb1 hb2'
  have p3 := print_any s w2 hm (hg.below hb2) (Nat.le_trans hw7 hb2.size)
  cases hr : readF s with
  | mk o n =>
  cases o with
  | none =>
    have e1 : printA s = .tuple #[.string ⟨#[]⟩, .int .i64 n] := by unfold printA; rw [hr]
    have e2 : reachA s = .tuple #[.int .i64 0, .int .i64 n] := by unfold reachA; rw [hr]
    have e3 : nodesF [] [s] = (0, n) := by unfold nodesF; rw [hr]
    have hn := readF_none hr
    rw [e1] at p3
    go_wp2_with fail
    refine p3.mono ?_
    rintro e w3 ⟨rfl, hb3'⟩
    have hb3 := hb2.tr hb3'
    clear p3 hb2 hb3'
    have p4 := reachTop_any s w3 hm (hg.below hb3) (Nat.le_trans hw7 hb3.size)
    rw [e2] at p4
    go_wp2_with fail
    refine p4.mono ?_
    rintro e w4 ⟨rfl, hb4'⟩
    have hb4 := hb3.tr hb4'
    clear p4 hb3 hb4'
    have p5 := nodes_one s w4 hm (hg.below hb4) (Nat.le_trans hw7 hb4.size)
    rw [e3] at p5
    go_wp2_with fail
    refine p5.mono ?_
    rintro e w5 ⟨rfl, hb5'⟩
    have hb5 := hb4.tr hb5'
    clear p5 hb4 hb5' hr e1 e2 e3
    rcases hn with rfl | rfl
    · go_wp2_with fail
      go_ret
      exact ⟨rfl, hb5⟩
    · go_wp2_with fail
      go_ret
      exact ⟨rfl, hb5⟩
  | some x =>
    obtain ⟨hgd, hz, hd, rfl⟩ := readF_sound hr
    have hpl := print_le hgd hd
    have hag := read_again hr
    have hsz : (⟨(printB x).toArray⟩ : ByteArray).size = (printB x).length := by simp [ByteArray.size]
    have e1 : printA s = .tuple #[.string ⟨(printB x).toArray⟩, .int .i64 0] := by unfold printA; rw [hr]
    have e2 : reachA s = .tuple #[.int .i64 (reachT x), .int .i64 0] := by unfold reachA; rw [hr]
    have e3 : nodesF [] [s] = (((putK [] (coreT x)).2.length : Int), 0) := by unfold nodesF; rw [hr]; rfl
    have h1 : 1 ≤ (putK [] (coreT x)).2.length := putK_one (good_core hgd).ne []
    have h2 : (putK [] (coreT x)).2.length ≤ 16384 := by have := putK_len (coreT x) []; have := nodes_le hd; simp at *; omega
    have h3 := reachT_nonneg hgd.win
    have hlong : 300 < (printB x).length → printA ⟨(printB x).toArray⟩ = .tuple #[.string ⟨#[]⟩, .int .i64 1] ∧ reachA ⟨(printB x).toArray⟩ = .tuple #[.int .i64 0, .int .i64 1] ∧ nodesF [] [s, ⟨(printB x).toArray⟩] = (0, 1) := by
      intro hl
      rw [if_neg (by omega)] at hag
      refine ⟨by unfold printA; rw [hag], by unfold reachA; rw [hag], ?_⟩
      rw [nodesF, hr]
      simp only
      rw [nodesF, hag]
    have hshort : (printB x).length ≤ 300 → printA ⟨(printB x).toArray⟩ = .tuple #[.string ⟨(printB x).toArray⟩, .int .i64 0] ∧ reachA ⟨(printB x).toArray⟩ = .tuple #[.int .i64 (reachT x), .int .i64 0] ∧ nodesF [] [s, ⟨(printB x).toArray⟩] = (((putK [] (coreT x)).2.length : Int), 0) := by
      intro hl
      rw [if_pos hl] at hag
      refine ⟨by unfold printA; rw [hag], by unfold reachA; rw [hag], ?_⟩
      rw [nodesF, hr]
      simp only
      rw [nodesF, hag]
      simp only
      rw [putK_again (coreT x) [] _ (Grew.refl _)]
      rfl
    rw [← hsz] at hpl hlong hshort
    clear hag
    generalize (⟨(printB x).toArray⟩ : ByteArray) = t at *
    generalize reachT x = rx at *
    generalize (putK [] (coreT x)).2.length = mx at *
    rw [e1] at p3
    go_wp2_with fail
    refine p3.mono ?_
    rintro e w3 ⟨rfl, hb3'⟩
    have hb3 := hb2.tr hb3'
    clear p3 hb2 hb3'
    have p4 := reachTop_any s w3 hm (hg.below hb3) (Nat.le_trans hw7 hb3.size)
    rw [e2] at p4
    go_wp2_with fail
    refine p4.mono ?_
    rintro e w4 ⟨rfl, hb4'⟩
    have hb4 := hb3.tr hb4'
    clear p4 hb3 hb4'
    have p5 := nodes_one s w4 hm (hg.below hb4) (Nat.le_trans hw7 hb4.size)
    rw [e3] at p5
    go_wp2_with fail
    refine p5.mono ?_
    rintro e w5 ⟨rfl, hb5'⟩
    have hb5 := hb4.tr hb5'
    clear p5 hb4 hb5' hr e1 e2 e3
    have hmt : t.size ≤ maxLen := Nat.le_trans hpl (by decide)
    have p6 := print_any t w5 hmt (hg.below hb5) (Nat.le_trans hw7 hb5.size)
    by_cases hl : t.size ≤ 300
    · obtain ⟨e1, e2, e3⟩ := hshort hl
      clear hlong hshort
      rw [e1] at p6
      go_wp2_with fail
      refine p6.mono ?_
      rintro e w6 ⟨rfl, hb6'⟩
      have hb6 := hb5.tr hb6'
      clear p6 hb5 hb6'
      have p7 := reachTop_any t w6 hmt (hg.below hb6) (Nat.le_trans hw7 hb6.size)
      rw [e2] at p7
      go_wp2_with fail
      refine p7.mono ?_
      rintro e w7 ⟨rfl, hb7'⟩
      have hb7 := hb6.tr hb7'
      clear p7 hb6 hb7'
      have p8 := nodes_two s t w7 hm hmt (hg.below hb7) (Nat.le_trans hw7 hb7.size)
      rw [e3] at p8
      go_wp2_with fail
      refine p8.mono ?_
      rintro e w8 ⟨rfl, hb8'⟩
      have hb8 := hb7.tr hb8'
      clear p8 hb7 hb8' e1 e2 e3
      go_wp2_with fail
      all_goals go_ret
      all_goals exact ⟨by simp <;> omega, hb8⟩
    · obtain ⟨e1, e2, e3⟩ := hlong (by omega)
      clear hlong hshort
      rw [e1] at p6
      go_wp2_with fail
      refine p6.mono ?_
      rintro e w6 ⟨rfl, hb6'⟩
      have hb6 := hb5.tr hb6'
      clear p6 hb5 hb6'
      have p7 := reachTop_any t w6 hmt (hg.below hb6) (Nat.le_trans hw7 hb6.size)
      rw [e2] at p7
      go_wp2_with fail
      refine p7.mono ?_
      rintro e w7 ⟨rfl, hb7'⟩
      have hb7 := hb6.tr hb7'
      clear p7 hb6 hb7'
      have p8 := nodes_two s t w7 hm hmt (hg.below hb7) (Nat.le_trans hw7 hb7.size)
      rw [e3] at p8
      go_wp2_with fail
      refine p8.mono ?_
      rintro e w8 ⟨rfl, hb8'⟩
      have hb8 := hb7.tr hb8'
      clear p8 hb7 hb8' e1 e2 e3
      go_wp2_with fail
      all_goals go_ret
      all_goals exact ⟨by simp <;> omega, hb8⟩

end Go.Proofs.YtpbbmagjhkakgaaGreatDoor
