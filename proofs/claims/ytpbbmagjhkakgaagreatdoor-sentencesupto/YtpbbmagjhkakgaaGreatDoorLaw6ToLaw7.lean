/-
  What the statements' own step and upTo do where the steps go no further than Nodes: each step is as the document says; in a world whose package-level variables are as the program's text lays them, at scripts of at most a million steps, with texts of at most two million bytes and lists of at most a million texts.
-/
/-
  What the statement's function Sentences answers: true, for every script of at most a hundred million steps whose texts have at most 2,000,000 bytes and whose lists at most 1,100,000 texts, in a world whose package-level variables are as the program's text lays them.
-/
import Derived.Test.YtpbbmagjhkakgaaGreatDoorLaw4ToLaw5
namespace Go.Proofs.YtpbbmagjhkakgaaGreatDoor
open Go.RowKit Go.Deep

/-- The statements' world behind at most m steps. -/
def Inv (B wb : Nat) (w : World) (m : Nat) : Prop :=
  ∃ n E, LawAt B wb w n E ∧ n ≤ m ∧ E.length ≤ m ∧ ∀ e, e ∈ E → e.g < w.heap.size ∧ e.len ≤ e.cap ∧ e.len ≤ 1100002

theorem Inv.below {B wb m : Nat} {w w' : World} (h : Inv B wb w m) (hb : Below w.heap.size w w') : Inv B wb w' m := by
  obtain ⟨n, E, h1, h2, h3, h4⟩ := h
  exact ⟨n, E, h1.below hb, h2, h3, fun e he => by obtain ⟨a, b, c⟩ := h4 e he; exact ⟨Nat.lt_of_lt_of_le a hb.size, b, c⟩⟩

theorem Inv.mono {B wb m m' : Nat} {w : World} (h : Inv B wb w m) (hm : m ≤ m') : Inv B wb w m' := by
  obtain ⟨n, E, h1, h2, h3, h4⟩ := h
  exact ⟨n, E, h1, Nat.le_trans h2 hm, Nat.le_trans h3 hm, h4⟩

/-- reads, at each of its kinds. -/
theorem reads_any (B wb m : Nat) (k a nn mm : Int) (s t : ByteArray) (L : List ByteArray) (lv : Value) (w : World) (hk : k = 1 ∨ k = 2 ∨ k = 3) (hI : Inv B wb w m) (hm : m ≤ 1000000000) (hg : Glob w) (hB7 : 14 ≤ B) (hB : B ≤ w.heap.size) (hs : s.size ≤ 2000000) (hL : ListAt B w L lv) (hl : L.length ≤ 1100000) (hLm : ∀ j, j < L.length → (L.getD j ByteArray.empty).size ≤ 2000000) :
    Calls Tryz.prog 54 #[.pointer (some ⟨wb, 0, none⟩), stepV k a nn mm s t lv] w fun e w' => e = .returned (.bool true) ∧ Below B w w' ∧ Inv B wb w' (m + 1) := by
  rcases hk with rfl | rfl | rfl
  · refine (reads_print wb a nn mm s t lv w hg (Nat.le_trans hB7 hB) hs).mono ?_
    rintro e w' ⟨rfl, hb⟩
    exact ⟨rfl, hb.mono hB, (hI.below hb).mono (Nat.le_succ _)⟩
  · refine (reads_reach wb a nn mm s t lv w hg (Nat.le_trans hB7 hB) hs).mono ?_
    rintro e w' ⟨rfl, hb⟩
    exact ⟨rfl, hb.mono hB, (hI.below hb).mono (Nat.le_succ _)⟩
  · obtain ⟨n, E, h1, h2, h3, h4⟩ := hI
    refine (reads_nodes B wb n E a nn mm s t L lv w h1 (by omega) (by omega) (fun e he => (h4 e he).1) hg hB7 hB hL hl hLm).mono ?_
    rintro e w' ⟨rfl, hb, g, cap, hW, hc, hgl⟩
    refine ⟨rfl, hb, n + 1, _, hW, by omega, by simp; omega, fun e he => ?_⟩
    rcases List.mem_append.1 he with he | he
    · obtain ⟨x1, x2, x3⟩ := h4 e he
      exact ⟨Nat.lt_of_lt_of_le x1 hb.size, x2, x3⟩
    · simp at he
      subst he
      exact ⟨hgl, hc, by show L.length + 2 ≤ 1100002; omega⟩

set_option maxHeartbeats 4000000 in
set_option maxRecDepth 100000 in
theorem step_any (B wb m : Nat) (k a nn mm : Int) (s t : ByteArray) (L : List ByteArray) (lv : Value) (w : World) (hk : k ≤ 3) (hI : Inv B wb w m) (hm : m ≤ 1000000000) (hg : Glob w) (hB7 : 14 ≤ B) (hB : B ≤ w.heap.size) (hs : s.size ≤ 2000000) (hL : ListAt B w L lv) (hl : L.length ≤ 1100000) (hLm : ∀ j, j < L.length → (L.getD j ByteArray.empty).size ≤ 2000000) :
    Calls Tryz.prog 35 #[.pointer (some ⟨wb, 0, none⟩), stepV k a nn mm s t lv] w fun e w' => e = .returned (.bool true) ∧ Below B w w' ∧ Inv B wb w' (m + 1) := by
  obtain ⟨pL, cL, hLv⟩ : ∃ p c, lv = .slice p L.length c := by
    rcases hL with ⟨h1, h2⟩ | ⟨xb, xo, cap, h1, _⟩
    · exact (by obtain ⟨p, c, e, _⟩ := h1; exact ⟨p, c, by rw [e, h2]; rfl⟩)
    · exact ⟨_, _, h1⟩
  subst hLv
  have b0 := (Below.refl w.heap.size w).al (.cells #[.int .i64 k, .int .i64 a, .int .i64 nn, .int .i64 mm, .string s, .string t, .slice pL L.length cL] 73 (0, 0))
  by_cases h1 : 1 ≤ k
  · have q1 : decide ((1 : Int) ≤ k) = true := by simp [h1]
    have q3 : decide (k ≤ 3) = true := by simp [hk]
    have hR := reads_any B wb m k a nn mm s t L _ _ (by omega) (hI.below b0) hm (hg.below b0) hB7 (Nat.le_trans hB b0.size) hs (hL.below (b0.mono hB)) hl hLm
    unfold stepV at hR ⊢
    go_enter Tryz.func35, Tryz.ntmps35
    go_wp2_with fail
    refine hR.mono ?_
    rintro e w1 ⟨rfl, b1, hI1⟩
    clear hR
    go_wp2_with fail
    go_ret
    exact ⟨rfl, (b0.mono hB).trans b1, hI1⟩
  · have q1 : decide ((1 : Int) ≤ k) = false := by simp; omega
    have q4 : (k == 4) = false := by simp only [beq_eq_false_iff_ne]; omega
    have hI2 := (hI.below b0).mono (Nat.le_succ m)
    obtain ⟨n, E, ⟨kv, hwb, _⟩, _⟩ := hI
    have c0 : w.cell? ⟨wb, 0, none⟩ = some (.slice none 0 0) := cell_at hwb rfl
    have hwl := heap_lt hwb
    have hwn : wb ≠ w.heap.size := by omega
    unfold stepV
    go_enter Tryz.func35, Tryz.ntmps35
    go_wp2_with fail
    go_ret
    exact ⟨rfl, b0.mono hB, hI2⟩

end Go.Proofs.YtpbbmagjhkakgaaGreatDoor

namespace Go.Proofs.YtpbbmagjhkakgaaGreatDoor
open Go.RowKit Go.Deep

/-- A step. -/
structure StepR where
  k : Int
  a : Int
  nn : Int
  mm : Int
  s : ByteArray
  t : ByteArray
  L : List ByteArray
  lv : Value

def stepCells (x : StepR) : List Value := [.int .i64 x.k, .int .i64 x.a, .int .i64 x.nn, .int .i64 x.mm, .string x.s, .string x.t, x.lv]

/-- A step that lies below B, of modest size. -/
structure StepOK (B : Nat) (w : World) (x : StepR) : Prop where
  s : x.s.size ≤ 2000000
  L : ListAt B w x.L x.lv
  l : x.L.length ≤ 1100000
  m : ∀ j, j < x.L.length → (x.L.getD j ByteArray.empty).size ≤ 2000000

/-- A script in memory. -/
def ScriptAt (B : Nat) (w : World) (S : List StepR) (v : Value) : Prop :=
  ∃ px cap, v = .slice px S.length cap ∧ ∀ i x, S[i]? = some x → StepOK B w x ∧ ∃ xb xo, px = some ⟨xb, xo, none⟩ ∧ xb < B ∧ ∀ j u, (stepCells x)[j]? = some u → w.cell? ⟨xb, xo + i * 7 + j, none⟩ = some u

set_option maxHeartbeats 4000000 in
set_option maxRecDepth 100000 in
theorem upTo_three (S : List StepR) (v : Value) (w : World) (hS : ScriptAt w.heap.size w S v) (hn : S.length ≤ 100000000) (hg : Glob w) (hw7 : 14 ≤ w.heap.size) :
    Calls Tryz.prog 13 #[v, .int .i64 3] w fun e w' => e = .returned (.int .i64 (-1)) ∧ Below w.heap.size w w' := by
  obtain ⟨px, cap, rfl, hst⟩ := hS
  have hH := heads_three w hg hw7
  go_enter Tryz.func13, Tryz.ntmps13
  go_wp2_with fail
  refine hH.mono ?_
  rintro e w1 ⟨rfl, b1⟩
  clear hH
  have b2 := b1.al (.cells #[.slice none 0 0, .int .i64 0, .slice none 0 0] 70 (0, 0))
  have hI0 : Inv w.heap.size w1.heap.size (w1.alloc (.cells #[.slice none 0 0, .int .i64 0, .slice none 0 0] 70 (0, 0))) 0 := ⟨0, [], ⟨_, heap_new _ _ _ rfl, b1.size, World.ownsRow_nil _ _ _ _, fun e he => by cases he⟩, Nat.le_refl _, Nat.le_refl _, fun e he => by cases he⟩
  go_wp2_with fail
  generalize hwb : w1.heap.size = wb at *
  go_loopw [7] (fun iv wr => ∃ i : Nat, iv = .int .i64 i ∧ i ≤ S.length ∧ Inv w.heap.size wb wr i ∧ Below w.heap.size w wr) (fun iv _ => S.length - (intOf iv).toNat)
  case atStart => exact ⟨0, rfl, Nat.zero_le _, hI0, b2⟩
  case round =>
    obtain ⟨i, rfl, hin, hI, hbw⟩ := hrel
    clear hI0 b2
    by_cases hi : i < S.length
    · have hlt : decide ((i : Int) < (S.length : Int)) = true := by simp; omega
      obtain ⟨x, hx⟩ : ∃ x, S[i]? = some x := ⟨S[i], List.getElem?_eq_getElem hi⟩
      obtain ⟨hok, xb, xo, rfl, hxb, hcell⟩ := hst i x hx
      have hcl : ∀ j u, (stepCells x)[j]? = some u → wr.cell? ⟨xb, xo + i * 7 + j, none⟩ = some u := fun j u hj => (hbw.cell (p := ⟨xb, xo + i * 7 + j, none⟩) hxb).trans (hcell j u hj)
      have c0 : wr.cell? ⟨xb, xo + i * 7, none⟩ = some (.int .i64 x.k) := hcl 0 _ rfl
      have c1 := hcl 1 _ rfl
      have c2 := hcl 2 _ rfl
      have c3 := hcl 3 _ rfl
      have c4 := hcl 4 _ rfl
      have c5 := hcl 5 _ rfl
      have c6 := hcl 6 _ rfl
      by_cases hk : x.k ≤ 3
      · have q3 : decide ((3 : Int) < x.k) = false := by simp; omega
        obtain ⟨hs1, hL1, hl1, hm1⟩ := hok
        have hStep := step_any w.heap.size wb i x.k x.a x.nn x.mm x.s x.t x.L x.lv wr hk hI (by omega) (hg.below hbw) hw7 hbw.size hs1 (hL1.below hbw) hl1 hm1
        unfold stepV at hStep
        obtain ⟨pL, cL, hLv⟩ : ∃ p c, x.lv = .slice p x.L.length c := by
          rcases hL1 with ⟨h1, h2⟩ | ⟨xb, xo, cap, h1, _⟩
          · exact (by obtain ⟨p, c, e, _⟩ := h1; exact ⟨p, c, by rw [e, h2]; rfl⟩)
          · exact ⟨_, _, h1⟩
        rw [hLv] at hStep c6
        clear hst hcell hcl
        go_wp2_with fail
        refine hStep.mono ?_
        rintro e w2 ⟨rfl, bs, hI2⟩
        clear hStep
        have hI2' := hI2
        obtain ⟨n, E, hW, hnn, hEl, hEe⟩ := hI2
        have hSt := still_any w.heap.size wb n E w2 hW (by omega) (fun e he => by obtain ⟨_, y1, y2⟩ := hEe e he; exact ⟨by omega, y1⟩)
        go_wp2_with fail
        refine hSt.mono ?_
        rintro e w3 ⟨rfl, b3⟩
        clear hSt
        have bw3 : Below w.heap.size w w3 := (hbw.trans bs).trans (b3.mono (by have := hbw.size; have := bs.size; omega))
        go_wp2_with fail
        go_roundw
        case rel => exact ⟨i + 1, by go_num, hi, hI2'.below b3, bw3⟩
        case measure => simp only [intOf]; omega
      · have q3 : decide ((3 : Int) < x.k) = true := by simp; omega
        clear hst hcell hcl
        go_wp2_with fail
        go_roundw
        case rel => exact ⟨i + 1, by go_num, hi, hI.mono (Nat.le_succ _), hbw⟩
        case measure => simp only [intOf]; omega
    · have hlt : decide ((i : Int) < (S.length : Int)) = false := by simp; omega
      clear hst
      go_wp2_with fail
      go_ret
      exact ⟨rfl, hbw⟩

set_option maxHeartbeats 400000 in
theorem sentences_any (S : List StepR) (v : Value) (w : World) (hS : ScriptAt w.heap.size w S v) (hn : S.length ≤ 100000000) (hg : Glob w) (hw7 : 14 ≤ w.heap.size) :
    Calls Tryz.prog 3 #[v] w fun e w' => e = .returned (.bool true) ∧ Below w.heap.size w w' := by
  have hU := upTo_three S v w hS hn hg hw7
  obtain ⟨px, cap, rfl, _⟩ := hS
  go_enter Tryz.func3, Tryz.ntmps3
  go_wp2_with fail
  refine hU.mono ?_
  rintro e w1 ⟨rfl, b1⟩
  clear hU
  go_wp2_with fail
  go_ret
  exact ⟨rfl, b1⟩

end Go.Proofs.YtpbbmagjhkakgaaGreatDoor
