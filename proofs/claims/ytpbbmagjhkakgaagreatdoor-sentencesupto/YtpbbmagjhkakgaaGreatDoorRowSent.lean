/-
  Sentences, proved of every script whose bulk is at most 1,048,576: on every schedule the call returns true, without a data race, no other goroutine is left, and the script reads as it did; the package-level variables start as the program's text lays them (the tie is given).
-/
import Derived.Test.YtpbbmagjhkakgaaGreatDoorRowGlob
import Derived.Test.YtpbbmagjhkakgaaGreatDoorLaw6ToLaw7
import Derived.Carry
import Derived.Deep.Strs
import Derived.Deep.DeepHandedRow
import Derived.Deep.DeepWitnessRowRef
namespace Go.Proofs.YtpbbmagjhkakgaaGreatDoor
open Go.ChangeShapes Go.WideShapes Go.ChangeAt Go.RowKit Go.Deep

/-! The bulk. -/

theorem bulk_one {H : Type} (d : DataW H) : 1 ≤ Rows.uptoBulk d := by
  cases d with
  | lit l => cases l <;> simp [Rows.uptoBulk]
  | _ => simp [Rows.uptoBulk]

theorem bulk_at {H : Type} {l : List (DataW H)} {i : Nat} {d : DataW H} (h : l[i]? = some d) : Rows.uptoBulk d ≤ Rows.uptoBulkAll l := by
  induction l generalizing i with
  | nil => simp at h
  | cons x r ih =>
    simp only [Rows.uptoBulkAll]
    cases i with
    | zero => simp at h; subst h; omega
    | succ i => have := ih (by simpa using h); omega

theorem bulk_len {H : Type} (l : List (DataW H)) : l.length ≤ Rows.uptoBulkAll l := by
  induction l with
  | nil => simp [Rows.uptoBulkAll]
  | cons x r ih => have := bulk_one x; simp only [Rows.uptoBulkAll, List.length_cons]; omega

theorem bulk_str {H : Type} (s : ByteArray) : Rows.uptoBulk (DataW.lit (H := H) (.string s.data.toList)) = s.size + 1 := by
  simp only [Rows.uptoBulk, Array.length_toList]; rfl

theorem bulk_slice {H : Type} (a b : List (DataW H)) : Rows.uptoBulk (.slice a b) = Rows.uptoBulkAll a + Rows.uptoBulkAll b + 1 := by simp only [Rows.uptoBulk]

theorem list7 {α : Type} {l : List α} (h : l.length = 7) : ∃ a b c d e f g, l = [a, b, c, d, e, f, g] := by
  match l, h with
  | [a, b, c, d, e, f, g], _ => exact ⟨a, b, c, d, e, f, g, rfl⟩

theorem cStep : Tryz.prog.cellsOf 73 = 7 := by kernel_rfl
theorem cStrs : Tryz.prog.cellsOf 31 = 1 := by kernel_rfl
theorem cIntS : Tryz.prog.cellsOf 3 = 1 := by kernel_rfl
theorem cStrS : Tryz.prog.cellsOf 9 = 1 := by kernel_rfl
theorem laidOutZ : laidOutB Tryz.prog = true := by kernel_rfl
theorem rowS : 22 < Tryz.prog.types.size := by rw [zsize]; decide
theorem readS : Tryz.prog.readableRec 22 = true := by kernel_rfl

section
variable {H : Type} {enc : TypeId × Value → H} {w : World}

/-- A list of texts. -/
theorem list_open {fuel : Nat} {lv : Value} {x : DataW H × List MemPlace} (h : DataW.trod enc Tryz.prog w 0 (fun _ => true) true fuel 31 [lv] = some x) :
    ∃ L, ListAt w.heap.size w L lv ∧ L.length ≤ Rows.uptoBulk x.1 ∧ ∀ j, j < L.length → (L.getD j ByteArray.empty).size ≤ Rows.uptoBulk x.1 := by
  rcases open_strs Tryz.underlying31 Tryz.underlying9 cStrS h with ⟨h1, rfl⟩ | ⟨a, len, cap, m, Sx, h1, _, hl, _, hm, rfl, hc⟩
  · obtain rfl : lv = .slice none 0 0 := by simpa using h1
    exact ⟨[], .inl ⟨⟨none, 0, rfl, fun _ => rfl⟩, rfl⟩, Nat.zero_le _, fun j hj => absurd hj (Nat.not_lt_zero _)⟩
  · obtain rfl : lv = .slice (some a) len cap := by simpa using h1
    have hmc : m = cap := by simpa using hm
    subst hmc
    have hlen : ((List.range len).map Sx).length = len := by simp
    have hget : ∀ j, j < len → ((List.range len).map Sx).getD j ByteArray.empty = Sx j := fun j hj => by simp [List.getD, hj]
    refine ⟨(List.range len).map Sx, ?_, ?_, ?_⟩
    · by_cases h0 : len = 0
      · subst h0
        exact .inl ⟨⟨some a, m, rfl, fun h => by cases h⟩, rfl⟩
      · have hc0 := (hc 0 (by omega)).1
        obtain ⟨b, o, sp⟩ := a
        have hsp : sp = none := World.cell?_spot hc0
        subst hsp
        refine .inr ⟨b, o, m, by rw [hlen], ?_, fun j hj => ?_⟩
        · have := cell_lt hc0
          simpa [Addr.add] using this
        · rw [hlen] at hj
          rw [hget j hj]
          exact (congrArg w.cell? (by simp [Addr.add])).trans (hc j (by omega)).1
    · rw [hlen, bulk_slice]
      have := bulk_len ((List.range len).map fun i => (DataW.lit (.string (Sx i).data.toList) : DataW H))
      simp at this
      omega
    · intro j hj
      rw [hlen] at hj
      rw [hget j hj, bulk_slice]
      have := bulk_at (l := (List.range len).map fun i => (DataW.lit (.string (Sx i).data.toList) : DataW H)) (i := j) (d := .lit (.string (Sx j).data.toList)) (by simp [hj])
      rw [bulk_str] at this
      omega

theorem struct_seven {P : Program} {base : Nat} {spare : Nat → Bool} {held : Bool} {t : TypeId} {f0 f1 f2 f3 f4 f5 f6 : Field} {fuel : Nat} {cs : List Value} {x : DataW H × List MemPlace} (ht : P.underlying t = some (.struct #[f0, f1, f2, f3, f4, f5, f6])) (h : DataW.trod enc P w base spare held fuel t cs = some x) :
    ∃ y0 y1 y2 y3 y4 y5 y6 n, x.1 = .agg [y0.1, y1.1, y2.1, y3.1, y4.1, y5.1, y6.1] ∧ cs.length = P.cellsOf t ∧
      DataW.trod enc P w base spare held n f0.type ((cs.drop f0.offset).take (P.cellsOf f0.type)) = some y0 ∧
      DataW.trod enc P w base spare held n f1.type ((cs.drop f1.offset).take (P.cellsOf f1.type)) = some y1 ∧
      DataW.trod enc P w base spare held n f2.type ((cs.drop f2.offset).take (P.cellsOf f2.type)) = some y2 ∧
      DataW.trod enc P w base spare held n f3.type ((cs.drop f3.offset).take (P.cellsOf f3.type)) = some y3 ∧
      DataW.trod enc P w base spare held n f4.type ((cs.drop f4.offset).take (P.cellsOf f4.type)) = some y4 ∧
      DataW.trod enc P w base spare held n f5.type ((cs.drop f5.offset).take (P.cellsOf f5.type)) = some y5 ∧
      DataW.trod enc P w base spare held n f6.type ((cs.drop f6.offset).take (P.cellsOf f6.type)) = some y6 := by
  obtain ⟨xs, n, _, rfl, hl, hlen, hf⟩ := DataW.trod_struct ht h
  obtain ⟨y0, y1, y2, y3, y4, y5, y6, rfl⟩ := list7 hlen
  exact ⟨y0, y1, y2, y3, y4, y5, y6, n, rfl, hl, hf 0 f0 rfl, hf 1 f1 rfl, hf 2 f2 rfl, hf 3 f3 rfl, hf 4 f4 rfl, hf 5 f5 rfl, hf 6 f6 rfl⟩

/-- A step. -/
theorem step_open {fuel : Nat} {cs : List Value} {x : DataW H × List MemPlace} (h : DataW.trod enc Tryz.prog w 0 (fun _ => true) true fuel 73 cs = some x) (hb : Rows.uptoBulk x.1 ≤ 1048576) :
    ∃ s : StepR, cs = stepCells s ∧ StepOK w.heap.size w s := by
  obtain ⟨y0, y1, y2, y3, y4, y5, y6, n, hx, hl, f0, f1, f2, f3, f4, f5, f6⟩ := struct_seven Tryz.underlying73 h
  rw [cStep] at hl
  obtain ⟨v0, v1, v2, v3, v4, v5, v6, rfl⟩ := list7 hl
  rw [hx] at hb
  clear hx h
  dsimp only at f0 f1 f2 f3 f4 f5 f6
  rw [cIntS] at f0 f1 f2 f3
  rw [cStrS] at f4 f5
  rw [cStrs] at f6
  dsimp only [List.drop, List.take] at f0 f1 f2 f3 f4 f5 f6
  obtain ⟨n0, e0, _⟩ := DataW.trod_int Tryz.underlying3 f0
  obtain ⟨n1, e1, _⟩ := DataW.trod_int Tryz.underlying3 f1
  obtain ⟨n2, e2, _⟩ := DataW.trod_int Tryz.underlying3 f2
  obtain ⟨n3, e3, _⟩ := DataW.trod_int Tryz.underlying3 f3
  obtain ⟨s, e4, rfl, _⟩ := DataW.trod_string Tryz.underlying9 f4
  obtain ⟨t, e5, _⟩ := DataW.trod_string Tryz.underlying9 f5
  obtain ⟨L, hL, hL1, hL2⟩ := list_open f6
  have q4 := bulk_at (l := [y0.1, y1.1, y2.1, y3.1, DataW.lit (.string s.data.toList), y5.1, y6.1]) (i := 4) rfl
  have q6 := bulk_at (l := [y0.1, y1.1, y2.1, y3.1, DataW.lit (.string s.data.toList), y5.1, y6.1]) (i := 6) rfl
  rw [bulk_str] at q4
  simp only [Rows.uptoBulk] at hb
  simp only [List.cons.injEq, and_true] at e0 e1 e2 e3 e4 e5
  subst e0 e1 e2 e3 e4 e5
  exact ⟨⟨n0, n1, n2, n3, s, t, L, v6⟩, rfl, ⟨by show s.size ≤ 2000000; omega, hL, by show L.length ≤ 1100000; omega, fun j (hj : j < L.length) => by have := hL2 j hj; show (L.getD j ByteArray.empty).size ≤ 2000000; omega⟩⟩

instance : Inhabited StepR := ⟨⟨0, 0, 0, 0, .empty, .empty, [], .nilFunc⟩⟩

set_option maxRecDepth 100000 in
/-- A script. -/
theorem script_open {r : Reach} {b0 : Nat} {v : Value} {d : DataW H} {p : List MemPlace} (hv : Value.okWide Tryz.prog w r b0 22 v) (h : DataW.Trod enc Tryz.prog w 0 (fun _ => true) true 22 v d p) (hb : Rows.uptoBulk d ≤ 1048576) :
    ∃ S, ScriptAt w.heap.size w S v ∧ S.length ≤ 1048576 := by
  obtain ⟨q, l, c, rfl⟩ := okWide_slice Tryz.underlying22 hv
  obtain ⟨fuel, hf⟩ := h
  rcases open_slice Tryz.underlying22 hf with ⟨h1, _⟩ | ⟨a, len, cap, m, n, D, Pl, h1, _, hl, _, hm, hx, hc⟩
  · have e : Value.slice q l c = .slice none 0 0 := by simpa [Value.cells] using h1
    rw [e]
    exact ⟨[], ⟨none, 0, rfl, fun i x hi => by simp at hi⟩, Nat.zero_le _⟩
  · have e : Value.slice q l c = .slice (some a) len cap := by simpa [Value.cells] using h1
    rw [e]
    have hmc : m = cap := by simpa using hm
    subst hmc
    have hd : d = .slice ((List.range len).map D) ((List.range (m - len)).map fun j => D (len + j)) := congrArg Prod.fst hx
    rw [hd, bulk_slice] at hb
    have hlen := bulk_len ((List.range len).map D)
    simp only [List.length_map, List.length_range] at hlen
    have each : ∀ i, i < len → ∃ s : StepR, StepOK w.heap.size w s ∧ ∀ j u, (stepCells s)[j]? = some u → w.cell? ((a.add (i * 7)).add j) = some u := fun i hi => by
      obtain ⟨cs, h2, h3⟩ := hc i (by omega)
      rw [cStep] at h2
      have hbi := bulk_at (l := (List.range len).map D) (i := i) (d := D i) (by simp [hi])
      obtain ⟨s, rfl, hs⟩ := step_open h3 (by show Rows.uptoBulk (D i) ≤ 1048576; omega)
      refine ⟨s, hs, fun j u hj => ?_⟩
      obtain ⟨_, h5, h6⟩ := World.cells?_some h2
      have hj7 : j < 7 := by have := (List.getElem?_eq_some_iff.1 hj).1; rwa [h5] at this
      rw [h6 j hj7]
      exact hj
    obtain ⟨f, hS⟩ := choose_lt each
    refine ⟨(List.range len).map f, ⟨some a, m, by simp, fun i x hi => ?_⟩, by simp; omega⟩
    have hil : i < len := by have := (List.getElem?_eq_some_iff.1 hi).1; simpa using this
    obtain rfl : f i = x := by simpa [hil] using hi
    obtain ⟨h7, h8⟩ := hS i hil
    obtain ⟨b, o, sp⟩ := a
    have c00 : w.cell? ⟨b, o, sp⟩ = some (.int .i64 (f 0).k) := (congrArg w.cell? (by simp [Addr.add])).trans ((hS 0 (by omega)).2 0 _ rfl)
    have hsp : sp = none := World.cell?_spot c00
    subst hsp
    refine ⟨h7, b, o, rfl, ?_, fun j u hj => ?_⟩
    · exact cell_lt c00
    · have := h8 j u hj
      rwa [add_plain, add_plain] at this

end

end Go.Proofs.YtpbbmagjhkakgaaGreatDoor
