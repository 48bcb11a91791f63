/-
  Plain laws: what is scanned ends as tokens should; so what is read is made as it should be, and its text is read again as it; no condition but those that stand in each theorem.
-/
import Derived.Test.YtpbbmagjhkakgaaGreatDoorPureSize
namespace Go.Proofs.YtpbbmagjhkakgaaGreatDoor
open Go.Deep (BT)

theorem scan_ends (s : ByteArray) (hs : s.size ≤ 300) : ∀ (b pos : Nat) (last : Int) (toks ts : List Tok), Mid pos last toks → scanF s b pos last toks = some ts → Ends ts
  | 0, pos, last, toks, ts, hm, h => by
    simp only [scanF] at h
    injection h with h
    subst h
    exact hm.ends s
  | b + 1, pos, last, toks, ts, hm, h => by
    by_cases hp : pos < s.size
    · have hw := width_pos s pos hp
      simp only [scanF] at h
      rw [if_pos hp] at h
      by_cases h2 : signF (Utf8.decode s pos).1 = -2
      · rw [if_pos h2] at h; cases h
      · rw [if_neg h2] at h
        have hne : signF (Utf8.decode s pos).1 ≠ -1 := by
          rcases signF_ne (Utf8.decode s pos).1 with h | h
          · exact h
          · exact absurd h h2
        by_cases h3 : signF (Utf8.decode s pos).1 = last ∧ joinsB (signF (Utf8.decode s pos).1) = true
        · rw [if_pos h3] at h
          have hnn := hm.join (by rw [← h3.1]; exact h3.2)
          obtain ⟨ts0, t, rfl⟩ : ∃ ts0 t, toks = ts0 ++ [t] := ⟨toks.dropLast, toks.getLast hnn, (List.dropLast_concat_getLast hnn).symm⟩
          rw [growF_snoc] at h
          exact scan_ends s hs b _ _ _ ts (hm.grow (by omega) hs) h
        · rw [if_neg h3] at h
          by_cases h4 : signF (Utf8.decode s pos).1 = 32
          · rw [if_pos h4, h4] at h
            exact scan_ends s hs b _ _ _ ts (hm.blank (by omega)) h
          · rw [if_neg h4] at h
            exact scan_ends s hs b _ _ _ ts (hm.more (by omega) hne) h
    · rw [scanF_end s _ pos last toks hp] at h
      injection h with h
      subst h
      exact hm.ends s

/-- What is read is made as it should be. -/
theorem readF_sound {s : ByteArray} {x : BT Pay} {n : Int} (h : readF s = (some x, n)) : Good x ∧ ZeroT x ∧ depthT x ≤ 12 ∧ n = 0 := by
  have hs : s.size ≤ 300 := by
    refine Nat.le_of_not_lt fun h2 => ?_
    rw [readF_long h2] at h
    cases h
  exact ⟨readF_good h (fun ts hts => scan_ends s hs _ _ _ _ _ Mid.start hts), readF_zero h⟩

/-- What is not read: 1 or 2. -/
theorem readF_none {s : ByteArray} {n : Int} (h : readF s = (none, n)) : n = 1 ∨ n = 2 := by
  unfold readF at h
  split at h
  · simp at h; omega
  · cases h1 : scanF s s.size 0 32 [] with
    | none => simp [h1] at h; omega
    | some ts =>
      simp only [h1] at h
      cases h2 : parseF ts.length ts with
      | none => simp [h2] at h; omega
      | some y =>
        obtain ⟨z, r⟩ := y
        simp only [h2] at h
        cases h3 : expectF (-1) r with
        | none => simp [h3] at h; omega
        | some t3 =>
          simp only [h3] at h
          split at h
          · simp at h; omega
          · simp at h

/-- The text of what was read is read as the same, if it is not too long; else it is none. -/
theorem read_again {s : ByteArray} {x : BT Pay} {n : Int} (h : readF s = (some x, n)) : readF ⟨(printB x).toArray⟩ = if (printB x).length ≤ 300 then (some x, 0) else (none, 1) := by
  obtain ⟨hg, hz, hd, _⟩ := readF_sound h
  split
  · rename_i hl
    exact read_print x hg hz hd hl
  · rename_i hl
    exact readF_long (by simp [ByteArray.size]; omega)

theorem reachT_nonneg : ∀ {x : BT Pay}, WinOK x → 0 ≤ reachT x
  | .nil, _ => by simp [reachT]
  | .node _ _ a l r, h => by
    obtain ⟨h1, h2, h3⟩ := h
    have := reachT_nonneg h2
    have := reachT_nonneg h3
    simp only [reachT]
    omega

end Go.Proofs.YtpbbmagjhkakgaaGreatDoor
