/-
  Plain laws: the tokens of a scanned text bear letters or digits as their signs say; no condition but those that stand in each theorem.
-/
import Derived.Test.YtpbbmagjhkakgaaGreatDoorPureGood
namespace Go.Proofs.YtpbbmagjhkakgaaGreatDoor

theorem signF_97 {r : Int} (h : signF r = 97) : 97 ≤ r ∧ r ≤ 122 := by
  unfold signF at h
  repeat' split at h
  all_goals omega

theorem signF_48 {r : Int} (h : signF r = 48) : 48 ≤ r ∧ r ≤ 57 := by
  unfold signF at h
  repeat' split at h
  all_goals omega

/-- A rune of ASCII is one byte. -/
theorem decode_small (s : ByteArray) (pos : Nat) (h : pos < s.size) (hr : (Utf8.decode s pos).1 < 128) : (Utf8.decode s pos).2 = 1 ∧ (s[pos]'h).toNat = (Utf8.decode s pos).1 := by
  by_cases ha : (s[pos]'h).toNat < 128
  · rw [decode_ascii s pos h ha]; exact ⟨rfl, rfl⟩
  · have := (decode_high s pos h (by omega)).1; omega

theorem encode_small (r : Int) (h0 : 0 ≤ r) (h1 : r < 128) : (Utf8.encode r).data.toList = [UInt8.ofNat r.toNat] := by
  have hv : Utf8.valid r = true := by unfold Utf8.valid; simp; omega
  unfold Utf8.encode
  simp only [hv, if_true]
  rw [if_pos (by omega)]

theorem take_one (s : ByteArray) (p pos : Nat) (h : pos < s.size) (hp : p ≤ pos) : (s.data.toList.drop p).take (pos + 1 - p) = (s.data.toList.drop p).take (pos - p) ++ [s[pos]'h] := by
  have e : pos + 1 - p = (pos - p) + 1 := by omega
  have hl : pos - p < (s.data.toList.drop p).length := by
    rw [List.length_drop, Array.length_toList]
    have : s.data.size = s.size := rfl
    omega
  rw [e, List.take_succ_eq_append_getElem hl]
  congr 2
  rw [List.getElem_drop]
  have e2 : p + (pos - p) = pos := by omega
  simp only [e2]
  rfl

/-- What holds on the way. -/
def TInv (s : ByteArray) (pos : Nat) (last : Int) (toks : List Tok) : Prop :=
  (∀ t, t ∈ toks → TokOK t) ∧ (joinsB last = true → ∃ (ts : List Tok) (t : Tok) (p : Nat), toks = ts ++ [t] ∧ t.sign = last ∧ t.place = (p : Int) ∧ p < pos ∧ t.word.data.toList = (s.data.toList.drop p).take (pos - p))

theorem joins_cases {sg : Int} (h : joinsB sg = true) : sg = 97 ∨ sg = 48 := by
  unfold joinsB at h
  simp at h
  exact h

theorem byte_let {c : UInt8} {r : Int} (h : (c.toNat : Int) = r) (hr : 97 ≤ r ∧ r ≤ 122) : isLet c := by unfold isLet; omega
theorem byte_dig {c : UInt8} {r : Int} (h : (c.toNat : Int) = r) (hr : 48 ≤ r ∧ r ≤ 57) : isDig c := by unfold isDig; omega

theorem scan_ok (s : ByteArray) : ∀ (b pos : Nat) (last : Int) (toks ts : List Tok), TInv s pos last toks → scanF s b pos last toks = some ts → ∀ t, t ∈ ts → TokOK t := by
  intro b
  have hend : TokOK (endTok s) := ⟨fun h => absurd (show (-1 : Int) = 97 from h) (by decide), fun h => absurd (show (-1 : Int) = 48 from h) (by decide)⟩
  have hfin : ∀ toks : List Tok, (∀ t, t ∈ toks → TokOK t) → ∀ t, t ∈ toks ++ [endTok s] → TokOK t := by
    intro toks h t ht
    rcases List.mem_append.1 ht with ht | ht
    · exact h t ht
    · rw [List.mem_singleton] at ht; subst ht; exact hend
  induction b with
  | zero =>
    intro pos last toks ts hI h
    simp only [scanF] at h
    injection h with h; subst h
    exact hfin toks hI.1
  | succ b ih =>
    intro pos last toks ts hI h
    by_cases hp : pos < s.size
    · rw [scanF, if_pos hp] at h
      by_cases h2 : signF (Utf8.decode s pos).1 = -2
      · rw [if_pos h2] at h; cases h
      · rw [if_neg h2] at h
        by_cases hj : signF (Utf8.decode s pos).1 = last ∧ joinsB (signF (Utf8.decode s pos).1) = true
        · rw [if_pos hj] at h
          obtain ⟨hl, hjb⟩ := hj
          obtain ⟨ts0, t, p, rfl, ht1, ht2, ht3, ht4⟩ := hI.2 (hl ▸ hjb)
          have hr : (97 ≤ ((Utf8.decode s pos).1 : Int) ∧ ((Utf8.decode s pos).1 : Int) ≤ 122) ∨ (48 ≤ ((Utf8.decode s pos).1 : Int) ∧ ((Utf8.decode s pos).1 : Int) ≤ 57) := by
            rcases joins_cases hjb with e | e
            · exact .inl (signF_97 e)
            · exact .inr (signF_48 e)
          obtain ⟨hw, hb⟩ := decode_small s pos hp (by omega)
          rw [growF_snoc] at h
          have hword : (s.extract t.place.toNat (pos + 1)).data.toList = t.word.data.toList ++ [s[pos]'hp] := by
            rw [Lib.extract_data, ht2, Int.toNat_natCast, take_one s p pos hp (by omega), ht4]
          have hold := hI.1 t (by simp)
          refine ih _ _ _ _ ⟨?_, ?_⟩ h
          · intro x hx
            rcases List.mem_append.1 hx with hx | hx
            · exact hI.1 x (by simp [hx])
            · rw [List.mem_singleton] at hx
              subst hx
              refine ⟨fun hs => ?_, fun hs => ?_⟩
              · have hs' : t.sign = 97 := hs
                have hr2 := signF_97 (r := (Utf8.decode s pos).1) (by rw [hl, ← ht1]; exact hs')
                show (s.extract t.place.toNat (pos + 1)).data.toList ≠ [] ∧ ∀ c, c ∈ (s.extract t.place.toNat (pos + 1)).data.toList → isLet c
                rw [hword]
                refine ⟨by simp, ?_⟩
                intro c hc
                rcases List.mem_append.1 hc with hc | hc
                · exact (hold.1 hs').2 c hc
                · rw [List.mem_singleton] at hc; subst hc; exact byte_let (r := (Utf8.decode s pos).1) (by omega) hr2
              · have hs' : t.sign = 48 := hs
                have hr2 := signF_48 (r := (Utf8.decode s pos).1) (by rw [hl, ← ht1]; exact hs')
                show (s.extract t.place.toNat (pos + 1)).data.toList ≠ [] ∧ ∀ c, c ∈ (s.extract t.place.toNat (pos + 1)).data.toList → isDig c
                rw [hword]
                refine ⟨by simp, ?_⟩
                intro c hc
                rcases List.mem_append.1 hc with hc | hc
                · exact (hold.2 hs').2 c hc
                · rw [List.mem_singleton] at hc; subst hc; exact byte_dig (r := (Utf8.decode s pos).1) (by omega) hr2
          · intro _
            refine ⟨ts0, _, p, rfl, by rw [hl]; exact ht1, ht2, by omega, ?_⟩
            show (s.extract t.place.toNat (pos + 1)).data.toList = _
            rw [hword, hw, take_one s p pos hp (by omega), ht4]
        · rw [if_neg hj] at h
          by_cases h32 : signF (Utf8.decode s pos).1 = 32
          · rw [if_pos h32] at h
            exact ih _ _ _ _ ⟨hI.1, fun hb => by rw [h32] at hb; exact absurd hb (by decide)⟩ h
          · rw [if_neg h32] at h
            refine ih _ _ _ _ ⟨?_, ?_⟩ h
            · intro x hx
              rcases List.mem_append.1 hx with hx | hx
              · exact hI.1 x hx
              · rw [List.mem_singleton] at hx
                subst hx
                refine ⟨fun hs => ?_, fun hs => ?_⟩
                · have hr2 := signF_97 (r := (Utf8.decode s pos).1) hs
                  dsimp only
                  rw [encode_small _ (by omega) (by omega)]
                  refine ⟨by simp, ?_⟩
                  intro c hc
                  rw [List.mem_singleton] at hc; subst hc
                  refine byte_let (r := (Utf8.decode s pos).1) ?_ hr2
                  rw [UInt8.toNat_ofNat']; omega
                · have hr2 := signF_48 (r := (Utf8.decode s pos).1) hs
                  dsimp only
                  rw [encode_small _ (by omega) (by omega)]
                  refine ⟨by simp, ?_⟩
                  intro c hc
                  rw [List.mem_singleton] at hc; subst hc
                  refine byte_dig (r := (Utf8.decode s pos).1) ?_ hr2
                  rw [UInt8.toNat_ofNat']; omega
            · intro hjb
              have hr : 0 ≤ ((Utf8.decode s pos).1 : Int) ∧ ((Utf8.decode s pos).1 : Int) < 128 := by
                rcases joins_cases hjb with e | e
                · have := signF_97 e; omega
                · have := signF_48 e; omega
              obtain ⟨hw, hb⟩ := decode_small s pos hp (by omega)
              refine ⟨toks, _, pos, rfl, rfl, rfl, by omega, ?_⟩
              dsimp only
              rw [encode_small _ hr.1 hr.2, hw]
              have e1 := take_one s pos pos hp (Nat.le_refl _)
              rw [e1]
              simp
              rw [← hb]
              simp
    · rw [scanF_end s _ pos last toks hp] at h
      injection h with h; subst h
      exact hfin toks hI.1

theorem TInv.start (s : ByteArray) : TInv s 0 32 [] := ⟨by simp, fun h => absurd h (by decide)⟩

/-- What is read is made as it should be. -/
theorem readF_good {s : ByteArray} {x : Go.Deep.BT Pay} {n : Int} (h : readF s = (some x, n)) (he : ∀ ts, scanF s s.size 0 32 [] = some ts → Ends ts) : Good x := by
  unfold readF at h
  split at h
  · simp at h
  · cases h1 : scanF s s.size 0 32 [] with
    | none => simp [h1] at h
    | some ts =>
      have e1 := he ts h1
      have o1 := scan_ok s _ _ _ _ _ (TInv.start s) h1
      simp only [h1] at h
      cases h2 : parseF ts.length ts with
      | none => simp [h2] at h
      | some y =>
        obtain ⟨z, r⟩ := y
        have g2 := (gives_parse _ _ _ _ e1 o1 h2).1
        simp only [h2] at h
        cases h3 : expectF (-1) r with
        | none => simp [h3] at h
        | some t3 =>
          simp only [h3] at h
          split at h
          · simp at h
          · simp at h
            obtain ⟨rfl, _⟩ := h
            exact g2

end Go.Proofs.YtpbbmagjhkakgaaGreatDoor
