/-
  Plain laws for the given reader: its signs as a plain function of the bytes, and which bytes the three signs of more than one byte are; no condition but those that stand in each theorem.
-/
/-
  Plain laws: the program's tokens of a text are the tokens of the given reader's signs; and either both are there or neither; for every text.
-/
import Derived.Test.YtpbbmagjhkakgaaGreatDoorPureEndsToFace2
namespace Go.Proofs.YtpbbmagjhkakgaaGreatDoor

/-- The byte at a place. -/
def gB (s : ByteArray) (i : Nat) : Nat := (s.get! i).toNat

theorem gB_lt (s : ByteArray) (i : Nat) : gB s i < 256 := UInt8.toNat_lt _

/-- A byte that stands for itself. -/
def plainB (c : Nat) : Bool := (decide (97 ≤ c) && decide (c ≤ 122)) || (decide (48 ≤ c) && decide (c ≤ 57)) || c == 89 || c == 79 || c == 72 || c == 83 || c == 40 || c == 41 || c == 91 || c == 93 || c == 44 || c == 33 || c == 38 || c == 124

theorem dec_not {s : ByteArray} {i : Nat} (h : (Utf8.decode s i).1 = 172) : (Utf8.decode s i).2 = 2 ∧ i + 1 < s.size ∧ gB s i = 194 ∧ gB s (i + 1) = 172 := by
  have h0 := gB_lt s i
  have h1 := gB_lt s (i + 1)
  cases hd : Utf8.decode s i with
  | mk r n =>
  rw [hd] at h
  show n = _ ∧ _
  obtain rfl := (show r = _ from h)
  unfold gB at *
  unfold Utf8.decode at hd
  simp only [Nat.add_zero] at hd
  repeat' split at hd
  all_goals simp [Utf8.runeError] at hd
  all_goals simp at *
  all_goals omega

theorem dec_and {s : ByteArray} {i : Nat} (h : (Utf8.decode s i).1 = 8743) : (Utf8.decode s i).2 = 3 ∧ i + 2 < s.size ∧ gB s i = 226 ∧ gB s (i + 1) = 136 ∧ gB s (i + 2) = 167 := by
  have h0 := gB_lt s i
  have h1 := gB_lt s (i + 1)
  have h2 := gB_lt s (i + 2)
  cases hd : Utf8.decode s i with
  | mk r n =>
  rw [hd] at h
  show n = _ ∧ _
  obtain rfl := (show r = _ from h)
  unfold gB at *
  unfold Utf8.decode at hd
  simp only [Nat.add_zero] at hd
  repeat' split at hd
  all_goals simp [Utf8.runeError] at hd
  all_goals simp at *
  all_goals omega

theorem dec_or {s : ByteArray} {i : Nat} (h : (Utf8.decode s i).1 = 8744) : (Utf8.decode s i).2 = 3 ∧ i + 2 < s.size ∧ gB s i = 226 ∧ gB s (i + 1) = 136 ∧ gB s (i + 2) = 168 := by
  have h0 := gB_lt s i
  have h1 := gB_lt s (i + 1)
  have h2 := gB_lt s (i + 2)
  cases hd : Utf8.decode s i with
  | mk r n =>
  rw [hd] at h
  show n = _ ∧ _
  obtain rfl := (show r = _ from h)
  unfold gB at *
  unfold Utf8.decode at hd
  simp only [Nat.add_zero] at hd
  repeat' split at hd
  all_goals simp [Utf8.runeError] at hd
  all_goals simp at *
  all_goals omega

/-- The signs of a text, as the given reader makes them; n: how many steps at most. -/
def sigB (s : ByteArray) : Nat → Nat → List UInt8 → Option (List UInt8)
  | 0, _, out => some out
  | f + 1, i, out =>
    if i < s.size then
      if i + 1 < s.size ∧ gB s i = 194 ∧ gB s (i + 1) = 172 then sigB s f (i + 2) (out ++ [33])
      else if i + 2 < s.size ∧ gB s i = 226 ∧ gB s (i + 1) = 136 ∧ gB s (i + 2) = 167 then sigB s f (i + 3) (out ++ [38])
      else if i + 2 < s.size ∧ gB s i = 226 ∧ gB s (i + 1) = 136 ∧ gB s (i + 2) = 168 then sigB s f (i + 3) (out ++ [124])
      else if gB s i = 32 then sigB s f (i + 1) (if out ≠ [] ∧ out.getLast? ≠ some 32 then out ++ [32] else out)
      else if plainB (gB s i) = true then sigB s f (i + 1) (out ++ [s.get! i])
      else none
    else some out

theorem not_dec {s : ByteArray} {i : Nat} (h : i + 1 < s.size) (h0 : gB s i = 194) (h1 : gB s (i + 1) = 172) : Utf8.decode s i = (172, 2) := by
  unfold gB at *
  simp [Utf8.decode, h0, h1, h]

theorem and_dec {s : ByteArray} {i : Nat} (h : i + 2 < s.size) (h0 : gB s i = 226) (h1 : gB s (i + 1) = 136) (h2 : gB s (i + 2) = 167) : Utf8.decode s i = (8743, 3) := by
  unfold gB at *
  have h3 : i + 1 < s.size := by omega
  simp [Utf8.decode, h0, h1, h2, h, h3, Utf8.valid]

theorem or_dec {s : ByteArray} {i : Nat} (h : i + 2 < s.size) (h0 : gB s i = 226) (h1 : gB s (i + 1) = 136) (h2 : gB s (i + 2) = 168) : Utf8.decode s i = (8744, 3) := by
  unfold gB at *
  have h3 : i + 1 < s.size := by omega
  simp [Utf8.decode, h0, h1, h2, h, h3, Utf8.valid]

theorem gB_at {s : ByteArray} {i : Nat} (h : i < s.size) : s.get! i = s[i]'h := by
  simp [ByteArray.get!, getElem!_pos, h]
  rfl

theorem plain_sign : ∀ c : Nat, c < 128 → plainB c = decide (signF (c : Int) ≠ -2 ∧ c ≠ 32) := by decide

def blankB (out : List UInt8) : List UInt8 := if out ≠ [] ∧ out.getLast? ≠ some 32 then out ++ [32] else out

theorem sig_bad {s : ByteArray} {i : Nat} (hp : i < s.size) (f : Nat) (out : List UInt8) (h : signF (Utf8.decode s i).1 = -2) : sigB s (f + 1) i out = none := by
  have hn1 : ¬ (i + 1 < s.size ∧ gB s i = 194 ∧ gB s (i + 1) = 172) := by
    rintro ⟨a, b, c⟩; rw [not_dec a b c] at h; exact absurd h (by decide)
  have hn2 : ¬ (i + 2 < s.size ∧ gB s i = 226 ∧ gB s (i + 1) = 136 ∧ gB s (i + 2) = 167) := by
    rintro ⟨a, b, c, d⟩; rw [and_dec a b c d] at h; exact absurd h (by decide)
  have hn3 : ¬ (i + 2 < s.size ∧ gB s i = 226 ∧ gB s (i + 1) = 136 ∧ gB s (i + 2) = 168) := by
    rintro ⟨a, b, c, d⟩; rw [or_dec a b c d] at h; exact absurd h (by decide)
  have e : gB s i = (s[i]'hp).toNat := by unfold gB; rw [gB_at hp]
  rw [sigB, if_pos hp, if_neg hn1, if_neg hn2, if_neg hn3]
  by_cases ha : (s[i]'hp).toNat < 128
  · rw [decode_ascii s i hp ha] at h
    have hpl := plain_sign _ ha
    have h32 : gB s i ≠ 32 := by rw [e]; intro e2; rw [e2] at h; exact absurd h (by decide)
    rw [if_neg h32, e, hpl, if_neg]
    simp only [decide_eq_true_eq]
    rintro ⟨h1, _⟩
    exact h1 h
  · rw [if_neg (by omega), if_neg]
    rw [e]
    have := UInt8.toNat_lt (s[i]'hp)
    unfold plainB
    simp
    omega

theorem sig_blank {s : ByteArray} {i : Nat} (hp : i < s.size) (f : Nat) (out : List UInt8) (h : signF (Utf8.decode s i).1 = 32) : sigB s (f + 1) i out = sigB s f (i + (Utf8.decode s i).2) (blankB out) := by
  have hr : (Utf8.decode s i).1 = 32 := by
    unfold signF at h
    repeat' split at h
    all_goals omega
  by_cases ha : (s[i]'hp).toNat < 128
  · have hd := decode_ascii s i hp ha
    have e : gB s i = (s[i]'hp).toNat := by unfold gB; rw [gB_at hp]
    rw [hd] at hr
    have e2 : gB s i = 32 := by rw [e]; exact hr
    rw [sigB, if_pos hp, if_neg (by omega), if_neg (by omega), if_neg (by omega), if_pos e2, hd]
    rfl
  · have := (decode_high s i hp (by omega)).1
    omega

/-- The byte by which the given reader tells a sign that is no blank. -/
theorem sig_more {s : ByteArray} {i : Nat} (hp : i < s.size) (f : Nat) (out : List UInt8) (h : signF (Utf8.decode s i).1 ≠ -2) (h32 : signF (Utf8.decode s i).1 ≠ 32) :
    ∃ c : UInt8, c ≠ 32 ∧ signF (c.toNat : Int) = signF (Utf8.decode s i).1 ∧ (joinsB (signF (Utf8.decode s i).1) = true → c = s[i]'hp ∧ (Utf8.decode s i).2 = 1) ∧ sigB s (f + 1) i out = sigB s f (i + (Utf8.decode s i).2) (out ++ [c]) := by
  by_cases ha : (s[i]'hp).toNat < 128
  · have hd := decode_ascii s i hp ha
    have e : gB s i = (s[i]'hp).toNat := by unfold gB; rw [gB_at hp]
    rw [hd] at h h32 ⊢
    have hne : (s[i]'hp).toNat ≠ 32 := by intro e2; simp only [e2] at h32; exact h32 (by decide)
    have hpl := plain_sign _ ha
    refine ⟨s[i]'hp, fun e2 => hne (by rw [e2]; rfl), rfl, fun _ => ⟨rfl, rfl⟩, ?_⟩
    rw [sigB, if_pos hp, if_neg (by omega), if_neg (by omega), if_neg (by omega), if_neg (by omega), e, hpl, if_pos, gB_at hp]
    simp only [decide_eq_true_eq]
    exact ⟨h, hne⟩
  · have hh := (decode_high s i hp (by omega)).1
    have hr : (Utf8.decode s i).1 = 172 ∨ (Utf8.decode s i).1 = 8743 ∨ (Utf8.decode s i).1 = 8744 := by
      unfold signF at h
      repeat' split at h
      all_goals omega
    rcases hr with hr | hr | hr
    · obtain ⟨k1, k2, k3, k4⟩ := dec_not hr
      rw [hr, k1]
      refine ⟨33, by decide, by decide, fun h => absurd h (by decide), ?_⟩
      rw [sigB, if_pos hp, if_pos ⟨k2, k3, k4⟩]
    · obtain ⟨k1, k2, k3, k4, k5⟩ := dec_and hr
      rw [hr, k1]
      refine ⟨38, by decide, by decide, fun h => absurd h (by decide), ?_⟩
      rw [sigB, if_pos hp, if_neg (by omega), if_pos ⟨k2, k3, k4, k5⟩]
    · obtain ⟨k1, k2, k3, k4, k5⟩ := dec_or hr
      rw [hr, k1]
      refine ⟨124, by decide, by decide, fun h => absurd h (by decide), ?_⟩
      rw [sigB, if_pos hp, if_neg (by omega), if_neg (by omega), if_pos ⟨k2, k3, k4, k5⟩]

/-- What is compared of a token: its sign, and its word where it has one. -/
def strip2 (t : Tok) : Int × List UInt8 := (t.sign, if joinsB t.sign = true then t.word.data.toList else [])

/-- The tokens of a list of signs, from the left; with the last sign. -/
def stepT (p : List (Int × List UInt8) × Int) (c : UInt8) : List (Int × List UInt8) × Int :=
  if c = 32 then (p.1, 32)
  else if signF (c.toNat : Int) = p.2 ∧ joinsB (signF (c.toNat : Int)) = true then (match p.1.getLast? with | some t => p.1.dropLast ++ [(t.1, t.2 ++ [c])] | none => p.1, signF (c.toNat : Int))
  else (p.1 ++ [(signF (c.toNat : Int), if joinsB (signF (c.toNat : Int)) = true then [c] else [])], signF (c.toNat : Int))

def tokL (out : List UInt8) : List (Int × List UInt8) × Int := out.foldl stepT ([], 32)

theorem tokL_snoc (out : List UInt8) (c : UInt8) : tokL (out ++ [c]) = stepT (tokL out) c := by simp [tokL, List.foldl_append]

theorem tokL_blank (out : List UInt8) : tokL (blankB out) = ((tokL out).1, 32) := by
  unfold blankB
  split
  · rw [tokL_snoc]; simp [stepT]
  · rename_i h
    rcases List.eq_nil_or_concat out with rfl | ⟨o, c, rfl⟩
    · rfl
    · have hc : c = 32 := by
        refine Classical.byContradiction fun hc => h ⟨by simp, ?_⟩
        simp
        exact hc
      subst hc
      rw [List.concat_eq_append, tokL_snoc]
      simp [stepT]

end Go.Proofs.YtpbbmagjhkakgaaGreatDoor

namespace Go.Proofs.YtpbbmagjhkakgaaGreatDoor

/-- The last token's word, while it may grow. -/
def JInv (s : ByteArray) (pos : Nat) (last : Int) (toks : List Tok) : Prop :=
  joinsB last = true → ∃ (ts : List Tok) (t : Tok) (p : Nat), toks = ts ++ [t] ∧ t.sign = last ∧ t.place = (p : Int) ∧ p < pos ∧ t.word.data.toList = (s.data.toList.drop p).take (pos - p)

theorem encode_byte {s : ByteArray} {pos : Nat} (hp : pos < s.size) (hj : joinsB (signF (Utf8.decode s pos).1) = true) : (Utf8.encode (Utf8.decode s pos).1).data.toList = [s[pos]'hp] := by
  have hr : 0 ≤ ((Utf8.decode s pos).1 : Int) ∧ ((Utf8.decode s pos).1 : Int) < 128 := by
    rcases joins_cases hj with e | e
    · have := signF_97 e; omega
    · have := signF_48 e; omega
  obtain ⟨_, hb⟩ := decode_small s pos hp (by omega)
  rw [encode_small _ hr.1 hr.2, ← hb]
  simp

theorem scan_sig (s : ByteArray) : ∀ (b pos : Nat) (last : Int) (toks : List Tok) (out : List UInt8), JInv s pos last toks → toks.map strip2 = (tokL out).1 → last = (tokL out).2 →
    (scanF s b pos last toks = none ∧ sigB s b pos out = none) ∨ ∃ A out', scanF s b pos last toks = some (A ++ [endTok s]) ∧ sigB s b pos out = some out' ∧ A.map strip2 = (tokL out').1 := by
  intro b
  induction b with
  | zero =>
    intro pos last toks out _ hm _
    exact .inr ⟨toks, out, rfl, rfl, hm⟩
  | succ b ih =>
    intro pos last toks out hI hm hl
    by_cases hp : pos < s.size
    · by_cases h2 : signF (Utf8.decode s pos).1 = -2
      · refine .inl ⟨?_, sig_bad hp b out h2⟩
        rw [scanF, if_pos hp, if_pos h2]
      · by_cases hj : signF (Utf8.decode s pos).1 = last ∧ joinsB (signF (Utf8.decode s pos).1) = true
        · have e1 : scanF s (b + 1) pos last toks = scanF s b (pos + (Utf8.decode s pos).2) (signF (Utf8.decode s pos).1) (growF s pos toks) := by rw [scanF, if_pos hp, if_neg h2, if_pos hj]
          have h32 : signF (Utf8.decode s pos).1 ≠ 32 := by intro e; rw [e] at hj; exact absurd hj.2 (by decide)
          obtain ⟨c, c1, c2, c3, c4⟩ := sig_more hp b out h2 h32
          obtain ⟨rfl, hw⟩ := c3 hj.2
          rw [e1, c4]
          obtain ⟨hls, hjb⟩ := hj
          obtain ⟨ts0, t, p, rfl, ht1, ht2, ht3, ht4⟩ := hI (hls ▸ hjb)
          rw [growF_snoc]
          have hword : (s.extract t.place.toNat (pos + 1)).data.toList = t.word.data.toList ++ [s[pos]'hp] := by
            rw [Lib.extract_data, ht2, Int.toNat_natCast, take_one s p pos hp (by omega), ht4]
          refine ih _ _ _ _ ?_ ?_ ?_
          · intro _
            refine ⟨ts0, _, p, rfl, by rw [hls]; exact ht1, ht2, by omega, ?_⟩
            show (s.extract t.place.toNat (pos + 1)).data.toList = _
            rw [hword, hw, take_one s p pos hp (by omega), ht4]
          · rw [tokL_snoc]
            unfold stepT
            rw [if_neg c1, if_pos ⟨by rw [c2, ← hl]; exact hls, by rw [c2]; exact hjb⟩]
            rw [← hm]
            have hts : joinsB t.sign = true := by rw [ht1, ← hls]; exact hjb
            rw [List.map_append, List.map_cons, List.map_nil, List.map_append, List.map_cons, List.map_nil]
            have e2 : strip2 ⟨t.sign, t.place, s.extract t.place.toNat (pos + 1)⟩ = (t.sign, t.word.data.toList ++ [s[pos]'hp]) := by
              unfold strip2
              simp only
              rw [if_pos hts, hword]
            have e3 : strip2 t = (t.sign, t.word.data.toList) := by unfold strip2; rw [if_pos hts]
            rw [e2, e3]
            simp
          · rw [tokL_snoc]
            unfold stepT
            rw [if_neg c1, if_pos ⟨by rw [c2, ← hl]; exact hls, by rw [c2]; exact hjb⟩]
            exact c2.symm
        · by_cases h32 : signF (Utf8.decode s pos).1 = 32
          · have e1 : scanF s (b + 1) pos last toks = scanF s b (pos + (Utf8.decode s pos).2) (signF (Utf8.decode s pos).1) toks := by rw [scanF, if_pos hp, if_neg h2, if_neg hj, if_pos h32]
            rw [e1, sig_blank hp b out h32, h32]
            refine ih _ _ _ _ ?_ ?_ ?_
            · exact fun hb => absurd hb (by decide)
            · rw [tokL_blank]; exact hm
            · rw [tokL_blank]
          · have e1 : scanF s (b + 1) pos last toks = scanF s b (pos + (Utf8.decode s pos).2) (signF (Utf8.decode s pos).1) (toks ++ [⟨signF (Utf8.decode s pos).1, pos, Utf8.encode (Utf8.decode s pos).1⟩]) := by rw [scanF, if_pos hp, if_neg h2, if_neg hj, if_neg h32]
            obtain ⟨c, c1, c2, c3, c4⟩ := sig_more hp b out h2 h32
            rw [e1, c4]
            have hj2 : ¬ (signF (c.toNat : Int) = (tokL out).2 ∧ joinsB (signF (c.toNat : Int)) = true) := by rw [c2, ← hl]; exact hj
            refine ih _ _ _ _ ?_ ?_ ?_
            · intro hjb
              obtain ⟨_, hw⟩ := c3 hjb
              refine ⟨toks, _, pos, rfl, rfl, rfl, by omega, ?_⟩
              dsimp only
              rw [encode_byte hp hjb, hw, take_one s pos pos hp (Nat.le_refl _)]
              simp
            · rw [tokL_snoc]
              unfold stepT
              rw [if_neg c1, if_neg hj2, List.map_append, hm, c2]
              by_cases hjb : joinsB (signF (Utf8.decode s pos).1) = true
              · obtain ⟨rfl, _⟩ := c3 hjb
                simp only [strip2, hjb, if_true, List.map_cons, List.map_nil]
                rw [encode_byte hp hjb]
              · simp [strip2, hjb]
            · rw [tokL_snoc]
              unfold stepT
              rw [if_neg c1, if_neg hj2]
              exact c2.symm
    · refine .inr ⟨toks, out, scanF_end s _ _ _ _ hp, ?_, hm⟩
      rw [sigB, if_neg hp]

end Go.Proofs.YtpbbmagjhkakgaaGreatDoor
