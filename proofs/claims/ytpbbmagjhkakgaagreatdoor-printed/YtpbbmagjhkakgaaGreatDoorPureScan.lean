/-
  The plain function of the program's scanner, over a string's runes: definitions, and what holds of the tokens that it gives; no condition but those that stand in each theorem.
-/
import Derived.Test.YtpbbmagjhkakgaaGreatDoorPure
import Derived.Laws.RangeAny
import Derived.Lib.Strings
namespace Go.Proofs.YtpbbmagjhkakgaaGreatDoor

/-- The last token's word grows up to the place behind pos. -/
def growF (s : ByteArray) (pos : Nat) (toks : List Tok) : List Tok :=
  match toks.getLast? with
  | some t => toks.dropLast ++ [⟨t.sign, t.place, s.extract t.place.toNat (pos + 1)⟩]
  | none => toks

theorem growF_snoc (s : ByteArray) (pos : Nat) (ts : List Tok) (t : Tok) : growF s pos (ts ++ [t]) = ts ++ [⟨t.sign, t.place, s.extract t.place.toNat (pos + 1)⟩] := by
  simp [growF]

def endTok (s : ByteArray) : Tok := ⟨-1, s.size, ByteArray.empty⟩

/-- The tokens from place pos on, behind those that are there. -/
def scanF (s : ByteArray) : Nat → Nat → Int → List Tok → Option (List Tok)
  | 0, _, _, toks => some (toks ++ [endTok s])
  | b + 1, pos, last, toks =>
    if pos < s.size then
      if signF (Utf8.decode s pos).1 = -2 then none
      else if signF (Utf8.decode s pos).1 = last ∧ joinsB (signF (Utf8.decode s pos).1) = true then
        scanF s b (pos + (Utf8.decode s pos).2) (signF (Utf8.decode s pos).1) (growF s pos toks)
      else if signF (Utf8.decode s pos).1 = 32 then scanF s b (pos + (Utf8.decode s pos).2) (signF (Utf8.decode s pos).1) toks
      else scanF s b (pos + (Utf8.decode s pos).2) (signF (Utf8.decode s pos).1) (toks ++ [⟨signF (Utf8.decode s pos).1, pos, Utf8.encode (Utf8.decode s pos).1⟩])
    else some (toks ++ [endTok s])

theorem scanF_end (s : ByteArray) (b pos : Nat) (last : Int) (toks : List Tok) (h : ¬ pos < s.size) : scanF s b pos last toks = some (toks ++ [endTok s]) := by
  cases b with
  | zero => rfl
  | succ b => simp [scanF, h]

/-- What holds of the tokens on the way. -/
structure Mid (pos : Nat) (last : Int) (toks : List Tok) : Prop where
  each : ∀ t, t ∈ toks → t.sign ≠ -1 ∧ t.word.size ≤ 300 ∧ 0 ≤ t.place ∧ t.place ≤ pos
  len : toks.length ≤ pos
  join : joinsB last = true → toks ≠ []

theorem Mid.start : Mid 0 32 [] := ⟨by simp, by simp, by intro h; exact absurd h (by decide)⟩

theorem Mid.ends {pos : Nat} {last : Int} {toks : List Tok} (h : Mid pos last toks) (s : ByteArray) : Ends (toks ++ [endTok s]) :=
  ⟨toks, endTok s, rfl, rfl, by show ByteArray.empty.size ≤ 300; decide, fun t ht => ⟨(h.each t ht).1, (h.each t ht).2.1⟩⟩

theorem encode_le (r : Int) : (Utf8.encode r).size ≤ 4 := by
  unfold Utf8.encode
  simp only
  repeat' split
  all_goals simp [ByteArray.size]

theorem Mid.blank {pos p2 : Nat} {last : Int} {toks : List Tok} (h : Mid pos last toks) (hp : pos ≤ p2) : Mid p2 32 toks :=
  ⟨fun t ht => by have := h.each t ht; exact ⟨this.1, this.2.1, this.2.2.1, by omega⟩, by have := h.len; omega, by intro h; exact absurd h (by decide)⟩

theorem Mid.more {pos p2 : Nat} {last sg r : Int} {toks : List Tok} (h : Mid pos last toks) (hp : pos < p2) (hs : sg ≠ -1) : Mid p2 sg (toks ++ [⟨sg, pos, Utf8.encode r⟩]) := by
  refine ⟨?_, by have := h.len; simp; omega, by simp⟩
  intro t ht
  rcases List.mem_append.1 ht with ht | ht
  · have := h.each t ht; exact ⟨this.1, this.2.1, this.2.2.1, by omega⟩
  · simp at ht; subst ht
    have := encode_le r
    exact ⟨hs, by show (Utf8.encode r).size ≤ 300; omega, by show (0 : Int) ≤ pos; omega, by show (pos : Int) ≤ p2; omega⟩

theorem Mid.grow {pos p2 : Nat} {last sg : Int} {ts : List Tok} {t : Tok} {s : ByteArray} (h : Mid pos last (ts ++ [t])) (hp : pos < p2) (hsz : s.size ≤ 300) :
    Mid p2 sg (ts ++ [⟨t.sign, t.place, s.extract t.place.toNat (pos + 1)⟩]) := by
  refine ⟨?_, by have := h.len; simp at this ⊢; omega, by simp⟩
  intro x hx
  rcases List.mem_append.1 hx with hx | hx
  · have := h.each x (by simp [hx]); exact ⟨this.1, this.2.1, this.2.2.1, by omega⟩
  · simp at hx; subst hx
    have := h.each t (by simp)
    refine ⟨this.1, ?_, this.2.2.1, by have := this.2.2.2; show t.place ≤ (p2 : Int); omega⟩
    show (s.extract t.place.toNat (pos + 1)).size ≤ 300
    rw [ByteArray.size_extract]; omega

theorem signF_ne (r : Int) : signF r ≠ -1 ∨ signF r = -2 := by
  unfold signF
  repeat' split
  all_goals omega

theorem width_pos (s : ByteArray) (pos : Nat) (h : pos < s.size) : 1 ≤ (Utf8.decode s pos).2 := by
  by_cases ha : (s[pos]'h).toNat < 128
  · rw [decode_ascii s pos h ha]
    exact Nat.le_refl _
  · exact (decode_high s pos h (by omega)).2

theorem width_le (s : ByteArray) (pos : Nat) : (Utf8.decode s pos).2 ≤ 4 := by
  unfold Utf8.decode
  simp only
  repeat' split
  all_goals simp

end Go.Proofs.YtpbbmagjhkakgaaGreatDoor
