/-
  What (*reader).sentence does: it reads a sentence off the front of the tokens as its plain function says, or hands back a *Fault; for every reader whose tokens are there and end as they should, in a world whose variables of package strconv are there.
-/
/-
  The plain function of the program's scanner, over a string's runes: definitions, and what holds of the tokens that it gives; no condition but those that stand in each theorem.
-/
import Derived.Test.YtpbbmagjhkakgaaGreatDoorWindowToParse
import Derived.Test.YtpbbmagjhkakgaaGreatDoorShelfToPure
import Derived.Laws.RangeAny
import Derived.Lib.Strings
namespace Go.Proofs.YtpbbmagjhkakgaaGreatDoor
open Go.RowKit Go.Deep

/-- The tests of a sentence's first sign, one way each. -/
theorem first_cases (sg : Int) : (sg = 97 ∧ (sg == 97) = true) ∨ (sg = 40 ∧ (sg == 97) = false ∧ (sg == 40) = true)
    ∨ ((¬ sg = 97 ∧ ¬ sg = 40 ∧ (sg = 172 ∨ sg = 89 ∨ sg = 79 ∨ sg = 72)) ∧ (sg == 97) = false ∧ (sg == 40) = false ∧ ((sg == 172) = true ∨ ((sg == 172) = false ∧ (sg == 89) = true) ∨ ((sg == 172) = false ∧ (sg == 89) = false ∧ (sg == 79) = true) ∨ ((sg == 172) = false ∧ (sg == 89) = false ∧ (sg == 79) = false ∧ (sg == 72) = true)))
    ∨ ((¬ sg = 97 ∧ ¬ sg = 40 ∧ ¬ (sg = 172 ∨ sg = 89 ∨ sg = 79 ∨ sg = 72)) ∧ (sg == 97) = false ∧ (sg == 40) = false ∧ (sg == 172) = false ∧ (sg == 89) = false ∧ (sg == 79) = false ∧ (sg == 72) = false) := by
  by_cases h1 : sg = 97
  · exact .inl ⟨h1, by simp [h1]⟩
  by_cases h2 : sg = 40
  · exact .inr (.inl ⟨h2, by simp [h2], by simp [h2]⟩)
  by_cases h3 : sg = 172
  · exact .inr (.inr (.inl ⟨⟨h1, h2, .inl h3⟩, by simp [h1], by simp [h2], .inl (by simp [h3])⟩))
  by_cases h4 : sg = 89
  · exact .inr (.inr (.inl ⟨⟨h1, h2, .inr (.inl h4)⟩, by simp [h1], by simp [h2], .inr (.inl ⟨by simp [h3], by simp [h4]⟩)⟩))
  by_cases h5 : sg = 79
  · exact .inr (.inr (.inl ⟨⟨h1, h2, .inr (.inr (.inl h5))⟩, by simp [h1], by simp [h2], .inr (.inr (.inl ⟨by simp [h3], by simp [h4], by simp [h5]⟩))⟩))
  by_cases h6 : sg = 72
  · exact .inr (.inr (.inl ⟨⟨h1, h2, .inr (.inr (.inr h6))⟩, by simp [h1], by simp [h2], .inr (.inr (.inr ⟨by simp [h3], by simp [h4], by simp [h5], by simp [h6]⟩))⟩))
  · exact .inr (.inr (.inr ⟨⟨h1, h2, by simp [h3, h4, h5, h6]⟩, by simp [h1], by simp [h2], by simp [h3], by simp [h4], by simp [h5], by simp [h6]⟩))

/-- word, at every short word. -/
theorem word_any (t : Tok) (w : World) (hs : t.word.size ≤ 300) :
    Calls Tryz.prog 155 #[.agg #[.int .i32 t.sign, .int .i64 t.place, .string t.word]] w fun e w' => Below w.heap.size w w' ∧ ((∃ x v, wordF t = some x ∧ e = .returned (.tuple #[v, .nilIface]) ∧ SentAt 143 w.heap.size w' x v) ∨ (wordF t = none ∧ ∃ fa, e = .returned (.tuple #[.pointer none, .iface 201 (.pointer (some fa))]))) := by
  by_cases ht : t.word = trueB
  · rw [ht]
    refine (word_true t.sign t.place w).mono ?_
    rintro e w' ⟨v, rfl, hx, hb⟩
    exact ⟨hb, .inl ⟨_, v, by unfold wordF; rw [if_pos ht], rfl, hx⟩⟩
  · have ht' : (t.word.toList == [116, 114, 117, 101]) = false := by
      rw [beq_eq_false_iff_ne, Lib.toList_data]
      intro h
      exact ht (bytes_ext h)
    by_cases hl : 8 < t.word.size
    · refine (word_long t.sign t.place t.word w ht' hl (by unfold maxLen; omega)).mono ?_
      rintro e w' ⟨fa, rfl, hb⟩
      exact ⟨hb, .inr ⟨by unfold wordF; rw [if_neg ht, if_pos hl], fa, rfl⟩⟩
    · refine (word_name t.sign t.place t.word w ht' (by omega)).mono ?_
      rintro e w' ⟨v, rfl, hx, hb⟩
      exact ⟨hb, .inl ⟨_, v, by unfold wordF; rw [if_neg ht, if_neg hl], rfl, hx⟩⟩

set_option maxHeartbeats 2000000 in
theorem sentence_step (n : Nat) (f : List Tok → Option (BT Pay × List Tok)) (ih : SentOK n f) (hk : Keeps f) : SentOK (n + 1) (stepF f) := by
  intro rb ts w h he hg hrb hn
  have hF : Hid (stepF f ts = if (takeF ts).1.sign = 97 then (wordF (takeF ts).1).map fun x => (x, (takeF ts).2)
    else if (takeF ts).1.sign = 40 then pairF f (takeF ts).2
    else if (takeF ts).1.sign = 172 ∨ (takeF ts).1.sign = 89 ∨ (takeF ts).1.sign = 79 ∨ (takeF ts).1.sign = 72 then singleF f (takeF ts).1.sign (takeF ts).2
    else none) := rfl
  generalize stepF f ts = res at *
  have hrl := h.lt
  have htk := take_any rb ts w h he
  obtain ⟨e1, l1, l1'⟩ := he.take
  have hwd := he.word
  clear he h
  generalize (takeF ts).1 = t at *
  generalize (takeF ts).2 = u at *
  rcases first_cases t.sign with ⟨hs, q1⟩ | ⟨hs, q1, q2⟩ | ⟨hs, q1, q2, hq⟩ | ⟨hs, q1, q2, q3, q4, q5, q6⟩
  · have hF1 : Hid (res = (wordF t).map fun x => (x, u)) := by show _ = _; rw [hF.out, if_pos hs]
    clear hs hF l1'
    go_enter Tryz.func114, Tryz.ntmps114
    go_wp2_with fail
    refine htk.mono ?_
    rintro e w1 ⟨rfl, ho1, hr1⟩
    have z1 := ho1.size
    go_wp2_with fail
    refine (word_any t _ hwd).mono ?_
    rintro e w2 ⟨hb, ⟨x, v, hx, rfl, hxa⟩ | ⟨hx, fa, rfl⟩⟩
    · have o2 := (ho1.alloc _).tb hb
      have r2 := (hr1.alloc _).below hb
      have hxa' := hxa.low (B' := rb + 1) (by simp; omega)
      have hF2 : Hid (res = some (x, u)) := by show _ = _; rw [hF1.out, hx]; rfl
      obtain ⟨vx, rfl⟩ := sent_ptr hxa
      clear hb hxa hx hF1
      go_wp2_with fail
      go_ret2
      exact ⟨o2, .inl ⟨_, _, _, hF2.out, rfl, hxa', r2⟩⟩
    · have o2 := (ho1.alloc _).tb hb
      have hF2 : Hid (res = none) := by show _ = _; rw [hF1.out, hx]; rfl
      clear hb hx hF1
      go_wp2_with fail
      go_ret2
      exact ⟨o2, .inr ⟨hF2.out, _, rfl⟩⟩
  · have hF1 : Hid (res = pairF f u) := by show _ = _; rw [hF.out, if_neg (by omega), if_pos hs]
    have l2 := l1' (by omega)
    have hs' : Hid (t.sign = 40) := hs
    clear hs hF l1'
    go_enter Tryz.func114, Tryz.ntmps114
    go_wp2_with fail
    refine htk.mono ?_
    rintro e w1 ⟨rfl, ho1, hr1⟩
    have z1 := ho1.size
    go_wp2_with fail
    refine (pair_any n f ih hk rb u _ (hr1.alloc _) e1 ((hg.only ho1 hrb).below ((Below.refl _ _).al _)) hrb (by omega)).mono ?_
    rintro e w2 ⟨ho2, ⟨x, r, v, hx, rfl, hxa, hr2⟩ | ⟨hx, fa, rfl⟩⟩
    · have o2 := (ho1.alloc _).trans ho2
      have hF2 : Hid (res = some (x, r)) := by show _ = _; rw [hF1.out, hx]
      obtain ⟨vx, rfl⟩ := sent_ptr hxa
      clear ho2 hx hF1
      go_wp2_with fail
      go_ret2
      exact ⟨o2, .inl ⟨_, _, _, hF2.out, rfl, hxa, hr2⟩⟩
    · have o2 := (ho1.alloc _).trans ho2
      have hF2 : Hid (res = none) := by show _ = _; rw [hF1.out, hx]
      clear ho2 hx hF1
      go_wp2_with fail
      go_ret2
      exact ⟨o2, .inr ⟨hF2.out, _, rfl⟩⟩
  · have hF1 : Hid (res = singleF f t.sign u) := by show _ = _; rw [hF.out, if_neg hs.1, if_neg hs.2.1, if_pos hs.2.2]
    have l2 := l1' (by omega)
    clear hs hF l1'
    rcases hq with q3 | ⟨q3, q4⟩ | ⟨q3, q4, q5⟩ | ⟨q3, q4, q5, q6⟩
    all_goals
      go_enter Tryz.func114, Tryz.ntmps114
      go_wp2_with fail
      refine htk.mono ?_
      rintro e w1 ⟨rfl, ho1, hr1⟩
      have z1 := ho1.size
      go_wp2_with fail
      refine (single_any n f ih rb u t.sign _ (hr1.alloc _) e1 ((hg.only ho1 hrb).below ((Below.refl _ _).al _)) hrb (by omega)).mono ?_
      rintro e w2 ⟨ho2, ⟨x, r, v, hx, rfl, hxa, hr2⟩ | ⟨hx, fa, rfl⟩⟩
      · have o2 := (ho1.alloc _).trans ho2
        have hF2 : Hid (res = some (x, r)) := by show _ = _; rw [hF1.out, hx]
        obtain ⟨vx, rfl⟩ := sent_ptr hxa
        clear ho2 hx hF1
        go_wp2_with fail
        go_ret2
        exact ⟨o2, .inl ⟨_, _, _, hF2.out, rfl, hxa, hr2⟩⟩
      · have o2 := (ho1.alloc _).trans ho2
        have hF2 : Hid (res = none) := by show _ = _; rw [hF1.out, hx]
        clear ho2 hx hF1
        go_wp2_with fail
        go_ret2
        exact ⟨o2, .inr ⟨hF2.out, _, rfl⟩⟩
  · have hF1 : Hid (res = none) := by show _ = _; rw [hF.out, if_neg hs.1, if_neg hs.2.1, if_neg hs.2.2]
    clear hs hF l1'
    go_enter Tryz.func114, Tryz.ntmps114
    go_wp2_with fail
    refine htk.mono ?_
    rintro e w1 ⟨rfl, ho1, hr1⟩
    go_wp2_with fail
    go_region
    all_goals go_wp2
    all_goals go_ret2
    all_goals exact ⟨by repeat (first | exact ho1 | refine Only.drew ?_ | refine Only.alloc ?_ _), .inr ⟨hF1.out, _, rfl⟩⟩

/-- (*reader).sentence, whatever the tokens. -/
theorem sentence_any : ∀ n, SentOK n (parseF n)
  | 0 => fun rb ts w h he _ _ hn => by
    obtain ⟨t, r, rfl⟩ := he.cons
    simp at hn
  | n + 1 => sentence_step n (parseF n) (sentence_any n) (keeps_parse n)

end Go.Proofs.YtpbbmagjhkakgaaGreatDoor

namespace Go.Proofs.YtpbbmagjhkakgaaGreatDoor

/-- The last token's word grows up to the place behind pos. -/
def growF (s : ByteArray) (pos : Nat) (toks : List Tok) : List Tok :=
  match toks.getLast? with
  | some t => toks.dropLast ++ [⟨t.sign, t.place, s.extract t.place.toNat (pos + 1)⟩]
  | none => toks

theorem growF_snoc (s : ByteArray) (pos : Nat) (ts : List Tok) (t : Tok) : growF s pos (ts ++ [t]) = ts ++ [⟨t.sign, t.place, s.extract t.place.toNat (pos + 1)⟩] := by
  simp [growF]

def endTok (s : ByteArray) : Tok := ⟨-1, s.size, ByteArray.empty⟩

/-- The tokens from place pos on, behind those that are there. -/
def scanF (s : ByteArray) : Nat → Nat → Int → List Tok → Option (List Tok)
  | 0, _, _, toks => some (toks ++ [endTok s])
  | b + 1, pos, last, toks =>
    if pos < s.size then
      if signF (Utf8.decode s pos).1 = -2 then none
      else if signF (Utf8.decode s pos).1 = last ∧ joinsB (signF (Utf8.decode s pos).1) = true then
        scanF s b (pos + (Utf8.decode s pos).2) (signF (Utf8.decode s pos).1) (growF s pos toks)
      else if signF (Utf8.decode s pos).1 = 32 then scanF s b (pos + (Utf8.decode s pos).2) (signF (Utf8.decode s pos).1) toks
      else scanF s b (pos + (Utf8.decode s pos).2) (signF (Utf8.decode s pos).1) (toks ++ [⟨signF (Utf8.decode s pos).1, pos, Utf8.encode (Utf8.decode s pos).1⟩])
    else some (toks ++ [endTok s])

theorem scanF_end (s : ByteArray) (b pos : Nat) (last : Int) (toks : List Tok) (h : ¬ pos < s.size) : scanF s b pos last toks = some (toks ++ [endTok s]) := by
  cases b with
  | zero => rfl
  | succ b => simp [scanF, h]

/-- What holds of the tokens on the way. -/
structure Mid (pos : Nat) (last : Int) (toks : List Tok) : Prop where
  each : ∀ t, t ∈ toks → t.sign ≠ -1 ∧ t.word.size ≤ 300 ∧ 0 ≤ t.place ∧ t.place ≤ pos
  len : toks.length ≤ pos
  join : joinsB last = true → toks ≠ []

theorem Mid.start : Mid 0 32 [] := ⟨by simp, by simp, by intro h; exact absurd h (by decide)⟩

theorem Mid.ends {pos : Nat} {last : Int} {toks : List Tok} (h : Mid pos last toks) (s : ByteArray) : Ends (toks ++ [endTok s]) :=
  ⟨toks, endTok s, rfl, rfl, by show ByteArray.empty.size ≤ 300; decide, fun t ht => ⟨(h.each t ht).1, (h.each t ht).2.1⟩⟩

theorem encode_le (r : Int) : (Utf8.encode r).size ≤ 4 := by
  unfold Utf8.encode
  simp only
  repeat' split
  all_goals simp [ByteArray.size]

theorem Mid.blank {pos p2 : Nat} {last : Int} {toks : List Tok} (h : Mid pos last toks) (hp : pos ≤ p2) : Mid p2 32 toks :=
  ⟨fun t ht => by have := h.each t ht; exact ⟨this.1, this.2.1, this.2.2.1, by omega⟩, by have := h.len; omega, by intro h; exact absurd h (by decide)⟩

theorem Mid.more {pos p2 : Nat} {last sg r : Int} {toks : List Tok} (h : Mid pos last toks) (hp : pos < p2) (hs : sg ≠ -1) : Mid p2 sg (toks ++ [⟨sg, pos, Utf8.encode r⟩]) := by
  refine ⟨?_, by have := h.len; simp; omega, by simp⟩
  intro t ht
  rcases List.mem_append.1 ht with ht | ht
  · have := h.each t ht; exact ⟨this.1, this.2.1, this.2.2.1, by omega⟩
  · simp at ht; subst ht
    have := encode_le r
    exact ⟨hs, by show (Utf8.encode r).size ≤ 300; omega, by show (0 : Int) ≤ pos; omega, by show (pos : Int) ≤ p2; omega⟩

theorem Mid.grow {pos p2 : Nat} {last sg : Int} {ts : List Tok} {t : Tok} {s : ByteArray} (h : Mid pos last (ts ++ [t])) (hp : pos < p2) (hsz : s.size ≤ 300) :
    Mid p2 sg (ts ++ [⟨t.sign, t.place, s.extract t.place.toNat (pos + 1)⟩]) := by
  refine ⟨?_, by have := h.len; simp at this ⊢; omega, by simp⟩
  intro x hx
  rcases List.mem_append.1 hx with hx | hx
  · have := h.each x (by simp [hx]); exact ⟨this.1, this.2.1, this.2.2.1, by omega⟩
  · simp at hx; subst hx
    have := h.each t (by simp)
    refine ⟨this.1, ?_, this.2.2.1, by have := this.2.2.2; show t.place ≤ (p2 : Int); omega⟩
    show (s.extract t.place.toNat (pos + 1)).size ≤ 300
    rw [ByteArray.size_extract]; omega

theorem signF_ne (r : Int) : signF r ≠ -1 ∨ signF r = -2 := by
  unfold signF
  repeat' split
  all_goals omega

theorem width_pos (s : ByteArray) (pos : Nat) (h : pos < s.size) : 1 ≤ (Utf8.decode s pos).2 := by
  by_cases ha : (s[pos]'h).toNat < 128
  · rw [decode_ascii s pos h ha]
    exact Nat.le_refl _
  · exact (decode_high s pos h (by omega)).2

theorem width_le (s : ByteArray) (pos : Nat) : (Utf8.decode s pos).2 ≤ 4 := by
  unfold Utf8.decode
  simp only
  repeat' split
  all_goals simp

end Go.Proofs.YtpbbmagjhkakgaaGreatDoor
