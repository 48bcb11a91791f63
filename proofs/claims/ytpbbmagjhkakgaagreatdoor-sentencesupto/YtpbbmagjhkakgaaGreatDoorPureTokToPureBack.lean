/-
  Plain laws: the tokens of a scanned text bear letters or digits as their signs say; no condition but those that stand in each theorem.
-/
/-
  Plain laws: what is written of a sentence is scanned into that sentence's tokens; no condition but those that stand in each theorem.
-/
import Derived.Test.YtpbbmagjhkakgaaGreatDoorPureNumToPureGood
namespace Go.Proofs.YtpbbmagjhkakgaaGreatDoor

theorem signF_97 {r : Int} (h : signF r = 97) : 97 ≤ r ∧ r ≤ 122 := by
  unfold signF at h
  repeat' split at h
  all_goals omega

theorem signF_48 {r : Int} (h : signF r = 48) : 48 ≤ r ∧ r ≤ 57 := by
  unfold signF at h
  repeat' split at h
  all_goals omega

/-- A rune of ASCII is one byte. -/
theorem decode_small (s : ByteArray) (pos : Nat) (h : pos < s.size) (hr : (Utf8.decode s pos).1 < 128) : (Utf8.decode s pos).2 = 1 ∧ (s[pos]'h).toNat = (Utf8.decode s pos).1 := by
  by_cases ha : (s[pos]'h).toNat < 128
  · rw [decode_ascii s pos h ha]; exact ⟨rfl, rfl⟩
  · have := (decode_high s pos h (by omega)).1; omega

theorem encode_small (r : Int) (h0 : 0 ≤ r) (h1 : r < 128) : (Utf8.encode r).data.toList = [UInt8.ofNat r.toNat] := by
  have hv : Utf8.valid r = true := by unfold Utf8.valid; simp; omega
  unfold Utf8.encode
  simp only [hv, if_true]
  rw [if_pos (by omega)]

theorem take_one (s : ByteArray) (p pos : Nat) (h : pos < s.size) (hp : p ≤ pos) : (s.data.toList.drop p).take (pos + 1 - p) = (s.data.toList.drop p).take (pos - p) ++ [s[pos]'h] := by
  have e : pos + 1 - p = (pos - p) + 1 := by omega
  have hl : pos - p < (s.data.toList.drop p).length := by
    rw [List.length_drop, Array.length_toList]
    have : s.data.size = s.size := rfl
    omega
  rw [e, List.take_succ_eq_append_getElem hl]
  congr 2
  rw [List.getElem_drop]
  have e2 : p + (pos - p) = pos := by omega
  simp only [e2]
  rfl

/-- What holds on the way. -/
def TInv (s : ByteArray) (pos : Nat) (last : Int) (toks : List Tok) : Prop :=
  (∀ t, t ∈ toks → TokOK t) ∧ (joinsB last = true → ∃ (ts : List Tok) (t : Tok) (p : Nat), toks = ts ++ [t] ∧ t.sign = last ∧ t.place = (p : Int) ∧ p < pos ∧ t.word.data.toList = (s.data.toList.drop p).take (pos - p))

theorem joins_cases {sg : Int} (h : joinsB sg = true) : sg = 97 ∨ sg = 48 := by
  unfold joinsB at h
  simp at h
  exact h

theorem byte_let {c : UInt8} {r : Int} (h : (c.toNat : Int) = r) (hr : 97 ≤ r ∧ r ≤ 122) : isLet c := by unfold isLet; omega
theorem byte_dig {c : UInt8} {r : Int} (h : (c.toNat : Int) = r) (hr : 48 ≤ r ∧ r ≤ 57) : isDig c := by unfold isDig; omega

theorem scan_ok (s : ByteArray) : ∀ (b pos : Nat) (last : Int) (toks ts : List Tok), TInv s pos last toks → scanF s b pos last toks = some ts → ∀ t, t ∈ ts → TokOK t := by
  intro b
  have hend : TokOK (endTok s) := ⟨fun h => absurd (show (-1 : Int) = 97 from h) (by decide), fun h => absurd (show (-1 : Int) = 48 from h) (by decide)⟩
  have hfin : ∀ toks : List Tok, (∀ t, t ∈ toks → TokOK t) → ∀ t, t ∈ toks ++ [endTok s] → TokOK t := by
    intro toks h t ht
    rcases List.mem_append.1 ht with ht | ht
    · exact h t ht
    · rw [List.mem_singleton] at ht; subst ht; exact hend
  induction b with
  | zero =>
    intro pos last toks ts hI h
    simp only [scanF] at h
    injection h with h; subst h
    exact hfin toks hI.1
  | succ b ih =>
    intro pos last toks ts hI h
    by_cases hp : pos < s.size
    · rw [scanF, if_pos hp] at h
      by_cases h2 : signF (Utf8.decode s pos).1 = -2
      · rw [if_pos h2] at h; cases h
      · rw [if_neg h2] at h
        by_cases hj : signF (Utf8.decode s pos).1 = last ∧ joinsB (signF (Utf8.decode s pos).1) = true
        · rw [if_pos hj] at h
          obtain ⟨hl, hjb⟩ := hj
          obtain ⟨ts0, t, p, rfl, ht1, ht2, ht3, ht4⟩ := hI.2 (hl ▸ hjb)
          have hr : (97 ≤ ((Utf8.decode s pos).1 : Int) ∧ ((Utf8.decode s pos).1 : Int) ≤ 122) ∨ (48 ≤ ((Utf8.decode s pos).1 : Int) ∧ ((Utf8.decode s pos).1 : Int) ≤ 57) := by
            rcases joins_cases hjb with e | e
            · exact .inl (signF_97 e)
            · exact .inr (signF_48 e)
          obtain ⟨hw, hb⟩ := decode_small s pos hp (by omega)
          rw [growF_snoc] at h
          have hword : (s.extract t.place.toNat (pos + 1)).data.toList = t.word.data.toList ++ [s[pos]'hp] := by
            rw [Lib.extract_data, ht2, Int.toNat_natCast, take_one s p pos hp (by omega), ht4]
          have hold := hI.1 t (by simp)
          refine ih _ _ _ _ ⟨?_, ?_⟩ h
          · intro x hx
            rcases List.mem_append.1 hx with hx | hx
            · exact hI.1 x (by simp [hx])
            · rw [List.mem_singleton] at hx
              subst hx
              refine ⟨fun hs => ?_, fun hs => ?_⟩
              · have hs' : t.sign = 97 := hs
                have hr2 := signF_97 (r := (Utf8.decode s pos).1) (by rw [hl, ← ht1]; exact hs')
                show (s.extract t.place.toNat (pos + 1)).data.toList ≠ [] ∧ ∀ c, c ∈ (s.extract t.place.toNat (pos + 1)).data.toList → isLet c
                rw [hword]
                refine ⟨by simp, ?_⟩
                intro c hc
                rcases List.mem_append.1 hc with hc | hc
                · exact (hold.1 hs').2 c hc
                · rw [List.mem_singleton] at hc; subst hc; exact byte_let (r := (Utf8.decode s pos).1) (by omega) hr2
              · have hs' : t.sign = 48 := hs
                have hr2 := signF_48 (r := (Utf8.decode s pos).1) (by rw [hl, ← ht1]; exact hs')
                show (s.extract t.place.toNat (pos + 1)).data.toList ≠ [] ∧ ∀ c, c ∈ (s.extract t.place.toNat (pos + 1)).data.toList → isDig c
                rw [hword]
                refine ⟨by simp, ?_⟩
                intro c hc
                rcases List.mem_append.1 hc with hc | hc
                · exact (hold.2 hs').2 c hc
                · rw [List.mem_singleton] at hc; subst hc; exact byte_dig (r := (Utf8.decode s pos).1) (by omega) hr2
          · intro _
            refine ⟨ts0, _, p, rfl, by rw [hl]; exact ht1, ht2, by omega, ?_⟩
            show (s.extract t.place.toNat (pos + 1)).data.toList = _
            rw [hword, hw, take_one s p pos hp (by omega), ht4]
        · rw [if_neg hj] at h
          by_cases h32 : signF (Utf8.decode s pos).1 = 32
          · rw [if_pos h32] at h
            exact ih _ _ _ _ ⟨hI.1, fun hb => by rw [h32] at hb; exact absurd hb (by decide)⟩ h
          · rw [if_neg h32] at h
            refine ih _ _ _ _ ⟨?_, ?_⟩ h
            · intro x hx
              rcases List.mem_append.1 hx with hx | hx
              · exact hI.1 x hx
              · rw [List.mem_singleton] at hx
                subst hx
                refine ⟨fun hs => ?_, fun hs => ?_⟩
                · have hr2 := signF_97 (r := (Utf8.decode s pos).1) hs
                  dsimp only
                  rw [encode_small _ (by omega) (by omega)]
                  refine ⟨by simp, ?_⟩
                  intro c hc
                  rw [List.mem_singleton] at hc; subst hc
                  refine byte_let (r := (Utf8.decode s pos).1) ?_ hr2
                  rw [UInt8.toNat_ofNat']; omega
                · have hr2 := signF_48 (r := (Utf8.decode s pos).1) hs
                  dsimp only
                  rw [encode_small _ (by omega) (by omega)]
                  refine ⟨by simp, ?_⟩
                  intro c hc
                  rw [List.mem_singleton] at hc; subst hc
                  refine byte_dig (r := (Utf8.decode s pos).1) ?_ hr2
                  rw [UInt8.toNat_ofNat']; omega
            · intro hjb
              have hr : 0 ≤ ((Utf8.decode s pos).1 : Int) ∧ ((Utf8.decode s pos).1 : Int) < 128 := by
                rcases joins_cases hjb with e | e
                · have := signF_97 e; omega
                · have := signF_48 e; omega
              obtain ⟨hw, hb⟩ := decode_small s pos hp (by omega)
              refine ⟨toks, _, pos, rfl, rfl, rfl, by omega, ?_⟩
              dsimp only
              rw [encode_small _ hr.1 hr.2, hw]
              have e1 := take_one s pos pos hp (Nat.le_refl _)
              rw [e1]
              simp
              rw [← hb]
              simp
    · rw [scanF_end s _ pos last toks hp] at h
      injection h with h; subst h
      exact hfin toks hI.1

theorem TInv.start (s : ByteArray) : TInv s 0 32 [] := ⟨by simp, fun h => absurd h (by decide)⟩

/-- What is read is made as it should be. -/
theorem readF_good {s : ByteArray} {x : Go.Deep.BT Pay} {n : Int} (h : readF s = (some x, n)) (he : ∀ ts, scanF s s.size 0 32 [] = some ts → Ends ts) : Good x := by
  unfold readF at h
  split at h
  · simp at h
  · cases h1 : scanF s s.size 0 32 [] with
    | none => simp [h1] at h
    | some ts =>
      have e1 := he ts h1
      have o1 := scan_ok s _ _ _ _ _ (TInv.start s) h1
      simp only [h1] at h
      cases h2 : parseF ts.length ts with
      | none => simp [h2] at h
      | some y =>
        obtain ⟨z, r⟩ := y
        have g2 := (gives_parse _ _ _ _ e1 o1 h2).1
        simp only [h2] at h
        cases h3 : expectF (-1) r with
        | none => simp [h3] at h
        | some t3 =>
          simp only [h3] at h
          split at h
          · simp at h
          · simp at h
            obtain ⟨rfl, _⟩ := h
            exact g2

end Go.Proofs.YtpbbmagjhkakgaaGreatDoor

namespace Go.Proofs.YtpbbmagjhkakgaaGreatDoor
open Go.Deep (BT)

/-- A token without its place. -/
def strip (t : Tok) : Int × List UInt8 := (t.sign, t.word.data.toList)

/-- The window's tokens. -/
def tkW (a : Pay) : List (Int × List UInt8) := if winB a.op then [(91, [91]), (48, Lib.itoa a.lo), (44, [44]), (48, Lib.itoa a.hi), (93, [93])] else []

/-- The tokens of a sentence. -/
def tk : BT Pay → List (Int × List UInt8)
  | .nil => []
  | .node _ _ a l r =>
    if a.op = 116 then [(97, [116, 114, 117, 101])]
    else if a.op = 97 then [(97, a.name.data.toList)]
    else if a.op = 8743 ∨ a.op = 8744 ∨ a.op = 83 then (40, [40]) :: (tk l ++ ((a.op, opBytes a.op) :: (tkW a ++ (tk r ++ [(41, [41])]))))
    else (a.op, opBytes a.op) :: (tkW a ++ tk l)

theorem at_lt {s : ByteArray} {pos : Nat} {c : UInt8} {l : List UInt8} (h : s.data.toList.drop pos = c :: l) : ∃ hp : pos < s.size, s[pos]'hp = c := by
  have h1 : (s.data.toList.drop pos)[0]? = some c := by rw [h]; rfl
  rw [List.getElem?_drop] at h1
  simp only [Nat.add_zero] at h1
  rw [List.getElem?_eq_some_iff] at h1
  obtain ⟨hl, he⟩ := h1
  exact ⟨by rw [Array.length_toList] at hl; exact hl, he⟩

theorem at_next {s : ByteArray} {pos : Nat} {m l : List UInt8} (h : s.data.toList.drop pos = m ++ l) : s.data.toList.drop (pos + m.length) = l := by
  rw [← List.drop_drop, h]; simp

theorem dec_ascii {s : ByteArray} {pos : Nat} {c : UInt8} {l : List UInt8} (h : s.data.toList.drop pos = c :: l) (hc : c.toNat < 128) : pos < s.size ∧ Utf8.decode s pos = (c.toNat, 1) := by
  obtain ⟨hp, he⟩ := at_lt h
  exact ⟨hp, by rw [decode_ascii s pos hp (by rw [he]; exact hc), he]⟩

theorem get_of {s : ByteArray} {pos k : Nat} {c : UInt8} {l : List UInt8} (h : s.data.toList.drop pos = l) (hk : l[k]? = some c) : pos + k < s.size ∧ s.get! (pos + k) = c := by
  rw [← h, List.getElem?_drop, List.getElem?_eq_some_iff] at hk
  obtain ⟨hl, he⟩ := hk
  have hl2 : pos + k < s.data.size := by rw [Array.length_toList] at hl; exact hl
  refine ⟨hl2, ?_⟩
  show s.data[pos + k]! = c
  rw [getElem!_pos s.data (pos + k) hl2, ← he]
  simp

theorem dec_sign {s : ByteArray} {pos : Nat} {op : Int} {l : List UInt8} (hop : isSign op) (h : s.data.toList.drop pos = opBytes op ++ l) : pos < s.size ∧ Utf8.decode s pos = (op.toNat, (opBytes op).length) := by
  rcases hop with rfl | rfl | rfl | rfl | rfl | rfl | rfl
  · have h' : s.data.toList.drop pos = 194 :: 172 :: l := h
    have g0 := get_of (k := 0) h' rfl
    have g1 := get_of (k := 1) h' rfl
    refine ⟨by have := g0.1; omega, ?_⟩
    have e0 : s.get! pos = 194 := g0.2
    unfold Utf8.decode
    simp [e0, g1.2, g1.1]
    decide
  · have h' : s.data.toList.drop pos = 226 :: 136 :: 167 :: l := h
    have g0 := get_of (k := 0) h' rfl
    have g1 := get_of (k := 1) h' rfl
    have g2 := get_of (k := 2) h' rfl
    refine ⟨by have := g0.1; omega, ?_⟩
    have e0 : s.get! pos = 226 := g0.2
    unfold Utf8.decode
    simp [e0, g1.2, g1.1, g2.1, g2.2]
    decide
  · have h' : s.data.toList.drop pos = 226 :: 136 :: 168 :: l := h
    have g0 := get_of (k := 0) h' rfl
    have g1 := get_of (k := 1) h' rfl
    have g2 := get_of (k := 2) h' rfl
    refine ⟨by have := g0.1; omega, ?_⟩
    have e0 : s.get! pos = 226 := g0.2
    unfold Utf8.decode
    simp [e0, g1.2, g1.1, g2.1, g2.2]
    decide
  · exact dec_ascii (show s.data.toList.drop pos = 89 :: l from h) (by decide)
  · exact dec_ascii (show s.data.toList.drop pos = 79 :: l from h) (by decide)
  · exact dec_ascii (show s.data.toList.drop pos = 72 :: l from h) (by decide)
  · exact dec_ascii (show s.data.toList.drop pos = 83 :: l from h) (by decide)

/-- Behind n steps the scanner stands behind l, with the tokens T more. -/
def Eats (s : ByteArray) (pos : Nat) (last : Int) (l : List UInt8) (n : Nat) (last' : Int) (T : List (Int × List UInt8)) : Prop :=
  ∀ (b : Nat) (toks : List Tok), ∃ A : List Tok, A.map strip = T ∧ scanF s (b + n) pos last toks = scanF s b (pos + l.length) last' (toks ++ A)

theorem Eats.trans {s : ByteArray} {pos : Nat} {a b c : Int} {l m : List UInt8} {n k : Nat} {T U : List (Int × List UInt8)} (h : Eats s pos a l n b T) (g : Eats s (pos + l.length) b m k c U) : Eats s pos a (l ++ m) (k + n) c (T ++ U) := by
  intro q toks
  obtain ⟨A, hA, e1⟩ := h (q + k) toks
  obtain ⟨B, hB, e2⟩ := g q (toks ++ A)
  refine ⟨A ++ B, by rw [List.map_append, hA, hB], ?_⟩
  rw [← Nat.add_assoc, e1, e2, List.length_append, List.append_assoc, Nat.add_assoc]

theorem Eats.nil (s : ByteArray) (pos : Nat) (last : Int) : Eats s pos last [] 0 last [] := fun b toks => ⟨[], rfl, by simp⟩

/-- A blank. -/
theorem eats_blank {s : ByteArray} {pos : Nat} (last : Int) {l : List UInt8} (h : s.data.toList.drop pos = 32 :: l) : Eats s pos last [32] 1 32 [] := by
  obtain ⟨hp, hd⟩ := dec_ascii h (by decide)
  intro b toks
  refine ⟨[], rfl, ?_⟩
  rw [scanF, if_pos hp, hd]
  have e : signF ((32 : UInt8).toNat : Nat) = 32 := by decide
  dsimp only
  rw [e, if_neg (by decide), if_neg (by intro h; exact absurd h.2 (by decide)), if_pos rfl]
  simp

/-- A sign that stands alone, at the bytes m, whose rune is r. -/
theorem eats_sign {s : ByteArray} {pos r : Nat} (last : Int) {m : List UInt8} (hp : pos < s.size) (hd : Utf8.decode s pos = (r, m.length)) (h2 : signF r ≠ -2) (hj : joinsB (signF r) = false) (h32 : signF r ≠ 32) (hm : (Utf8.encode r).data.toList = m) :
    Eats s pos last m 1 (signF r) [(signF r, m)] := by
  intro b toks
  refine ⟨[⟨signF r, pos, Utf8.encode r⟩], by simp only [List.map_cons, List.map_nil, strip]; rw [hm], ?_⟩
  rw [scanF, if_pos hp, hd]
  dsimp only
  rw [if_neg h2, if_neg (by intro h; rw [hj] at h; exact absurd h.2 (by decide)), if_neg h32]

theorem eats_op {s : ByteArray} {pos : Nat} {op : Int} (last : Int) {l : List UInt8} (hop : isSign op) (h : s.data.toList.drop pos = opBytes op ++ l) : Eats s pos last (opBytes op) 1 op [(op, opBytes op)] := by
  obtain ⟨hp, hd⟩ := dec_sign hop h
  have hs : signF (op.toNat : Nat) = op := by rcases hop with rfl | rfl | rfl | rfl | rfl | rfl | rfl <;> decide
  have := eats_sign (s := s) (pos := pos) (r := op.toNat) last (m := opBytes op) hp hd (by rw [hs]; rcases hop with rfl | rfl | rfl | rfl | rfl | rfl | rfl <;> decide) (by rw [hs]; rcases hop with rfl | rfl | rfl | rfl | rfl | rfl | rfl <;> decide) (by rw [hs]; rcases hop with rfl | rfl | rfl | rfl | rfl | rfl | rfl <;> decide) (by rcases hop with rfl | rfl | rfl | rfl | rfl | rfl | rfl <;> decide)
  rw [hs] at this
  exact this

theorem eats_char {s : ByteArray} {pos : Nat} (c : UInt8) (last : Int) {l : List UInt8} (hc : c = 40 ∨ c = 41 ∨ c = 91 ∨ c = 93 ∨ c = 44) (h : s.data.toList.drop pos = c :: l) : Eats s pos last [c] 1 c.toNat [((c.toNat : Int), [c])] := by
  obtain ⟨hp, hd⟩ := dec_ascii h (by rcases hc with rfl | rfl | rfl | rfl | rfl <;> decide)
  have hs : signF (c.toNat : Nat) = (c.toNat : Int) := by rcases hc with rfl | rfl | rfl | rfl | rfl <;> decide
  have := eats_sign (s := s) (pos := pos) (r := c.toNat) last (m := [c]) hp hd (by rw [hs]; rcases hc with rfl | rfl | rfl | rfl | rfl <;> decide) (by rw [hs]; rcases hc with rfl | rfl | rfl | rfl | rfl <;> decide) (by rw [hs]; rcases hc with rfl | rfl | rfl | rfl | rfl <;> decide) (by rcases hc with rfl | rfl | rfl | rfl | rfl <;> decide)
  rw [hs] at this
  exact this

/-- The rest of a run of letters, or of digits. -/
theorem run_more {s : ByteArray} {sg : Int} (hj : joinsB sg = true) : ∀ (l : List UInt8) (pos p : Nat) (rest : List UInt8) (b : Nat) (toks : List Tok) (wd : ByteArray), s.data.toList.drop pos = l ++ rest → (∀ c, c ∈ l → c.toNat < 128 ∧ signF (c.toNat : Nat) = sg) → p ≤ pos → wd.data.toList = (s.data.toList.drop p).take (pos - p) →
    ∃ wd' : ByteArray, wd'.data.toList = (s.data.toList.drop p).take (pos + l.length - p) ∧ scanF s (b + l.length) pos sg (toks ++ [⟨sg, p, wd⟩]) = scanF s b (pos + l.length) sg (toks ++ [⟨sg, p, wd'⟩]) := by
  intro l
  induction l with
  | nil => intro pos p rest b toks wd _ _ _ hw; exact ⟨wd, by simpa using hw, by simp⟩
  | cons c l ih =>
    intro pos p rest b toks wd h hc hp hw
    have hcc := hc c (by simp)
    obtain ⟨hlt, hd⟩ := dec_ascii (show s.data.toList.drop pos = c :: (l ++ rest) from h) hcc.1
    have hnext : s.data.toList.drop (pos + 1) = l ++ rest := at_next (m := [c]) h
    have hw' : (s.extract p (pos + 1)).data.toList = (s.data.toList.drop p).take (pos + 1 - p) := Lib.extract_data s p (pos + 1)
    obtain ⟨wd', e1, e2⟩ := ih (pos + 1) p rest b toks (s.extract p (pos + 1)) hnext (fun x hx => hc x (by simp [hx])) (by omega) hw'
    refine ⟨wd', by rw [e1]; congr 1; simp; omega, ?_⟩
    have e3 : b + (c :: l).length = (b + l.length) + 1 := by simp; omega
    rw [e3, scanF, if_pos hlt, hd]
    dsimp only
    rw [hcc.2, if_neg (by rcases joins_cases hj with e | e <;> rw [e] <;> decide), if_pos ⟨rfl, hj⟩, growF_snoc]
    dsimp only
    have e4 : pos + 1 + l.length = pos + (c :: l).length := by simp; omega
    rw [Int.toNat_natCast, e2, e4]

/-- A run of letters, or of digits. -/
theorem eats_run {s : ByteArray} {sg : Int} (hj : joinsB sg = true) {l rest : List UInt8} {pos : Nat} {last : Int} (hne : l ≠ []) (h : s.data.toList.drop pos = l ++ rest) (hc : ∀ c, c ∈ l → c.toNat < 128 ∧ signF (c.toNat : Nat) = sg) (hl : last ≠ sg) : Eats s pos last l l.length sg [(sg, l)] := by
  intro b toks
  cases l with
  | nil => exact absurd rfl hne
  | cons c l =>
    have hcc := hc c (by simp)
    obtain ⟨hlt, hd⟩ := dec_ascii (show s.data.toList.drop pos = c :: (l ++ rest) from h) hcc.1
    have hnext : s.data.toList.drop (pos + 1) = l ++ rest := at_next (m := [c]) h
    have henc : (Utf8.encode (c.toNat : Nat)).data.toList = [c] := by
      rw [encode_small _ (by omega) (by omega)]
      simp
    have hw : (Utf8.encode (c.toNat : Nat)).data.toList = (s.data.toList.drop pos).take (pos + 1 - pos) := by
      rw [henc, h]
      have : pos + 1 - pos = 1 := by omega
      rw [this]; rfl
    obtain ⟨wd', e1, e2⟩ := run_more hj l (pos + 1) pos rest b toks (Utf8.encode (c.toNat : Nat)) hnext (fun x hx => hc x (by simp [hx])) (by omega) hw
    refine ⟨[⟨sg, pos, wd'⟩], ?_, ?_⟩
    · simp only [List.map_cons, List.map_nil, strip]
      rw [e1, h]
      have : pos + 1 + l.length - pos = (c :: l).length := by simp; omega
      rw [this, List.take_left']
      rfl
    · have e3 : b + (c :: l).length = (b + l.length) + 1 := by simp; omega
      rw [e3, scanF, if_pos hlt, hd]
      dsimp only
      rw [hcc.2, if_neg (by rcases joins_cases hj with e | e <;> rw [e] <;> decide), if_neg (by intro h; exact hl h.1.symm), if_neg (by rcases joins_cases hj with e | e <;> rw [e] <;> decide), e2]
      have e4 : pos + 1 + l.length = pos + (c :: l).length := by simp; omega
      rw [e4]

end Go.Proofs.YtpbbmagjhkakgaaGreatDoor
