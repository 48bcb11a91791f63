import Derived.Test.YtpbbmagjhkakgaaGreatDoorPureTreeToPureCore
import Derived.Test.YtpbbmagjhkakgaaGreatDoorPureToPureScan
import Derived.Lib.Strings
namespace Go.Proofs.YtpbbmagjhkakgaaGreatDoor
def isDig (c : UInt8) : Prop := 48 ≤ c.toNat ∧ c.toNat ≤ 57
theorem dig_toNat (n : Nat) (h : n < 10) : (UInt8.ofNat (48 + n)).toNat = 48 + n := by
  rw [UInt8.toNat_ofNat']; omega
theorem dec_ne (u : Nat) : Lib.decDigits u ≠ [] := by
  have h := Lib.decDigits_length u
  have p := Lib.nDigits_pos u
  intro e
  rw [e] at h
  simp at h
  omega
theorem dec_dig (u : Nat) : ∀ c, c ∈ Lib.decDigits u → isDig c := by
  induction u using Nat.strongRecOn with
  | _ u ih =>
    intro c hc
    rw [Lib.decDigits] at hc
    by_cases h : u < 10
    · rw [dif_pos h] at hc
      rw [List.mem_singleton] at hc
      subst hc
      unfold isDig
      rw [dig_toNat u h]; omega
    · rw [dif_neg h] at hc
      rcases List.mem_append.1 hc with hc | hc
      · exact ih (u / 10) (by omega) c hc
      · rw [List.mem_singleton] at hc
        subst hc
        unfold isDig
        rw [dig_toNat (u % 10) (by omega)]; omega
theorem parse_append (l m : List UInt8) : ∀ acc : Nat, ∀ a, Lib.parseUint10 acc l = .ok a → Lib.parseUint10 acc (l ++ m) = Lib.parseUint10 a m := by
  induction l with
  | nil => intro acc a h; simp only [Lib.parseUint10] at h; injection h with h; subst h; rfl
  | cons c l ih =>
    intro acc a h
    simp only [Lib.parseUint10, List.cons_append] at h ⊢
    split at h
    · split at h
      · cases h
      · split at h
        · cases h
        · rename_i h1 h2 h3
          rw [if_pos h1, if_neg h2, if_neg h3]
          exact ih _ _ h
    · cases h
theorem parse_dec (u : Nat) (hu : u ≤ 1000000000) : Lib.parseUint10 0 (Lib.decDigits u) = .ok u := by
  induction u using Nat.strongRecOn with
  | _ u ih =>
    rw [Lib.decDigits]
    by_cases h : u < 10
    · rw [dif_pos h]
      have e := dig_toNat u h
      simp only [Lib.parseUint10, e]
      rw [if_pos (by omega), if_neg (by omega), if_neg (by omega)]
      congr 1
      omega
    · rw [dif_neg h, parse_append _ _ _ _ (ih (u / 10) (by omega) (by omega))]
      have e := dig_toNat (u % 10) (by omega)
      simp only [Lib.parseUint10, e]
      rw [if_pos (by omega), if_neg (by omega), if_neg (by omega)]
      congr 1
      omega
theorem dec_head (u : Nat) (hu : 1 ≤ u) : (Lib.decDigits u).headD 0 ≠ 48 := by
  induction u using Nat.strongRecOn with
  | _ u ih =>
    rw [Lib.decDigits]
    by_cases h : u < 10
    · rw [dif_pos h]
      intro e
      have e2 := congrArg UInt8.toNat e
      simp only [List.headD_cons] at e2
      rw [dig_toNat u h] at e2
      have : (48 : UInt8).toNat = 48 := rfl
      omega
    · rw [dif_neg h]
      have hne := dec_ne (u / 10)
      have := ih (u / 10) (by omega) (by omega)
      cases hd : Lib.decDigits (u / 10) with
      | nil => exact absurd hd hne
      | cons a l => rw [hd] at this; simpa using this
theorem atoi_digits {l : List UInt8} (hne : l ≠ []) (hd : ∀ c, c ∈ l → isDig c) : Lib.atoiAll l = match Lib.parseUint10 0 l with
    | .ok u => if 9223372036854775808 ≤ u then .range else .ok (u : Int)
    | x => (match x with | .ok _ => .range | .range => .range | _ => Lib.atoiAll []) := by
  cases l with
  | nil => exact absurd rfl hne
  | cons c r =>
    have hc := hd c (by simp)
    unfold isDig at hc
    unfold Lib.atoiAll
    simp only
    rw [if_neg (by omega)]
    unfold Lib.parseMag
    rw [if_neg (by simp)]
    cases h : Lib.parseUint10 0 (c :: r) with
    | ok u =>
      have h45 : ¬ c.toNat = 45 := by omega
      simp only [h45, not_false_eq_true, true_and, false_and, if_false]
    | _ => rfl
theorem atoi_nonneg {l : List UInt8} (hne : l ≠ []) (hd : ∀ c, c ∈ l → isDig c) {v : Int} (h : Lib.atoiAll l = .ok v) : 0 ≤ v := by
  rw [atoi_digits hne hd] at h
  cases hp : Lib.parseUint10 0 l with
  | ok u =>
    rw [hp] at h
    simp only at h
    split at h
    · cases h
    · injection h with h; omega
  | range => rw [hp] at h; cases h
  | _ => rw [hp] at h; cases h
theorem atoi_dec (u : Nat) (hu : u ≤ 1000000000) : Lib.atoiAll (Lib.decDigits u) = .ok (u : Int) := by
  rw [atoi_digits (dec_ne u) (dec_dig u), parse_dec u hu]
  simp only
  rw [if_neg (by omega)]
theorem itoa_eq (v : Int) (h : 0 ≤ v) : Lib.itoa v = Lib.decDigits v.toNat := by unfold Lib.itoa; rw [if_neg (by omega)]
theorem numB_itoa (v : Int) (h0 : 0 ≤ v) (h1 : v ≤ 1000000) : numB ⟨(Lib.itoa v).toArray⟩ = some v := by
  rw [itoa_eq v h0]
  unfold numB
  rw [if_neg, atoi_dec v.toNat (by omega)]
  · have e : ((v.toNat : Nat) : Int) = v := by omega
    rw [e]
    show (if 1000000 < v then none else some v) = some v
    rw [if_neg (by omega)]
  · rintro ⟨hs, hh⟩
    by_cases hv : v.toNat < 10
    · rw [Lib.decDigits, dif_pos hv] at hs
      simp [ByteArray.size] at hs
    · exact dec_head v.toNat (by omega) hh
end Go.Proofs.YtpbbmagjhkakgaaGreatDoor
namespace Go.Proofs.YtpbbmagjhkakgaaGreatDoor
open Go.Deep (BT)
def isLet (c : UInt8) : Prop := 97 ≤ c.toNat ∧ c.toNat ≤ 122
def TokOK (t : Tok) : Prop :=
 (t.sign = 97 → t.word.data.toList ≠ [] ∧ ∀ c, c ∈ t.word.data.toList → isLet c) ∧ (t.sign = 48 → t.word.data.toList ≠ [] ∧ ∀ c, c ∈ t.word.data.toList → isDig c)
theorem TokOK.take {ts : List Tok} (he : Ends ts) (h : ∀ t, t ∈ ts → TokOK t) : TokOK (takeF ts).1 ∧ ∀ t, t ∈ (takeF ts).2 → TokOK t := by
 obtain ⟨t, r, rfl⟩ := he.cons
 by_cases hs : t.sign = -1
 ·have e : takeF (t :: r) = (t, t :: r) := by simp [takeF, hs]
  rw [e]
  exact ⟨h t (by simp), h⟩
 ·have e : takeF (t :: r) = (t, r) := by simp [takeF, hs]
  rw [e]
  exact ⟨h t (by simp), fun x hx => h x (List.mem_cons_of_mem _ hx)⟩
theorem ok_expect {ts r : List Tok} {s : Int} (he : Ends ts) (h : ∀ t, t ∈ ts → TokOK t) (hx : expectF s ts = some r) : ∀ t, t ∈ r → TokOK t := by
 unfold expectF at hx
 split at hx
 ·injection hx with hx; subst hx; exact (TokOK.take he h).2
 ·cases hx
theorem ok_num {ts r : List Tok} {v : Int} (he : Ends ts) (h : ∀ t, t ∈ ts → TokOK t) (hx : numF ts = some (v, r)) : (0 ≤ v ∧ v ≤ 1000000) ∧ ∀ t, t ∈ r → TokOK t := by
 unfold numF at hx
 split at hx
 ·rename_i hs
  have ht := TokOK.take he h
  obtain ⟨hne, hd⟩ := ht.1.2 hs
  cases hb : numB (takeF ts).1.word with
  | none => simp [hb] at hx
  | some x =>
   simp [hb] at hx
   obtain ⟨rfl, rfl⟩ := hx
   refine ⟨?_, ht.2⟩
   unfold numB at hb
   split at hb
   ·cases hb
   ·cases ha : Lib.atoiAll (takeF ts).1.word.data.toList with
    | ok u =>
     rw [ha] at hb
     have hb' : (if 1000000 < u then none else some u) = some x := hb
     split at hb'
     ·cases hb'
     ·injection hb' with hb'; subst hb'
      exact ⟨atoi_nonneg hne hd ha, by omega⟩
    | _ => rw [ha] at hb; cases hb
 ·cases hx
theorem ok_window {ts r : List Tok} {op a b : Int} (he : Ends ts) (h : ∀ t, t ∈ ts → TokOK t) (hx : windowF op ts = some ((a, b), r)) : (0 ≤ a ∧ a ≤ b ∧ b ≤ 1000000) ∧ (winB op = false → a = 0 ∧ b = 0) ∧ ∀ t, t ∈ r → TokOK t := by
 unfold windowF at hx
 split at hx
 ·rename_i hw
  cases h1 : expectF 91 ts with
  | none => simp [h1] at hx
  | some t1 =>
   have e1 := (he.expect h1).1
   have o1 := ok_expect he h h1
   simp only [h1] at hx
   cases h2 : numF t1 with
   | none => simp [h2] at hx
   | some x =>
    obtain ⟨a', t2⟩ := x
    have e2 := (e1.num h2).1
    have o2 := ok_num e1 o1 h2
    simp only [h2] at hx
    cases h3 : expectF 44 t2 with
    | none => simp [h3] at hx
    | some t3 =>
     have e3 := (e2.expect h3).1
     have o3 := ok_expect e2 o2.2 h3
     simp only [h3] at hx
     cases h4 : numF t3 with
     | none => simp [h4] at hx
     | some y =>
      obtain ⟨b', t4⟩ := y
      have e4 := (e3.num h4).1
      have o4 := ok_num e3 o3 h4
      simp only [h4] at hx
      cases h5 : expectF 93 t4 with
      | none => simp [h5] at hx
      | some t5 =>
       have o5 := ok_expect e4 o4.2 h5
       simp only [h5] at hx
       split at hx
       ·cases hx
       ·injection hx with hx; injection hx with hx1 hx2; injection hx1 with hx1 hx3
        subst hx1; subst hx2; subst hx3
        exact ⟨by omega, (fun hf => by rw [hw] at hf; cases hf), o5⟩
 ·injection hx with hx; injection hx with hx1 hx2; injection hx1 with hx1 hx3
  subst hx1; subst hx2; subst hx3
  exact ⟨by omega, fun _ => ⟨rfl, rfl⟩, h⟩
def Gives (f : List Tok → Option (BT Pay × List Tok)) : Prop := ∀ ts x r, Ends ts → (∀ t, t ∈ ts → TokOK t) → f ts = some (x, r) → Good x ∧ ∀ t, t ∈ r → TokOK t
theorem gives_step {f : List Tok → Option (BT Pay × List Tok)} (hk : Keeps f) (hf : Gives f) : Gives (stepF f) := by
 intro ts x r he h hx
 have ht := he.take
 have ho := TokOK.take he h
 have hsz := he.word
 unfold stepF at hx
 split at hx
 ·rename_i hs
  cases hw : wordF (takeF ts).1 with
  | none => simp [hw] at hx
  | some y =>
   simp [hw] at hx
   obtain ⟨rfl, rfl⟩ := hx
   refine ⟨?_, ho.2⟩
   unfold wordF at hw
   split at hw
   ·injection hw with hw; subst hw
    exact .inl ⟨rfl, rfl, rfl, rfl, rfl, rfl⟩
   ·rename_i htr
    split at hw
    ·cases hw
    ·rename_i h8
     injection hw with hw; subst hw
     obtain ⟨hne, hl⟩ := ho.1.1 hs
     refine .inr (.inl ⟨rfl, ⟨?_, by show (takeF ts).1.word.size ≤ 8; omega, htr, hl⟩, rfl, rfl, rfl, rfl⟩)
     show 1 ≤ (takeF ts).1.word.size
     have : (takeF ts).1.word.data.toList.length ≠ 0 := by intro e; exact hne (List.length_eq_zero_iff.1 e)
     have e2 : (takeF ts).1.word.size = (takeF ts).1.word.data.toList.length := by show (takeF ts).1.word.data.size = _; rw [Array.length_toList]
     omega
 ·split at hx
  ·unfold pairF at hx
   cases h1 : f (takeF ts).2 with
   | none => simp [h1] at hx
   | some y =>
    obtain ⟨p, t1⟩ := y
    obtain ⟨e1, _⟩ := hk _ _ _ ht.1 h1
    obtain ⟨g1, o1⟩ := hf _ _ _ ht.1 ho.2 h1
    simp only [h1] at hx
    split at hx
    ·rename_i hop
     have ht1 := e1.take
     have ho1 := TokOK.take e1 o1
     cases h2 : windowF (takeF t1).1.sign (takeF t1).2 with
     | none => simp [h2] at hx
     | some y =>
      obtain ⟨⟨a, b⟩, t2⟩ := y
      have e2 := (ht1.1.window h2).1
      obtain ⟨w1, w2, o2⟩ := ok_window ht1.1 ho1.2 h2
      simp only [h2] at hx
      cases h3 : f t2 with
      | none => simp [h3] at hx
      | some z =>
       obtain ⟨q, t3⟩ := z
       obtain ⟨e3, _⟩ := hk _ _ _ e2 h3
       obtain ⟨g3, o3⟩ := hf _ _ _ e2 o2 h3
       simp only [h3] at hx
       cases h4 : expectF 41 t3 with
       | none => simp [h4] at hx
       | some t4 =>
        have o4 := ok_expect e3 o3 h4
        simp only [h4] at hx
        injection hx with hx; injection hx with hx1 hx2
        subst hx1; subst hx2
        exact ⟨.inr (.inr (.inl ⟨hop, rfl, w1, w2, g1, g3⟩)), o4⟩
    ·cases hx
  ·split at hx
   ·rename_i hop
    unfold singleF at hx
    cases h1 : windowF (takeF ts).1.sign (takeF ts).2 with
    | none => simp [h1] at hx
    | some y =>
     obtain ⟨⟨a, b⟩, t1⟩ := y
     have e1 := (ht.1.window h1).1
     obtain ⟨w1, w2, o1⟩ := ok_window ht.1 ho.2 h1
     simp only [h1] at hx
     cases h2 : f t1 with
     | none => simp [h2] at hx
     | some z =>
      obtain ⟨p, t2⟩ := z
      obtain ⟨g2, o2⟩ := hf _ _ _ e1 o1 h2
      simp only [h2] at hx
      injection hx with hx; injection hx with hx1 hx2
      subst hx1; subst hx2
      exact ⟨.inr (.inr (.inr ⟨hop, rfl, w1, w2, g2, rfl⟩)), o2⟩
   ·cases hx
theorem gives_parse : ∀ n, Gives (parseF n)
 | 0 => fun _ _ _ _ _ h => by cases h
 | n + 1 => gives_step (keeps_parse n) (gives_parse n)
end Go.Proofs.YtpbbmagjhkakgaaGreatDoor
namespace Go.Proofs.YtpbbmagjhkakgaaGreatDoor
theorem signF_97 {r : Int} (h : signF r = 97) : 97 ≤ r ∧ r ≤ 122 := by
 unfold signF at h
 repeat' split at h
 all_goals omega
theorem signF_48 {r : Int} (h : signF r = 48) : 48 ≤ r ∧ r ≤ 57 := by
 unfold signF at h
 repeat' split at h
 all_goals omega
theorem decode_small (s : ByteArray) (pos : Nat) (h : pos < s.size) (hr : (Utf8.decode s pos).1 < 128) : (Utf8.decode s pos).2 = 1 ∧ (s[pos]'h).toNat = (Utf8.decode s pos).1 := by
 by_cases ha : (s[pos]'h).toNat < 128
 ·rw [decode_ascii s pos h ha]; exact ⟨rfl, rfl⟩
 ·have := (decode_high s pos h (by omega)).1; omega
theorem encode_small (r : Int) (h0 : 0 ≤ r) (h1 : r < 128) : (Utf8.encode r).data.toList = [UInt8.ofNat r.toNat] := by
 have hv : Utf8.valid r = true := by unfold Utf8.valid; simp; omega
 unfold Utf8.encode
 simp only [hv, if_true]
 rw [if_pos (by omega)]
theorem take_one (s : ByteArray) (p pos : Nat) (h : pos < s.size) (hp : p ≤ pos) : (s.data.toList.drop p).take (pos + 1 - p) = (s.data.toList.drop p).take (pos - p) ++ [s[pos]'h] := by
 have e : pos + 1 - p = (pos - p) + 1 := by omega
 have hl : pos - p < (s.data.toList.drop p).length := by
  rw [List.length_drop, Array.length_toList]
  have : s.data.size = s.size := rfl
  omega
 rw [e, List.take_succ_eq_append_getElem hl]
 congr 2
 rw [List.getElem_drop]
 have e2 : p + (pos - p) = pos := by omega
 simp only [e2]
 rfl
def TInv (s : ByteArray) (pos : Nat) (last : Int) (toks : List Tok) : Prop :=
 (∀ t, t ∈ toks → TokOK t) ∧ (joinsB last = true → ∃ (ts : List Tok) (t : Tok) (p : Nat), toks = ts ++ [t] ∧ t.sign = last ∧ t.place = (p : Int) ∧ p < pos ∧ t.word.data.toList = (s.data.toList.drop p).take (pos - p))
theorem joins_cases {sg : Int} (h : joinsB sg = true) : sg = 97 ∨ sg = 48 := by
 unfold joinsB at h
 simp at h
 exact h
theorem byte_let {c : UInt8} {r : Int} (h : (c.toNat : Int) = r) (hr : 97 ≤ r ∧ r ≤ 122) : isLet c := by unfold isLet; omega
theorem byte_dig {c : UInt8} {r : Int} (h : (c.toNat : Int) = r) (hr : 48 ≤ r ∧ r ≤ 57) : isDig c := by unfold isDig; omega
theorem scan_ok (s : ByteArray) : ∀ (b pos : Nat) (last : Int) (toks ts : List Tok), TInv s pos last toks → scanF s b pos last toks = some ts → ∀ t, t ∈ ts → TokOK t := by
 intro b
 have hend : TokOK (endTok s) := ⟨fun h => absurd (show (-1 : Int) = 97 from h) (by decide), fun h => absurd (show (-1 : Int) = 48 from h) (by decide)⟩
 have hfin : ∀ toks : List Tok, (∀ t, t ∈ toks → TokOK t) → ∀ t, t ∈ toks ++ [endTok s] → TokOK t := by
  intro toks h t ht
  rcases List.mem_append.1 ht with ht | ht
  ·exact h t ht
  ·rw [List.mem_singleton] at ht; subst ht; exact hend
 induction b with
 | zero =>
  intro pos last toks ts hI h
  simp only [scanF] at h
  injection h with h; subst h
  exact hfin toks hI.1
 | succ b ih =>
  intro pos last toks ts hI h
  by_cases hp : pos < s.size
  ·rw [scanF, if_pos hp] at h
   by_cases h2 : signF (Utf8.decode s pos).1 = -2
   ·rw [if_pos h2] at h; cases h
   ·rw [if_neg h2] at h
    by_cases hj : signF (Utf8.decode s pos).1 = last ∧ joinsB (signF (Utf8.decode s pos).1) = true
    ·rw [if_pos hj] at h
     obtain ⟨hl, hjb⟩ := hj
     obtain ⟨ts0, t, p, rfl, ht1, ht2, ht3, ht4⟩ := hI.2 (hl ▸ hjb)
     have hr : (97 ≤ ((Utf8.decode s pos).1 : Int) ∧ ((Utf8.decode s pos).1 : Int) ≤ 122) ∨ (48 ≤ ((Utf8.decode s pos).1 : Int) ∧ ((Utf8.decode s pos).1 : Int) ≤ 57) := by
      rcases joins_cases hjb with e | e
      ·exact .inl (signF_97 e)
      ·exact .inr (signF_48 e)
     obtain ⟨hw, hb⟩ := decode_small s pos hp (by omega)
     rw [growF_snoc] at h
     have hword : (s.extract t.place.toNat (pos + 1)).data.toList = t.word.data.toList ++ [s[pos]'hp] := by
      rw [Lib.extract_data, ht2, Int.toNat_natCast, take_one s p pos hp (by omega), ht4]
     have hold := hI.1 t (by simp)
     refine ih _ _ _ _ ⟨?_, ?_⟩ h
     ·intro x hx
      rcases List.mem_append.1 hx with hx | hx
      ·exact hI.1 x (by simp [hx])
      ·rw [List.mem_singleton] at hx
       subst hx
       refine ⟨fun hs => ?_, fun hs => ?_⟩
       ·have hs' : t.sign = 97 := hs
        have hr2 := signF_97 (r := (Utf8.decode s pos).1) (by rw [hl, ← ht1]; exact hs')
        show (s.extract t.place.toNat (pos + 1)).data.toList ≠ [] ∧ ∀ c, c ∈ (s.extract t.place.toNat (pos + 1)).data.toList → isLet c
        rw [hword]
        refine ⟨by simp, ?_⟩
        intro c hc
        rcases List.mem_append.1 hc with hc | hc
        ·exact (hold.1 hs').2 c hc
        ·rw [List.mem_singleton] at hc; subst hc; exact byte_let (r := (Utf8.decode s pos).1) (by omega) hr2
       ·have hs' : t.sign = 48 := hs
        have hr2 := signF_48 (r := (Utf8.decode s pos).1) (by rw [hl, ← ht1]; exact hs')
        show (s.extract t.place.toNat (pos + 1)).data.toList ≠ [] ∧ ∀ c, c ∈ (s.extract t.place.toNat (pos + 1)).data.toList → isDig c
        rw [hword]
        refine ⟨by simp, ?_⟩
        intro c hc
        rcases List.mem_append.1 hc with hc | hc
        ·exact (hold.2 hs').2 c hc
        ·rw [List.mem_singleton] at hc; subst hc; exact byte_dig (r := (Utf8.decode s pos).1) (by omega) hr2
     ·intro _
      refine ⟨ts0, _, p, rfl, by rw [hl]; exact ht1, ht2, by omega, ?_⟩
      show (s.extract t.place.toNat (pos + 1)).data.toList = _
      rw [hword, hw, take_one s p pos hp (by omega), ht4]
    ·rw [if_neg hj] at h
     by_cases h32 : signF (Utf8.decode s pos).1 = 32
     ·rw [if_pos h32] at h
      exact ih _ _ _ _ ⟨hI.1, fun hb => by rw [h32] at hb; exact absurd hb (by decide)⟩ h
     ·rw [if_neg h32] at h
      refine ih _ _ _ _ ⟨?_, ?_⟩ h
      ·intro x hx
       rcases List.mem_append.1 hx with hx | hx
       ·exact hI.1 x hx
       ·rw [List.mem_singleton] at hx
        subst hx
        refine ⟨fun hs => ?_, fun hs => ?_⟩
        ·have hr2 := signF_97 (r := (Utf8.decode s pos).1) hs
         dsimp only
         rw [encode_small _ (by omega) (by omega)]
         refine ⟨by simp, ?_⟩
         intro c hc
         rw [List.mem_singleton] at hc; subst hc
         refine byte_let (r := (Utf8.decode s pos).1) ?_ hr2
         rw [UInt8.toNat_ofNat']; omega
        ·have hr2 := signF_48 (r := (Utf8.decode s pos).1) hs
         dsimp only
         rw [encode_small _ (by omega) (by omega)]
         refine ⟨by simp, ?_⟩
         intro c hc
         rw [List.mem_singleton] at hc; subst hc
         refine byte_dig (r := (Utf8.decode s pos).1) ?_ hr2
         rw [UInt8.toNat_ofNat']; omega
      ·intro hjb
       have hr : 0 ≤ ((Utf8.decode s pos).1 : Int) ∧ ((Utf8.decode s pos).1 : Int) < 128 := by
        rcases joins_cases hjb with e | e
        ·have := signF_97 e; omega
        ·have := signF_48 e; omega
       obtain ⟨hw, hb⟩ := decode_small s pos hp (by omega)
       refine ⟨toks, _, pos, rfl, rfl, rfl, by omega, ?_⟩
       dsimp only
       rw [encode_small _ hr.1 hr.2, hw]
       have e1 := take_one s pos pos hp (Nat.le_refl _)
       rw [e1]
       simp
       rw [← hb]
       simp
  ·rw [scanF_end s _ pos last toks hp] at h
   injection h with h; subst h
   exact hfin toks hI.1
theorem TInv.start (s : ByteArray) : TInv s 0 32 [] := ⟨by simp, fun h => absurd h (by decide)⟩
theorem readF_good {s : ByteArray} {x : Go.Deep.BT Pay} {n : Int} (h : readF s = (some x, n)) (he : ∀ ts, scanF s s.size 0 32 [] = some ts → Ends ts) : Good x := by
 unfold readF at h
 split at h
 ·simp at h
 ·cases h1 : scanF s s.size 0 32 [] with
  | none => simp [h1] at h
  | some ts =>
   have e1 := he ts h1
   have o1 := scan_ok s _ _ _ _ _ (TInv.start s) h1
   simp only [h1] at h
   cases h2 : parseF ts.length ts with
   | none => simp [h2] at h
   | some y =>
    obtain ⟨z, r⟩ := y
    have g2 := (gives_parse _ _ _ _ e1 o1 h2).1
    simp only [h2] at h
    cases h3 : expectF (-1) r with
    | none => simp [h3] at h
    | some t3 =>
     simp only [h3] at h
     split at h
     ·simp at h
     ·simp at h
      obtain ⟨rfl, _⟩ := h
      exact g2
end Go.Proofs.YtpbbmagjhkakgaaGreatDoor
