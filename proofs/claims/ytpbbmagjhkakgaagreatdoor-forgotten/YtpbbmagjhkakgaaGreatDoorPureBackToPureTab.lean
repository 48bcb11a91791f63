import Derived.Test.YtpbbmagjhkakgaaGreatDoorPureNumToPureTok
import Derived.Test.YtpbbmagjhkakgaaGreatDoorPureTreeToPureCore
namespace Go.Proofs.YtpbbmagjhkakgaaGreatDoor
open Go.Deep (BT)
def strip (t : Tok) : Int × List UInt8 := (t.sign, t.word.data.toList)
def tkW (a : Pay) : List (Int × List UInt8) := if winB a.op then [(91, [91]), (48, Lib.itoa a.lo), (44, [44]), (48, Lib.itoa a.hi), (93, [93])] else []
def tk : BT Pay → List (Int × List UInt8)
  | .nil => []
  | .node _ _ a l r =>
    if a.op = 116 then [(97, [116, 114, 117, 101])]
    else if a.op = 97 then [(97, a.name.data.toList)]
    else if a.op = 8743 ∨ a.op = 8744 ∨ a.op = 83 then (40, [40]) :: (tk l ++ ((a.op, opBytes a.op) :: (tkW a ++ (tk r ++ [(41, [41])]))))
    else (a.op, opBytes a.op) :: (tkW a ++ tk l)
theorem at_lt {s : ByteArray} {pos : Nat} {c : UInt8} {l : List UInt8} (h : s.data.toList.drop pos = c :: l) : ∃ hp : pos < s.size, s[pos]'hp = c := by
  have h1 : (s.data.toList.drop pos)[0]? = some c := by rw [h]; rfl
  rw [List.getElem?_drop] at h1
  simp only [Nat.add_zero] at h1
  rw [List.getElem?_eq_some_iff] at h1
  obtain ⟨hl, he⟩ := h1
  exact ⟨by rw [Array.length_toList] at hl; exact hl, he⟩
theorem at_next {s : ByteArray} {pos : Nat} {m l : List UInt8} (h : s.data.toList.drop pos = m ++ l) : s.data.toList.drop (pos + m.length) = l := by
  rw [← List.drop_drop, h]; simp
theorem dec_ascii {s : ByteArray} {pos : Nat} {c : UInt8} {l : List UInt8} (h : s.data.toList.drop pos = c :: l) (hc : c.toNat < 128) : pos < s.size ∧ Utf8.decode s pos = (c.toNat, 1) := by
  obtain ⟨hp, he⟩ := at_lt h
  exact ⟨hp, by rw [decode_ascii s pos hp (by rw [he]; exact hc), he]⟩
theorem get_of {s : ByteArray} {pos k : Nat} {c : UInt8} {l : List UInt8} (h : s.data.toList.drop pos = l) (hk : l[k]? = some c) : pos + k < s.size ∧ s.get! (pos + k) = c := by
  rw [← h, List.getElem?_drop, List.getElem?_eq_some_iff] at hk
  obtain ⟨hl, he⟩ := hk
  have hl2 : pos + k < s.data.size := by rw [Array.length_toList] at hl; exact hl
  refine ⟨hl2, ?_⟩
  show s.data[pos + k]! = c
  rw [getElem!_pos s.data (pos + k) hl2, ← he]
  simp
theorem dec_sign {s : ByteArray} {pos : Nat} {op : Int} {l : List UInt8} (hop : isSign op) (h : s.data.toList.drop pos = opBytes op ++ l) : pos < s.size ∧ Utf8.decode s pos = (op.toNat, (opBytes op).length) := by
  rcases hop with rfl | rfl | rfl | rfl | rfl | rfl | rfl
  · have h' : s.data.toList.drop pos = 194 :: 172 :: l := h
    have g0 := get_of (k := 0) h' rfl
    have g1 := get_of (k := 1) h' rfl
    refine ⟨by have := g0.1; omega, ?_⟩
    have e0 : s.get! pos = 194 := g0.2
    unfold Utf8.decode
    simp [e0, g1.2, g1.1]
    decide
  · have h' : s.data.toList.drop pos = 226 :: 136 :: 167 :: l := h
    have g0 := get_of (k := 0) h' rfl
    have g1 := get_of (k := 1) h' rfl
    have g2 := get_of (k := 2) h' rfl
    refine ⟨by have := g0.1; omega, ?_⟩
    have e0 : s.get! pos = 226 := g0.2
    unfold Utf8.decode
    simp [e0, g1.2, g1.1, g2.1, g2.2]
    decide
  · have h' : s.data.toList.drop pos = 226 :: 136 :: 168 :: l := h
    have g0 := get_of (k := 0) h' rfl
    have g1 := get_of (k := 1) h' rfl
    have g2 := get_of (k := 2) h' rfl
    refine ⟨by have := g0.1; omega, ?_⟩
    have e0 : s.get! pos = 226 := g0.2
    unfold Utf8.decode
    simp [e0, g1.2, g1.1, g2.1, g2.2]
    decide
  · exact dec_ascii (show s.data.toList.drop pos = 89 :: l from h) (by decide)
  · exact dec_ascii (show s.data.toList.drop pos = 79 :: l from h) (by decide)
  · exact dec_ascii (show s.data.toList.drop pos = 72 :: l from h) (by decide)
  · exact dec_ascii (show s.data.toList.drop pos = 83 :: l from h) (by decide)
def Eats (s : ByteArray) (pos : Nat) (last : Int) (l : List UInt8) (n : Nat) (last' : Int) (T : List (Int × List UInt8)) : Prop :=
  ∀ (b : Nat) (toks : List Tok), ∃ A : List Tok, A.map strip = T ∧ scanF s (b + n) pos last toks = scanF s b (pos + l.length) last' (toks ++ A)
theorem Eats.trans {s : ByteArray} {pos : Nat} {a b c : Int} {l m : List UInt8} {n k : Nat} {T U : List (Int × List UInt8)} (h : Eats s pos a l n b T) (g : Eats s (pos + l.length) b m k c U) : Eats s pos a (l ++ m) (k + n) c (T ++ U) := by
  intro q toks
  obtain ⟨A, hA, e1⟩ := h (q + k) toks
  obtain ⟨B, hB, e2⟩ := g q (toks ++ A)
  refine ⟨A ++ B, by rw [List.map_append, hA, hB], ?_⟩
  rw [← Nat.add_assoc, e1, e2, List.length_append, List.append_assoc, Nat.add_assoc]
theorem eats_blank {s : ByteArray} {pos : Nat} (last : Int) {l : List UInt8} (h : s.data.toList.drop pos = 32 :: l) : Eats s pos last [32] 1 32 [] := by
  obtain ⟨hp, hd⟩ := dec_ascii h (by decide)
  intro b toks
  refine ⟨[], rfl, ?_⟩
  rw [scanF, if_pos hp, hd]
  have e : signF ((32 : UInt8).toNat : Nat) = 32 := by decide
  dsimp only
  rw [e, if_neg (by decide), if_neg (by intro h; exact absurd h.2 (by decide)), if_pos rfl]
  simp
theorem eats_sign {s : ByteArray} {pos r : Nat} (last : Int) {m : List UInt8} (hp : pos < s.size) (hd : Utf8.decode s pos = (r, m.length)) (h2 : signF r ≠ -2) (hj : joinsB (signF r) = false) (h32 : signF r ≠ 32) (hm : (Utf8.encode r).data.toList = m) :
    Eats s pos last m 1 (signF r) [(signF r, m)] := by
  intro b toks
  refine ⟨[⟨signF r, pos, Utf8.encode r⟩], by simp only [List.map_cons, List.map_nil, strip]; rw [hm], ?_⟩
  rw [scanF, if_pos hp, hd]
  dsimp only
  rw [if_neg h2, if_neg (by intro h; rw [hj] at h; exact absurd h.2 (by decide)), if_neg h32]
theorem eats_op {s : ByteArray} {pos : Nat} {op : Int} (last : Int) {l : List UInt8} (hop : isSign op) (h : s.data.toList.drop pos = opBytes op ++ l) : Eats s pos last (opBytes op) 1 op [(op, opBytes op)] := by
  obtain ⟨hp, hd⟩ := dec_sign hop h
  have hs : signF (op.toNat : Nat) = op := by rcases hop with rfl | rfl | rfl | rfl | rfl | rfl | rfl <;> decide
  have := eats_sign (s := s) (pos := pos) (r := op.toNat) last (m := opBytes op) hp hd (by rw [hs]; rcases hop with rfl | rfl | rfl | rfl | rfl | rfl | rfl <;> decide) (by rw [hs]; rcases hop with rfl | rfl | rfl | rfl | rfl | rfl | rfl <;> decide) (by rw [hs]; rcases hop with rfl | rfl | rfl | rfl | rfl | rfl | rfl <;> decide) (by rcases hop with rfl | rfl | rfl | rfl | rfl | rfl | rfl <;> decide)
  rw [hs] at this
  exact this
theorem eats_char {s : ByteArray} {pos : Nat} (c : UInt8) (last : Int) {l : List UInt8} (hc : c = 40 ∨ c = 41 ∨ c = 91 ∨ c = 93 ∨ c = 44) (h : s.data.toList.drop pos = c :: l) : Eats s pos last [c] 1 c.toNat [((c.toNat : Int), [c])] := by
  obtain ⟨hp, hd⟩ := dec_ascii h (by rcases hc with rfl | rfl | rfl | rfl | rfl <;> decide)
  have hs : signF (c.toNat : Nat) = (c.toNat : Int) := by rcases hc with rfl | rfl | rfl | rfl | rfl <;> decide
  have := eats_sign (s := s) (pos := pos) (r := c.toNat) last (m := [c]) hp hd (by rw [hs]; rcases hc with rfl | rfl | rfl | rfl | rfl <;> decide) (by rw [hs]; rcases hc with rfl | rfl | rfl | rfl | rfl <;> decide) (by rw [hs]; rcases hc with rfl | rfl | rfl | rfl | rfl <;> decide) (by rcases hc with rfl | rfl | rfl | rfl | rfl <;> decide)
  rw [hs] at this
  exact this
theorem run_more {s : ByteArray} {sg : Int} (hj : joinsB sg = true) : ∀ (l : List UInt8) (pos p : Nat) (rest : List UInt8) (b : Nat) (toks : List Tok) (wd : ByteArray), s.data.toList.drop pos = l ++ rest → (∀ c, c ∈ l → c.toNat < 128 ∧ signF (c.toNat : Nat) = sg) → p ≤ pos → wd.data.toList = (s.data.toList.drop p).take (pos - p) →
    ∃ wd' : ByteArray, wd'.data.toList = (s.data.toList.drop p).take (pos + l.length - p) ∧ scanF s (b + l.length) pos sg (toks ++ [⟨sg, p, wd⟩]) = scanF s b (pos + l.length) sg (toks ++ [⟨sg, p, wd'⟩]) := by
  intro l
  induction l with
  | nil => intro pos p rest b toks wd _ _ _ hw; exact ⟨wd, by simpa using hw, by simp⟩
  | cons c l ih =>
    intro pos p rest b toks wd h hc hp hw
    have hcc := hc c (by simp)
    obtain ⟨hlt, hd⟩ := dec_ascii (show s.data.toList.drop pos = c :: (l ++ rest) from h) hcc.1
    have hnext : s.data.toList.drop (pos + 1) = l ++ rest := at_next (m := [c]) h
    have hw' : (s.extract p (pos + 1)).data.toList = (s.data.toList.drop p).take (pos + 1 - p) := Lib.extract_data s p (pos + 1)
    obtain ⟨wd', e1, e2⟩ := ih (pos + 1) p rest b toks (s.extract p (pos + 1)) hnext (fun x hx => hc x (by simp [hx])) (by omega) hw'
    refine ⟨wd', by rw [e1]; congr 1; simp; omega, ?_⟩
    have e3 : b + (c :: l).length = (b + l.length) + 1 := by simp; omega
    rw [e3, scanF, if_pos hlt, hd]
    dsimp only
    rw [hcc.2, if_neg (by rcases joins_cases hj with e | e <;> rw [e] <;> decide), if_pos ⟨rfl, hj⟩, growF_snoc]
    dsimp only
    have e4 : pos + 1 + l.length = pos + (c :: l).length := by simp; omega
    rw [Int.toNat_natCast, e2, e4]
theorem eats_run {s : ByteArray} {sg : Int} (hj : joinsB sg = true) {l rest : List UInt8} {pos : Nat} {last : Int} (hne : l ≠ []) (h : s.data.toList.drop pos = l ++ rest) (hc : ∀ c, c ∈ l → c.toNat < 128 ∧ signF (c.toNat : Nat) = sg) (hl : last ≠ sg) : Eats s pos last l l.length sg [(sg, l)] := by
  intro b toks
  cases l with
  | nil => exact absurd rfl hne
  | cons c l =>
    have hcc := hc c (by simp)
    obtain ⟨hlt, hd⟩ := dec_ascii (show s.data.toList.drop pos = c :: (l ++ rest) from h) hcc.1
    have hnext : s.data.toList.drop (pos + 1) = l ++ rest := at_next (m := [c]) h
    have henc : (Utf8.encode (c.toNat : Nat)).data.toList = [c] := by
      rw [encode_small _ (by omega) (by omega)]
      simp
    have hw : (Utf8.encode (c.toNat : Nat)).data.toList = (s.data.toList.drop pos).take (pos + 1 - pos) := by
      rw [henc, h]
      have : pos + 1 - pos = 1 := by omega
      rw [this]; rfl
    obtain ⟨wd', e1, e2⟩ := run_more hj l (pos + 1) pos rest b toks (Utf8.encode (c.toNat : Nat)) hnext (fun x hx => hc x (by simp [hx])) (by omega) hw
    refine ⟨[⟨sg, pos, wd'⟩], ?_, ?_⟩
    · simp only [List.map_cons, List.map_nil, strip]
      rw [e1, h]
      have : pos + 1 + l.length - pos = (c :: l).length := by simp; omega
      rw [this, List.take_left']
      rfl
    · have e3 : b + (c :: l).length = (b + l.length) + 1 := by simp; omega
      rw [e3, scanF, if_pos hlt, hd]
      dsimp only
      rw [hcc.2, if_neg (by rcases joins_cases hj with e | e <;> rw [e] <;> decide), if_neg (by intro h; exact hl h.1.symm), if_neg (by rcases joins_cases hj with e | e <;> rw [e] <;> decide), e2]
      have e4 : pos + 1 + l.length = pos + (c :: l).length := by simp; omega
      rw [e4]
theorem signF_dig {c : UInt8} (h : isDig c) : c.toNat < 128 ∧ signF (c.toNat : Nat) = 48 := by
 unfold isDig at h
 refine ⟨by omega, ?_⟩
 unfold signF
 rw [if_neg (by omega), if_neg (by omega), if_neg (by omega), if_neg (by omega), if_neg (by omega), if_pos (by omega)]
theorem signF_let {c : UInt8} (h : isLet c) : c.toNat < 128 ∧ signF (c.toNat : Nat) = 97 := by
 unfold isLet at h
 refine ⟨by omega, ?_⟩
 unfold signF
 rw [if_neg (by omega), if_neg (by omega), if_neg (by omega), if_neg (by omega), if_pos (by omega)]
theorem itoa_dig (v : Int) (h : 0 ≤ v) : Lib.itoa v ≠ [] ∧ ∀ c, c ∈ Lib.itoa v → isDig c := by
 rw [itoa_eq v h]; exact ⟨dec_ne _, dec_dig _⟩
theorem eats_num {s : ByteArray} {pos : Nat} {last v : Int} {rest : List UInt8} (hv : 0 ≤ v) (h : s.data.toList.drop pos = Lib.itoa v ++ rest) (hl : last ≠ 48) : Eats s pos last (Lib.itoa v) (Lib.itoa v).length 48 [(48, Lib.itoa v)] :=
 eats_run (by decide) (itoa_dig v hv).1 h (fun c hc => signF_dig ((itoa_dig v hv).2 c hc)) hl
theorem eats_opW {s : ByteArray} {pos : Nat} {a : Pay} (last : Int) {rest : List UInt8} (hop : isSign a.op) (h0 : 0 ≤ a.lo) (h1 : 0 ≤ a.hi) (h : s.data.toList.drop pos = opW a ++ rest) :
  ∃ n last', n ≤ (opW a).length ∧ last' ≠ 97 ∧ Eats s pos last (opW a) n last' ((a.op, opBytes a.op) :: tkW a) := by
 have hob : 1 ≤ (opBytes a.op).length := by rcases hop with e | e | e | e | e | e | e <;> rw [e] <;> decide
 cases hw : winB a.op with
 | false =>
  have e1 : opW a = opBytes a.op := by unfold opW; rw [hw]; rfl
  have e2 : tkW a = [] := by unfold tkW; rw [hw]; rfl
  rw [e1] at h ⊢
  rw [e2]
  exact ⟨1, a.op, hob, by rcases hop with e | e | e | e | e | e | e <;> rw [e] <;> decide, eats_op last hop h⟩
 | true =>
  have e1 : opW a = opBytes a.op ++ ([91] ++ (Lib.itoa a.lo ++ ([44] ++ (Lib.itoa a.hi ++ [93])))) := by unfold opW; rw [hw]; simp
  have e2 : tkW a = [(91, [91]), (48, Lib.itoa a.lo), (44, [44]), (48, Lib.itoa a.hi), (93, [93])] := by unfold tkW; rw [hw]; rfl
  rw [e1] at h ⊢
  rw [e2]
  simp only [List.append_assoc] at h
  have k1 := eats_op last hop h
  have d1 := at_next h
  have k2 := eats_char 91 a.op (by simp) (show s.data.toList.drop _ = 91 :: _ from d1)
  have d2 := at_next (m := [91]) d1
  have k3 := eats_num (last := ((91 : UInt8).toNat : Int)) h0 d2 (by decide)
  have d3 := at_next d2
  have k4 := eats_char 44 48 (by simp) (show s.data.toList.drop _ = 44 :: _ from d3)
  have d4 := at_next (m := [44]) d3
  have k5 := eats_num (last := ((44 : UInt8).toNat : Int)) h1 d4 (by decide)
  have d5 := at_next d4
  have k6 := eats_char 93 48 (by simp) (show s.data.toList.drop _ = 93 :: _ from d5)
  refine ⟨_, _, ?_, ?_, k1.trans (k2.trans (k3.trans (k4.trans (k5.trans k6))))⟩
  ·simp; omega
  ·decide
theorem eats_tree {s : ByteArray} : ∀ (x : BT Pay), Good x → ∀ (pos : Nat) (last : Int) (rest : List UInt8), s.data.toList.drop pos = printB x ++ rest → last ≠ 97 → ∃ n last', n ≤ (printB x).length ∧ Eats s pos last (printB x) n last' (tk x) := by
 intro x
 induction x with
 | nil => intro h; exact h.elim
 | node b o a l r il ir =>
  intro hg pos last rest h hl
  rcases hg with ⟨h1, _⟩ | ⟨h1, ⟨n1, n2, n3, n4⟩, _⟩ | ⟨h1, _, h3, _, gl, gr⟩ | ⟨h1, _, h3, _, gl, _⟩
  ·have e1 : printB (.node b o a l r) = [116, 114, 117, 101] := by simp only [printB]; rw [if_pos h1]
   have e2 : tk (.node b o a l r) = [(97, [116, 114, 117, 101])] := by simp only [tk]; rw [if_pos h1]
   rw [e1] at h ⊢
   rw [e2]
   refine ⟨_, 97, Nat.le_refl _, eats_run (by decide) (by simp) h ?_ hl⟩
   intro c hc
   simp at hc
   rcases hc with rfl | rfl | rfl | rfl <;> decide
  ·have e1 : printB (.node b o a l r) = a.name.data.toList := by simp only [printB]; rw [if_neg (by omega), if_pos h1]
   have e2 : tk (.node b o a l r) = [(97, a.name.data.toList)] := by simp only [tk]; rw [if_neg (by omega), if_pos h1]
   rw [e1] at h ⊢
   rw [e2]
   refine ⟨_, 97, Nat.le_refl _, eats_run (by decide) ?_ h (fun c hc => signF_let (n4 c hc)) hl⟩
   intro e
   have : a.name.data.toList.length = a.name.size := by rw [Array.length_toList]; rfl
   rw [e] at this
   simp at this
   omega
  ·have e1 : printB (.node b o a l r) = [40] ++ (printB l ++ ([32] ++ (opW a ++ ([32] ++ (printB r ++ [41]))))) := by simp only [printB]; rw [if_neg (by omega), if_neg (by omega), if_pos h1]; simp
   have e2 : tk (.node b o a l r) = [(40, [40])] ++ (tk l ++ ([] ++ (((a.op, opBytes a.op) :: tkW a) ++ ([] ++ (tk r ++ [(41, [41])]))))) := by simp only [tk]; rw [if_neg (by omega), if_neg (by omega), if_pos h1]; simp
   rw [e1] at h ⊢
   rw [e2]
   simp only [List.append_assoc] at h
   have k1 := eats_char 40 last (by simp) (show s.data.toList.drop _ = 40 :: _ from h)
   have d1 := at_next (m := [40]) h
   obtain ⟨m2, l2, b2, k2⟩ := il gl _ ((40 : UInt8).toNat : Int) _ d1 (by decide)
   have d2 := at_next d1
   have k3 := eats_blank l2 (show s.data.toList.drop _ = 32 :: _ from d2)
   have d3 := at_next (m := [32]) d2
   obtain ⟨m4, l4, b4, _, k4⟩ := eats_opW 32 (a := a) (by unfold isSign; omega) (by omega) (by omega) d3
   have d4 := at_next d3
   have k5 := eats_blank l4 (show s.data.toList.drop _ = 32 :: _ from d4)
   have d5 := at_next (m := [32]) d4
   obtain ⟨m6, l6, b6, k6⟩ := ir gr _ 32 _ d5 (by decide)
   have d6 := at_next d5
   have k7 := eats_char 41 l6 (by simp) (show s.data.toList.drop _ = 41 :: _ from d6)
   refine ⟨_, _, ?_, k1.trans (k2.trans (k3.trans (k4.trans (k5.trans (k6.trans k7)))))⟩
   simp; omega
  ·have e1 : printB (.node b o a l r) = opW a ++ printB l := by simp only [printB]; rw [if_neg (by omega), if_neg (by omega), if_neg (by omega)]
   have e2 : tk (.node b o a l r) = ((a.op, opBytes a.op) :: tkW a) ++ tk l := by simp only [tk]; rw [if_neg (by omega), if_neg (by omega), if_neg (by omega)]; simp
   rw [e1] at h ⊢
   rw [e2]
   simp only [List.append_assoc] at h
   obtain ⟨m1, l1, b1, n1, k1⟩ := eats_opW last (a := a) (by unfold isSign; omega) (by omega) (by omega) h
   have d1 := at_next h
   obtain ⟨m2, l2, b2, k2⟩ := il gl _ l1 _ d1 n1
   refine ⟨_, _, ?_, k1.trans k2⟩
   simp; omega
def ZeroT : BT Pay → Prop
 | .nil => True
 | .node b o _ l r => b = 0 ∧ o = 0 ∧ ZeroT l ∧ ZeroT r
theorem take_tok {t : Tok} {ts : List Tok} {sg : Int} (h : t.sign = sg) (hs : sg ≠ -1) : takeF (t :: ts) = (t, ts) := by
 have : t.sign ≠ -1 := by omega
 simp [takeF, this]
theorem expect_tok {t : Tok} {ts : List Tok} {sg : Int} (h : t.sign = sg) (hs : sg ≠ -1) : expectF sg (t :: ts) = some ts := by
 unfold expectF
 rw [take_tok h hs, if_pos h]
theorem num_tok {t : Tok} {ts : List Tok} {v : Int} (h : t.sign = 48) (hw : t.word.data.toList = Lib.itoa v) (h0 : 0 ≤ v) (h1 : v ≤ 1000000) : numF (t :: ts) = some (v, ts) := by
 unfold numF
 rw [take_tok h (by decide), if_pos h]
 have e : t.word = ⟨(Lib.itoa v).toArray⟩ := bytes_ext (by simpa using hw)
 rw [show numB t.word = some v by rw [e]; exact numB_itoa v h0 h1]
 rfl
theorem map_cons {ts : List Tok} {p : Int × List UInt8} {T : List (Int × List UInt8)} (h : ts.map strip = p :: T) : ∃ t r, ts = t :: r ∧ t.sign = p.1 ∧ t.word.data.toList = p.2 ∧ r.map strip = T := by
 cases ts with
 | nil => cases h
 | cons t r =>
  simp only [List.map_cons, List.cons.injEq] at h
  obtain ⟨h1, h2⟩ := h
  exact ⟨t, r, rfl, by rw [← h1]; rfl, by rw [← h1]; rfl, h2⟩
theorem window_tok {a : Pay} {A rest : List Tok} (hA : A.map strip = tkW a) (hw : 0 ≤ a.lo ∧ a.lo ≤ a.hi ∧ a.hi ≤ 1000000) (hz : winB a.op = false → a.lo = 0 ∧ a.hi = 0) : windowF a.op (A ++ rest) = some ((a.lo, a.hi), rest) := by
 unfold windowF
 unfold tkW at hA
 cases hb : winB a.op with
 | false =>
  rw [hb] at hA
  have : A = [] := by simpa using hA
  subst this
  obtain ⟨h1, h2⟩ := hz hb
  rw [h1, h2]
  rfl
 | true =>
  rw [hb] at hA
  obtain ⟨t1, r1, rfl, s1, w1, hA⟩ := map_cons hA
  obtain ⟨t2, r2, rfl, s2, w2, hA⟩ := map_cons hA
  obtain ⟨t3, r3, rfl, s3, w3, hA⟩ := map_cons hA
  obtain ⟨t4, r4, rfl, s4, w4, hA⟩ := map_cons hA
  obtain ⟨t5, r5, rfl, s5, w5, hA⟩ := map_cons hA
  have : r5 = [] := by simpa using hA
  subst this
  simp only [List.cons_append, List.nil_append, if_true]
  rw [expect_tok s1 (by decide)]
  simp only
  rw [num_tok s2 w2 hw.1 (by omega)]
  simp only
  rw [expect_tok s3 (by decide)]
  simp only
  rw [num_tok s4 w4 (by omega) hw.2.2]
  simp only
  rw [expect_tok s5 (by decide)]
  simp only
  rw [if_neg (by omega)]
theorem parse_tok : ∀ (x : BT Pay), Good x → ZeroT x → ∀ (n : Nat), depthT x ≤ n → ∀ (A rest : List Tok), A.map strip = tk x → parseF n (A ++ rest) = some (x, rest) := by
 intro x
 induction x with
 | nil => intro h; exact h.elim
 | node b o a l r il ir =>
  intro hg hz n hn A rest hA
  obtain ⟨rfl, rfl, zl, zr⟩ := hz
  obtain ⟨m, rfl⟩ : ∃ m, n = m + 1 := ⟨n - 1, by simp only [depthT] at hn; omega⟩
  have dl : depthT l ≤ m := by simp only [depthT] at hn; omega
  have dr : depthT r ≤ m := by simp only [depthT] at hn; omega
  show stepF (parseF m) (A ++ rest) = _
  unfold stepF
  rcases hg with ⟨h1, h2, h3, h4, rfl, rfl⟩ | ⟨h1, ⟨n1, n2, n3, n4⟩, h3, h4, rfl, rfl⟩ | ⟨h1, h2, h3, h4, gl, gr⟩ | ⟨h1, h2, h3, h4, gl, rfl⟩
  ·have e2 : tk (.node 0 0 a .nil .nil) = [(97, [116, 114, 117, 101])] := by simp only [tk]; rw [if_pos h1]
   rw [e2] at hA
   obtain ⟨t, r, rfl, s1, w1, hA⟩ := map_cons hA
   have : r = [] := by simpa using hA
   subst this
   simp only [List.cons_append, List.nil_append]
   rw [take_tok s1 (by decide), if_pos s1]
   have ew : t.word = trueB := bytes_ext (by rw [w1]; rfl)
   have : wordF t = some (.node 0 0 a .nil .nil) := by
    unfold wordF
    rw [if_pos ew]
    cases a
    simp only at h1 h2 h3 h4
    subst h1; subst h2; subst h3; subst h4
    rfl
   rw [this]; rfl
  ·have e2 : tk (.node 0 0 a .nil .nil) = [(97, a.name.data.toList)] := by simp only [tk]; rw [if_neg (by omega), if_pos h1]
   rw [e2] at hA
   obtain ⟨t, r, rfl, s1, w1, hA⟩ := map_cons hA
   have : r = [] := by simpa using hA
   subst this
   simp only [List.cons_append, List.nil_append]
   have s1' : t.sign = 97 := s1
   rw [take_tok (sg := 97) s1' (by decide), if_pos s1']
   have ew : t.word = a.name := bytes_ext w1
   have : wordF t = some (.node 0 0 a .nil .nil) := by
    unfold wordF
    rw [ew, if_neg n3, if_neg (by omega)]
    cases a
    simp only at h1 h3 h4
    subst h1; subst h3; subst h4
    rfl
   rw [this]; rfl
  ·have e2 : tk (.node 0 0 a l r) = (40, [40]) :: (tk l ++ ((a.op, opBytes a.op) :: (tkW a ++ (tk r ++ [(41, [41])])))) := by simp only [tk]; rw [if_neg (by omega), if_neg (by omega), if_pos h1]
   rw [e2] at hA
   obtain ⟨t0, r0, rfl, s0, _, hA⟩ := map_cons hA
   obtain ⟨Al, r1, rfl, hAl, hA⟩ := List.map_eq_append_iff.1 hA
   obtain ⟨t2, r2, rfl, s2, _, hA⟩ := map_cons hA
   obtain ⟨Aw, r3, rfl, hAw, hA⟩ := List.map_eq_append_iff.1 hA
   obtain ⟨Ar, r4, rfl, hAr, hA⟩ := List.map_eq_append_iff.1 hA
   obtain ⟨t5, r5, rfl, s5, _, hA⟩ := map_cons hA
   have : r5 = [] := by simpa using hA
   subst this
   simp only [List.cons_append, List.append_assoc, List.nil_append]
   have s2' : t2.sign = a.op := s2
   rw [take_tok s0 (by decide)]
   simp only
   have s0' : t0.sign = 40 := s0
   rw [s0', if_neg (by decide), if_pos rfl]
   unfold pairF
   rw [il gl zl m dl Al _ hAl]
   simp only
   rw [take_tok (sg := a.op) s2' (by omega)]
   simp only
   rw [s2', if_pos h1, window_tok hAw h3 h4]
   simp only
   rw [ir gr zr m dr Ar _ hAr]
   simp only
   rw [expect_tok s5 (by decide)]
   simp only
   cases a
   simp only at h2
   subst h2
   rfl
  ·have e2 : tk (.node 0 0 a l .nil) = (a.op, opBytes a.op) :: (tkW a ++ tk l) := by simp only [tk]; rw [if_neg (by omega), if_neg (by omega), if_neg (by omega)]
   rw [e2] at hA
   obtain ⟨t0, r0, rfl, s0, _, hA⟩ := map_cons hA
   obtain ⟨Aw, Al, rfl, hAw, hAl⟩ := List.map_eq_append_iff.1 hA
   simp only [List.cons_append, List.append_assoc]
   have s0' : t0.sign = a.op := s0
   rw [take_tok (sg := a.op) s0' (by omega)]
   simp only
   rw [s0', if_neg (by omega), if_neg (by omega), if_pos h1]
   unfold singleF
   rw [window_tok hAw h3 h4]
   simp only
   rw [il gl zl m dl Al _ hAl]
   simp only
   cases a
   simp only at h2
   subst h2
   rfl
theorem tk_depth : ∀ {x : BT Pay}, Good x → depthT x ≤ (tk x).length
 | .node b o a l r, h => by
  rcases h with ⟨h1, _, _, _, rfl, rfl⟩ | ⟨h1, _, _, _, rfl, rfl⟩ | ⟨h1, _, _, _, gl, gr⟩ | ⟨h1, _, _, _, gl, rfl⟩
  ·simp only [tk, depthT]; rw [if_pos h1]; simp
  ·simp only [tk, depthT]; rw [if_neg (by omega), if_pos h1]; simp
  ·have := tk_depth gl; have := tk_depth gr
   simp only [tk, depthT]; rw [if_neg (by omega), if_neg (by omega), if_pos h1]; simp; omega
  ·have := tk_depth gl
   simp only [tk, depthT]; rw [if_neg (by omega), if_neg (by omega), if_neg (by omega)]; simp; omega
theorem read_print (x : BT Pay) (hg : Good x) (hz : ZeroT x) (hd : depthT x ≤ 12) (hl : (printB x).length ≤ 300) : readF ⟨(printB x).toArray⟩ = (some x, 0) := by
 have hs : (⟨(printB x).toArray⟩ : ByteArray).size = (printB x).length := by simp [ByteArray.size]
 obtain ⟨n, last', hn, hE⟩ := eats_tree (s := ⟨(printB x).toArray⟩) x hg 0 32 [] (by simp) (by decide)
 obtain ⟨A, hA, e⟩ := hE ((printB x).length - n) []
 have e0 : (printB x).length - n + n = (printB x).length := by omega
 rw [e0] at e
 have e' : scanF ⟨(printB x).toArray⟩ (printB x).length 0 32 [] = some (A ++ [endTok ⟨(printB x).toArray⟩]) := by
  refine e.trans ?_
  rw [scanF_end _ _ _ _ _ (by rw [hs]; omega), List.nil_append]
 unfold readF
 rw [if_neg (by rw [hs]; omega), hs, e']
 simp only
 have hlen : depthT x ≤ (A ++ [endTok ⟨(printB x).toArray⟩]).length := by
  have h1 := tk_depth hg
  rw [← hA, List.length_map] at h1
  simp; omega
 rw [parse_tok x hg hz _ hlen A _ hA]
 simp only
 have e1 : expectF (-1) [endTok ⟨(printB x).toArray⟩] = some [endTok ⟨(printB x).toArray⟩] := by
  unfold expectF takeF
  rfl
 rw [e1]
 simp only
 rw [if_neg (by omega)]
structure Key where
  op : Int
  name : ByteArray
  lo : Int
  hi : Int
  l : Int
  r : Int
def keyEq (k q : Key) : Bool := decide (k.op = q.op ∧ k.name = q.name ∧ k.lo = q.lo ∧ k.hi = q.hi ∧ k.l = q.l ∧ k.r = q.r)
theorem keyEq_iff {k q : Key} : keyEq k q = true ↔ k = q := by
  unfold keyEq
  rw [decide_eq_true_iff]
  constructor
  · rintro ⟨h1, h2, h3, h4, h5, h6⟩
    cases k; cases q
    simp only at h1 h2 h3 h4 h5 h6
    subst h1; subst h2; subst h3; subst h4; subst h5; subst h6
    rfl
  · rintro rfl
    exact ⟨rfl, rfl, rfl, rfl, rfl, rfl⟩
def numK (K : List Key) (k : Key) : Option Nat := K.findIdx? (keyEq k)
def numI (K : List Key) (k : Key) : Int := match numK K k with | some i => (i : Int) + 1 | none => 0
def addK (K : List Key) (k : Key) : Int × List Key := match numK K k with | some i => ((i : Int) + 1, K) | none => ((K.length : Int) + 1, K ++ [k])
def putK (K : List Key) : BT Pay → Int × List Key
  | .nil => (0, K)
  | .node _ _ a l r => addK (putK (putK K l).2 r).2 ⟨a.op, a.name, a.lo, a.hi, (putK K l).1, (putK (putK K l).2 r).1⟩
def nodesT : BT Pay → Nat
  | .nil => 0
  | .node _ _ _ l r => nodesT l + nodesT r + 1
theorem numK_lt {K : List Key} {k : Key} {i : Nat} (h : numK K k = some i) : i < K.length := by
  unfold numK at h
  exact (List.findIdx?_eq_some_iff_getElem.1 h).1
theorem addK_len (K : List Key) (k : Key) : K.length ≤ (addK K k).2.length ∧ (addK K k).2.length ≤ K.length + 1 := by
  unfold addK
  cases h : numK K k with
  | some i => simp
  | none => simp
theorem addK_num (K : List Key) (k : Key) : 1 ≤ (addK K k).1 ∧ (addK K k).1 ≤ K.length + 1 := by
  unfold addK
  cases h : numK K k with
  | some i => have := numK_lt h; simp; omega
  | none => simp; omega
theorem putK_len : ∀ (x : BT Pay) (K : List Key), K.length ≤ (putK K x).2.length ∧ (putK K x).2.length ≤ K.length + nodesT x ∧ 0 ≤ (putK K x).1 ∧ (putK K x).1 ≤ K.length + nodesT x
  | .nil, K => by simp [putK, nodesT]
  | .node _ _ a l r, K => by
    have h1 := putK_len l K
    have h2 := putK_len r (putK K l).2
    have h3 := addK_len (putK (putK K l).2 r).2 ⟨a.op, a.name, a.lo, a.hi, (putK K l).1, (putK (putK K l).2 r).1⟩
    have h4 := addK_num (putK (putK K l).2 r).2 ⟨a.op, a.name, a.lo, a.hi, (putK K l).1, (putK (putK K l).2 r).1⟩
    simp only [putK, nodesT]
    omega
theorem numK_snoc_same (K : List Key) (k : Key) (h : numK K k = none) : numK (K ++ [k]) k = some K.length := by
  unfold numK at *
  rw [List.findIdx?_append, h]
  simp [List.findIdx?_cons, keyEq_iff.2 (rfl : k = k)]
theorem numK_snoc_other (K : List Key) (k q : Key) (h : q ≠ k) : numK (K ++ [k]) q = numK K q := by
  unfold numK
  rw [List.findIdx?_append]
  have hf : keyEq q k = false := by
    cases hb : keyEq q k with
    | true => exact absurd (keyEq_iff.1 hb) h
    | false => rfl
  simp [List.findIdx?_cons, hf]
end Go.Proofs.YtpbbmagjhkakgaaGreatDoor
