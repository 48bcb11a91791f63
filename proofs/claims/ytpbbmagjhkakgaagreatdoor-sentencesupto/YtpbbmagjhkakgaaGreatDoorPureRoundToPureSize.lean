/-
  Plain laws: what is written of a sentence is read again as that sentence; for every sentence that is made as it should be, no deeper than 12, whose text has at most 300 bytes.
-/
/-
  Plain laws: what is read has no addresses; how long the text of a sentence is; how many parts its core has; what putting the same core again does; no condition but those that stand in each theorem.
-/
import Derived.Test.YtpbbmagjhkakgaaGreatDoorPureTokToPureBack
import Derived.Test.YtpbbmagjhkakgaaGreatDoorPureTabToTab
namespace Go.Proofs.YtpbbmagjhkakgaaGreatDoor
open Go.Deep (BT)

theorem signF_dig {c : UInt8} (h : isDig c) : c.toNat < 128 ∧ signF (c.toNat : Nat) = 48 := by
  unfold isDig at h
  refine ⟨by omega, ?_⟩
  unfold signF
  rw [if_neg (by omega), if_neg (by omega), if_neg (by omega), if_neg (by omega), if_neg (by omega), if_pos (by omega)]

theorem signF_let {c : UInt8} (h : isLet c) : c.toNat < 128 ∧ signF (c.toNat : Nat) = 97 := by
  unfold isLet at h
  refine ⟨by omega, ?_⟩
  unfold signF
  rw [if_neg (by omega), if_neg (by omega), if_neg (by omega), if_neg (by omega), if_pos (by omega)]

theorem itoa_dig (v : Int) (h : 0 ≤ v) : Lib.itoa v ≠ [] ∧ ∀ c, c ∈ Lib.itoa v → isDig c := by
  rw [itoa_eq v h]; exact ⟨dec_ne _, dec_dig _⟩

theorem eats_num {s : ByteArray} {pos : Nat} {last v : Int} {rest : List UInt8} (hv : 0 ≤ v) (h : s.data.toList.drop pos = Lib.itoa v ++ rest) (hl : last ≠ 48) : Eats s pos last (Lib.itoa v) (Lib.itoa v).length 48 [(48, Lib.itoa v)] :=
  eats_run (by decide) (itoa_dig v hv).1 h (fun c hc => signF_dig ((itoa_dig v hv).2 c hc)) hl

theorem eats_opW {s : ByteArray} {pos : Nat} {a : Pay} (last : Int) {rest : List UInt8} (hop : isSign a.op) (h0 : 0 ≤ a.lo) (h1 : 0 ≤ a.hi) (h : s.data.toList.drop pos = opW a ++ rest) :
    ∃ n last', n ≤ (opW a).length ∧ last' ≠ 97 ∧ Eats s pos last (opW a) n last' ((a.op, opBytes a.op) :: tkW a) := by
  have hob : 1 ≤ (opBytes a.op).length := by rcases hop with e | e | e | e | e | e | e <;> rw [e] <;> decide
  cases hw : winB a.op with
  | false =>
    have e1 : opW a = opBytes a.op := by unfold opW; rw [hw]; rfl
    have e2 : tkW a = [] := by unfold tkW; rw [hw]; rfl
    rw [e1] at h ⊢
    rw [e2]
    exact ⟨1, a.op, hob, by rcases hop with e | e | e | e | e | e | e <;> rw [e] <;> decide, eats_op last hop h⟩
  | true =>
    have e1 : opW a = opBytes a.op ++ ([91] ++ (Lib.itoa a.lo ++ ([44] ++ (Lib.itoa a.hi ++ [93])))) := by unfold opW; rw [hw]; simp
    have e2 : tkW a = [(91, [91]), (48, Lib.itoa a.lo), (44, [44]), (48, Lib.itoa a.hi), (93, [93])] := by unfold tkW; rw [hw]; rfl
    rw [e1] at h ⊢
    rw [e2]
    simp only [List.append_assoc] at h
    have k1 := eats_op last hop h
    have d1 := at_next h
    have k2 := eats_char 91 a.op (by simp) (show s.data.toList.drop _ = 91 :: _ from d1)
    have d2 := at_next (m := [91]) d1
    have k3 := eats_num (last := ((91 : UInt8).toNat : Int)) h0 d2 (by decide)
    have d3 := at_next d2
    have k4 := eats_char 44 48 (by simp) (show s.data.toList.drop _ = 44 :: _ from d3)
    have d4 := at_next (m := [44]) d3
    have k5 := eats_num (last := ((44 : UInt8).toNat : Int)) h1 d4 (by decide)
    have d5 := at_next d4
    have k6 := eats_char 93 48 (by simp) (show s.data.toList.drop _ = 93 :: _ from d5)
    refine ⟨_, _, ?_, ?_, k1.trans (k2.trans (k3.trans (k4.trans (k5.trans k6))))⟩
    · simp; omega
    · decide

theorem eats_tree {s : ByteArray} : ∀ (x : BT Pay), Good x → ∀ (pos : Nat) (last : Int) (rest : List UInt8), s.data.toList.drop pos = printB x ++ rest → last ≠ 97 → ∃ n last', n ≤ (printB x).length ∧ Eats s pos last (printB x) n last' (tk x) := by
  intro x
  induction x with
  | nil => intro h; exact h.elim
  | node b o a l r il ir =>
    intro hg pos last rest h hl
    rcases hg with ⟨h1, _⟩ | ⟨h1, ⟨n1, n2, n3, n4⟩, _⟩ | ⟨h1, _, h3, _, gl, gr⟩ | ⟨h1, _, h3, _, gl, _⟩
    · have e1 : printB (.node b o a l r) = [116, 114, 117, 101] := by simp only [printB]; rw [if_pos h1]
      have e2 : tk (.node b o a l r) = [(97, [116, 114, 117, 101])] := by simp only [tk]; rw [if_pos h1]
      rw [e1] at h ⊢
      rw [e2]
      refine ⟨_, 97, Nat.le_refl _, eats_run (by decide) (by simp) h ?_ hl⟩
      intro c hc
      simp at hc
      rcases hc with rfl | rfl | rfl | rfl <;> decide
    · have e1 : printB (.node b o a l r) = a.name.data.toList := by simp only [printB]; rw [if_neg (by omega), if_pos h1]
      have e2 : tk (.node b o a l r) = [(97, a.name.data.toList)] := by simp only [tk]; rw [if_neg (by omega), if_pos h1]
      rw [e1] at h ⊢
      rw [e2]
      refine ⟨_, 97, Nat.le_refl _, eats_run (by decide) ?_ h (fun c hc => signF_let (n4 c hc)) hl⟩
      intro e
      have : a.name.data.toList.length = a.name.size := by rw [Array.length_toList]; rfl
      rw [e] at this
      simp at this
      omega
    · have e1 : printB (.node b o a l r) = [40] ++ (printB l ++ ([32] ++ (opW a ++ ([32] ++ (printB r ++ [41]))))) := by simp only [printB]; rw [if_neg (by omega), if_neg (by omega), if_pos h1]; simp
      have e2 : tk (.node b o a l r) = [(40, [40])] ++ (tk l ++ ([] ++ (((a.op, opBytes a.op) :: tkW a) ++ ([] ++ (tk r ++ [(41, [41])]))))) := by simp only [tk]; rw [if_neg (by omega), if_neg (by omega), if_pos h1]; simp
      rw [e1] at h ⊢
      rw [e2]
      simp only [List.append_assoc] at h
      have k1 := eats_char 40 last (by simp) (show s.data.toList.drop _ = 40 :: _ from h)
      have d1 := at_next (m := [40]) h
      obtain ⟨m2, l2, b2, k2⟩ := il gl _ ((40 : UInt8).toNat : Int) _ d1 (by decide)
      have d2 := at_next d1
      have k3 := eats_blank l2 (show s.data.toList.drop _ = 32 :: _ from d2)
      have d3 := at_next (m := [32]) d2
      obtain ⟨m4, l4, b4, _, k4⟩ := eats_opW 32 (a := a) (by unfold isSign; omega) (by omega) (by omega) d3
      have d4 := at_next d3
      have k5 := eats_blank l4 (show s.data.toList.drop _ = 32 :: _ from d4)
      have d5 := at_next (m := [32]) d4
      obtain ⟨m6, l6, b6, k6⟩ := ir gr _ 32 _ d5 (by decide)
      have d6 := at_next d5
      have k7 := eats_char 41 l6 (by simp) (show s.data.toList.drop _ = 41 :: _ from d6)
      refine ⟨_, _, ?_, k1.trans (k2.trans (k3.trans (k4.trans (k5.trans (k6.trans k7)))))⟩
      simp; omega
    · have e1 : printB (.node b o a l r) = opW a ++ printB l := by simp only [printB]; rw [if_neg (by omega), if_neg (by omega), if_neg (by omega)]
      have e2 : tk (.node b o a l r) = ((a.op, opBytes a.op) :: tkW a) ++ tk l := by simp only [tk]; rw [if_neg (by omega), if_neg (by omega), if_neg (by omega)]; simp
      rw [e1] at h ⊢
      rw [e2]
      simp only [List.append_assoc] at h
      obtain ⟨m1, l1, b1, n1, k1⟩ := eats_opW last (a := a) (by unfold isSign; omega) (by omega) (by omega) h
      have d1 := at_next h
      obtain ⟨m2, l2, b2, k2⟩ := il gl _ l1 _ d1 n1
      refine ⟨_, _, ?_, k1.trans k2⟩
      simp; omega

/-- A sentence without addresses. -/
def ZeroT : BT Pay → Prop
  | .nil => True
  | .node b o _ l r => b = 0 ∧ o = 0 ∧ ZeroT l ∧ ZeroT r

theorem take_tok {t : Tok} {ts : List Tok} {sg : Int} (h : t.sign = sg) (hs : sg ≠ -1) : takeF (t :: ts) = (t, ts) := by
  have : t.sign ≠ -1 := by omega
  simp [takeF, this]

theorem expect_tok {t : Tok} {ts : List Tok} {sg : Int} (h : t.sign = sg) (hs : sg ≠ -1) : expectF sg (t :: ts) = some ts := by
  unfold expectF
  rw [take_tok h hs, if_pos h]

theorem num_tok {t : Tok} {ts : List Tok} {v : Int} (h : t.sign = 48) (hw : t.word.data.toList = Lib.itoa v) (h0 : 0 ≤ v) (h1 : v ≤ 1000000) : numF (t :: ts) = some (v, ts) := by
  unfold numF
  rw [take_tok h (by decide), if_pos h]
  have e : t.word = ⟨(Lib.itoa v).toArray⟩ := bytes_ext (by simpa using hw)
  rw [show numB t.word = some v by rw [e]; exact numB_itoa v h0 h1]
  rfl

theorem map_cons {ts : List Tok} {p : Int × List UInt8} {T : List (Int × List UInt8)} (h : ts.map strip = p :: T) : ∃ t r, ts = t :: r ∧ t.sign = p.1 ∧ t.word.data.toList = p.2 ∧ r.map strip = T := by
  cases ts with
  | nil => cases h
  | cons t r =>
    simp only [List.map_cons, List.cons.injEq] at h
    obtain ⟨h1, h2⟩ := h
    exact ⟨t, r, rfl, by rw [← h1]; rfl, by rw [← h1]; rfl, h2⟩

theorem window_tok {a : Pay} {A rest : List Tok} (hA : A.map strip = tkW a) (hw : 0 ≤ a.lo ∧ a.lo ≤ a.hi ∧ a.hi ≤ 1000000) (hz : winB a.op = false → a.lo = 0 ∧ a.hi = 0) : windowF a.op (A ++ rest) = some ((a.lo, a.hi), rest) := by
  unfold windowF
  unfold tkW at hA
  cases hb : winB a.op with
  | false =>
    rw [hb] at hA
    have : A = [] := by simpa using hA
    subst this
    obtain ⟨h1, h2⟩ := hz hb
    rw [h1, h2]
    rfl
  | true =>
    rw [hb] at hA
    obtain ⟨t1, r1, rfl, s1, w1, hA⟩ := map_cons hA
    obtain ⟨t2, r2, rfl, s2, w2, hA⟩ := map_cons hA
    obtain ⟨t3, r3, rfl, s3, w3, hA⟩ := map_cons hA
    obtain ⟨t4, r4, rfl, s4, w4, hA⟩ := map_cons hA
    obtain ⟨t5, r5, rfl, s5, w5, hA⟩ := map_cons hA
    have : r5 = [] := by simpa using hA
    subst this
    simp only [List.cons_append, List.nil_append, if_true]
    rw [expect_tok s1 (by decide)]
    simp only
    rw [num_tok s2 w2 hw.1 (by omega)]
    simp only
    rw [expect_tok s3 (by decide)]
    simp only
    rw [num_tok s4 w4 (by omega) hw.2.2]
    simp only
    rw [expect_tok s5 (by decide)]
    simp only
    rw [if_neg (by omega)]

theorem parse_tok : ∀ (x : BT Pay), Good x → ZeroT x → ∀ (n : Nat), depthT x ≤ n → ∀ (A rest : List Tok), A.map strip = tk x → parseF n (A ++ rest) = some (x, rest) := by
  intro x
  induction x with
  | nil => intro h; exact h.elim
  | node b o a l r il ir =>
    intro hg hz n hn A rest hA
    obtain ⟨rfl, rfl, zl, zr⟩ := hz
    obtain ⟨m, rfl⟩ : ∃ m, n = m + 1 := ⟨n - 1, by simp only [depthT] at hn; omega⟩
    have dl : depthT l ≤ m := by simp only [depthT] at hn; omega
    have dr : depthT r ≤ m := by simp only [depthT] at hn; omega
    show stepF (parseF m) (A ++ rest) = _
    unfold stepF
    rcases hg with ⟨h1, h2, h3, h4, rfl, rfl⟩ | ⟨h1, ⟨n1, n2, n3, n4⟩, h3, h4, rfl, rfl⟩ | ⟨h1, h2, h3, h4, gl, gr⟩ | ⟨h1, h2, h3, h4, gl, rfl⟩
    · have e2 : tk (.node 0 0 a .nil .nil) = [(97, [116, 114, 117, 101])] := by simp only [tk]; rw [if_pos h1]
      rw [e2] at hA
      obtain ⟨t, r, rfl, s1, w1, hA⟩ := map_cons hA
      have : r = [] := by simpa using hA
      subst this
      simp only [List.cons_append, List.nil_append]
      rw [take_tok s1 (by decide), if_pos s1]
      have ew : t.word = trueB := bytes_ext (by rw [w1]; rfl)
      have : wordF t = some (.node 0 0 a .nil .nil) := by
        unfold wordF
        rw [if_pos ew]
        cases a
        simp only at h1 h2 h3 h4
        subst h1; subst h2; subst h3; subst h4
        rfl
      rw [this]; rfl
    · have e2 : tk (.node 0 0 a .nil .nil) = [(97, a.name.data.toList)] := by simp only [tk]; rw [if_neg (by omega), if_pos h1]
      rw [e2] at hA
      obtain ⟨t, r, rfl, s1, w1, hA⟩ := map_cons hA
      have : r = [] := by simpa using hA
      subst this
      simp only [List.cons_append, List.nil_append]
      have s1' : t.sign = 97 := s1
      rw [take_tok (sg := 97) s1' (by decide), if_pos s1']
      have ew : t.word = a.name := bytes_ext w1
      have : wordF t = some (.node 0 0 a .nil .nil) := by
        unfold wordF
        rw [ew, if_neg n3, if_neg (by omega)]
        cases a
        simp only at h1 h3 h4
        subst h1; subst h3; subst h4
        rfl
      rw [this]; rfl
    · have e2 : tk (.node 0 0 a l r) = (40, [40]) :: (tk l ++ ((a.op, opBytes a.op) :: (tkW a ++ (tk r ++ [(41, [41])])))) := by simp only [tk]; rw [if_neg (by omega), if_neg (by omega), if_pos h1]
      rw [e2] at hA
      obtain ⟨t0, r0, rfl, s0, _, hA⟩ := map_cons hA
      obtain ⟨Al, r1, rfl, hAl, hA⟩ := List.map_eq_append_iff.1 hA
      obtain ⟨t2, r2, rfl, s2, _, hA⟩ := map_cons hA
      obtain ⟨Aw, r3, rfl, hAw, hA⟩ := List.map_eq_append_iff.1 hA
      obtain ⟨Ar, r4, rfl, hAr, hA⟩ := List.map_eq_append_iff.1 hA
      obtain ⟨t5, r5, rfl, s5, _, hA⟩ := map_cons hA
      have : r5 = [] := by simpa using hA
      subst this
      simp only [List.cons_append, List.append_assoc, List.nil_append]
      have s2' : t2.sign = a.op := s2
      rw [take_tok s0 (by decide)]
      simp only
      have s0' : t0.sign = 40 := s0
      rw [s0', if_neg (by decide), if_pos rfl]
      unfold pairF
      rw [il gl zl m dl Al _ hAl]
      simp only
      rw [take_tok (sg := a.op) s2' (by omega)]
      simp only
      rw [s2', if_pos h1, window_tok hAw h3 h4]
      simp only
      rw [ir gr zr m dr Ar _ hAr]
      simp only
      rw [expect_tok s5 (by decide)]
      simp only
      cases a
      simp only at h2
      subst h2
      rfl
    · have e2 : tk (.node 0 0 a l .nil) = (a.op, opBytes a.op) :: (tkW a ++ tk l) := by simp only [tk]; rw [if_neg (by omega), if_neg (by omega), if_neg (by omega)]
      rw [e2] at hA
      obtain ⟨t0, r0, rfl, s0, _, hA⟩ := map_cons hA
      obtain ⟨Aw, Al, rfl, hAw, hAl⟩ := List.map_eq_append_iff.1 hA
      simp only [List.cons_append, List.append_assoc]
      have s0' : t0.sign = a.op := s0
      rw [take_tok (sg := a.op) s0' (by omega)]
      simp only
      rw [s0', if_neg (by omega), if_neg (by omega), if_pos h1]
      unfold singleF
      rw [window_tok hAw h3 h4]
      simp only
      rw [il gl zl m dl Al _ hAl]
      simp only
      cases a
      simp only at h2
      subst h2
      rfl

theorem tk_depth : ∀ {x : BT Pay}, Good x → depthT x ≤ (tk x).length
  | .node b o a l r, h => by
    rcases h with ⟨h1, _, _, _, rfl, rfl⟩ | ⟨h1, _, _, _, rfl, rfl⟩ | ⟨h1, _, _, _, gl, gr⟩ | ⟨h1, _, _, _, gl, rfl⟩
    · simp only [tk, depthT]; rw [if_pos h1]; simp
    · simp only [tk, depthT]; rw [if_neg (by omega), if_pos h1]; simp
    · have := tk_depth gl; have := tk_depth gr
      simp only [tk, depthT]; rw [if_neg (by omega), if_neg (by omega), if_pos h1]; simp; omega
    · have := tk_depth gl
      simp only [tk, depthT]; rw [if_neg (by omega), if_neg (by omega), if_neg (by omega)]; simp; omega

/-- WHAT IS WRITTEN IS READ AGAIN AS IT WAS. -/
theorem read_print (x : BT Pay) (hg : Good x) (hz : ZeroT x) (hd : depthT x ≤ 12) (hl : (printB x).length ≤ 300) : readF ⟨(printB x).toArray⟩ = (some x, 0) := by
  have hs : (⟨(printB x).toArray⟩ : ByteArray).size = (printB x).length := by simp [ByteArray.size]
  obtain ⟨n, last', hn, hE⟩ := eats_tree (s := ⟨(printB x).toArray⟩) x hg 0 32 [] (by simp) (by decide)
  obtain ⟨A, hA, e⟩ := hE ((printB x).length - n) []
  have e0 : (printB x).length - n + n = (printB x).length := by omega
  rw [e0] at e
  have e' : scanF ⟨(printB x).toArray⟩ (printB x).length 0 32 [] = some (A ++ [endTok ⟨(printB x).toArray⟩]) := by
    refine e.trans ?_
    rw [scanF_end _ _ _ _ _ (by rw [hs]; omega), List.nil_append]
  unfold readF
  rw [if_neg (by rw [hs]; omega), hs, e']
  simp only
  have hlen : depthT x ≤ (A ++ [endTok ⟨(printB x).toArray⟩]).length := by
    have h1 := tk_depth hg
    rw [← hA, List.length_map] at h1
    simp; omega
  rw [parse_tok x hg hz _ hlen A _ hA]
  simp only
  have e1 : expectF (-1) [endTok ⟨(printB x).toArray⟩] = some [endTok ⟨(printB x).toArray⟩] := by
    unfold expectF takeF
    rfl
  rw [e1]
  simp only
  rw [if_neg (by omega)]

end Go.Proofs.YtpbbmagjhkakgaaGreatDoor

namespace Go.Proofs.YtpbbmagjhkakgaaGreatDoor
open Go.Deep (BT)

def Zeros (f : List Tok → Option (BT Pay × List Tok)) : Prop := ∀ ts x r, f ts = some (x, r) → ZeroT x

theorem zeros_step {f : List Tok → Option (BT Pay × List Tok)} (hf : Zeros f) : Zeros (stepF f) := by
  intro ts x r h
  unfold stepF at h
  split at h
  · cases hw : wordF (takeF ts).1 with
    | none => simp [hw] at h
    | some y =>
      simp [hw] at h
      obtain ⟨rfl, _⟩ := h
      unfold wordF at hw
      split at hw
      · injection hw with hw; subst hw; exact ⟨rfl, rfl, trivial, trivial⟩
      · split at hw
        · cases hw
        · injection hw with hw; subst hw; exact ⟨rfl, rfl, trivial, trivial⟩
  · split at h
    · unfold pairF at h
      cases h1 : f (takeF ts).2 with
      | none => simp [h1] at h
      | some y =>
        obtain ⟨p, t1⟩ := y
        have d1 := hf _ _ _ h1
        simp only [h1] at h
        split at h
        · cases h2 : windowF (takeF t1).1.sign (takeF t1).2 with
          | none => simp [h2] at h
          | some z =>
            obtain ⟨⟨lo, hi⟩, t2⟩ := z
            simp only [h2] at h
            cases h3 : f t2 with
            | none => simp [h3] at h
            | some z =>
              obtain ⟨q, t3⟩ := z
              have d2 := hf _ _ _ h3
              simp only [h3] at h
              cases h4 : expectF 41 t3 with
              | none => simp [h4] at h
              | some t4 =>
                simp [h4] at h
                obtain ⟨rfl, _⟩ := h
                exact ⟨rfl, rfl, d1, d2⟩
        · cases h
    · split at h
      · unfold singleF at h
        cases h2 : windowF (takeF ts).1.sign (takeF ts).2 with
        | none => simp [h2] at h
        | some z =>
          obtain ⟨⟨lo, hi⟩, t2⟩ := z
          simp only [h2] at h
          cases h3 : f t2 with
          | none => simp [h3] at h
          | some z =>
            obtain ⟨q, t3⟩ := z
            have d2 := hf _ _ _ h3
            simp [h3] at h
            obtain ⟨rfl, _⟩ := h
            exact ⟨rfl, rfl, d2, trivial⟩
      · cases h

theorem zeros_parse : ∀ n, Zeros (parseF n)
  | 0 => fun _ _ _ h => by cases h
  | n + 1 => zeros_step (zeros_parse n)

/-- What is read has no addresses, and is no deeper than 12. -/
theorem readF_zero {s : ByteArray} {x : BT Pay} {n : Int} (h : readF s = (some x, n)) : ZeroT x ∧ depthT x ≤ 12 ∧ n = 0 := by
  unfold readF at h
  split at h
  · simp at h
  · cases h1 : scanF s s.size 0 32 [] with
    | none => simp [h1] at h
    | some ts =>
      simp only [h1] at h
      cases h2 : parseF ts.length ts with
      | none => simp [h2] at h
      | some y =>
        obtain ⟨z, r⟩ := y
        have g2 := zeros_parse _ _ _ _ h2
        simp only [h2] at h
        cases h3 : expectF (-1) r with
        | none => simp [h3] at h
        | some t3 =>
          simp only [h3] at h
          split at h
          · simp at h
          · simp at h
            obtain ⟨rfl, rfl⟩ := h
            exact ⟨g2, by omega, rfl⟩

/-- A text of more than 300 bytes is none. -/
theorem readF_long {s : ByteArray} (h : 300 < s.size) : readF s = (none, 1) := by unfold readF; rw [if_pos h]

theorem dec_len : ∀ (n u : Nat), u < 10 ^ (n + 1) → (Lib.decDigits u).length ≤ n + 1
  | 0, u, h => by rw [Lib.decDigits, dif_pos (by omega)]; simp
  | n + 1, u, h => by
    rw [Lib.decDigits]
    split
    · simp
    · have := dec_len n (u / 10) (by rw [Nat.pow_succ] at h; omega)
      simp; omega

theorem itoa_len (v : Int) (h0 : 0 ≤ v) (h1 : v ≤ 1000000) : (Lib.itoa v).length ≤ 7 := by
  rw [itoa_eq v h0]
  exact dec_len 6 _ (by omega)

theorem opW_len (a : Pay) (h : 0 ≤ a.lo ∧ a.lo ≤ a.hi ∧ a.hi ≤ 1000000) : (opW a).length ≤ 20 := by
  have h1 := opBytes_le a.op
  have h2 := itoa_len a.lo (by omega) (by omega)
  have h3 := itoa_len a.hi (by omega) (by omega)
  unfold opW
  split
  · simp; omega
  · omega

theorem print_len : ∀ {x : BT Pay}, Good x → (printB x).length + 24 ≤ 32 * 2 ^ depthT x
  | .node b o a l r, h => by
    rcases h with ⟨h1, _, _, _, rfl, rfl⟩ | ⟨h1, ⟨n1, n2, _⟩, _, _, rfl, rfl⟩ | ⟨h1, _, h3, _, gl, gr⟩ | ⟨h1, _, h3, _, gl, rfl⟩
    · simp only [printB, depthT]; rw [if_pos h1]; simp
    · have : a.name.data.toList.length = a.name.size := by rw [Array.length_toList]; rfl
      simp only [printB, depthT]; rw [if_neg (by omega), if_pos h1]; simp at *; omega
    · have p1 := print_len gl; have p2 := print_len gr
      have p3 := opW_len a h3
      have m1 : 2 ^ depthT l ≤ 2 ^ (max (depthT l) (depthT r)) := Nat.pow_le_pow_right (by omega) (by omega)
      have m2 : 2 ^ depthT r ≤ 2 ^ (max (depthT l) (depthT r)) := Nat.pow_le_pow_right (by omega) (by omega)
      simp only [printB, depthT]; rw [if_neg (by omega), if_neg (by omega), if_pos h1, Nat.pow_add]
      simp; omega
    · have p1 := print_len gl
      have p3 := opW_len a h3
      simp only [printB, depthT]; rw [if_neg (by omega), if_neg (by omega), if_neg (by omega), Nat.pow_add]
      simp; omega

theorem print_le {x : BT Pay} (h : Good x) (hd : depthT x ≤ 12) : (printB x).length ≤ 131072 := by
  have := print_len h
  have m : 2 ^ depthT x ≤ 2 ^ 12 := Nat.pow_le_pow_right (by omega) hd
  omega

theorem nodes_not (x : BT Pay) : nodesT (notT x) ≤ nodesT x + 1 := by
  cases x with
  | nil => simp [notT]
  | node b o a l r =>
    simp only [notT]
    split
    · simp [nodesT]; omega
    · simp [nodesT, mk]

theorem nodes_core : ∀ x : BT Pay, nodesT (coreT x) ≤ 4 * nodesT x
  | .nil => by simp [coreT, nodesT]
  | .node b o a l r => by
    have h1 := nodes_core l
    have h2 := nodes_core r
    have h3 := nodes_not (coreT l)
    have h4 := nodes_not (coreT r)
    have h5 := nodes_not (mk 8743 ByteArray.empty 0 0 (notT (coreT l)) (notT (coreT r)))
    have h6 := nodes_not (mk 79 ByteArray.empty a.lo a.hi (notT (coreT l)) .nil)
    simp only [coreT]
    repeat' split
    all_goals simp only [nodesT, mk] at *
    all_goals omega

theorem nodes_depth : ∀ x : BT Pay, nodesT x + 1 ≤ 2 ^ depthT x
  | .nil => by simp [nodesT, depthT]
  | .node b o a l r => by
    have h1 := nodes_depth l
    have h2 := nodes_depth r
    have m1 : 2 ^ depthT l ≤ 2 ^ (max (depthT l) (depthT r)) := Nat.pow_le_pow_right (by omega) (by omega)
    have m2 : 2 ^ depthT r ≤ 2 ^ (max (depthT l) (depthT r)) := Nat.pow_le_pow_right (by omega) (by omega)
    simp only [nodesT, depthT]
    rw [Nat.pow_add]
    omega

theorem nodes_le {x : BT Pay} (hd : depthT x ≤ 12) : nodesT (coreT x) ≤ 16384 := by
  have h1 := nodes_core x
  have h2 := nodes_depth x
  have m : 2 ^ depthT x ≤ 2 ^ 12 := Nat.pow_le_pow_right (by omega) hd
  omega

/-- A list of keys has grown. -/
def Grew (K L : List Key) : Prop := ∃ M, L = K ++ M

theorem Grew.refl (K : List Key) : Grew K K := ⟨[], by simp⟩
theorem Grew.trans {K L M : List Key} (h : Grew K L) (g : Grew L M) : Grew K M := by
  obtain ⟨A, rfl⟩ := h; obtain ⟨B, rfl⟩ := g; exact ⟨A ++ B, by simp⟩

theorem numK_grew {K L : List Key} {k : Key} {i : Nat} (g : Grew K L) (h : numK K k = some i) : numK L k = some i := by
  obtain ⟨M, rfl⟩ := g
  unfold numK at *
  rw [List.findIdx?_append, h]
  rfl

theorem addK_grew (K : List Key) (k : Key) : Grew K (addK K k).2 := by
  unfold addK
  cases numK K k with
  | some i => exact Grew.refl K
  | none => exact ⟨[k], rfl⟩

theorem addK_num_at (K : List Key) (k : Key) : ∃ i : Nat, numK (addK K k).2 k = some i ∧ (addK K k).1 = (i : Int) + 1 := by
  unfold addK
  cases h : numK K k with
  | some i => exact ⟨i, h, rfl⟩
  | none => exact ⟨K.length, numK_snoc_same K k h, rfl⟩

theorem putK_grew : ∀ (x : BT Pay) (K : List Key), Grew K (putK K x).2
  | .nil, K => Grew.refl K
  | .node _ _ a l r, K => by
    simp only [putK]
    exact ((putK_grew l K).trans (putK_grew r _)).trans (addK_grew _ _)

/-- Put again, nothing changes. -/
theorem putK_again : ∀ (x : BT Pay) (K L : List Key), Grew (putK K x).2 L → putK L x = ((putK K x).1, L)
  | .nil, K, L, _ => rfl
  | .node _ _ a l r, K, L, h => by
    simp only [putK] at h ⊢
    have g3 := addK_grew (putK (putK K l).2 r).2 ⟨a.op, a.name, a.lo, a.hi, (putK K l).1, (putK (putK K l).2 r).1⟩
    have e1 := putK_again l K L ((putK_grew r _).trans (g3.trans h))
    rw [e1]
    have e2 := putK_again r (putK K l).2 L (g3.trans h)
    rw [e2]
    obtain ⟨i, h1, h2⟩ := addK_num_at (putK (putK K l).2 r).2 ⟨a.op, a.name, a.lo, a.hi, (putK K l).1, (putK (putK K l).2 r).1⟩
    rw [h2]
    have h3 := numK_grew h h1
    show addK L _ = _
    unfold addK
    rw [h3]

/-- One node at least. -/
theorem putK_one {x : BT Pay} (h : x ≠ .nil) (K : List Key) : 1 ≤ (putK K x).2.length := by
  cases x with
  | nil => exact absurd rfl h
  | node b o a l r =>
    obtain ⟨i, h1, h2⟩ := addK_num_at (putK (putK K l).2 r).2 ⟨a.op, a.name, a.lo, a.hi, (putK K l).1, (putK (putK K l).2 r).1⟩
    have := numK_lt h1
    simp only [putK]
    omega

end Go.Proofs.YtpbbmagjhkakgaaGreatDoor
