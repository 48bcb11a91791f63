/-
  Plain laws: the list of different texts that the given reader makes of a core's parts is as long as the program's table of keys; no condition but those that stand in each theorem.
-/
/-
  Plain laws: as many different keys as different texts; for every list of sentences that are made as they should be.
-/
import Derived.Test.YtpbbmagjhkakgaaGreatDoorRefReadToRefInj
namespace Go.Proofs.YtpbbmagjhkakgaaGreatDoor
open Go.Deep (BT)

/-- A list of texts with those of all parts, each once. -/
def withB : List (List UInt8) → BT Pay → List (List UInt8)
  | L, .nil => L
  | L, .node b o a l r => if printB (.node b o a l r) ∈ withB (withB L l) r then withB (withB L l) r else withB (withB L l) r ++ [printB (.node b o a l r)]

/-- The number of a part: where its text stands. -/
def numL (L : List (List UInt8)) : BT Pay → Int
  | .nil => 0
  | .node b o a l r => match L.findIdx? (· == printB (.node b o a l r)) with | some i => (i : Int) + 1 | none => 0

/-- A part that is there, or none. -/
def Has (L : List (List UInt8)) : BT Pay → Prop
  | .nil => True
  | .node b o a l r => printB (.node b o a l r) ∈ L

def keyL (L : List (List UInt8)) : BT Pay → Key
  | .nil => ⟨0, ByteArray.empty, 0, 0, 0, 0⟩
  | .node _ _ a l r => ⟨a.op, a.name, a.lo, a.hi, numL L l, numL L r⟩

def Fine (x : BT Pay) : Prop := Good x ∧ ZeroT x
def FineN (x : BT Pay) : Prop := x = .nil ∨ Fine x

def Parts (L : List (List UInt8)) : BT Pay → Prop
  | .nil => True
  | .node _ _ _ l r => Has L l ∧ Has L r

theorem Fine.parts {b o : Nat} {a : Pay} {l r : BT Pay} (h : Fine (.node b o a l r)) : FineN l ∧ FineN r ∧ b = 0 ∧ o = 0 := by
  obtain ⟨hg, hz⟩ := h
  obtain ⟨rfl, rfl, zl, zr⟩ := hz
  rcases hg with ⟨_, _, _, _, rfl, rfl⟩ | ⟨_, _, _, _, rfl, rfl⟩ | ⟨_, _, _, _, gl, gr⟩ | ⟨_, _, _, _, gl, rfl⟩
  · exact ⟨.inl rfl, .inl rfl, rfl, rfl⟩
  · exact ⟨.inl rfl, .inl rfl, rfl, rfl⟩
  · exact ⟨.inr ⟨gl, zl⟩, .inr ⟨gr, zr⟩, rfl, rfl⟩
  · exact ⟨.inr ⟨gl, zl⟩, .inl rfl, rfl, rfl⟩

theorem numL_has {L : List (List UInt8)} {b o : Nat} {a : Pay} {l r : BT Pay} (h : Has L (.node b o a l r)) : ∃ i : Nat, numL L (.node b o a l r) = (i : Int) + 1 ∧ L[i]? = some (printB (.node b o a l r)) := by
  have h' : printB (.node b o a l r) ∈ L := h
  simp only [numL]
  cases hf : L.findIdx? (· == printB (.node b o a l r)) with
  | none =>
    rw [List.findIdx?_eq_none_iff] at hf
    have := hf _ h'
    simp at this
  | some i =>
    obtain ⟨hi, h2, _⟩ := List.findIdx?_eq_some_iff_getElem.1 hf
    refine ⟨i, rfl, ?_⟩
    rw [List.getElem?_eq_getElem hi]
    simpa using h2

/-- Parts with one number are one part. -/
theorem numL_inj {L : List (List UInt8)} {x y : BT Pay} (fx : FineN x) (fy : FineN y) (hx : Has L x) (hy : Has L y) (h : numL L x = numL L y) : x = y := by
  cases x with
  | nil =>
    cases y with
    | nil => rfl
    | node b o a l r =>
      obtain ⟨i, h1, _⟩ := numL_has hy
      rw [h1] at h
      have : numL L .nil = 0 := rfl
      omega
  | node b o a l r =>
    obtain ⟨i, h1, h2⟩ := numL_has hx
    cases y with
    | nil =>
      rw [h1] at h
      have : numL L .nil = 0 := rfl
      omega
    | node b' o' a' l' r' =>
      obtain ⟨j, h3, h4⟩ := numL_has hy
      have hij : i = j := by omega
      subst hij
      rw [h2] at h4
      have fx' : Fine (.node b o a l r) := by
        rcases fx with e | e
        · cases e
        · exact e
      have fy' : Fine (.node b' o' a' l' r') := by
        rcases fy with e | e
        · cases e
        · exact e
      exact print_inj fx'.1 fy'.1 fx'.2 fy'.2 (Option.some.inj h4)

theorem keyL_inj {L : List (List UInt8)} {x y : BT Pay} (fx : Fine x) (fy : Fine y) (px : Parts L x) (py : Parts L y) (h : keyL L x = keyL L y) : x = y := by
  cases x with
  | nil => exact absurd fx.1 id
  | node b o a l r =>
    cases y with
    | nil => exact absurd fy.1 id
    | node b' o' a' l' r' =>
      obtain ⟨fl, fr, rfl, rfl⟩ := fx.parts
      obtain ⟨fl', fr', rfl, rfl⟩ := fy.parts
      simp only [keyL, Key.mk.injEq] at h
      obtain ⟨e1, e2, e3, e4, e5, e6⟩ := h
      have el := numL_inj fl fl' px.1 py.1 e5
      have er := numL_inj fr fr' px.2 py.2 e6
      subst el; subst er
      cases a; cases a'
      simp only at e1 e2 e3 e4
      subst e1; subst e2; subst e3; subst e4
      rfl

theorem numL_grow {L : List (List UInt8)} {x : BT Pay} (s : List UInt8) (h : Has L x) : numL (L ++ [s]) x = numL L x := by
  cases x with
  | nil => rfl
  | node b o a l r =>
    simp only [numL]
    rw [List.findIdx?_append]
    cases hf : L.findIdx? (· == printB (.node b o a l r)) with
    | some i => rfl
    | none =>
      exfalso
      rw [List.findIdx?_eq_none_iff] at hf
      have := hf _ (show printB (.node b o a l r) ∈ L from h)
      simp at this

theorem Has.grow {L : List (List UInt8)} {x : BT Pay} (s : List UInt8) (h : Has L x) : Has (L ++ [s]) x := by
  cases x with
  | nil => trivial
  | node b o a l r => exact List.mem_append_left _ h

/-- The table and the list of texts tell the same parts. -/
structure Twin (K : List Key) (L : List (List UInt8)) : Prop where
  len : K.length = L.length
  each : ∀ i (h : i < L.length), ∃ x, L[i] = printB x ∧ Fine x ∧ Parts L x ∧ K[i]? = some (keyL L x)

theorem Twin.nil : Twin [] [] := ⟨rfl, fun i h => absurd h (Nat.not_lt_zero i)⟩

theorem Twin.find {K : List Key} {L : List (List UInt8)} (h : Twin K L) {x : BT Pay} (fx : Fine x) (px : Parts L x) : numK K (keyL L x) = L.findIdx? (· == printB x) := by
  have hp : ∀ i (hk : i < K.length) (hl : i < L.length), keyEq (keyL L x) K[i] = (L[i] == printB x) := by
    intro i hk hl
    obtain ⟨y, e1, fy, py, e2⟩ := h.each i hl
    rw [List.getElem?_eq_getElem hk] at e2
    have e3 : K[i] = keyL L y := Option.some.inj e2
    rw [e3, e1]
    by_cases hxy : x = y
    · subst hxy
      rw [keyEq_iff.2 rfl]
      simp
    · have n1 : keyEq (keyL L x) (keyL L y) = false := by
        cases hb : keyEq (keyL L x) (keyL L y) with
        | true => exact absurd (keyL_inj fx fy px py (keyEq_iff.1 hb)) hxy
        | false => rfl
      have n2 : (printB y == printB x) = false := by
        simp
        exact fun e => hxy (print_inj fx.1 fy.1 fx.2 fy.2 e.symm)
      rw [n1, n2]
  unfold numK
  cases hf : L.findIdx? (· == printB x) with
  | none =>
    rw [List.findIdx?_eq_none_iff] at hf ⊢
    intro k hk
    obtain ⟨i, hi, rfl⟩ := List.getElem_of_mem hk
    have hl : i < L.length := by rw [← h.len]; exact hi
    rw [hp i hi hl]
    exact hf _ (List.getElem_mem hl)
  | some i =>
    obtain ⟨hi, h2, h3⟩ := List.findIdx?_eq_some_iff_getElem.1 hf
    have hk : i < K.length := by rw [h.len]; exact hi
    refine List.findIdx?_eq_some_iff_getElem.2 ⟨hk, by rw [hp i hk hi]; exact h2, fun j hj => ?_⟩
    have hl2 : j < L.length := by omega
    have hk2 : j < K.length := by omega
    rw [hp j hk2 hl2]
    exact h3 j hj

end Go.Proofs.YtpbbmagjhkakgaaGreatDoor

namespace Go.Proofs.YtpbbmagjhkakgaaGreatDoor
open Go.Deep (BT)

def Pre (L M : List (List UInt8)) : Prop := ∃ N, M = L ++ N

theorem Pre.refl (L : List (List UInt8)) : Pre L L := ⟨[], by simp⟩
theorem Pre.trans {L M N : List (List UInt8)} (h : Pre L M) (g : Pre M N) : Pre L N := by
  obtain ⟨A, rfl⟩ := h; obtain ⟨B, rfl⟩ := g; exact ⟨A ++ B, by simp⟩

theorem Has.pre {L M : List (List UInt8)} {x : BT Pay} (h : Has L x) (g : Pre L M) : Has M x := by
  obtain ⟨N, rfl⟩ := g
  cases x with
  | nil => trivial
  | node b o a l r => exact List.mem_append_left _ h

theorem numL_pre {L M : List (List UInt8)} {x : BT Pay} (h : Has L x) (g : Pre L M) : numL M x = numL L x := by
  obtain ⟨N, rfl⟩ := g
  cases x with
  | nil => rfl
  | node b o a l r =>
    simp only [numL]
    rw [List.findIdx?_append]
    cases hf : L.findIdx? (· == printB (.node b o a l r)) with
    | some i => rfl
    | none =>
      exfalso
      rw [List.findIdx?_eq_none_iff] at hf
      have := hf _ (show printB (.node b o a l r) ∈ L from h)
      simp at this

/-- The list with one text more, if it is new. -/
def addB (L : List (List UInt8)) (s : List UInt8) : List (List UInt8) := if s ∈ L then L else L ++ [s]

theorem addB_pre (L : List (List UInt8)) (s : List UInt8) : Pre L (addB L s) := by
  unfold addB
  split
  · exact Pre.refl L
  · exact ⟨[s], rfl⟩

theorem Twin.add {K : List Key} {L : List (List UInt8)} (h : Twin K L) {b o : Nat} {a : Pay} {l r : BT Pay} (fx : Fine (.node b o a l r)) (px : Parts L (.node b o a l r)) :
    Twin (addK K (keyL L (.node b o a l r))).2 (addB L (printB (.node b o a l r))) ∧ (addK K (keyL L (.node b o a l r))).1 = numL (addB L (printB (.node b o a l r))) (.node b o a l r) ∧ Has (addB L (printB (.node b o a l r))) (.node b o a l r) := by
  have hf := h.find fx px
  have hnum : ∀ M, numL M (.node b o a l r) = match M.findIdx? (· == printB (.node b o a l r)) with | some i => (i : Int) + 1 | none => 0 := fun _ => rfl
  have hhas : ∀ M, Has M (.node b o a l r) = (printB (.node b o a l r) ∈ M) := fun _ => rfl
  have hparts : ∀ M, Pre L M → Parts M (.node b o a l r) := fun M g => ⟨px.1.pre g, px.2.pre g⟩
  have hkey : ∀ M, Pre L M → ∀ y, Parts L y → keyL M y = keyL L y := by
    intro M g y py
    cases y with
    | nil => rfl
    | node b o a l r => simp only [keyL]; rw [numL_pre py.1 g, numL_pre py.2 g]
  have hpp : ∀ M, Pre L M → ∀ y, Parts L y → Parts M y := by
    intro M g y py
    cases y with
    | nil => trivial
    | node b o a l r => exact ⟨py.1.pre g, py.2.pre g⟩
  rw [hnum, hhas]
  generalize hx : (BT.node b o a l r : BT Pay) = x at *
  unfold addK addB
  cases hq : L.findIdx? (· == printB x) with
  | some i =>
    rw [hq] at hf
    rw [hf]
    obtain ⟨hi, h2, _⟩ := List.findIdx?_eq_some_iff_getElem.1 hq
    have hm : printB x ∈ L := by
      have e : L[i] = printB x := by simpa using h2
      rw [← e]; exact List.getElem_mem hi
    rw [if_pos hm, hq]
    exact ⟨h, rfl, hm⟩
  | none =>
    rw [hq] at hf
    rw [hf]
    have hm : ¬ printB x ∈ L := by
      intro hm
      rw [List.findIdx?_eq_none_iff] at hq
      have := hq _ hm
      simp at this
    rw [if_neg hm, List.findIdx?_append, hq]
    have g : Pre L (L ++ [printB x]) := ⟨_, rfl⟩
    refine ⟨⟨by simp [h.len], ?_⟩, ?_, by simp⟩
    · intro i hi
      by_cases hl : i < L.length
      · obtain ⟨y, e1, fy, py, e2⟩ := h.each i hl
        refine ⟨y, ?_, fy, hpp _ g y py, ?_⟩
        · rw [List.getElem_append_left hl]; exact e1
        · rw [List.getElem?_append_left (by rw [h.len]; exact hl), hkey _ g y py]; exact e2
      · have hi2 : i = L.length := by simp at hi; omega
        subst hi2
        refine ⟨x, by simp, fx, hparts _ g, ?_⟩
        rw [hkey _ g x px, List.getElem?_append_right (by rw [h.len]; exact Nat.le_refl _), h.len]
        simp
    · simp [h.len]

theorem withB_pre : ∀ (x : BT Pay) (L : List (List UInt8)), Pre L (withB L x)
  | .nil, L => Pre.refl L
  | .node b o a l r, L => ((withB_pre l L).trans (withB_pre r _)).trans (addB_pre (withB (withB L l) r) (printB (.node b o a l r)))

/-- A CORE WITH ALL ITS PARTS, PUT INTO BOTH. -/
theorem Twin.put : ∀ (x : BT Pay), FineN x → ∀ (K : List Key) (L : List (List UInt8)), Twin K L → Twin (putK K x).2 (withB L x) ∧ (putK K x).1 = numL (withB L x) x ∧ Has (withB L x) x := by
  intro x
  induction x with
  | nil => intro _ K L h; exact ⟨h, rfl, trivial⟩
  | node b o a l r il ir =>
    intro hx K L h
    have fx : Fine (.node b o a l r) := by
      rcases hx with e | e
      · cases e
      · exact e
    obtain ⟨fl, fr, _, _⟩ := fx.parts
    obtain ⟨t1, n1, m1⟩ := il fl K L h
    obtain ⟨t2, n2, m2⟩ := ir fr (putK K l).2 (withB L l) t1
    have g := withB_pre r (withB L l)
    have hk : (⟨a.op, a.name, a.lo, a.hi, (putK K l).1, (putK (putK K l).2 r).1⟩ : Key) = keyL (withB (withB L l) r) (.node b o a l r) := by
      simp only [keyL]
      rw [n1, n2, numL_pre m1 g]
    have := t2.add fx ⟨m1.pre g, m2⟩
    rw [← hk] at this
    exact this

/-- AS MANY KEYS AS TEXTS. -/
theorem count_eq {K : List Key} {L : List (List UInt8)} (h : Twin K L) {x : BT Pay} (hx : Fine x) : Twin (putK K (coreT x)).2 (withB L (coreT x)) := (Twin.put (coreT x) (.inr ⟨good_core hx.1, zero_core hx.2⟩) K L h).1

end Go.Proofs.YtpbbmagjhkakgaaGreatDoor
