/-
  Plain laws: what is read has no addresses; how long the text of a sentence is; how many parts its core has; what putting the same core again does; no condition but those that stand in each theorem.
-/
import Derived.Test.YtpbbmagjhkakgaaGreatDoorPureRound
import Derived.Test.YtpbbmagjhkakgaaGreatDoorPureTab
namespace Go.Proofs.YtpbbmagjhkakgaaGreatDoor
open Go.Deep (BT)

def Zeros (f : List Tok → Option (BT Pay × List Tok)) : Prop := ∀ ts x r, f ts = some (x, r) → ZeroT x

theorem zeros_step {f : List Tok → Option (BT Pay × List Tok)} (hf : Zeros f) : Zeros (stepF f) := by
  intro ts x r h
  unfold stepF at h
  split at h
  · cases hw : wordF (takeF ts).1 with
    | none => simp [hw] at h
    | some y =>
      simp [hw] at h
      obtain ⟨rfl, _⟩ := h
      unfold wordF at hw
      split at hw
      · injection hw with hw; subst hw; exact ⟨rfl, rfl, trivial, trivial⟩
      · split at hw
        · cases hw
        · injection hw with hw; subst hw; exact ⟨rfl, rfl, trivial, trivial⟩
  · split at h
    · unfold pairF at h
      cases h1 : f (takeF ts).2 with
      | none => simp [h1] at h
      | some y =>
        obtain ⟨p, t1⟩ := y
        have d1 := hf _ _ _ h1
        simp only [h1] at h
        split at h
        · cases h2 : windowF (takeF t1).1.sign (takeF t1).2 with
          | none => simp [h2] at h
          | some z =>
            obtain ⟨⟨lo, hi⟩, t2⟩ := z
            simp only [h2] at h
            cases h3 : f t2 with
            | none => simp [h3] at h
            | some z =>
              obtain ⟨q, t3⟩ := z
              have d2 := hf _ _ _ h3
              simp only [h3] at h
              cases h4 : expectF 41 t3 with
              | none => simp [h4] at h
              | some t4 =>
                simp [h4] at h
                obtain ⟨rfl, _⟩ := h
                exact ⟨rfl, rfl, d1, d2⟩
        · cases h
    · split at h
      · unfold singleF at h
        cases h2 : windowF (takeF ts).1.sign (takeF ts).2 with
        | none => simp [h2] at h
        | some z =>
          obtain ⟨⟨lo, hi⟩, t2⟩ := z
          simp only [h2] at h
          cases h3 : f t2 with
          | none => simp [h3] at h
          | some z =>
            obtain ⟨q, t3⟩ := z
            have d2 := hf _ _ _ h3
            simp [h3] at h
            obtain ⟨rfl, _⟩ := h
            exact ⟨rfl, rfl, d2, trivial⟩
      · cases h

theorem zeros_parse : ∀ n, Zeros (parseF n)
  | 0 => fun _ _ _ h => by cases h
  | n + 1 => zeros_step (zeros_parse n)

/-- What is read has no addresses, and is no deeper than 12. -/
theorem readF_zero {s : ByteArray} {x : BT Pay} {n : Int} (h : readF s = (some x, n)) : ZeroT x ∧ depthT x ≤ 12 ∧ n = 0 := by
  unfold readF at h
  split at h
  · simp at h
  · cases h1 : scanF s s.size 0 32 [] with
    | none => simp [h1] at h
    | some ts =>
      simp only [h1] at h
      cases h2 : parseF ts.length ts with
      | none => simp [h2] at h
      | some y =>
        obtain ⟨z, r⟩ := y
        have g2 := zeros_parse _ _ _ _ h2
        simp only [h2] at h
        cases h3 : expectF (-1) r with
        | none => simp [h3] at h
        | some t3 =>
          simp only [h3] at h
          split at h
          · simp at h
          · simp at h
            obtain ⟨rfl, rfl⟩ := h
            exact ⟨g2, by omega, rfl⟩

/-- A text of more than 300 bytes is none. -/
theorem readF_long {s : ByteArray} (h : 300 < s.size) : readF s = (none, 1) := by unfold readF; rw [if_pos h]

theorem dec_len : ∀ (n u : Nat), u < 10 ^ (n + 1) → (Lib.decDigits u).length ≤ n + 1
  | 0, u, h => by rw [Lib.decDigits, dif_pos (by omega)]; simp
  | n + 1, u, h => by
    rw [Lib.decDigits]
    split
    · simp
    · have := dec_len n (u / 10) (by rw [Nat.pow_succ] at h; omega)
      simp; omega

theorem itoa_len (v : Int) (h0 : 0 ≤ v) (h1 : v ≤ 1000000) : (Lib.itoa v).length ≤ 7 := by
  rw [itoa_eq v h0]
  exact dec_len 6 _ (by omega)

theorem opW_len (a : Pay) (h : 0 ≤ a.lo ∧ a.lo ≤ a.hi ∧ a.hi ≤ 1000000) : (opW a).length ≤ 20 := by
  have h1 := opBytes_le a.op
  have h2 := itoa_len a.lo (by omega) (by omega)
  have h3 := itoa_len a.hi (by omega) (by omega)
  unfold opW
  split
  · simp; omega
  · omega

theorem print_len : ∀ {x : BT Pay}, Good x → (printB x).length + 24 ≤ 32 * 2 ^ depthT x
  | .node b o a l r, h => by
    rcases h with ⟨h1, _, _, _, rfl, rfl⟩ | ⟨h1, ⟨n1, n2, _⟩, _, _, rfl, rfl⟩ | ⟨h1, _, h3, _, gl, gr⟩ | ⟨h1, _, h3, _, gl, rfl⟩
    · simp only [printB, depthT]; rw [if_pos h1]; simp
    · have : a.name.data.toList.length = a.name.size := by rw [Array.length_toList]; rfl
      simp only [printB, depthT]; rw [if_neg (by omega), if_pos h1]; simp at *; omega
    · have p1 := print_len gl; have p2 := print_len gr
      have p3 := opW_len a h3
      have m1 : 2 ^ depthT l ≤ 2 ^ (max (depthT l) (depthT r)) := Nat.pow_le_pow_right (by omega) (by omega)
      have m2 : 2 ^ depthT r ≤ 2 ^ (max (depthT l) (depthT r)) := Nat.pow_le_pow_right (by omega) (by omega)
      simp only [printB, depthT]; rw [if_neg (by omega), if_neg (by omega), if_pos h1, Nat.pow_add]
      simp; omega
    · have p1 := print_len gl
      have p3 := opW_len a h3
      simp only [printB, depthT]; rw [if_neg (by omega), if_neg (by omega), if_neg (by omega), Nat.pow_add]
      simp; omega

theorem print_le {x : BT Pay} (h : Good x) (hd : depthT x ≤ 12) : (printB x).length ≤ 131072 := by
  have := print_len h
  have m : 2 ^ depthT x ≤ 2 ^ 12 := Nat.pow_le_pow_right (by omega) hd
  omega

theorem nodes_not (x : BT Pay) : nodesT (notT x) ≤ nodesT x + 1 := by
  cases x with
  | nil => simp [notT]
  | node b o a l r =>
    simp only [notT]
    split
    · simp [nodesT]; omega
    · simp [nodesT, mk]

theorem nodes_core : ∀ x : BT Pay, nodesT (coreT x) ≤ 4 * nodesT x
  | .nil => by simp [coreT, nodesT]
  | .node b o a l r => by
    have h1 := nodes_core l
    have h2 := nodes_core r
    have h3 := nodes_not (coreT l)
    have h4 := nodes_not (coreT r)
    have h5 := nodes_not (mk 8743 ByteArray.empty 0 0 (notT (coreT l)) (notT (coreT r)))
    have h6 := nodes_not (mk 79 ByteArray.empty a.lo a.hi (notT (coreT l)) .nil)
    simp only [coreT]
    repeat' split
    all_goals simp only [nodesT, mk] at *
    all_goals omega

theorem nodes_depth : ∀ x : BT Pay, nodesT x + 1 ≤ 2 ^ depthT x
  | .nil => by simp [nodesT, depthT]
  | .node b o a l r => by
    have h1 := nodes_depth l
    have h2 := nodes_depth r
    have m1 : 2 ^ depthT l ≤ 2 ^ (max (depthT l) (depthT r)) := Nat.pow_le_pow_right (by omega) (by omega)
    have m2 : 2 ^ depthT r ≤ 2 ^ (max (depthT l) (depthT r)) := Nat.pow_le_pow_right (by omega) (by omega)
    simp only [nodesT, depthT]
    rw [Nat.pow_add]
    omega

theorem nodes_le {x : BT Pay} (hd : depthT x ≤ 12) : nodesT (coreT x) ≤ 16384 := by
  have h1 := nodes_core x
  have h2 := nodes_depth x
  have m : 2 ^ depthT x ≤ 2 ^ 12 := Nat.pow_le_pow_right (by omega) hd
  omega

/-- A list of keys has grown. -/
def Grew (K L : List Key) : Prop := ∃ M, L = K ++ M

theorem Grew.refl (K : List Key) : Grew K K := ⟨[], by simp⟩
theorem Grew.trans {K L M : List Key} (h : Grew K L) (g : Grew L M) : Grew K M := by
  obtain ⟨A, rfl⟩ := h; obtain ⟨B, rfl⟩ := g; exact ⟨A ++ B, by simp⟩

theorem numK_grew {K L : List Key} {k : Key} {i : Nat} (g : Grew K L) (h : numK K k = some i) : numK L k = some i := by
  obtain ⟨M, rfl⟩ := g
  unfold numK at *
  rw [List.findIdx?_append, h]
  rfl

theorem addK_grew (K : List Key) (k : Key) : Grew K (addK K k).2 := by
  unfold addK
  cases numK K k with
  | some i => exact Grew.refl K
  | none => exact ⟨[k], rfl⟩

theorem addK_num_at (K : List Key) (k : Key) : ∃ i : Nat, numK (addK K k).2 k = some i ∧ (addK K k).1 = (i : Int) + 1 := by
  unfold addK
  cases h : numK K k with
  | some i => exact ⟨i, h, rfl⟩
  | none => exact ⟨K.length, numK_snoc_same K k h, rfl⟩

theorem putK_grew : ∀ (x : BT Pay) (K : List Key), Grew K (putK K x).2
  | .nil, K => Grew.refl K
  | .node _ _ a l r, K => by
    simp only [putK]
    exact ((putK_grew l K).trans (putK_grew r _)).trans (addK_grew _ _)

/-- Put again, nothing changes. -/
theorem putK_again : ∀ (x : BT Pay) (K L : List Key), Grew (putK K x).2 L → putK L x = ((putK K x).1, L)
  | .nil, K, L, _ => rfl
  | .node _ _ a l r, K, L, h => by
    simp only [putK] at h ⊢
    have g3 := addK_grew (putK (putK K l).2 r).2 ⟨a.op, a.name, a.lo, a.hi, (putK K l).1, (putK (putK K l).2 r).1⟩
    have e1 := putK_again l K L ((putK_grew r _).trans (g3.trans h))
    rw [e1]
    have e2 := putK_again r (putK K l).2 L (g3.trans h)
    rw [e2]
    obtain ⟨i, h1, h2⟩ := addK_num_at (putK (putK K l).2 r).2 ⟨a.op, a.name, a.lo, a.hi, (putK K l).1, (putK (putK K l).2 r).1⟩
    rw [h2]
    have h3 := numK_grew h h1
    show addK L _ = _
    unfold addK
    rw [h3]

/-- One node at least. -/
theorem putK_one {x : BT Pay} (h : x ≠ .nil) (K : List Key) : 1 ≤ (putK K x).2.length := by
  cases x with
  | nil => exact absurd rfl h
  | node b o a l r =>
    obtain ⟨i, h1, h2⟩ := addK_num_at (putK (putK K l).2 r).2 ⟨a.op, a.name, a.lo, a.hi, (putK K l).1, (putK (putK K l).2 r).1⟩
    have := numK_lt h1
    simp only [putK]
    omega

end Go.Proofs.YtpbbmagjhkakgaaGreatDoor
