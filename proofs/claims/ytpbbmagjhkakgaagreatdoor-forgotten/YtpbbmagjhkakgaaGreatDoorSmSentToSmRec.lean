import Derived.Test.YtpbbmagjhkakgaaGreatDoorSnFxToPureLoose
import Derived.Test.YtpbbmagjhkakgaaGreatDoorSnActToSnWatch
namespace Go.Proofs.YtpbbmagjhkakgaaGreatDoor.Ev
open Go.Deep (BT)
def notX (x : BT Pay) : BT Pay := mk 172 ByteArray.empty 0 0 x .nil
def andX (x y : BT Pay) : BT Pay := mk 8743 ByteArray.empty 0 0 x y
def orX (x y : BT Pay) : BT Pay := mk 8744 ByteArray.empty 0 0 x y
def opX (op a b : Int) (x : BT Pay) : BT Pay := mk op ByteArray.empty a b x .nil
def sinceX (a b : Int) (x y : BT Pay) : BT Pay := mk 83 ByteArray.empty a b x y
def twoX (op : Int) (x y : BT Pay) : BT Pay := mk op ByteArray.empty 0 0 x y
def wordX (s : ByteArray) : BT Pay := mk 97 s 0 0 .nil .nil
def notL (l : List UInt8) : List UInt8 := [33] ++ l
def opL (c : UInt8) (a b : Int) (l : List UInt8) : List UInt8 := [c] ++ (winW a b ++ l)
def twoL (c : UInt8) (l r : List UInt8) : List UInt8 := [40] ++ (l ++ ([32] ++ ([c] ++ ([32] ++ (r ++ [41])))))
def sinceL (a b : Int) (l r : List UInt8) : List UInt8 := [40] ++ (l ++ ([32] ++ ([83] ++ (winW a b ++ (r ++ [41])))))
structure Made where
  txt : List UInt8
  x : BT Pay
  next : Nat
def ltrN (k : Int) : Nat := (pickZ k 3).toNat
def sentF (R : List Int) : Nat → Nat → Made
  | 0, i => ⟨(ltrB (ltrN (pickZ (R.getD i 0) 12))).data.toList, wordX (ltrB (ltrN (pickZ (R.getD i 0) 12))), i + 1⟩
  | d + 1, i =>
    if pickZ (R.getD i 0) 12 < 2 ∨ R.length < i + 1 then ⟨(ltrB (ltrN (pickZ (R.getD i 0) 12))).data.toList, wordX (ltrB (ltrN (pickZ (R.getD i 0) 12))), i + 1⟩
    else if pickZ (R.getD i 0) 12 < 4 then ⟨notL (sentF R d (i + 1)).txt, notX (sentF R d (i + 1)).x, (sentF R d (i + 1)).next⟩
    else if pickZ (R.getD i 0) 12 = 4 then ⟨opL 89 (pickZ (R.getD (sentF R d (i + 1)).next 0) 5) (pickZ (R.getD (sentF R d (i + 1)).next 0) 5 + pickZ (R.getD ((sentF R d (i + 1)).next + 1) 0) 5) (sentF R d (i + 1)).txt, opX 89 (pickZ (R.getD (sentF R d (i + 1)).next 0) 5) (pickZ (R.getD (sentF R d (i + 1)).next 0) 5 + pickZ (R.getD ((sentF R d (i + 1)).next + 1) 0) 5) (sentF R d (i + 1)).x, (sentF R d (i + 1)).next + 2⟩
    else if pickZ (R.getD i 0) 12 < 7 then ⟨opL 79 (pickZ (R.getD (sentF R d (i + 1)).next 0) 5) (pickZ (R.getD (sentF R d (i + 1)).next 0) 5 + pickZ (R.getD ((sentF R d (i + 1)).next + 1) 0) 5) (sentF R d (i + 1)).txt, opX 79 (pickZ (R.getD (sentF R d (i + 1)).next 0) 5) (pickZ (R.getD (sentF R d (i + 1)).next 0) 5 + pickZ (R.getD ((sentF R d (i + 1)).next + 1) 0) 5) (sentF R d (i + 1)).x, (sentF R d (i + 1)).next + 2⟩
    else if pickZ (R.getD i 0) 12 = 7 then ⟨opL 72 (pickZ (R.getD (sentF R d (i + 1)).next 0) 5) (pickZ (R.getD (sentF R d (i + 1)).next 0) 5 + pickZ (R.getD ((sentF R d (i + 1)).next + 1) 0) 5) (sentF R d (i + 1)).txt, opX 72 (pickZ (R.getD (sentF R d (i + 1)).next 0) 5) (pickZ (R.getD (sentF R d (i + 1)).next 0) 5 + pickZ (R.getD ((sentF R d (i + 1)).next + 1) 0) 5) (sentF R d (i + 1)).x, (sentF R d (i + 1)).next + 2⟩
    else if pickZ (R.getD i 0) 12 < 10 then ⟨sinceL (pickZ (R.getD (sentF R d (i + 1)).next 0) 5) (pickZ (R.getD (sentF R d (i + 1)).next 0) 5 + pickZ (R.getD ((sentF R d (i + 1)).next + 1) 0) 5) (sentF R d (i + 1)).txt (sentF R d ((sentF R d (i + 1)).next + 2)).txt, sinceX (pickZ (R.getD (sentF R d (i + 1)).next 0) 5) (pickZ (R.getD (sentF R d (i + 1)).next 0) 5 + pickZ (R.getD ((sentF R d (i + 1)).next + 1) 0) 5) (sentF R d (i + 1)).x (sentF R d ((sentF R d (i + 1)).next + 2)).x, (sentF R d ((sentF R d (i + 1)).next + 2)).next⟩
    else if pickZ (R.getD i 0) 12 = 10 then ⟨twoL 38 (sentF R d (i + 1)).txt (sentF R d (sentF R d (i + 1)).next).txt, andX (sentF R d (i + 1)).x (sentF R d (sentF R d (i + 1)).next).x, (sentF R d (sentF R d (i + 1)).next).next⟩
    else ⟨twoL 124 (sentF R d (i + 1)).txt (sentF R d (sentF R d (i + 1)).next).txt, orX (sentF R d (i + 1)).x (sentF R d (sentF R d (i + 1)).next).x, (sentF R d (sentF R d (i + 1)).next).next⟩
structure MadeOK (len dep nod : Nat) (rea : Int) (l : List UInt8) (x : BT Pay) : Prop where
  reads : Reads l x
  len : l.length ≤ len
  dep : depthT x ≤ dep
  nod : nodesT (coreT x) ≤ nod
  rea : reachT x ≤ rea
theorem MadeOK.good {len dep nod : Nat} {rea : Int} {l : List UInt8} {x : BT Pay} (h : MadeOK len dep nod rea l x) : Good x := h.reads.1.1
theorem MadeOK.read {len dep nod : Nat} {rea : Int} {l : List UInt8} {x : BT Pay} (h : MadeOK len dep nod rea l x) (hl : len ≤ 300) (hd : dep ≤ 12) {s : ByteArray} (hs : s.data.toList = l) : readF s = (some x, 0) := h.reads.read (Nat.le_trans h.dep hd) (Nat.le_trans h.len hl) hs
theorem MadeOK.weaken {len dep nod : Nat} {rea : Int} {l : List UInt8} {x : BT Pay} (h : MadeOK len dep nod rea l x) {len' dep' nod' : Nat} {rea' : Int} (h1 : len ≤ len') (h2 : dep ≤ dep') (h3 : nod ≤ nod') (h4 : rea ≤ rea') : MadeOK len' dep' nod' rea' l x :=
  ⟨h.reads, Nat.le_trans h.len h1, Nat.le_trans h.dep h2, Nat.le_trans h.nod h3, Int.le_trans h.rea h4⟩
theorem MadeOK.not {len dep nod : Nat} {rea : Int} {l : List UInt8} {x : BT Pay} (h : MadeOK len dep nod rea l x) : MadeOK (len + 1) (dep + 1) (nod + 1) rea (notL l) (notX x) := by
  have hn := nodes_not (coreT x)
  have ec : coreT (notX x) = notT (coreT x) := rfl
  have hd : depthT (notX x) = 1 + max (depthT x) 0 := rfl
  have hr : reachT (notX x) = 0 + max (reachT x) 0 := rfl
  have h0 := reachT_nonneg h.good.win
  exact ⟨h.reads.not, by have := h.len; simp [notL]; omega, by rw [hd]; have := h.dep; omega, by rw [ec]; have := h.nod; omega, by rw [hr]; have := h.rea; omega⟩
theorem win_len {a b : Int} (h : 0 ≤ a ∧ a ≤ b) {n : Nat} (hb : b < (10 : Nat) ^ (n + 1)) : (winW a b).length ≤ 2 * n + 5 := by
  have e1 := itoa_eq a h.1
  have e2 := itoa_eq b (by omega)
  have l1 := dec_len n a.toNat (by omega)
  have l2 := dec_len n b.toNat (by omega)
  unfold winW
  rw [e1, e2]
  simp
  omega
theorem MadeOK.op {len dep nod : Nat} {rea : Int} {l : List UInt8} {x : BT Pay} {c : UInt8} {op a b : Int} {n : Nat} (h : MadeOK len dep nod rea l x) (hc : (c = 89 ∧ op = 89) ∨ (c = 79 ∧ op = 79) ∨ (c = 72 ∧ op = 72)) (hab : 0 ≤ a ∧ a ≤ b ∧ b ≤ 1000000) (hb : b < (10 : Nat) ^ (n + 1)) :
    MadeOK (len + 2 * n + 6) (dep + 1) (nod + 3) (rea + b) (opL c a b l) (opX op a b x) := by
  have hn := nodes_not (coreT x)
  have hwl := win_len ⟨hab.1, hab.2.1⟩ hb
  have hd : depthT (opX op a b x) = 1 + max (depthT x) 0 := rfl
  have hr : reachT (opX op a b x) = b + max (reachT x) 0 := rfl
  have h0 := reachT_nonneg h.good.win
  have ho : op = 89 ∨ op = 79 ∨ op = 72 := by omega
  have hcc : c = UInt8.ofNat op.toNat := by rcases hc with ⟨rfl, rfl⟩ | ⟨rfl, rfl⟩ | ⟨rfl, rfl⟩ <;> rfl
  refine ⟨?_, by have := h.len; simp [opL]; omega, by rw [hd]; have := h.dep; omega, ?_, by rw [hr]; have := h.rea; omega⟩
  · unfold opL opX
    rw [hcc]
    exact Reads.win ho hab h.reads
  · have hnod := h.nod
    rcases hc with ⟨_, rfl⟩ | ⟨_, rfl⟩ | ⟨_, rfl⟩
    · have ec : nodesT (coreT (opX 89 a b x)) = nodesT (coreT x) + 0 + 1 := rfl
      rw [ec]; omega
    · have ec : nodesT (coreT (opX 79 a b x)) = nodesT (coreT x) + 0 + 1 := rfl
      rw [ec]; omega
    · have ec : nodesT (coreT (opX 72 a b x)) = (nodesT (notT (coreT x)) + 0 + 1) + 0 + 1 := rfl
      rw [ec]; omega
theorem MadeOK.two {len dep nod len2 dep2 nod2 : Nat} {rea rea2 : Int} {l r : List UInt8} {x y : BT Pay} {c : UInt8} {op : Int} (h : MadeOK len dep nod rea l x) (h' : MadeOK len2 dep2 nod2 rea2 r y) (hc : (c = 38 ∧ op = 8743) ∨ (c = 124 ∧ op = 8744)) :
    MadeOK (len + len2 + 5) (max dep dep2 + 1) (nod + nod2 + 4) (max rea rea2) (twoL c l r) (twoX op x y) := by
  have hn := nodes_not (coreT x)
  have hn2 := nodes_not (coreT y)
  have hd : depthT (twoX op x y) = 1 + max (depthT x) (depthT y) := rfl
  have hr : reachT (twoX op x y) = 0 + max (reachT x) (reachT y) := rfl
  refine ⟨Reads.two hc h.reads h'.reads, by have := h.len; have := h'.len; simp [twoL]; omega, by rw [hd]; have := h.dep; have := h'.dep; omega, ?_, by rw [hr]; have := h.rea; have := h'.rea; omega⟩
  have hnod := h.nod
  have hnod2 := h'.nod
  rcases hc with ⟨_, rfl⟩ | ⟨_, rfl⟩
  · have ec : nodesT (coreT (twoX 8743 x y)) = nodesT (coreT x) + nodesT (coreT y) + 1 := rfl
    rw [ec]; omega
  · have ec : nodesT (coreT (twoX 8744 x y)) = (nodesT (notT (coreT x)) + nodesT (notT (coreT y)) + 1) + 0 + 1 := rfl
    rw [ec]; omega
theorem MadeOK.since {len dep nod len2 dep2 nod2 : Nat} {rea rea2 : Int} {l r : List UInt8} {x y : BT Pay} {a b : Int} {n : Nat} (h : MadeOK len dep nod rea l x) (h' : MadeOK len2 dep2 nod2 rea2 r y) (hab : 0 ≤ a ∧ a ≤ b ∧ b ≤ 1000000) (hb : b < (10 : Nat) ^ (n + 1)) :
    MadeOK (len + len2 + 2 * n + 9) (max dep dep2 + 1) (nod + nod2 + 1) (max rea rea2 + b) (sinceL a b l r) (sinceX a b x y) := by
  have hwl := win_len ⟨hab.1, hab.2.1⟩ hb
  have hd : depthT (sinceX a b x y) = 1 + max (depthT x) (depthT y) := rfl
  have hr : reachT (sinceX a b x y) = b + max (reachT x) (reachT y) := rfl
  have ec : nodesT (coreT (sinceX a b x y)) = nodesT (coreT x) + nodesT (coreT y) + 1 := rfl
  exact ⟨Reads.since hab h.reads h'.reads, by have := h.len; have := h'.len; simp [sinceL]; omega, by rw [hd]; have := h.dep; have := h'.dep; omega, by rw [ec]; have := h.nod; have := h'.nod; omega, by rw [hr]; have := h.rea; have := h'.rea; omega⟩
theorem ltrN_lt (k : Int) : ltrN k < 3 := by have := pickZ_range k 3 (by decide); unfold ltrN; omega
theorem ltrB_name : ∀ n, n < 3 → (1 ≤ (ltrB n).size ∧ (ltrB n).size ≤ 8 ∧ ltrB n ≠ trueB ∧ ∀ c, c ∈ (ltrB n).data.toList → 97 ≤ c.toNat ∧ c.toNat ≤ 122) ∧ (ltrB n).data.toList.length ≤ 1 := by decide +kernel
theorem MadeOK.ltr (k : Int) : MadeOK 1 1 1 0 (ltrB (ltrN k)).data.toList (wordX (ltrB (ltrN k))) := by
  obtain ⟨h1, h2⟩ := ltrB_name _ (ltrN_lt k)
  exact ⟨Reads.word h1, h2, Nat.le_refl _, Nat.le_refl _, Int.le_refl _⟩
theorem sent_made (R : List Int) : ∀ (d i : Nat), MadeOK (10 * 2 ^ d - 9) (d + 1) (5 * 2 ^ d - 4) (8 * d) (sentF R d i).txt (sentF R d i).x ∧ i < (sentF R d i).next ∧ (sentF R d i).next + 3 ≤ i + 4 * 2 ^ d
  | 0, i => ⟨MadeOK.ltr _, by simp [sentF], by simp [sentF]⟩
  | d + 1, i => by
    have hpw : 2 ^ (d + 1) = 2 * 2 ^ d := by rw [Nat.pow_succ]; omega
    have hp1 : 1 ≤ 2 ^ d := Nat.one_le_two_pow
    obtain ⟨m1, b1, b2⟩ := sent_made R d (i + 1)
    have hk := pickZ_range (R.getD i 0) 12 (by decide)
    have ha := pickZ_range (R.getD (sentF R d (i + 1)).next 0) 5 (by decide)
    have hb := pickZ_range (R.getD ((sentF R d (i + 1)).next + 1) 0) 5 (by decide)
    obtain ⟨m2, c1, c2⟩ := sent_made R d (sentF R d (i + 1)).next
    obtain ⟨m3, e1, e2⟩ := sent_made R d ((sentF R d (i + 1)).next + 2)
    rw [hpw]
    unfold sentF
    by_cases h1 : pickZ (R.getD i 0) 12 < 2 ∨ R.length < i + 1
    · rw [if_pos h1]
      exact ⟨(MadeOK.ltr _).weaken (by omega) (by omega) (by omega) (by omega), by show i < i + 1; omega, by show i + 1 + 3 ≤ _; omega⟩
    · rw [if_neg h1]
      by_cases h2 : pickZ (R.getD i 0) 12 < 4
      · rw [if_pos h2]
        exact ⟨m1.not.weaken (by omega) (by omega) (by omega) (by omega), by show i < (sentF R d (i + 1)).next; omega, by show (sentF R d (i + 1)).next + 3 ≤ _; omega⟩
      · rw [if_neg h2]
        by_cases h3 : pickZ (R.getD i 0) 12 = 4
        · rw [if_pos h3]
          exact ⟨(m1.op (n := 0) (.inl ⟨rfl, rfl⟩) ⟨by omega, by omega, by omega⟩ (by omega)).weaken (by omega) (by omega) (by omega) (by omega), by show i < (sentF R d (i + 1)).next + 2; omega, by show (sentF R d (i + 1)).next + 2 + 3 ≤ _; omega⟩
        · rw [if_neg h3]
          by_cases h4 : pickZ (R.getD i 0) 12 < 7
          · rw [if_pos h4]
            exact ⟨(m1.op (n := 0) (.inr (.inl ⟨rfl, rfl⟩)) ⟨by omega, by omega, by omega⟩ (by omega)).weaken (by omega) (by omega) (by omega) (by omega), by show i < (sentF R d (i + 1)).next + 2; omega, by show (sentF R d (i + 1)).next + 2 + 3 ≤ _; omega⟩
          · rw [if_neg h4]
            by_cases h5 : pickZ (R.getD i 0) 12 = 7
            · rw [if_pos h5]
              exact ⟨(m1.op (n := 0) (.inr (.inr ⟨rfl, rfl⟩)) ⟨by omega, by omega, by omega⟩ (by omega)).weaken (by omega) (by omega) (by omega) (by omega), by show i < (sentF R d (i + 1)).next + 2; omega, by show (sentF R d (i + 1)).next + 2 + 3 ≤ _; omega⟩
            · rw [if_neg h5]
              by_cases h6 : pickZ (R.getD i 0) 12 < 10
              · rw [if_pos h6]
                exact ⟨(m1.since (n := 0) m3 ⟨by omega, by omega, by omega⟩ (by omega)).weaken (by omega) (by omega) (by omega) (by omega), by show i < (sentF R d ((sentF R d (i + 1)).next + 2)).next; omega, by show (sentF R d ((sentF R d (i + 1)).next + 2)).next + 3 ≤ _; omega⟩
              · rw [if_neg h6]
                by_cases h7 : pickZ (R.getD i 0) 12 = 10
                · rw [if_pos h7]
                  exact ⟨(m1.two m2 (.inl ⟨rfl, rfl⟩)).weaken (by omega) (by omega) (by omega) (by omega), by show i < (sentF R d (sentF R d (i + 1)).next).next; omega, by show (sentF R d (sentF R d (i + 1)).next).next + 3 ≤ _; omega⟩
                · rw [if_neg h7]
                  exact ⟨(m1.two m2 (.inr ⟨rfl, rfl⟩)).weaken (by omega) (by omega) (by omega) (by omega), by show i < (sentF R d (sentF R d (i + 1)).next).next; omega, by show (sentF R d (sentF R d (i + 1)).next).next + 3 ≤ _; omega⟩
section
variable (a b : Int) (x y : BT Pay) (e : Hap) (es : List Hap)
end
end Go.Proofs.YtpbbmagjhkakgaaGreatDoor.Ev
namespace Go.Proofs.YtpbbmagjhkakgaaGreatDoor.Ev
open Go.RowKit Go.Deep
def RawAt (w : World) (o : Option Addr) (R : List Int) : Prop := R ≠ [] → ∃ b off, o = some ⟨b, off, none⟩ ∧ b < w.heap.size ∧ ∀ j, j < R.length → w.cell? ⟨b, off + j, none⟩ = some (.int .i64 (R.getD j 0))
theorem RawAt.below {w w' : World} {o : Option Addr} {R : List Int} (h : RawAt w o R) (hb : Below w.heap.size w w') : RawAt w' o R := fun hne => by
  obtain ⟨b, off, h1, h2, h3⟩ := h hne
  exact ⟨b, off, h1, Nat.lt_of_lt_of_le h2 hb.size, fun j hj => by rw [World.cell?_of_block (hb.block b h2)]; exact h3 j hj⟩
theorem number_any (R : List Int) (o : Option Addr) (cap i : Nat) (w : World) (hR : RawAt w o R) (hlen : R.length ≤ 4611686018427387904) (hi : i ≤ 9223372036854775000) :
    Calls Tryz.prog 29 #[.slice o R.length cap, .int .i64 (i : Int)] w fun e w' => e = .returned (.int .i64 (R.getD i 0)) ∧ w' = w := by
  have hi' := hi
  have hlen' := hlen
  clear hi hlen
  by_cases h : i < R.length
  · obtain ⟨b, off, rfl, _, hc⟩ := hR (by intro e; rw [e] at h; simp at h)
    have c1 := hc i h
    generalize R.getD i 0 = r at *
    clear hc
    generalize R.length = n at *
    go_enter Tryz.func29, Tryz.ntmps29
    go_wp2_with fail
    go_ret
    exact ⟨rfl, rfl⟩
  · have e : R.getD i 0 = 0 := by rw [List.getD_eq_getElem?_getD, List.getElem?_eq_none (by omega)]; rfl
    rw [e]
    clear e hR
    generalize R.length = n at *
    go_enter Tryz.func29, Tryz.ntmps29
    go_wp2_with fail
    go_ret
    exact ⟨rfl, rfl⟩
theorem getD_I64 {R : List Int} (h : ∀ r ∈ R, I64 r) (i : Nat) : I64 (R.getD i 0) := by
  rw [List.getD_eq_getElem?_getD]
  cases hx : R[i]? with
  | none => exact ⟨by decide, by decide⟩
  | some r => exact h r (List.mem_of_getElem? hx)
theorem ltr_pick (k : Int) : (⟨#[97, 98, 99]⟩ : ByteArray).extract (pickZ k 3).toNat ((pickZ k 3).toNat + 1) = ltrB (ltrN k) := ltr_at _ (ltrN_lt k)
def SentPost (R : List Int) (d i : Nat) (w : World) (e : Ending) (w' : World) : Prop := (∃ s, e = .returned (.tuple #[.string s, .int .i64 ((sentF R d i).next : Int)]) ∧ s.data.toList = (sentF R d i).txt) ∧ Below w.heap.size w w'
theorem SentPost.of {R : List Int} {d i : Nat} {w : World} {M : Made} (hM : sentF R d i = M) {s : ByteArray} {n : Int} {w' : World} (hs : s.data.toList = M.txt) (hn : n = (M.next : Int)) (hb : Below w.heap.size w w') : SentPost R d i w (.returned (.tuple #[.string s, .int .i64 n])) w' := by
  subst hn
  exact ⟨⟨s, by rw [hM], by rw [hM]; exact hs⟩, hb⟩
section
variable {R : List Int} {d i : Nat} {k : Int}
theorem sentF_ltr (hk : pickZ (R.getD i 0) 12 = k) (h : d = 0 ∨ k < 2 ∨ R.length < i + 1) : sentF R d i = ⟨(ltrB (ltrN k)).data.toList, wordX (ltrB (ltrN k)), i + 1⟩ := by
  subst hk
  cases d with
  | zero => rfl
  | succ d => unfold sentF; rw [if_pos (by omega)]
theorem sentF_not (hk : pickZ (R.getD i 0) 12 = k) (h : 2 ≤ k ∧ i + 1 ≤ R.length) (h2 : k < 4) : sentF R (d + 1) i = ⟨notL (sentF R d (i + 1)).txt, notX (sentF R d (i + 1)).x, (sentF R d (i + 1)).next⟩ := by
  subst hk
  rw [sentF, if_neg (by omega), if_pos h2]
theorem sentF_op (hk : pickZ (R.getD i 0) 12 = k) (h : 2 ≤ k ∧ i + 1 ≤ R.length) {c : UInt8} {op : Int} (h2 : (k = 4 ∧ c = 89 ∧ op = 89) ∨ ((k = 5 ∨ k = 6) ∧ c = 79 ∧ op = 79) ∨ (k = 7 ∧ c = 72 ∧ op = 72)) : sentF R (d + 1) i = ⟨opL c (pickZ (R.getD (sentF R d (i + 1)).next 0) 5) (pickZ (R.getD (sentF R d (i + 1)).next 0) 5 + pickZ (R.getD ((sentF R d (i + 1)).next + 1) 0) 5) (sentF R d (i + 1)).txt, opX op (pickZ (R.getD (sentF R d (i + 1)).next 0) 5) (pickZ (R.getD (sentF R d (i + 1)).next 0) 5 + pickZ (R.getD ((sentF R d (i + 1)).next + 1) 0) 5) (sentF R d (i + 1)).x, (sentF R d (i + 1)).next + 2⟩ := by
  subst hk
  rw [sentF, if_neg (by omega), if_neg (by omega)]
  rcases h2 with ⟨h, rfl, rfl⟩ | ⟨h, rfl, rfl⟩ | ⟨h, rfl, rfl⟩
  · rw [if_pos h]
  · rw [if_neg (by omega), if_pos (by omega)]
  · rw [if_neg (by omega), if_neg (by omega), if_pos h]
theorem sentF_since (hk : pickZ (R.getD i 0) 12 = k) (h : 2 ≤ k ∧ i + 1 ≤ R.length) (h2 : 8 ≤ k ∧ k < 10) : sentF R (d + 1) i = ⟨sinceL (pickZ (R.getD (sentF R d (i + 1)).next 0) 5) (pickZ (R.getD (sentF R d (i + 1)).next 0) 5 + pickZ (R.getD ((sentF R d (i + 1)).next + 1) 0) 5) (sentF R d (i + 1)).txt (sentF R d ((sentF R d (i + 1)).next + 2)).txt, sinceX (pickZ (R.getD (sentF R d (i + 1)).next 0) 5) (pickZ (R.getD (sentF R d (i + 1)).next 0) 5 + pickZ (R.getD ((sentF R d (i + 1)).next + 1) 0) 5) (sentF R d (i + 1)).x (sentF R d ((sentF R d (i + 1)).next + 2)).x, (sentF R d ((sentF R d (i + 1)).next + 2)).next⟩ := by
  subst hk
  rw [sentF, if_neg (by omega), if_neg (by omega), if_neg (by omega), if_neg (by omega), if_neg (by omega), if_pos h2.2]
theorem sentF_two (hk : pickZ (R.getD i 0) 12 = k) (h : 2 ≤ k ∧ i + 1 ≤ R.length) {c : UInt8} {op : Int} (h2 : (k = 10 ∧ c = 38 ∧ op = 8743) ∨ (k = 11 ∧ c = 124 ∧ op = 8744)) : sentF R (d + 1) i = ⟨twoL c (sentF R d (i + 1)).txt (sentF R d (sentF R d (i + 1)).next).txt, twoX op (sentF R d (i + 1)).x (sentF R d (sentF R d (i + 1)).next).x, (sentF R d (sentF R d (i + 1)).next).next⟩ := by
  subst hk
  rw [sentF, if_neg (by omega), if_neg (by omega), if_neg (by omega), if_neg (by omega), if_neg (by omega), if_neg (by omega)]
  rcases h2 with ⟨h, rfl, rfl⟩ | ⟨h, rfl, rfl⟩
  · rw [if_pos h]; rfl
  · rw [if_neg (by omega)]; rfl
end
set_option maxRecDepth 100000 in
set_option maxHeartbeats 16000000 in
theorem sent_stop (R : List Int) (o : Option Addr) (cap d i : Nat) (w : World) (hlen : R.length ≤ 4611686018427387904) (hI : ∀ r ∈ R, I64 r) (hR : RawAt w o R) (hi : i ≤ 9223372036854775000) (hd : d ≤ 3) (h : d = 0 ∨ pickZ (R.getD i 0) 12 < 2 ∨ R.length < i + 1) : Calls Tryz.prog 18 #[.slice o R.length cap, .int .i64 (i : Int), .int .i64 (d : Int)] w (SentPost R d i w) := by
  have hn := number_any R o cap i w hR hlen hi
  have hp := pick_any (R.getD i 0) 12 w (getD_I64 hI i) (by decide)
  have hkr := pickZ_range (R.getD i 0) 12 (by decide)
  obtain ⟨k, hk⟩ : ∃ k, pickZ (R.getD i 0) 12 = k := ⟨_, rfl⟩
  rw [hk] at hp hkr h
  have hp3 := pick_any k 3 w ⟨by omega, by omega⟩ (by decide)
  have hr3 := pickZ_range k 3 (by decide)
  have hltr := ltr_pick k
  have hfin : ∀ w', Below w.heap.size w w' → SentPost R d i w (.returned (.tuple #[.string (ltrB (ltrN k)), .int .i64 ((i : Int) + 1)])) w' := fun w' hb => SentPost.of (sentF_ltr hk h) rfl (by simp) hb
  replace hfin : Hid _ := hfin
  obtain ⟨q, hq⟩ : ∃ q : Nat, pickZ k 3 = q := ⟨(pickZ k 3).toNat, by omega⟩
  rw [hq] at hp3 hr3 hltr
  simp only [Int.toNat_natCast] at hltr
  clear hk hI hR hq
  generalize ltrB (ltrN k) = lt at *
  generalize R.getD i 0 = r at *
  generalize hQ : SentPost R d i w = Q at *
  clear hQ
  generalize R.length = n at *
  go_enter Tryz.func18, Tryz.ntmps18
  go_wp2_with fail
  refine hn.mono ?_
  rintro e w1 ⟨rfl, hw1⟩
  have hw1 := hw1.symm
  subst hw1
  go_wp2_with fail
  refine hp.mono ?_
  rintro e w1 ⟨rfl, hw1⟩
  have hw1 := hw1.symm
  subst hw1
  by_cases h0 : d = 0
  · subst h0
    go_wp2_with fail
    refine hp3.mono ?_
    rintro e w1 ⟨rfl, hw1⟩
    have hw1 := hw1.symm
    subst hw1
    go_wp2_with fail
    refine hp3.mono ?_
    rintro e w1 ⟨rfl, hw1⟩
    have hw1 := hw1.symm
    subst hw1
    go_wp2_with fail
    exact hfin.out _ (Below.refl _ _)
  · by_cases h2 : k < 2
    · go_wp2_with fail
      refine hp3.mono ?_
      rintro e w1 ⟨rfl, hw1⟩
      have hw1 := hw1.symm
      subst hw1
      go_wp2_with fail
      refine hp3.mono ?_
      rintro e w1 ⟨rfl, hw1⟩
      have hw1 := hw1.symm
      subst hw1
      go_wp2_with fail
      exact hfin.out _ (Below.refl _ _)
    · have h3 : n < i + 1 := by omega
      go_wp2_with fail
      refine hp3.mono ?_
      rintro e w1 ⟨rfl, hw1⟩
      have hw1 := hw1.symm
      subst hw1
      go_wp2_with fail
      refine hp3.mono ?_
      rintro e w1 ⟨rfl, hw1⟩
      have hw1 := hw1.symm
      subst hw1
      go_wp2_with fail
      exact hfin.out _ (Below.refl _ _)
end Go.Proofs.YtpbbmagjhkakgaaGreatDoor.Ev
namespace Go.Proofs.YtpbbmagjhkakgaaGreatDoor.Ev
open Go.RowKit Go.Deep
theorem dec_one (n : Nat) (h : n < 10) : (Lib.decDigits n).length ≤ 1 := dec_len 0 n (by omega)
theorem str_len {s : ByteArray} {l : List UInt8} (h : s.data.toList = l) : s.size = l.length := by
  rw [← h, Array.length_toList]
  rfl
set_option maxRecDepth 100000 in
set_option maxHeartbeats 32000000 in
theorem sent_step (R : List Int) (o : Option Addr) (cap d i : Nat) (w : World) (hlen : R.length ≤ 4611686018427387904) (hI : ∀ r ∈ R, I64 r) (hR : RawAt w o R) (hi : i + 4 * 2 ^ (d + 1) ≤ 9223372036854775000) (hd : d ≤ 2) (h2k : 2 ≤ pickZ (R.getD i 0) 12) (hil : i + 1 ≤ R.length)
    (ih : ∀ (i : Nat) (w : World), RawAt w o R → i + 4 * 2 ^ d ≤ 9223372036854775000 → Calls Tryz.prog 18 #[.slice o R.length cap, .int .i64 (i : Int), .int .i64 (d : Int)] w (SentPost R d i w)) :
    Calls Tryz.prog 18 #[.slice o R.length cap, .int .i64 (i : Int), .int .i64 ((d + 1 : Nat) : Int)] w (SentPost R (d + 1) i w) := by
  have hpw : 2 ^ (d + 1) = 2 * 2 ^ d := by rw [Nat.pow_succ]; omega
  have hp1 : 1 ≤ 2 ^ d := Nat.one_le_two_pow
  have hp8 : 2 ^ d ≤ 4 := Nat.pow_le_pow_right (n := 2) (by omega) hd
  have hn := number_any R o cap i w hR hlen (by omega)
  have hp := pick_any (R.getD i 0) 12 w (getD_I64 hI i) (by decide)
  have hkr := pickZ_range (R.getD i 0) 12 (by decide)
  obtain ⟨k, hk⟩ : ∃ k, pickZ (R.getD i 0) 12 = k := ⟨_, rfl⟩
  rw [hk] at hp hkr h2k
  obtain ⟨m1, b1, b2⟩ := sent_made R d (i + 1)
  have l1 := m1.len
  have ih1 := ih (i + 1) w hR (by omega)
  obtain ⟨n1, hn1⟩ : ∃ n, n = (sentF R d (i + 1)).next := ⟨_, rfl⟩
  rw [← hn1] at b1 b2
  have hN1 : ∀ w', Below w.heap.size w w' → Calls Tryz.prog 29 #[.slice o R.length cap, .int .i64 (n1 : Int)] w' fun e w2 => e = .returned (.int .i64 (R.getD n1 0)) ∧ w2 = w' := fun w' hb => number_any R o cap n1 w' (hR.below hb) hlen (by omega)
  have hN2 : ∀ w', Below w.heap.size w w' → Calls Tryz.prog 29 #[.slice o R.length cap, .int .i64 ((n1 : Int) + 1)] w' fun e w2 => e = .returned (.int .i64 (R.getD (n1 + 1) 0)) ∧ w2 = w' := fun w' hb => number_any R o cap (n1 + 1) w' (hR.below hb) hlen (by omega)
  have hP1 : ∀ w', Calls Tryz.prog 19 #[.int .i64 (R.getD n1 0), .int .i64 5] w' fun e w2 => e = .returned (.int .i64 (pickZ (R.getD n1 0) 5)) ∧ w2 = w' := fun w' => pick_any _ 5 w' (getD_I64 hI _) (by decide)
  have hP2 : ∀ w', Calls Tryz.prog 19 #[.int .i64 (R.getD (n1 + 1) 0), .int .i64 5] w' fun e w2 => e = .returned (.int .i64 (pickZ (R.getD (n1 + 1) 0) 5)) ∧ w2 = w' := fun w' => pick_any _ 5 w' (getD_I64 hI _) (by decide)
  obtain ⟨a, ha⟩ : ∃ a : Nat, pickZ (R.getD n1 0) 5 = a := ⟨(pickZ (R.getD n1 0) 5).toNat, by have := pickZ_range (R.getD n1 0) 5 (by decide); omega⟩
  obtain ⟨c, hc⟩ : ∃ c : Nat, pickZ (R.getD (n1 + 1) 0) 5 = c := ⟨(pickZ (R.getD (n1 + 1) 0) 5).toNat, by have := pickZ_range (R.getD (n1 + 1) 0) 5 (by decide); omega⟩
  have ha5 : a < 5 := by have := pickZ_range (R.getD n1 0) 5 (by decide); omega
  have hc5 : c < 5 := by have := pickZ_range (R.getD (n1 + 1) 0) 5 (by decide); omega
  have hD1 : ∀ w', Calls Tryz.prog 20 #[.int .i64 (a : Int)] w' fun e w2 => Below w'.heap.size w' w2 ∧ ∃ t, e = .returned (.string t) ∧ t.data.toList = Lib.decDigits a := fun w' => digits_any a w' (by omega)
  have hD2 : ∀ w', Calls Tryz.prog 20 #[.int .i64 ((a : Int) + (c : Int))] w' fun e w2 => Below w'.heap.size w' w2 ∧ ∃ t, e = .returned (.string t) ∧ t.data.toList = Lib.decDigits (a + c) := fun w' => digits_any (a + c) w' (by omega)
  have e1a : Lib.itoa (a : Int) = Lib.decDigits a := itoa_eq _ (by omega)
  have e1b : Lib.itoa ((a : Int) + (c : Int)) = Lib.decDigits (a + c) := itoa_eq _ (by omega)
  obtain ⟨m2, c1, c2⟩ := sent_made R d n1
  have l2 := m2.len
  obtain ⟨m3, g1, g2⟩ := sent_made R d (n1 + 2)
  have l3 := m3.len
  have hS2 : ∀ w', Below w.heap.size w w' → Calls Tryz.prog 18 #[.slice o R.length cap, .int .i64 (n1 : Int), .int .i64 (d : Int)] w' (SentPost R d n1 w') := fun w' hb => ih n1 w' (hR.below hb) (by omega)
  have hS3 : ∀ w', Below w.heap.size w w' → Calls Tryz.prog 18 #[.slice o R.length cap, .int .i64 ((n1 : Int) + 2), .int .i64 (d : Int)] w' (SentPost R d (n1 + 2) w') := fun w' hb => ih (n1 + 2) w' (hR.below hb) (by omega)
  have fNot : ∀ w' s, Below w.heap.size w w' → k < 4 → s.data.toList = notL (sentF R d (i + 1)).txt → SentPost R (d + 1) i w (.returned (.tuple #[.string s, .int .i64 (n1 : Int)])) w' := fun w' s hb h2 hs => SentPost.of (sentF_not hk ⟨h2k, hil⟩ h2) hs (by rw [hn1]) hb
  have fOp : ∀ w' s (cc : UInt8) (op : Int), Below w.heap.size w w' → ((k = 4 ∧ cc = 89 ∧ op = 89) ∨ ((k = 5 ∨ k = 6) ∧ cc = 79 ∧ op = 79) ∨ (k = 7 ∧ cc = 72 ∧ op = 72)) → s.data.toList = opL cc a ((a : Int) + c) (sentF R d (i + 1)).txt → SentPost R (d + 1) i w (.returned (.tuple #[.string s, .int .i64 ((n1 : Int) + 2)])) w' := fun w' s cc op hb h2 hs => SentPost.of (sentF_op hk ⟨h2k, hil⟩ h2) (by rw [← hn1, ha, hc]; exact hs) (by rw [← hn1]; simp) hb
  have fSince : ∀ w' s, Below w.heap.size w w' → 8 ≤ k ∧ k < 10 → s.data.toList = sinceL a ((a : Int) + c) (sentF R d (i + 1)).txt (sentF R d (n1 + 2)).txt → SentPost R (d + 1) i w (.returned (.tuple #[.string s, .int .i64 ((sentF R d (n1 + 2)).next : Int)])) w' := fun w' s hb h2 hs => SentPost.of (sentF_since hk ⟨h2k, hil⟩ h2) (by rw [← hn1, ha, hc]; exact hs) (by rw [← hn1]) hb
  have fTwo : ∀ w' s (cc : UInt8) (op : Int), Below w.heap.size w w' → ((k = 10 ∧ cc = 38 ∧ op = 8743) ∨ (k = 11 ∧ cc = 124 ∧ op = 8744)) → s.data.toList = twoL cc (sentF R d (i + 1)).txt (sentF R d n1).txt → SentPost R (d + 1) i w (.returned (.tuple #[.string s, .int .i64 ((sentF R d n1).next : Int)])) w' := fun w' s cc op hb h2 hs => SentPost.of (sentF_two hk ⟨h2k, hil⟩ h2) (by rw [← hn1]; exact hs) (by rw [← hn1]) hb
  have ih1' : Calls Tryz.prog 18 #[.slice o R.length cap, .int .i64 ((i : Int) + 1), .int .i64 (d : Int)] w fun e w' => (∃ s, e = .returned (.tuple #[.string s, .int .i64 (n1 : Int)]) ∧ s.data.toList = (sentF R d (i + 1)).txt) ∧ Below w.heap.size w w' := by
    rw [hn1]; exact ih1
  have hS2' : ∀ w', Below w.heap.size w w' → Calls Tryz.prog 18 #[.slice o R.length cap, .int .i64 (n1 : Int), .int .i64 (d : Int)] w' fun e w2 => (∃ s, e = .returned (.tuple #[.string s, .int .i64 ((sentF R d n1).next : Int)]) ∧ s.data.toList = (sentF R d n1).txt) ∧ Below w'.heap.size w' w2 := hS2
  have hS3' : ∀ w', Below w.heap.size w w' → Calls Tryz.prog 18 #[.slice o R.length cap, .int .i64 ((n1 : Int) + 2), .int .i64 (d : Int)] w' fun e w2 => (∃ s, e = .returned (.tuple #[.string s, .int .i64 ((sentF R d (n1 + 2)).next : Int)]) ∧ s.data.toList = (sentF R d (n1 + 2)).txt) ∧ Below w'.heap.size w' w2 := hS3
  rw [ha] at hP1
  rw [hc] at hP2
  replace fNot : Hid _ := fNot
  replace fOp : Hid _ := fOp
  replace fSince : Hid _ := fSince
  replace fTwo : Hid _ := fTwo
  replace hN1 : Hid _ := hN1
  replace hN2 : Hid _ := hN2
  replace hP1 : Hid _ := hP1
  replace hP2 : Hid _ := hP2
  replace hD1 : Hid _ := hD1
  replace hD2 : Hid _ := hD2
  replace hS2' : Hid _ := hS2'
  replace hS3' : Hid _ := hS3'
  replace e1a : Hid _ := e1a
  replace e1b : Hid _ := e1b
  clear ih ih1 hI hR hk ha hc hn1 m1 m2 m3 hS2 hS3 hpw
  generalize (sentF R d (n1 + 2)).txt = x3 at *
  generalize (sentF R d (n1 + 2)).next = y3 at *
  generalize (sentF R d n1).txt = x2 at *
  generalize (sentF R d n1).next = y2 at *
  generalize (sentF R d (i + 1)).txt = x1 at *
  generalize R.getD n1 0 = r1 at *
  generalize R.getD (n1 + 1) 0 = r2 at *
  generalize R.getD i 0 = r at *
  generalize hQ : SentPost R (d + 1) i w = Q at *
  clear hQ
  generalize R.length = n at *
  generalize 2 ^ d = pd at *
  have hx1 : decide ((d : Int) + 1 = 0) = false := by simp; omega
  have hx2 : decide (k < 2) = false := by simp; omega
  have hx3 : decide ((n : Int) < (i : Int) + 1) = false := by simp; omega
  go_enter Tryz.func18, Tryz.ntmps18
  go_wp2_with fail
  refine hn.mono ?_
  rintro e w1 ⟨rfl, hw1⟩
  have hw1 := hw1.symm
  subst hw1
  go_wp2_with fail
  refine hp.mono ?_
  rintro e w1 ⟨rfl, hw1⟩
  have hw1 := hw1.symm
  subst hw1
  go_wp2_with fail
  refine ih1'.mono ?_
  rintro e w1 ⟨⟨s1, rfl, hs1⟩, hb1⟩
  have z1 := str_len hs1
  go_wp2_with fail
  refine (hN1.out w1 hb1).mono ?_
  rintro e w2 ⟨rfl, hw2⟩
  have hw2 := hw2.symm
  subst hw2
  go_wp2_with fail
  refine (hP1.out w1).mono ?_
  rintro e w2 ⟨rfl, hw2⟩
  have hw2 := hw2.symm
  subst hw2
  go_wp2_with fail
  refine (hN2.out w1 hb1).mono ?_
  rintro e w2 ⟨rfl, hw2⟩
  have hw2 := hw2.symm
  subst hw2
  go_wp2_with fail
  refine (hP2.out w1).mono ?_
  rintro e w2 ⟨rfl, hw2⟩
  have hw2 := hw2.symm
  subst hw2
  go_wp2_with fail
  refine (hD1.out w1).mono ?_
  rintro e w2 ⟨hb2, ta, rfl, hta⟩
  have za := str_len hta
  have za1 := dec_one a (by omega)
  go_wp2_with fail
  refine (hD2.out w2).mono ?_
  rintro e w3 ⟨hb3, tb, rfl, htb⟩
  have zb := str_len htb
  have zb1 := dec_one (a + c) (by omega)
  have hb := (hb1.tr hb2).tr hb3
  have zz : ∀ x : UInt8, (⟨#[x]⟩ : ByteArray).size = 1 := fun _ => rfl
  have hk12 : k = 2 ∨ k = 3 ∨ k = 4 ∨ k = 5 ∨ k = 6 ∨ k = 7 ∨ k = 8 ∨ k = 9 ∨ k = 10 ∨ k = 11 := by omega
  clear hx1 hx2 hx3 hkr h2k hn hp
  rcases hk12 with rfl | rfl | rfl | rfl | rfl | rfl | rfl | rfl | rfl | rfl
  · go_wp2_with fail
    exact fNot.out w3 _ hb (by decide) (by simp only [ByteArray.data_append, Array.toList_append, hs1, notL])
  · go_wp2_with fail
    exact fNot.out w3 _ hb (by decide) (by simp only [ByteArray.data_append, Array.toList_append, hs1, notL])
  · go_wp2_with fail
    exact fOp.out w3 _ 89 89 hb (by simp) (by simp only [ByteArray.data_append, Array.toList_append, hs1, hta, htb, opL, winW, e1a.out, e1b.out]; simp)
  · go_wp2_with fail
    exact fOp.out w3 _ 79 79 hb (by simp) (by simp only [ByteArray.data_append, Array.toList_append, hs1, hta, htb, opL, winW, e1a.out, e1b.out]; simp)
  · go_wp2_with fail
    exact fOp.out w3 _ 79 79 hb (by simp) (by simp only [ByteArray.data_append, Array.toList_append, hs1, hta, htb, opL, winW, e1a.out, e1b.out]; simp)
  · go_wp2_with fail
    exact fOp.out w3 _ 72 72 hb (by simp) (by simp only [ByteArray.data_append, Array.toList_append, hs1, hta, htb, opL, winW, e1a.out, e1b.out]; simp)
  · go_wp2_with fail
    refine (hS3'.out w3 hb).mono ?_
    rintro e w4 ⟨⟨s2, rfl, hs2⟩, hb4⟩
    have z2 := str_len hs2
    go_wp2_with fail
    exact fSince.out w4 _ (hb.tr hb4) (by decide) (by simp only [ByteArray.data_append, Array.toList_append, hs1, hs2, hta, htb, sinceL, winW, e1a.out, e1b.out]; simp)
  · go_wp2_with fail
    refine (hS3'.out w3 hb).mono ?_
    rintro e w4 ⟨⟨s2, rfl, hs2⟩, hb4⟩
    have z2 := str_len hs2
    go_wp2_with fail
    exact fSince.out w4 _ (hb.tr hb4) (by decide) (by simp only [ByteArray.data_append, Array.toList_append, hs1, hs2, hta, htb, sinceL, winW, e1a.out, e1b.out]; simp)
  · go_wp2_with fail
    refine (hS2'.out w3 hb).mono ?_
    rintro e w4 ⟨⟨s2, rfl, hs2⟩, hb4⟩
    have z2 := str_len hs2
    go_wp2_with fail
    exact fTwo.out w4 _ 38 8743 (hb.tr hb4) (by simp) (by simp only [ByteArray.data_append, Array.toList_append, hs1, hs2, twoL]; simp)
  · go_wp2_with fail
    refine (hS2'.out w3 hb).mono ?_
    rintro e w4 ⟨⟨s2, rfl, hs2⟩, hb4⟩
    have z2 := str_len hs2
    go_wp2_with fail
    exact fTwo.out w4 _ 124 8744 (hb.tr hb4) (by simp) (by simp only [ByteArray.data_append, Array.toList_append, hs1, hs2, twoL]; simp)
theorem sent_any (R : List Int) (o : Option Addr) (cap : Nat) (hlen : R.length ≤ 4611686018427387904) (hI : ∀ r ∈ R, I64 r) : ∀ (d : Nat), d ≤ 3 → ∀ (i : Nat) (w : World), RawAt w o R → i + 4 * 2 ^ d ≤ 9223372036854775000 → Calls Tryz.prog 18 #[.slice o R.length cap, .int .i64 (i : Int), .int .i64 (d : Int)] w (SentPost R d i w)
  | 0, hd, i, w, hR, hi => sent_stop R o cap 0 i w hlen hI hR (by omega) hd (.inl rfl)
  | d + 1, hd, i, w, hR, hi => by
    by_cases h : pickZ (R.getD i 0) 12 < 2 ∨ R.length < i + 1
    · exact sent_stop R o cap (d + 1) i w hlen hI hR (by omega) hd (.inr h)
    · exact sent_step R o cap d i w hlen hI hR hi (by omega) (by omega) (by omega) fun i w hR hi => sent_any R o cap hlen hI d (by omega) i w hR hi
end Go.Proofs.YtpbbmagjhkakgaaGreatDoor.Ev
