/-
  The walk beside goroutines that are only leaving: several pieces of code of the lone machine's at once; a condition, a block, a loop on the way to whatever end; for every program.
-/
/-
  From a contract beside goroutines that are only leaving to one good run from the start: for a function with one result; for every program.
-/
/-
  Plain laws: texts with the signs of ASCII, with or without a blank behind a window, are read as the sentences that they are written for; no condition but those that stand in each theorem.
-/
import Derived.Test.YtpbbmagjhkakgaaGreatDoorLfLeadToLfPlain
import Derived.Test.YtpbbmagjhkakgaaGreatDoorPureSizeToPureSem
import Derived.Conc.LeavingOf
import Derived.Conc.Beside
namespace Go.Proofs.YtpbbmagjhkakgaaGreatDoor.Lf
open Go Go.Conc
variable {P : Program} {K : Goroutine → World → Prop} {b : Frame} {k : List Item} {cs : List Frame} {a : Act} {w : World}
def unseq : List Code → Code → Code
  | [], z => z
  | c :: l, z => .seq c (unseq l z)
def wps (P : Program) : List Code → (Act → World → Prop) → Act → World → Prop
  | [], J, a, w => J a w
  | c :: l, J, a, w => c.wp P (fun e a' w' => e = .normal ∧ wps P l J a' w') a w
theorem wps_steps {z : Code} {J : Act → World → Prop} : ∀ (l : List Code) (a : Act) (w : World), wps P l J a w → ∃ a' w', J a' w' ∧ Steps P (lone (b.at a (.code (unseq l z) :: k)) cs w) (lone (b.at a' (.code z :: k)) cs w')
  | [], a, w, h => ⟨a, w, h, .refl _ _⟩
  | c :: l, a, w, h => by
    obtain ⟨e, a1, w1, h1, h2⟩ := h b (.code (unseq l z) :: k) cs
    obtain ⟨rfl, h1⟩ := h1
    obtain ⟨a', w', h3, h4⟩ := wps_steps l a1 w1 h1
    exact ⟨a', w', h3, .head step_seq (Steps.trans h2 h4)⟩
theorem LeadsR.pieces (hP : Plain P) (l : List Code) {z : Code} (J : Act → World → Prop) (hJ : ∀ a w τ d, J a w → J a (re w τ d)) (hi : ∀ it ∈ k, okItem it) (hc : ∀ fr ∈ cs, okFrame fr) (h : ∀ τ d, wps P l J a (re w τ d))
    (hk : ∀ a' w', J a' w' → LeadsR P K (G (b.at a' (.code z :: k)) cs) w') : LeadsR P K (G (b.at a (.code (unseq l z) :: k)) cs) w := by
  have h1 : LeadsR P (fun g w' => ∃ a', J a' w' ∧ g = G (b.at a' (.code z :: k)) cs) (G (b.at a (.code (unseq l z) :: k)) cs) w := by
    refine .of_steps hP ?_ (fine_at hi hc) fun τ d => ?_
    · rintro g w τ d ⟨a', h1, h2⟩
      exact ⟨a', hJ _ _ _ _ h1, h2⟩
    · obtain ⟨a', w', h1, h2⟩ := wps_steps (b := b) (k := k) (cs := cs) (z := z) l a (re w τ d) (h τ d)
      exact ⟨_, w', h2, G_not_lost _ _, fun _ => ⟨a', h1, rfl⟩⟩
  refine h1.trans ?_
  rintro g w' ⟨a', h1, rfl⟩
  exact hk a' w' h1
theorem bodyPost_re {fn : Func} {R : Ending → World → Prop} (hR : ∀ e w τ d, R e w → R e (re w τ d)) : ∀ e a w τ d, bodyPost P fn R e a w → bodyPost P fn R e a (re w τ d) := by
  intro e a w τ d h
  cases e with
  | normal => obtain ⟨hd, v, hr, hv⟩ := h; exact ⟨hd, v, results_re hr τ d, hR _ _ _ _ hv⟩
  | ret => obtain ⟨hd, v, hr, hv⟩ := h; exact ⟨hd, v, results_re hr τ d, hR _ _ _ _ hv⟩
  | panic chain => obtain ⟨hd, hv⟩ := h; exact ⟨hd, hR _ _ _ _ hv⟩
  | exit id => exact h
  | goto l => exact h
  | outgrown => exact hR _ _ _ _ h
theorem LeadsR.last (hP : Plain P) {f : FuncId} {fn : Func} {z : Code} {R : Ending → World → Prop} (hc : ∀ fr ∈ cs, okFrame fr) (hf : P.funcs[f]? = some fn) (hR : ∀ e w τ d, R e w → R e (re w τ d)) (hno : ∀ w, ¬ R .outgrown w)
    (h : ∀ τ d, z.wp P (bodyPost P fn R) a (re w τ d)) : LeadsR P (fun g w' => ∃ e fr, g = G fr cs ∧ okFrame fr ∧ R e w' ∧ fr.fn = f ∧ fr.leaving P w' e) (G ((base f).at a [.code z]) cs) w := by
  refine LeadsR.code (Q := bodyPost P fn R) (HWp.of_wp hP (bodyPost_re hR) (fun a w x => hno w x) h) ⟨fun _ h => (by cases h), hc, fun _ _ _ x => x.elim, fun _ _ _ x => x.elim⟩ fun e a' w' g h1 h2 => ?_
  cases e with
  | normal =>
    cases h2
    obtain ⟨hd, v, hr, hv⟩ := h1
    exact LeadsR.move hP (fine_G (okFrame_at (fun _ h => by cases h)) hc) (fun _ => .one step_end) fun hf' => .here fun τ d => ⟨.returned v, _, rfl, hf'.ok.frame, hR _ _ _ _ hv, rfl, rfl, hd, rfl, fn, hf, results_re hr τ d⟩
  | ret =>
    obtain ⟨todo, h3, rfl⟩ := h2
    obtain ⟨hd, v, hr, hv⟩ := h1
    exact .here fun τ d => ⟨.returned v, _, rfl, h3, hR _ _ _ _ hv, rfl, rfl, hd, rfl, fn, hf, results_re hr τ d⟩
  | panic chain =>
    obtain ⟨todo, h3, rfl⟩ := h2
    obtain ⟨hd, hv⟩ := h1
    exact .here fun τ d => ⟨.panicked chain, _, rfl, h3, hR _ _ _ _ hv, rfl, rfl, hd, fn, hf⟩
  | exit id => exact h1.elim
  | goto l => exact h1.elim
  | outgrown => exact h2.elim
theorem LeadsR.hpiece {c : Code} (J : Act → World → Prop) (hi : ∀ it ∈ k, okItem it) (hc : ∀ fr ∈ cs, okFrame fr) (h : HWp P c (fun e a' w' => e = .normal ∧ J a' w') a w) (hk : ∀ a' w', J a' w' → LeadsR P K (G (b.at a' k) cs) w') : LeadsR P K (G (b.at a (.code c :: k)) cs) w :=
  LeadsR.code h ⟨hi, hc, fun _ _ _ x => (by cases x.1), fun _ _ _ x => (by cases x.1)⟩ fun e a' w' g x y => by
    obtain ⟨rfl, x⟩ := x
    obtain rfl : g = _ := y
    exact hk a' w' x
theorem HWp.seqL (hP : Plain P) {x y : Code} {Q : Exit → Act → World → Prop} (J : Act → World → Prop) (hJ : ∀ a w τ d, J a w → J a (re w τ d)) (h : ∀ τ d, x.wp P (fun e a' w' => e = .normal ∧ J a' w') a (re w τ d)) (hk : ∀ a w, J a w → HWp P y Q a w) : HWp P (.seq x y) Q a w :=
  HWp.seq' hP J ((HWp.of_wp hP (Q := fun e a' w' => e = .normal ∧ J a' w') (fun e a w τ d x => ⟨x.1, hJ _ _ _ _ x.2⟩) (fun a w x => by cases x.1) h).mono fun e a w x => by obtain ⟨rfl, x⟩ := x; exact x) hk
theorem HWp.seqH (hP : Plain P) {x y : Code} {Q : Exit → Act → World → Prop} (J : Act → World → Prop) (h : HWp P x (fun e a' w' => e = .normal ∧ J a' w') a w) (hk : ∀ a w, J a w → HWp P y Q a w) : HWp P (.seq x y) Q a w :=
  HWp.seq' hP J (h.mono fun e a w x => by obtain ⟨rfl, x⟩ := x; exact x) hk
theorem HWp.of_lead {c : Code} {J : Act → World → Prop} (h : ∀ (b : Frame) (k : List Item) (cs : List Frame), (∀ it ∈ k, okItem it) → (∀ fr ∈ cs, okFrame fr) → LeadsR P (fun g w' => ∃ a', J a' w' ∧ g = G (b.at a' k) cs) (G (b.at a (.code c :: k)) cs) w) : HWp P c (fun e a' w' => e = .normal ∧ J a' w') a w :=
  fun b k cs hb => (h b k cs hb.items hb.frames).mono fun _ _ ⟨a', h1, h2⟩ => ⟨.normal, a', ⟨rfl, h1⟩, h2⟩
theorem HWp.blockN (hP : Plain P) {id : Nat} {c : Code} {J : Act → World → Prop} (hJ : ∀ a w τ d, J a w → J a (re w τ d)) (h : HWp P c (fun e a' w' => e = .normal ∧ J a' w') a w) : HWp P (.block id c) (fun e a' w' => e = .normal ∧ J a' w') a w :=
  HWp.block hP (fun a w τ d x => ⟨rfl, hJ _ _ _ _ x.2⟩) (h.mono fun e a w x => by obtain ⟨rfl, x⟩ := x; exact ⟨rfl, x⟩)
theorem HWp.loneN (hP : Plain P) {c : Code} {J : Act → World → Prop} (hJ : ∀ a w τ d, J a w → J a (re w τ d)) (h : ∀ τ d, c.wp P (fun e a' w' => e = .normal ∧ J a' w') a (re w τ d)) : HWp P c (fun e a' w' => e = .normal ∧ J a' w') a w :=
  HWp.of_wp hP (fun e a w τ d x => ⟨x.1, hJ _ _ _ _ x.2⟩) (fun a w x => by cases x.1) h
theorem HWp.blockLoop (hP : Plain P) {id : Nat} {c : Code} (I : Nat → Act → World → Prop) (J : Act → World → Prop) (hJ : ∀ a w τ d, J a w → J a (re w τ d)) (n₀ : Nat) (h₀ : I n₀ a w)
    (round : ∀ n a w, I n a w → HWp P c (fun e a' w' => (e = .normal ∧ ∃ m, m < n ∧ I m a' w') ∨ (e = .exit id ∧ J a' w')) a w) : HWp P (.block id (.loop c)) (fun e a' w' => e = .normal ∧ J a' w') a w := by
  refine HWp.block hP (fun a w τ d x => ⟨rfl, hJ _ _ _ _ x.2⟩) (HWp.loop hP I n₀ h₀ fun n a w hI => (round n a w hI).mono fun e a w x => ?_)
  rcases x with ⟨rfl, x⟩ | ⟨rfl, x⟩
  · exact x
  · simp only [Exit.then, Exit.inBlock, if_true]
    exact ⟨trivial, x⟩
end Go.Proofs.YtpbbmagjhkakgaaGreatDoor.Lf

namespace Go.Proofs.YtpbbmagjhkakgaaGreatDoor.Lf
open Go Go.Conc
variable {P : Program}
theorem stepG_end {fr : Frame} {fn : Func} {t : Tmp} {w : World} {v : Value} (h : fr.leaving P w (.returned v)) (hf : P.funcs[fr.fn]? = some fn) (hr : fn.results = #[.tmp t]) (hin : P.inits.idxOf? fr.fn = none) : stepG P true (G fr []) w = .ended (.done v) w #[] := by
  obtain ⟨hm, hd, hk, fn', hf', hr'⟩ := h
  rw [hf] at hf'
  cases hf'
  rw [results_tmp hr] at hr'
  simp only [Result.ok.injEq, and_true] at hr'
  simp only [Array.getD_eq_getD_getElem?] at hr'
  simp [stepG, unwind, doReturn, hm, hd, hf, hk, hin, results, hr, hr', G]
  have e : seen P fr.fn #[] = #[] := by simp [seen]
  rw [e]
  rfl
theorem HCalls.good {f : FuncId} {fn : Func} {t : Tmp} {args : Array Value} {W : World} {R : Ending → World → Prop} (h : HCalls P f args W R) (hf : P.funcs[f]? = some fn) (hr : fn.results = #[.tmp t]) (hin : P.inits.idxOf? f = none) (hR : ∀ e w τ d, R e w → R e (re w τ d)) (hret : ∀ e w, R e w → ∃ v, e = .returned v) :
    ∃ M last o w' t', runNT P (M + 1) (solo (G (Frame.enter P f args .normal) []) W) #[] = (.ended o w', t') ∧ runN P M (solo (G (Frame.enter P f args .normal) []) W) = .next last ∧ step P last = .ended o w' ∧ Conc.Good P (fun v w' => R (.returned v) w') last o w' t' := by
  obtain ⟨N, gs', g', w', sl', t', h1, ⟨f0, ⟨q, fq⟩, ⟨B, fB⟩⟩, e, fr, rfl, _, h3, h4, h5⟩ := (h [] (fun _ hx => by cases hx)).leads #[G (Frame.enter P f args .normal) []] none #[] ⟨rfl, ⟨_, leavers_one P _⟩, ⟨0, past_nil⟩⟩
  obtain ⟨v, rfl⟩ := hret e w' h3
  have hG : Goes P true AtRel (fun _ _ _ => False) (AtEnd P (fun _ => False) B (fun v w' => R (.returned v) w')) 0 (G fr []) w' := by
    rintro w₁ ⟨d, rfl⟩
    have hl : fr.leaving P (re w' w'.tape d) (.returned v) := leaving_re h5 w'.tape d
    exact ⟨rfl, v, #[], stepG_end hl (by rw [h4]; exact hf) hr (by rw [h4]; exact hin), fun e he => by simp at he, hR _ _ w'.tape d h3⟩
  obtain ⟨M, last, o, w2, t2, k1, k2, k3, k4⟩ := beside_ends (fun _ _ _ x => x.elim) (sl := sl') f0 fq fB hG
  refine ⟨N + M, last, o, w2, t2, ?_, ?_, k3, k4⟩
  · rw [Nat.add_assoc, runNT_add]
    show (match runNT P N (crowd #[G (Frame.enter P f args .normal) []] W none) #[] with | (.next m', t') => runNT P (M + 1) m' t' | x => x) = _
    rw [h1]
    exact k1
  · have h1' : runN P N (solo (G (Frame.enter P f args .normal) []) W) = .next (crowd gs' w' sl') := by
      rw [← runNT_fst P N _ #[]]
      exact congrArg Prod.fst h1
    rw [runN_add, h1']
    exact k2
end Go.Proofs.YtpbbmagjhkakgaaGreatDoor.Lf

namespace Go.Proofs.YtpbbmagjhkakgaaGreatDoor
open Go.Deep (BT)
def Par (T : List (Int × List UInt8)) (x : BT Pay) : Prop := depthT x ≤ T.length ∧ ∀ n, depthT x ≤ n → ∀ A rest : List Tok, A.map strip = T → parseF n (A ++ rest) = some (x, rest)
def Reads (l : List UInt8) (x : BT Pay) : Prop := (Good x ∧ ZeroT x) ∧ ∀ (s : ByteArray) (pos : Nat) (last : Int) (rest : List UInt8), s.data.toList.drop pos = l ++ rest → last ≠ 97 → ∃ n last' T, n ≤ l.length ∧ Eats s pos last l n last' T ∧ Par T x
theorem par_word {name : ByteArray} (h : 1 ≤ name.size ∧ name.size ≤ 8 ∧ name ≠ trueB ∧ ∀ c, c ∈ name.data.toList → 97 ≤ c.toNat ∧ c.toNat ≤ 122) : Par [(97, name.data.toList)] (mk 97 name 0 0 .nil .nil) := by
  have hg : Good (mk 97 name 0 0 .nil .nil) := .inr (.inl ⟨rfl, h, rfl, rfl, rfl, rfl⟩)
  refine ⟨Nat.le_refl 1, fun n hn A rest hA => parse_tok _ hg ⟨rfl, rfl, trivial, trivial⟩ n hn A rest ?_⟩
  rw [hA]
  rfl
theorem par_true : Par [(97, [116, 114, 117, 101])] (mk 116 ByteArray.empty 0 0 .nil .nil) := by
  have hg : Good (mk 116 ByteArray.empty 0 0 .nil .nil) := .inl ⟨rfl, rfl, rfl, rfl, rfl, rfl⟩
  refine ⟨Nat.le_refl 1, fun n hn A rest hA => parse_tok _ hg ⟨rfl, rfl, trivial, trivial⟩ n hn A rest ?_⟩
  rw [hA]
  rfl
theorem par_one {op lo hi : Int} {wd : List UInt8} {T : List (Int × List UInt8)} {x : BT Pay} (h1 : op = 172 ∨ op = 89 ∨ op = 79 ∨ op = 72) (h3 : 0 ≤ lo ∧ lo ≤ hi ∧ hi ≤ 1000000) (h4 : winB op = false → lo = 0 ∧ hi = 0) (hx : Par T x) :
    Par ((op, wd) :: (tkW ⟨op, ByteArray.empty, lo, hi⟩ ++ T)) (mk op ByteArray.empty lo hi x .nil) := by
  obtain ⟨hd, hp⟩ := hx
  refine ⟨?_, fun n hn A rest hA => ?_⟩
  · have : depthT (mk op ByteArray.empty lo hi x .nil) = 1 + max (depthT x) 0 := rfl
    rw [this]
    simp
    omega
  · have hn' : 1 + max (depthT x) 0 ≤ n := hn
    obtain ⟨m, rfl⟩ : ∃ m, n = m + 1 := ⟨n - 1, by omega⟩
    have dl : depthT x ≤ m := by omega
    show stepF (parseF m) (A ++ rest) = _
    unfold stepF
    obtain ⟨t0, r0, rfl, s0, _, hA⟩ := map_cons hA
    obtain ⟨Aw, Al, rfl, hAw, hAl⟩ := List.map_eq_append_iff.1 hA
    simp only [List.cons_append, List.append_assoc]
    have s0' : t0.sign = op := s0
    rw [take_tok (sg := op) s0' (by omega)]
    simp only
    rw [s0', if_neg (by omega), if_neg (by omega), if_pos h1]
    unfold singleF
    have hw := window_tok (a := ⟨op, ByteArray.empty, lo, hi⟩) (rest := Al ++ rest) hAw h3 h4
    simp only at hw
    rw [hw]
    simp only
    rw [hp m dl Al _ hAl]
theorem par_two {op lo hi : Int} {wd : List UInt8} {T U : List (Int × List UInt8)} {x y : BT Pay} (h1 : op = 8743 ∨ op = 8744 ∨ op = 83) (h3 : 0 ≤ lo ∧ lo ≤ hi ∧ hi ≤ 1000000) (h4 : winB op = false → lo = 0 ∧ hi = 0) (hx : Par T x) (hy : Par U y) :
    Par ((40, [40]) :: (T ++ ((op, wd) :: (tkW ⟨op, ByteArray.empty, lo, hi⟩ ++ (U ++ [(41, [41])]))))) (mk op ByteArray.empty lo hi x y) := by
  obtain ⟨hd, hp⟩ := hx
  obtain ⟨hd2, hq⟩ := hy
  have hdep : depthT (mk op ByteArray.empty lo hi x y) = 1 + max (depthT x) (depthT y) := rfl
  refine ⟨?_, fun n hn A rest hA => ?_⟩
  · rw [hdep]
    simp
    omega
  · rw [hdep] at hn
    obtain ⟨m, rfl⟩ : ∃ m, n = m + 1 := ⟨n - 1, by omega⟩
    have dl : depthT x ≤ m := by omega
    have dr : depthT y ≤ m := by omega
    show stepF (parseF m) (A ++ rest) = _
    unfold stepF
    obtain ⟨t0, r0, rfl, s0, _, hA⟩ := map_cons hA
    obtain ⟨Al, r1, rfl, hAl, hA⟩ := List.map_eq_append_iff.1 hA
    obtain ⟨t2, r2, rfl, s2, _, hA⟩ := map_cons hA
    obtain ⟨Aw, r3, rfl, hAw, hA⟩ := List.map_eq_append_iff.1 hA
    obtain ⟨Ar, r4, rfl, hAr, hA⟩ := List.map_eq_append_iff.1 hA
    obtain ⟨t5, r5, rfl, s5, _, hA⟩ := map_cons hA
    have : r5 = [] := by simpa using hA
    subst this
    simp only [List.cons_append, List.append_assoc, List.nil_append]
    have s2' : t2.sign = op := s2
    rw [take_tok s0 (by decide)]
    simp only
    have s0' : t0.sign = 40 := s0
    rw [s0', if_neg (by decide), if_pos rfl]
    unfold pairF
    rw [hp m dl Al _ hAl]
    simp only
    rw [take_tok (sg := op) s2' (by omega)]
    simp only
    have hw := window_tok (a := ⟨op, ByteArray.empty, lo, hi⟩) (rest := Ar ++ t5 :: rest) hAw h3 h4
    simp only at hw
    rw [s2', if_pos h1, hw]
    simp only
    rw [hq m dr Ar _ hAr]
    simp only
    rw [expect_tok s5 (by decide)]
theorem eats_ascii {s : ByteArray} {pos : Nat} (c : UInt8) (sg : Int) (last : Int) {l : List UInt8} (hc : (c = 33 ∧ sg = 172) ∨ (c = 38 ∧ sg = 8743) ∨ (c = 124 ∧ sg = 8744)) (h : s.data.toList.drop pos = c :: l) : Eats s pos last [c] 1 sg [(sg, [c])] := by
  obtain ⟨hp, hd⟩ := dec_ascii h (by rcases hc with ⟨rfl, _⟩ | ⟨rfl, _⟩ | ⟨rfl, _⟩ <;> decide)
  have hs : signF (c.toNat : Nat) = sg := by rcases hc with ⟨rfl, rfl⟩ | ⟨rfl, rfl⟩ | ⟨rfl, rfl⟩ <;> decide
  have := eats_sign (s := s) (pos := pos) (r := c.toNat) last (m := [c]) hp hd (by rw [hs]; rcases hc with ⟨_, rfl⟩ | ⟨_, rfl⟩ | ⟨_, rfl⟩ <;> decide) (by rw [hs]; rcases hc with ⟨_, rfl⟩ | ⟨_, rfl⟩ | ⟨_, rfl⟩ <;> decide) (by rw [hs]; rcases hc with ⟨_, rfl⟩ | ⟨_, rfl⟩ | ⟨_, rfl⟩ <;> decide) (by rw [encode_small _ (by omega) (by rcases hc with ⟨rfl, _⟩ | ⟨rfl, _⟩ | ⟨rfl, _⟩ <;> decide)]; rcases hc with ⟨rfl, _⟩ | ⟨rfl, _⟩ | ⟨rfl, _⟩ <;> decide)
  rw [hs] at this
  exact this
theorem Reads.word {name : ByteArray} (h : 1 ≤ name.size ∧ name.size ≤ 8 ∧ name ≠ trueB ∧ ∀ c, c ∈ name.data.toList → 97 ≤ c.toNat ∧ c.toNat ≤ 122) : Reads name.data.toList (mk 97 name 0 0 .nil .nil) := by
  refine ⟨⟨.inr (.inl ⟨rfl, h, rfl, rfl, rfl, rfl⟩), rfl, rfl, trivial, trivial⟩, fun s pos last rest hs hl => ⟨_, 97, _, Nat.le_refl _, eats_run (by decide) ?_ hs (fun c hc => signF_let (h.2.2.2 c hc)) hl, par_word h⟩⟩
  intro e
  have : name.data.toList.length = name.size := by rw [Array.length_toList]; rfl
  rw [e] at this
  simp at this
  omega
theorem Reads.top : Reads [116, 114, 117, 101] (mk 116 ByteArray.empty 0 0 .nil .nil) := by
  refine ⟨⟨.inl ⟨rfl, rfl, rfl, rfl, rfl, rfl⟩, rfl, rfl, trivial, trivial⟩, fun s pos last rest hs hl => ⟨_, 97, _, Nat.le_refl _, eats_run (by decide) (by simp) hs ?_ hl, par_true⟩⟩
  intro c hc
  simp at hc
  rcases hc with rfl | rfl | rfl | rfl <;> decide
theorem Reads.not {l : List UInt8} {x : BT Pay} (h : Reads l x) : Reads ([33] ++ l) (mk 172 ByteArray.empty 0 0 x .nil) := by
  obtain ⟨⟨hg, hz⟩, hr⟩ := h
  refine ⟨⟨.inr (.inr (.inr ⟨.inl rfl, rfl, by decide, fun _ => ⟨rfl, rfl⟩, hg, rfl⟩)), rfl, rfl, hz, trivial⟩, fun s pos last rest hs hl => ?_⟩
  rw [List.append_assoc] at hs
  have k1 := eats_ascii 33 172 last (.inl ⟨rfl, rfl⟩) (show s.data.toList.drop pos = 33 :: _ from hs)
  have d1 := at_next (m := [33]) hs
  obtain ⟨n, l2, T, hn, k2, hp⟩ := hr s _ 172 rest d1 (by decide)
  refine ⟨_, _, _, ?_, k1.trans k2, ?_⟩
  · simp; omega
  · have := par_one (op := 172) (lo := 0) (hi := 0) (wd := [33]) (.inl rfl) (by decide) (fun _ => ⟨rfl, rfl⟩) hp
    exact this
def winW (a b : Int) : List UInt8 := [91] ++ (Lib.itoa a ++ ([44] ++ (Lib.itoa b ++ [93])))
theorem eats_win {s : ByteArray} {pos : Nat} {op a b : Int} (last : Int) {rest : List UInt8} (hw : winB op = true) (h : 0 ≤ a ∧ a ≤ b) (hs : s.data.toList.drop pos = winW a b ++ rest) : ∃ n, n ≤ (winW a b).length ∧ Eats s pos last (winW a b) n 93 (tkW ⟨op, ByteArray.empty, a, b⟩) := by
  have e2 : tkW ⟨op, ByteArray.empty, a, b⟩ = [(91, [91]), (48, Lib.itoa a), (44, [44]), (48, Lib.itoa b), (93, [93])] := by unfold tkW; simp only; rw [hw]; rfl
  rw [e2]
  unfold winW at hs ⊢
  simp only [List.append_assoc] at hs
  have k2 := eats_char 91 last (by simp) (show s.data.toList.drop _ = 91 :: _ from hs)
  have d2 := at_next (m := [91]) hs
  have k3 := eats_num (last := ((91 : UInt8).toNat : Int)) h.1 d2 (by decide)
  have d3 := at_next d2
  have k4 := eats_char 44 48 (by simp) (show s.data.toList.drop _ = 44 :: _ from d3)
  have d4 := at_next (m := [44]) d3
  have k5 := eats_num (last := ((44 : UInt8).toNat : Int)) (by omega : 0 ≤ b) d4 (by decide)
  have d5 := at_next d4
  have k6 := eats_char 93 48 (by simp) (show s.data.toList.drop _ = 93 :: _ from d5)
  refine ⟨_, ?_, k2.trans (k3.trans (k4.trans (k5.trans k6)))⟩
  simp; omega
theorem Reads.win {op a b : Int} {l : List UInt8} {x : BT Pay} (ho : op = 89 ∨ op = 79 ∨ op = 72) (hab : 0 ≤ a ∧ a ≤ b ∧ b ≤ 1000000) (h : Reads l x) : Reads ([UInt8.ofNat op.toNat] ++ (winW a b ++ l)) (mk op ByteArray.empty a b x .nil) := by
  obtain ⟨⟨hg, hz⟩, hr⟩ := h
  have hwB : winB op = true := by rcases ho with rfl | rfl | rfl <;> decide
  have hnw : winB op = false → a = 0 ∧ b = 0 := fun h => by rw [hwB] at h; cases h
  have hob : opBytes op = [UInt8.ofNat op.toNat] := by rcases ho with rfl | rfl | rfl <;> rfl
  refine ⟨⟨.inr (.inr (.inr ⟨.inr ho, rfl, hab, hnw, hg, rfl⟩)), rfl, rfl, hz, trivial⟩, fun s pos last rest hs hl => ?_⟩
  rw [List.append_assoc, ← hob] at hs
  rw [← hob]
  have k1 := eats_op last (op := op) (by unfold isSign; omega) hs
  have d1 := at_next hs
  rw [List.append_assoc] at d1
  obtain ⟨n2, hn2, k2⟩ := eats_win (op := op) op hwB ⟨hab.1, hab.2.1⟩ d1
  have d2 := at_next d1
  obtain ⟨n, l2, T, hn, k3, hp⟩ := hr s _ 93 rest d2 (by decide)
  refine ⟨_, _, _, ?_, k1.trans (k2.trans k3), ?_⟩
  · have : 1 ≤ (opBytes op).length := by rw [hob]; simp
    simp; omega
  · exact par_one (op := op) (wd := opBytes op) (.inr ho) hab hnw hp
theorem Reads.two {c : UInt8} {op : Int} {l r : List UInt8} {x y : BT Pay} (hc : (c = 38 ∧ op = 8743) ∨ (c = 124 ∧ op = 8744)) (h : Reads l x) (h' : Reads r y) : Reads ([40] ++ (l ++ ([32] ++ ([c] ++ ([32] ++ (r ++ [41])))))) (mk op ByteArray.empty 0 0 x y) := by
  obtain ⟨⟨hg, hz⟩, hr⟩ := h
  obtain ⟨⟨hg2, hz2⟩, hr2⟩ := h'
  have hop : op = 8743 ∨ op = 8744 ∨ op = 83 := by omega
  have hwB : winB op = false := by rcases hc with ⟨_, rfl⟩ | ⟨_, rfl⟩ <;> decide
  refine ⟨⟨.inr (.inr (.inl ⟨hop, rfl, show (0 : Int) ≤ 0 ∧ (0 : Int) ≤ 0 ∧ (0 : Int) ≤ 1000000 by decide, fun _ => ⟨rfl, rfl⟩, hg, hg2⟩)), rfl, rfl, hz, hz2⟩, fun s pos last rest hs hl => ?_⟩
  simp only [List.append_assoc] at hs
  have k1 := eats_char 40 last (by simp) (show s.data.toList.drop _ = 40 :: _ from hs)
  have d1 := at_next (m := [40]) hs
  obtain ⟨n2, l2, T, hn2, k2, hp⟩ := hr s _ ((40 : UInt8).toNat : Int) _ d1 (by decide)
  have d2 := at_next d1
  have k3 := eats_blank l2 (show s.data.toList.drop _ = 32 :: _ from d2)
  have d3 := at_next (m := [32]) d2
  have k4 := eats_ascii c op 32 (.inr hc) (show s.data.toList.drop _ = c :: _ from d3)
  have d4 := at_next (m := [c]) d3
  have k5 := eats_blank op (show s.data.toList.drop _ = 32 :: _ from d4)
  have d5 := at_next (m := [32]) d4
  obtain ⟨n6, l6, U, hn6, k6, hq⟩ := hr2 s _ 32 _ d5 (by decide)
  have d6 := at_next d5
  have k7 := eats_char 41 l6 (by simp) (show s.data.toList.drop _ = 41 :: _ from d6)
  refine ⟨_, _, _, ?_, k1.trans (k2.trans (k3.trans (k4.trans (k5.trans (k6.trans k7))))), ?_⟩
  · simp; omega
  · have := par_two (op := op) (lo := 0) (hi := 0) (wd := [c]) hop (by decide) (fun _ => ⟨rfl, rfl⟩) hp hq
    have e2 : tkW ⟨op, ByteArray.empty, 0, 0⟩ = [] := by unfold tkW; simp only; rw [hwB]; rfl
    rw [e2] at this
    simpa using this
theorem Reads.since {a b : Int} {l r : List UInt8} {x y : BT Pay} (hab : 0 ≤ a ∧ a ≤ b ∧ b ≤ 1000000) (h : Reads l x) (h' : Reads r y) : Reads ([40] ++ (l ++ ([32] ++ ([83] ++ (winW a b ++ (r ++ [41])))))) (mk 83 ByteArray.empty a b x y) := by
  obtain ⟨⟨hg, hz⟩, hr⟩ := h
  obtain ⟨⟨hg2, hz2⟩, hr2⟩ := h'
  have hnw : winB 83 = false → a = 0 ∧ b = 0 := fun h => absurd h (by decide)
  refine ⟨⟨.inr (.inr (.inl ⟨.inr (.inr rfl), rfl, hab, hnw, hg, hg2⟩)), rfl, rfl, hz, hz2⟩, fun s pos last rest hs hl => ?_⟩
  simp only [List.append_assoc] at hs
  have k1 := eats_char 40 last (by simp) (show s.data.toList.drop _ = 40 :: _ from hs)
  have d1 := at_next (m := [40]) hs
  obtain ⟨n2, l2, T, hn2, k2, hp⟩ := hr s _ ((40 : UInt8).toNat : Int) _ d1 (by decide)
  have d2 := at_next d1
  have k3 := eats_blank l2 (show s.data.toList.drop _ = 32 :: _ from d2)
  have d3 := at_next (m := [32]) d2
  have k4 := eats_op (op := 83) 32 (by unfold isSign; omega) (show s.data.toList.drop _ = opBytes 83 ++ _ from d3)
  have d4 := at_next (m := [83]) d3
  obtain ⟨n5, hn5, k5⟩ := eats_win (op := 83) 83 (by decide) ⟨hab.1, hab.2.1⟩ d4
  have d5 := at_next d4
  obtain ⟨n6, l6, U, hn6, k6, hq⟩ := hr2 s _ 93 _ d5 (by decide)
  have d6 := at_next d5
  have k7 := eats_char 41 l6 (by simp) (show s.data.toList.drop _ = 41 :: _ from d6)
  refine ⟨_, _, _, ?_, k1.trans (k2.trans (k3.trans (Eats.trans (l := [83]) k4 (k5.trans (k6.trans k7))))), ?_⟩
  · simp; omega
  · have := par_two (op := 83) (lo := a) (hi := b) (wd := opBytes 83) (.inr (.inr rfl)) hab hnw hp hq
    simpa using this
theorem Reads.read {l : List UInt8} {x : BT Pay} (h : Reads l x) (hd : depthT x ≤ 12) (hl : l.length ≤ 300) {s : ByteArray} (hs : s.data.toList = l) : readF s = (some x, 0) := by
  obtain ⟨⟨hg, hz⟩, hr⟩ := h
  have hsz : s.size = l.length := by rw [← hs, Array.length_toList]; rfl
  obtain ⟨n, last', T, hn, hE, hp⟩ := hr s 0 32 [] (by simpa using hs) (by decide)
  obtain ⟨A, hA, e⟩ := hE (l.length - n) []
  have e0 : l.length - n + n = l.length := by omega
  rw [e0] at e
  have e' : scanF s l.length 0 32 [] = some (A ++ [endTok s]) := by
    refine e.trans ?_
    rw [scanF_end _ _ _ _ _ (by rw [hsz]; omega), List.nil_append]
  unfold readF
  rw [if_neg (by omega), hsz, e']
  simp only
  have hlen : depthT x ≤ (A ++ [endTok s]).length := by
    have h1 := hp.1
    rw [← hA, List.length_map] at h1
    simp; omega
  rw [hp.2 _ hlen A _ hA]
  simp only
  have e1 : expectF (-1) [endTok s] = some [endTok s] := by
    unfold expectF takeF
    rfl
  rw [e1]
  simp only
  rw [if_neg (by omega)]
end Go.Proofs.YtpbbmagjhkakgaaGreatDoor
