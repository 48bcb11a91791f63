import Derived.Test.YtpbbmagjhkakgaaGreatDoorLfForkToLfHeld
namespace Go.Proofs.YtpbbmagjhkakgaaGreatDoor.Lf
open Go Go.Conc
section
variable {P : Program} {main : Bool} {R : (Nat → Prop) → World → World → Prop} {D : (Nat → Prop) → World → World → Array Event → Prop} {c : Nat} {fn : FuncId} {ops : Array Oper} {Q : Act → List Value → (Nat → Prop) → World → Prop} {md : Region.Mode} {I : (Nat → Prop) → World → Prop} {fin : Nat}
def OpR (P : Program) (main : Bool) (R : (Nat → Prop) → World → World → Prop) (D : (Nat → Prop) → World → World → Array Event → Prop) (c : Nat) (fn : FuncId) (ops : Array Oper) (i : Nat) (K : Act → List Value → (Nat → Prop) → World → Prop) (a : Act) (L : List Value) (S : Nat → Prop) (w : World) : Prop :=
  match ops[i]? with
  | none => False
  | some o => if Region.wanted o (yielded ops a.tmps) then
      match o.op with
      | .send ch x => ∃ L', a.eval ch = .chan (some c) ∧ L = a.eval x :: L' ∧ ∀ w₂, R S w w₂ → K (a.put o.dst undef) L' S w₂
      | _ => ∀ w₁, R S w w₁ → uponE o a (fun a' w' => D S w₁ w' (listed P fn a o w₁) ∧ K a' L (grow S w₁ w') w')
          (fun f args w' => w' = w₁ ∧ D S w₁ w₁ (listed P fn a o w₁) ∧ RCalls P main R D f args S w₁ (fun v S' w'' => K (a.put o.dst v) L S' w'')) ((execOp a.eval o).run P w₁)
    else K (a.put o.dst undef) L S w
theorem uponE_mono {o : Oper} {a : Act} {K K' : Act → World → Prop} {E E' : FuncId → Array Value → World → Prop} (h : ∀ a w, K a w → K' a w) (he : ∀ f args w, E f args w → E' f args w) {r : Result Next} (hh : uponE o a K E r) : uponE o a K' E' r := by
  cases r with
  | ok n w' => cases n <;> first | exact h _ _ hh | exact he _ _ _ hh | exact hh
  | halt x w' => exact hh
theorem OpR_mono {i : Nat} {a : Act} {L : List Value} {S : Nat → Prop} {w : World} {K K' : Act → List Value → (Nat → Prop) → World → Prop} (h : ∀ a L S w, K a L S w → K' a L S w) (hh : OpR P main R D c fn ops i K a L S w) : OpR P main R D c fn ops i K' a L S w := by
  unfold OpR at *
  split
  · simp_all
  · rename_i o ho
    simp only [ho] at hh
    split
    · rename_i hw
      simp only [hw, if_true] at hh
      split
      · rename_i ch x hop
        simp only [hop] at hh
        obtain ⟨L', h1, h2, h3⟩ := hh
        exact ⟨L', h1, h2, fun w₂ r => h _ _ _ _ (h3 w₂ r)⟩
      · rename_i hop
        split at hh
        · rename_i ch x hop'; exact absurd hop' (hop ch x)
        · exact fun w₁ h₁ => uponE_mono (fun a' w' x => ⟨x.1, h _ _ _ _ x.2⟩) (fun f args w' x => ⟨x.1, x.2.1, x.2.2.mono fun _ _ _ y => h _ _ _ _ y⟩) (hh w₁ h₁)
    · rename_i hw; simp only [hw] at hh; exact h _ _ _ _ hh
def AnyR (P : Program) (main : Bool) (R : (Nat → Prop) → World → World → Prop) (D : (Nat → Prop) → World → World → Array Event → Prop) (c : Nat) (fn : FuncId) (md : Region.Mode) (ops : Array Oper) (Q : Act → List Value → (Nat → Prop) → World → Prop) (I : (Nat → Prop) → World → Prop) (fin : Nat) : Nat → Array Bool → Act → List Value → (Nat → Prop) → World → Prop
  | 0, listed, a, L, S, w => Region.ready md ops listed = [] ∧ Q a L S w
  | fuel + 1, listed, a, L, S, w =>
    (Region.ready md ops listed = [] → Q a L S w) ∧
    ∀ i ∈ Region.ready md ops listed, OpR P main R D c fn ops i (fun a' L' S' w' => (i ≠ fin → I S' w') ∧ AnyR P main R D c fn md ops Q I fin fuel (listed.setIfInBounds i true) a' L' S' w') a L S w
theorem OpR.rely (T : TermsG R D) {K : Act → List Value → (Nat → Prop) → World → Prop} (hK : ∀ a L S x y, K a L S x → R S x y → K a L S y) {i : Nat} {a : Act} {L : List Value} {S : Nat → Prop} {w w₁ : World} (h : OpR P main R D c fn ops i K a L S w) (r : R S w w₁) : OpR P main R D c fn ops i K a L S w₁ := by
  unfold OpR at *
  split
  · simp_all
  · rename_i o ho
    simp only [ho] at h
    split
    · rename_i hw
      simp only [hw, if_true] at h
      split
      · rename_i ch x hop
        simp only [hop] at h
        obtain ⟨L', h1, h2, h3⟩ := h
        exact ⟨L', h1, h2, fun w₂ h₂ => h3 w₂ (T.trans _ _ _ _ r h₂)⟩
      · rename_i hop
        split at h
        · rename_i ch x hop'; exact absurd hop' (hop ch x)
        · exact fun w₂ h₂ => h w₂ (T.trans _ _ _ _ r h₂)
    · rename_i hw; simp only [hw] at h; exact hK _ _ _ _ _ h r
theorem AnyR.rely (T : TermsG R D) (hIR : ∀ S x y, I S x → R S x y → I S y) (hQR : ∀ a L S x y, Q a L S x → R S x y → Q a L S y) :
    ∀ (fuel : Nat) (listed : Array Bool) (a : Act) (L : List Value) (S : Nat → Prop) (w w₁ : World), AnyR P main R D c fn md ops Q I fin fuel listed a L S w → R S w w₁ → AnyR P main R D c fn md ops Q I fin fuel listed a L S w₁
  | 0, _, _, _, _, _, _, h, r => ⟨h.1, hQR _ _ _ _ _ h.2 r⟩
  | fuel + 1, _, _, _, _, _, _, h, r => ⟨fun e => hQR _ _ _ _ _ (h.1 e) r, fun i hi => (h.2 i hi).rely T (fun a L S x y z r => ⟨fun e => hIR _ _ _ (z.1 e) r, AnyR.rely T hIR hQR fuel _ a L S x y z.2 r⟩) r⟩
variable {Stop : List Value → (Nat → Prop) → Goroutine → World → Prop} {b : Frame} {k : List Item} {cs : List Frame}
def SendOK (P : Program) (main : Bool) (R : (Nat → Prop) → World → World → Prop) (D : (Nat → Prop) → World → World → Array Event → Prop) (c : Nat) (ops : Array Oper) (Stop : List Value → (Nat → Prop) → Goroutine → World → Prop) : Prop :=
  (∀ o ∈ ops, ∀ ch x, o.op ≠ .send ch x) ∨ ∀ (v : Value) (L : List Value) (S : Nat → Prop) (g : Goroutine) (w : World), g.status = .running → (∀ w₁, R S w w₁ → stepG P main g w₁ = .comm g #[scase c v (.tuple #[])] true .send w₁ #[]) → (∀ w₁, R S w w₁ → RT P main R D (Stop L) S (Go.Conc.served g undef) w₁) → RT P main R D (Stop (v :: L)) S g w
theorem RT.opR (T : TermsG R D) (hsend : SendOK P main R D c ops Stop)
    (hf : b.fn = fn) (hk : b.kind ≠ .early) {i : Nat} {rest : List Nat} {a : Act} {L : List Value} {S : Nat → Prop} {w : World}
    (h : OpR P main R D c fn ops i (fun a' L' S' w' => RT P main R D (Stop L') S' (G (b.at a' (.inRegion ops rest :: k)) cs) w') a L S w) : RT P main R D (Stop L) S (G (b.at a (.inRegion ops (i :: rest) :: k)) cs) w := by
  unfold OpR at h
  cases ho : ops[i]? with
  | none => simp only [ho] at h
  | some o =>
    simp only [ho] at h
    have hfin : ∀ v, (b.at a (.inRegion ops (i :: rest) :: k)).finish v = b.at (a.put o.dst v) (.inRegion ops rest :: k) := fun v => by rw [Frame.finish_at, ho]; rfl
    by_cases hw : Region.wanted o (yielded ops a.tmps) = true
    · simp only [hw, if_true] at h
      split at h
      · rename_i ch x hop
        obtain ⟨L', h1, rfl, h3⟩ := h
        have hrun : ∀ w₁, (execOp a.eval o).run P w₁ = .ok (.comm #[scase c (a.eval x) (.tuple #[])] true .send) w₁ := fun w₁ => by
          unfold execOp; simp [hop, h1, scase]
        have hl : ∀ w₁, listed P b.fn a o w₁ = #[] := fun w₁ => by
          have : (execOp a.eval o).events P w₁ #[] = #[] := by unfold execOp; simp [hop]
          unfold listed; rw [this]; exact seen_none P _
        rcases hsend with hno | hsend
        · exact absurd hop (hno o (Array.mem_of_getElem? ho) ch x)
        refine hsend _ _ _ _ _ rfl (fun w₁ h₁ => ?_) (fun w₁ h₁ => ?_)
        · rw [stepG_comm ho hw hk (hrun w₁), hl]
        · have := h3 w₁ h₁
          show RT P main R D (Stop L') S { (G (b.at a (.inRegion ops (i :: rest) :: k)) cs) with frame := (b.at a (.inRegion ops (i :: rest) :: k)).finish undef, status := .running, offers := Option.none } w₁
          rw [hfin]
          exact this
      · rename_i hop
        refine .one rfl fun w₁ h₁ => ?_
        have := h w₁ h₁
        revert this
        cases hr : (execOp a.eval o).run P w₁ with
        | ok x w' =>
          cases x <;> simp only [uponE, false_imp_iff]
          · rw [stepG_value ho hw hk hr]; exact fun y => hf ▸ y
          · rw [stepG_none ho hw hk hr]; exact fun y => hf ▸ y
          · rw [stepG_enter ho hw hk hr]
            rintro ⟨rfl, y1, y2⟩
            rw [goes_go, grow_self]
            exact ⟨hf ▸ y1, y2 _ _ _ fun v S' w'' z => by rw [hfin]; exact z⟩
        | halt x w' => simp only [uponE, false_imp_iff]
    · simp only [hw, if_false, Bool.false_eq_true] at h
      have hw' : Region.wanted o (yielded ops a.tmps) = false := by simpa using hw
      refine .one rfl fun w₁ h₁ => ?_
      rw [stepG_unwanted ho hw', goes_go, grow_self]
      exact ⟨T.idle _ _, h.rely T h₁⟩
theorem anyR_sound (T : TermsG R D) (hsend : SendOK P main R D c ops Stop)
    (hf : b.fn = fn) (hk : b.kind ≠ .early) (hQ : ∀ a L S w, Q a L S w → RT P main R D (Stop L) S (G (b.at a k) cs) w) :
    ∀ (fuel t : Nat) (listed : Array Bool) (a : Act) (L : List Value) (S : Nat → Prop) (w : World), AnyR P main R D c fn md ops Q I fin fuel listed a L S w → RT P main R D (Stop L) S (G (b.at a (.inRegion ops (Region.linearise.go md ops fuel t listed []) :: k)) cs) w := by
  intro fuel
  induction fuel with
  | zero => intro t listed a L S w h; simp only [Region.linearise.go, List.reverse_nil]; exact RT.nil T (hQ _ _ _ _ h.2)
  | succ fuel ih =>
    intro t listed a L S w h
    obtain ⟨h₀, h₁⟩ := h
    simp only [Region.linearise.go]
    change RT P main R D (Stop L) S (G (b.at a (.inRegion ops (match (Region.ready md ops listed)[t % (Region.ready md ops listed).length]? with
      | some i => Region.linearise.go md ops fuel (t / (Region.ready md ops listed).length) (listed.setIfInBounds i true) [i]
      | none => [].reverse) :: k)) cs) w
    cases hi : (Region.ready md ops listed)[t % (Region.ready md ops listed).length]? with
    | none =>
      have hnil : Region.ready md ops listed = [] := by
        cases hr : Region.ready md ops listed with
        | nil => rfl
        | cons x xs =>
          rw [hr] at hi
          have hlt : t % (x :: xs).length < (x :: xs).length := Nat.mod_lt _ (by simp)
          simp at hi
          simp at hlt
          omega
      exact RT.nil T (hQ _ _ _ _ (h₀ hnil))
    | some i =>
      simp only []
      rw [linearise_go_acc, List.reverse_singleton, List.singleton_append]
      exact RT.opR T hsend hf hk (OpR_mono (fun a' L' S' w' x => ih _ _ a' L' S' w' x.2) (h₁ i (List.mem_of_getElem? hi)))
end
end Go.Proofs.YtpbbmagjhkakgaaGreatDoor.Lf
namespace Go.Proofs.YtpbbmagjhkakgaaGreatDoor.Lf
open Go Go.Conc
section
variable {P : Program} {main : Bool} {R : (Nat → Prop) → World → World → Prop} {D : (Nat → Prop) → World → World → Array Event → Prop} {c : Nat} {fn : FuncId} {ops : Array Oper} {Q : Act → List Value → (Nat → Prop) → World → Prop} {md : Region.Mode} {I : (Nat → Prop) → World → Prop} {fin : Nat}
def YieldsR (P : Program) (D : (Nat → Prop) → World → World → Array Event → Prop) (fn : FuncId) (ops : Array Oper) (I : (Nat → Prop) → World → Prop) (o : Oper) (v : Value) (a : Act) : Prop :=
  (∀ ch x, o.op ≠ .send ch x) ∧ Region.wanted o (yielded ops a.tmps) = true ∧ ∀ S w, I S w → (execOp a.eval o).run P w = .ok (.value v) w ∧ D S w w (listed P fn a o w)
theorem YieldsR.of_same {o : Oper} {v : Value} {a a' : Act} (hy : YieldsR P D fn ops I o v a) (he : execOp a'.eval o = execOp a.eval o) (hw : Region.wanted o (yielded ops a'.tmps) = Region.wanted o (yielded ops a.tmps)) : YieldsR P D fn ops I o v a' := by
  unfold YieldsR listed at *
  rw [he, hw]
  exact hy
theorem YieldsR.opR (hIR : ∀ S x y, I S x → R S x y → I S y) {i : Nat} {o : Oper} {v : Value} {a : Act} (hi : ops[i]? = some o) (hy : YieldsR P D fn ops I o v a) {K : Act → List Value → (Nat → Prop) → World → Prop} (hK : ∀ a L S x y, K a L S x → R S x y → K a L S y) {L : List Value} {S : Nat → Prop} {w : World} (hI : I S w) (h : K (a.put o.dst v) L S w) : OpR P main R D c fn ops i K a L S w := by
  unfold OpR
  simp only [hi]
  obtain ⟨hs, hw, hv⟩ := hy
  simp only [hw, if_true]
  intro w₁ h₁
  rw [(hv S w₁ (hIR _ _ _ hI h₁)).1]
  simp only [uponE, grow_self]
  exact ⟨(hv S w₁ (hIR _ _ _ hI h₁)).2, hK _ _ _ _ _ h h₁⟩
theorem eval_apart {o : Oper} {a : Act} {dst : Option Tmp} {v : Value} (h : ∀ d, dst = some d → d ∉ o.looksAt ops) {x : Operand} (hx : x ∈ o.op.operands) : (a.put dst v).eval x = a.eval x :=
  Act.eval_put fun d hd hxd => h d hd (by
    subst hxd
    exact List.mem_append_left _ (List.mem_filterMap.2 ⟨.tmp d, by simpa using hx, rfl⟩))
theorem OpR_putIf {j : Nat} {oi oj : Oper} {v : Value} (hj : ops[j]? = some oj) (hap : oi.apart ops oj = true) (hsi : ∀ cs b, oi.op ≠ .select cs b) (hsj : ∀ cs b, oj.op ≠ .select cs b) {K : Act → List Value → (Nat → Prop) → World → Prop} {a : Act} {L : List Value} {S : Nat → Prop} {w : World}
    (hy : YieldsR P D fn ops I oi v a) (h : OpR P main R D c fn ops j K (a.put oi.dst v) L S w) : OpR P main R D c fn ops j (fun a' L' S' w' => YieldsR P D fn ops I oi v a' ∧ K (a'.put oi.dst v) L' S' w') a L S w := by
  obtain ⟨h1, h2, h3⟩ := Oper.apart_spec hap
  have keep : ∀ u, YieldsR P D fn ops I oi v (a.put oj.dst u) := fun u => hy.of_same (execOp_put oi hsi a oj.dst u h3) (wanted_put oi a oj.dst u h3)
  unfold OpR at *
  simp only [hj] at *
  rw [wanted_put oj a oi.dst v h1] at h
  split
  · rename_i hw
    simp only [hw, if_true] at h
    split
    · rename_i ch x hop
      simp only [hop] at h
      obtain ⟨L', e1, e2, e3⟩ := h
      rw [eval_apart h1 (by simp [hop, Op.operands])] at e1
      rw [eval_apart h1 (by simp [hop, Op.operands])] at e2
      exact ⟨L', e1, e2, fun w₂ r => ⟨keep _, by rw [← Act.put_comm a v undef h2]; exact e3 w₂ r⟩⟩
    · rename_i hop
      split at h
      · rename_i ch x hop'; exact absurd hop' (hop ch x)
      · intro w₁ h₁
        have h := h w₁ h₁
        unfold listed at *
        rw [execOp_put oj hsj a oi.dst v h1] at h
        generalize (execOp a.eval oj).run P w₁ = r at *
        cases r with
        | ok n w' =>
          cases n <;> simp only [uponE] at h ⊢
          case value u => exact ⟨h.1, keep u, by rw [← Act.put_comm a v u h2]; exact h.2⟩
          case skip => exact ⟨h.1, keep _, by rw [← Act.put_comm a v undef h2]; exact h.2⟩
          case enter f args => exact ⟨h.1, h.2.1, h.2.2.mono fun u S' w'' z => ⟨keep u, by rw [← Act.put_comm a v u h2]; exact z⟩⟩
        | halt x w' => simp only [uponE] at h
  · rename_i hw
    simp only [hw] at h
    exact ⟨keep _, by rw [← Act.put_comm a v undef h2]; exact h⟩
theorem anyR_first (T : TermsG R D) (hIR : ∀ S x y, I S x → R S x y → I S y) (hQR : ∀ a L S x y, Q a L S x → R S x y → Q a L S y) {i : Nat} {oi : Oper} {v : Value} (hi : ops[i]? = some oi)
    (hsel : ∀ (j : Nat) (o : Oper) cs b, ops[j]? = some o → o.op ≠ .select cs b) (hfin : ∀ o, ops[fin]? = some o → ∃ e ∈ o.after, Region.binds md e = true ∧ e.on = i) :
    ∀ (fuel : Nat) (listed : Array Bool) (a : Act) (L : List Value) (S : Nat → Prop) (w : World),
      (∀ j oj, ops[j]? = some oj → j ≠ i → listed.getD j true = false → (∀ e ∈ oj.after, Region.binds md e = true → e.on ≠ i) → oi.apart ops oj = true) →
      i ∈ Region.ready md ops listed → YieldsR P D fn ops I oi v a → I S w →
      AnyR P main R D c fn md ops Q I fin fuel (listed.setIfInBounds i true) (a.put oi.dst v) L S w → AnyR P main R D c fn md ops Q I fin (fuel + 1) listed a L S w := by
  have hK : ∀ (q : Prop) fuel listed, ∀ a L S x y, ((q → I S x) ∧ AnyR P main R D c fn md ops Q I fin fuel listed a L S x) → R S x y → ((q → I S y) ∧ AnyR P main R D c fn md ops Q I fin fuel listed a L S y) :=
    fun q fuel listed a L S x y h r => ⟨fun e => hIR _ _ _ (h.1 e) r, AnyR.rely T hIR hQR fuel listed a L S x y h.2 r⟩
  intro fuel
  induction fuel with
  | zero =>
    intro listed a L S w _ hr hy hS H
    refine ⟨fun h => (by rw [h] at hr; cases hr), fun j hj => ?_⟩
    by_cases hji : j = i
    · subst hji; exact hy.opR hIR hi (hK _ _ _) hS ⟨fun _ => hS, H⟩
    · have := ready_mono hj hji
      rw [H.1] at this
      cases this
  | succ fuel ih =>
    intro listed a L S w hfree hr hy hS H
    refine ⟨fun h => (by rw [h] at hr; cases hr), fun j hj => ?_⟩
    by_cases hji : j = i
    · subst hji; exact hy.opR hIR hi (hK _ _ _) hS ⟨fun _ => hS, H⟩
    · have h1 := H.2 j (ready_mono hj hji)
      obtain ⟨hjun, oj, hoj, hall⟩ := mem_ready.1 hj
      have hnot : ∀ e ∈ oj.after, Region.binds md e = true → e.on ≠ i := fun e he hb heq => by
        have h1 := hall e he hb
        have h0 := (mem_ready.1 hr).1
        rw [heq] at h1
        rcases Nat.lt_or_ge i listed.size with h' | h'
        · simp [h'] at h0 h1; rw [h0] at h1; cases h1
        · simp [Array.getElem?_eq_none h'] at h1
      have hjf : j ≠ fin := by
        rintro rfl
        obtain ⟨e, he, hb, heq⟩ := hfin oj hoj
        exact hnot e he hb heq
      have h2 := OpR_putIf hoj (hfree j oj hoj hji hjun hnot) (fun cs b => hsel i oi cs b hi) (fun cs b => hsel j oj cs b hoj) hy h1
      have hfree' : ∀ k ok, ops[k]? = some ok → k ≠ i → (listed.setIfInBounds j true).getD k true = false →
          (∀ e ∈ ok.after, Region.binds md e = true → e.on ≠ i) → oi.apart ops ok = true := fun k ok hk hki hun hno => by
        refine hfree k ok hk hki ?_ hno
        by_cases hjk : j = k
        · subst hjk; exact hjun
        · rw [getD_set_ne true hjk] at hun; exact hun
      refine OpR_mono (fun a' L' S' w' h3 => ⟨h3.2.1, ih (listed.setIfInBounds j true) a' L' S' w' hfree' (ready_mono hr (Ne.symm hji)) h3.1 (h3.2.1 hjf) ?_⟩) h2
      rw [Array.setIfInBounds_comm _ _ hji]
      exact h3.2.2
theorem anyR_take (T : TermsG R D) (hIR : ∀ S x y, I S x → R S x y → I S y) (hQR : ∀ a L S x y, Q a L S x → R S x y → Q a L S y) (i : Nat) {oi : Oper} {v : Value} {fuel : Nat} {listed : Array Bool} {a : Act} {L : List Value} {S : Nat → Prop} {w : World} (hi : ops[i]? = some oi)
    (hs : Region.noSelect ops = true) (hf : Region.free md ops listed i = true) (hr : (Region.ready md ops listed).contains i = true) (hfin : ((ops[fin]?).map fun o => o.after.any fun e => Region.binds md e && e.on == i).getD true = true)
    (hy : YieldsR P D fn ops I oi v a) (hS : I S w) (h : AnyR P main R D c fn md ops Q I fin fuel (listed.setIfInBounds i true) (a.put oi.dst v) L S w) : AnyR P main R D c fn md ops Q I fin (fuel + 1) listed a L S w :=
  anyR_first T hIR hQR hi (Region.noSelect_spec hs) (fun o ho => by
    rw [ho] at hfin
    simp only [Option.map_some, Option.getD_some] at hfin
    obtain ⟨e, he, hb⟩ := Array.any_eq_true'.1 hfin
    simp only [Bool.and_eq_true, beq_iff_eq] at hb
    exact ⟨e, he, hb.1, hb.2⟩) fuel listed a L S w (Region.free_spec hi hf) (by simpa using hr) hy hS h
theorem anyR_one {i : Nat} {fuel : Nat} {listed : Array Bool} {a : Act} {L : List Value} {S : Nat → Prop} {w : World} (hr : Region.ready md ops listed = [i])
    (h : OpR P main R D c fn ops i (fun a' L' S' w' => (i ≠ fin → I S' w') ∧ AnyR P main R D c fn md ops Q I fin fuel (listed.setIfInBounds i true) a' L' S' w') a L S w) : AnyR P main R D c fn md ops Q I fin (fuel + 1) listed a L S w :=
  ⟨fun h0 => (by rw [hr] at h0; cases h0), fun j hj => (by rw [hr] at hj; simp at hj; subst hj; exact h)⟩
theorem anyR_done {listed : Array Bool} {a : Act} {L : List Value} {S : Nat → Prop} {w : World} (hr : Region.ready md ops listed = []) (h : Q a L S w) : ∀ fuel, AnyR P main R D c fn md ops Q I fin fuel listed a L S w
  | 0 => ⟨hr, h⟩
  | _ + 1 => ⟨fun _ => h, fun i hi => by rw [hr] at hi; cases hi⟩
theorem OpR.call (T : TermsG R D) {i : Nat} {o : Oper} {f : FuncId} {fn' : Func} {args : Array Operand} {ats : Array TypeId} {K : Act → List Value → (Nat → Prop) → World → Prop} {a : Act} {L : List Value} {S : Nat → Prop} {w : World} (ho : ops[i]? = some o) (hw : Region.wanted o (yielded ops a.tmps) = true) (hop : o.op = .call { callee := .value (.func f), args, argTypes := ats })
    (hf : P.funcs[f]? = some fn') (hname : (fn'.name == "runtime.NumGoroutine") = false) (hb : fn'.body.isNone = false) (h : ∀ w₁, R S w w₁ → RCalls P main R D f (args.map a.eval) S w₁ (fun v S' w'' => K (a.put o.dst v) L S' w'')) : OpR P main R D c fn ops i K a L S w := by
  unfold OpR
  simp only [ho, hw, if_true, hop]
  intro w₁ h₁
  have hl : listed P fn a o w₁ = #[] := by unfold listed; rw [events_call_body hop hf hname hb]; exact seen_none P _
  rw [run_call_body hop hf hname hb, hl]
  exact ⟨rfl, T.idle _ _, h w₁ h₁⟩
theorem OpR.op {i : Nat} {o : Oper} {K : Act → List Value → (Nat → Prop) → World → Prop} {a : Act} {L : List Value} {S : Nat → Prop} {w : World} (ho : ops[i]? = some o) (hw : Region.wanted o (yielded ops a.tmps) = true) (hns : ∀ ch x, o.op ≠ .send ch x)
    (h : ∀ w₁, R S w w₁ → ∀ K' : Act → World → Prop, (∀ a' w', D S w₁ w' (listed P fn a o w₁) ∧ K a' L (grow S w₁ w') w' → K' a' w') → uponK o a K' ((execOp a.eval o).run P w₁)) : OpR P main R D c fn ops i K a L S w := by
  unfold OpR
  simp only [ho, hw, if_true]
  intro w₁ h₁
  have := h w₁ h₁ _ (fun _ _ x => x)
  revert this
  cases (execOp a.eval o).run P w₁ with
  | ok n w' => cases n <;> first | exact id | exact False.elim
  | halt x w' => exact False.elim
theorem OpR.send {i : Nat} {o : Oper} {K : Act → List Value → (Nat → Prop) → World → Prop} {a : Act} {L L' : List Value} {S : Nat → Prop} {w : World} {ch x : Operand} (ho : ops[i]? = some o) (hw : Region.wanted o (yielded ops a.tmps) = true) (hop : o.op = .send ch x) (h1 : a.eval ch = .chan (some c)) (h2 : L = a.eval x :: L') (h3 : ∀ w₂, R S w w₂ → K (a.put o.dst undef) L' S w₂) : OpR P main R D c fn ops i K a L S w := by
  unfold OpR
  simp only [ho, hw, if_true, hop]
  exact ⟨L', h1, h2, h3⟩
variable {Stop : List Value → (Nat → Prop) → Goroutine → World → Prop} {b : Frame} {k : List Item} {cs : List Frame}
theorem RT.drawn (T : TermsG R D) (hsend : SendOK P main R D c ops Stop)
    (hf : b.fn = fn) (hk : b.kind ≠ .early) (hm : P.follows .mixedOrders = true) {id : Nat} {a : Act} {L : List Value} {S : Nat → Prop} {w : World} (hQ : ∀ a L S w, Q a L S w → RT P main R D (Stop L) S (G (b.at a k) cs) w)
    (h : ∀ w₁, R S w w₁ → AnyR P main R D c fn .any ops Q I fin ops.size (Array.replicate ops.size false) a L S { w₁ with drawn := w₁.drawn + 1 }) : RT P main R D (Stop L) S (G (b.at a (.code (.region id ops true) :: k)) cs) w :=
  RT.draw T fun w₁ h₁ t => by
    simp only [Region.schedule, hm, Bool.true_or, if_true]
    exact anyR_sound T hsend hf hk hQ ops.size t _ a L S _ (h w₁ h₁)
end
end Go.Proofs.YtpbbmagjhkakgaaGreatDoor.Lf
namespace Go.Proofs.YtpbbmagjhkakgaaGreatDoor.Lf
open Go Go.Conc
section
variable {P : Program} {c B₀ n : Nat} {R0 : (Nat → Prop) → World → World → Prop} {D0 : (Nat → Prop) → World → World → Array Event → Prop} {RB : (Nat → Prop) → World → World → Prop} {DB : (Nat → Prop) → World → World → Array Event → Prop} {CA CB : (Nat → Prop) → Touch → Prop}
theorem SB.rely (H : Pair c B₀ R0 D0 RB DB CA CB) {L : List Value} {T : Nat → Prop} {g : Goroutine} {w w' : World} (h : SB P c RB DB CB n L T g w) (hr : RB T w w') : SB P c RB DB CB n L T g w' := by
  cases h with
  | own f h1 h2 h3 => exact .own f h1 (fun w₁ h₁ => h2 w₁ (H.tB.trans _ _ _ _ hr h₁)) (fun w₁ h₁ => h3 w₁ (H.tB.trans _ _ _ _ hr h₁))
  | send h1 h2 h3 => exact .send h1 (fun w₁ h₁ => h2 w₁ (H.tB.trans _ _ _ _ hr h₁)) (fun w₁ h₁ => h3 w₁ (H.tB.trans _ _ _ _ hr h₁))
  | close h1 h2 h3 h4 => exact .close h1 h2 (fun w₁ buf s r h₁ => h3 w₁ buf s r (H.tB.trans _ _ _ _ hr h₁)) h4
theorem SB.of_walk (H : Pair c B₀ R0 D0 RB DB CA CB) {L : List Value} {T : Nat → Prop} {g : Goroutine} {w : World} (h : RT P false RB DB (fun T g w => SB P c RB DB CB n L T g w) T g w) : SB P c RB DB CB n L T g w := by
  induction h with
  | stop h => exact h _ (H.reflB _ _)
  | step f hs h _ ih => exact .own f hs h ih
theorem SB.walk (H : Pair c B₀ R0 D0 RB DB CA CB) {L : List Value} {T : Nat → Prop} {g : Goroutine} {w : World} (h : SB P c RB DB CB n L T g w) : RT P false RB DB (fun T g w => SB P c RB DB CB n L T g w) T g w := .stop fun _ r => h.rely H r
theorem SB.sends (H : Pair c B₀ R0 D0 RB DB CA CB) (ops : Array Oper) : SendOK P false RB DB c ops (fun L T g w => SB P c RB DB CB n L T g w) :=
  .inr fun v L S g w hs h1 h2 => SB.walk H (.send (y := .tuple #[]) hs (fun w₁ h₁ => ⟨#[], h1 w₁ h₁, fun e he => by simp at he⟩) (fun w₁ h₁ => SB.of_walk H (h2 w₁ h₁)))
theorem SA.of_walk {z : Value} {K : Goroutine → World → Prop} (H : Pair c B₀ R0 D0 RB DB CA CB) {L : List Value} {S : Nat → Prop} {g : Goroutine} {w : World} (h : RT P true R0 D0 (fun S g w => SA P c z R0 D0 CA K L S g w) S g w) : SA P c z R0 D0 CA K L S g w := by
  induction h with
  | stop h => exact h _ (H.refl0 _ _)
  | step f hs h _ ih => exact .own f hs h ih
theorem SA.walk {z : Value} {K : Goroutine → World → Prop} (H : Pair c B₀ R0 D0 RB DB CA CB) {L : List Value} {S : Nat → Prop} {g : Goroutine} {w : World} (h : SA P c z R0 D0 CA K L S g w) : RT P true R0 D0 (fun S g w => SA P c z R0 D0 CA K L S g w) S g w := .stop fun _ r => h.rely H r
end
end Go.Proofs.YtpbbmagjhkakgaaGreatDoor.Lf
