import Derived.Test.YtpbbmagjhkakgaaGreatDoorSnHelpToSnInv
import Derived.Test.YtpbbmagjhkakgaaGreatDoorEdTake3ToWindow
import Derived.Test.YtpbbmagjhkakgaaGreatDoorLfWalkToLfFitX
namespace Go.Proofs.YtpbbmagjhkakgaaGreatDoor.Ev
open Go.RowKit Go.Deep Go.Maps Go.Proofs.YtpbbmagjhkakgaaGreatDoor.Lf
theorem oldF_lt (t : Int) : ∀ (C : List EvC) (j : Nat) (c : EvC), C[j]? = some c → j < oldF t C → c.time < t
  | [], j, c, h, _ => by simp at h
  | d :: C, j, c, h, hj => by
    simp only [oldF] at hj
    split at hj
    · omega
    · rename_i hd
      cases j with
      | zero => simp at h; subst h; omega
      | succ j => exact oldF_lt t C j c (by simpa using h) (by omega)
theorem step_drop {x : BT Pay} {name : ByteArray} {L : List (Int × Int)} {B0 mb wtb : Nat} {retain : Int} {i : Nat} {w : World} (h : WInv x name L B0 mb wtb retain i w) (hg : Good x) (hreach : reachT (coreT x) ≤ retain) (hi : i < 25) (ao : Option Addr) (cap : Nat)
    (hA : StrsIn w ao (atomsAt L i)) (hcap : (atomsAt L i).length ≤ cap) :
    HCalls Tryz.prog 24 #[.pointer (some ⟨mb, 0, none⟩), .int .i64 (timeZ L (i + 1)), .slice ao (atomsAt L i).length cap] w fun e W' => e = .returned (.int .i64 0) ∧ WInv x name L B0 mb wtb retain (i + 1) W' ∧ SpareR (fun b => B0 ≤ b) w W' := by
  obtain ⟨⟨no, ncap, ea, ecap, C, E, pa, pcap, sp, s, dr, h1, h2, h3, h4, h5, h6, h7, h8, h9, h10, h11, h12⟩, hm, hwt⟩ := h
  have hT := timeZ_range L (i + 1)
  have hTs := timeZ_step L i
  have hpk := pickZ_range (L.getD i (0, 0)).2 8 (by decide)
  have hnx : nextN C = (i : Int) + 1 := by
    unfold nextN
    cases hc : C.getLast? with
    | none => have := h5 (List.getLast?_eq_none_iff.1 hc); simp [this]
    | some c => simp [(h6 c hc).1]
  obtain ⟨k, hk⟩ : ∃ k, oldF (timeZ L (i + 1) - retain) C = k := ⟨_, rfl⟩
  have hkn : k ≤ C.length := by rw [← hk]; exact oldF_le _ _
  have hdr : ∀ d ∈ (E.take k).reverse.map Pe.hap ++ dr, d.1 < timeZ L (i + 1) - retain := by
    intro d hd
    rcases List.mem_append.1 hd with hd | hd
    · obtain ⟨e, he, rfl⟩ := List.mem_map.1 hd
      obtain ⟨j, hj⟩ := List.mem_iff_getElem?.1 (List.mem_reverse.1 he)
      rw [List.getElem?_take] at hj
      split at hj
      · rename_i hjk
        have hjc : j < C.length := by omega
        have hin := h1.ins j C[j] e (List.getElem?_eq_getElem hjc) hj
        have hlt := oldF_lt (timeZ L (i + 1) - retain) C j C[j] (List.getElem?_eq_getElem hjc) (by omega)
        show e.time < _
        rw [← hin.time]
        exact hlt
      · cases hj
    · have := h3 d hd; omega
  have hev := event_drop h1 (timeZ L (i + 1)) ao (atomsAt L i) cap (by omega) (fun c hc => by rw [(h6 c hc).2]; omega) k hk (by omega) hA
    (Nat.le_trans (atomsTo_len _ 3) (by decide)) hcap (atoms_names _) (atoms_once _ (by omega)) (by omega) (by omega) (fun t ht => by simp at ht; subst ht; omega)
  have hnd : NumT (KAt (fun _ => x) 1) (coreT x) (nAt (fun _ => x) 0) := (putK_num (coreT x) [] (fun i k hk => by simp at hk)).2
  refine (monEvent hm (D := fun W' => WInv x name L B0 mb wtb retain (i + 1) W' ∧ SpareR (fun b => B0 ≤ b) w W') (fun w τ d x => ⟨x.1.tapeR τ d, x.2.tapeR τ d⟩) (hev.mono ?_))
  rintro e W' ⟨rfl, c, ea', ecap', ss', k1, k2, k3, k4, k5, k6⟩
  refine ⟨rfl, ?_⟩
  obtain ⟨t, ht, t1, t2, t3, t4⟩ := k6 0 s _ rfl rfl
  have hlen := k1.plen
  have hss : ss' = [t] := by
    cases ss' with
    | nil => simp at ht
    | cons a l =>
      cases l with
      | nil => simp at ht; rw [ht]
      | cons b l => simp at hlen
  subst hss
  have hown : ∀ b, Own46 wtb ea [s] b → B0 ≤ b := by
    rintro b (rfl | ⟨a, e1, rfl⟩ | ⟨s', hs', e1 | e1⟩)
    · exact hwt
    · exact h10 a e1
    · simp at hs'; subst hs'; rw [e1]; exact h11
    · simp at hs'; subst hs'; exact h12 b e1
  have hsr : SpareR (fun b => B0 ≤ b) w W' := k4.mono fun b _ hb => hown b hb
  have hnode : ((polOf name sp s.stb x).node : Int) = nAt (fun _ => x) 0 := Int.toNat_of_nonneg (nAt_nonneg _ _)
  refine ⟨⟨⟨no, ncap, ea', ecap', C.drop k ++ [c], _, pa, pcap, sp, t, (E.take k).reverse.map Pe.hap ++ dr, ?_, (h2.drop k).next (nextN C), ?_, ?_, ?_, ?_, ?_, ?_, ?_, ?_, ?_, ?_⟩, ?_, hwt⟩, hsr⟩
  · rw [t1]; exact k1
  · exact hdr
  · simp; omega
  · intro e; simp at e
  · intro c' hc'
    simp at hc'
    subst hc'
    exact ⟨by rw [k3, hnx]; simp, k2⟩
  · intro c' hc'
    rcases List.mem_append.1 hc' with h | h
    · exact h7 c' (List.mem_of_mem_drop h)
    · simp at h; subst h; omega
  · rw [t2, h8]
  · rw [t3, h9, hnode, (h2.drop k).says (nextN C) hg hnd (fun d hd => by have := hdr d hd; omega), hnx]
    rfl
  · intro a ha
    rcases k5 a ha with ⟨a0, e1, e2⟩ | e
    · rw [← e2]; exact h10 a0 e1
    · have := heap_lt h1.cell; omega
  · rw [t1]; exact h11
  · intro g hg
    rcases t4 with e | ⟨g', e1, e2⟩
    · exact h12 g (e ▸ hg)
    · rw [e1] at hg; cases hg; have := heap_lt h1.cell; omega
  · refine (k4.block mb (heap_lt hm) ?_).trans hm
    rintro (e | ⟨a, e1, e2⟩ | hM)
    · subst e; rw [h1.cell] at hm; cases hm
    · have hb : (Value.slice ea C.length ecap).ownBlock = some mb := by rw [e1]; rw [← e2]; rfl
      obtain ⟨cs, hcs⟩ := own_tag h1.evs hb
      rw [hm] at hcs; cases hcs
    · obtain ⟨cs, t', ht', e | e⟩ := Ms.tag h1.sok hM
      · rw [hm] at ht'; cases ht'; cases e
      · rw [hm] at ht'; cases ht'; cases e
end Go.Proofs.YtpbbmagjhkakgaaGreatDoor.Ev
namespace Go.Proofs.YtpbbmagjhkakgaaGreatDoor.Lf
open Go Go.Conc
variable {P : Program} {K : Goroutine → World → Prop} {b : Frame} {k : List Item} {cs : List Frame} {a : Act} {w : World}
def unseq : List Code → Code → Code
  | [], z => z
  | c :: l, z => .seq c (unseq l z)
def wps (P : Program) : List Code → (Act → World → Prop) → Act → World → Prop
  | [], J, a, w => J a w
  | c :: l, J, a, w => c.wp P (fun e a' w' => e = .normal ∧ wps P l J a' w') a w
theorem wps_steps {z : Code} {J : Act → World → Prop} : ∀ (l : List Code) (a : Act) (w : World), wps P l J a w → ∃ a' w', J a' w' ∧ Steps P (lone (b.at a (.code (unseq l z) :: k)) cs w) (lone (b.at a' (.code z :: k)) cs w')
  | [], a, w, h => ⟨a, w, h, .refl _ _⟩
  | c :: l, a, w, h => by
    obtain ⟨e, a1, w1, h1, h2⟩ := h b (.code (unseq l z) :: k) cs
    obtain ⟨rfl, h1⟩ := h1
    obtain ⟨a', w', h3, h4⟩ := wps_steps l a1 w1 h1
    exact ⟨a', w', h3, .head step_seq (Steps.trans h2 h4)⟩
theorem LeadsR.pieces (hP : Plain P) (l : List Code) {z : Code} (J : Act → World → Prop) (hJ : ∀ a w τ d, J a w → J a (re w τ d)) (hi : ∀ it ∈ k, okItem it) (hc : ∀ fr ∈ cs, okFrame fr) (h : ∀ τ d, wps P l J a (re w τ d))
    (hk : ∀ a' w', J a' w' → LeadsR P K (G (b.at a' (.code z :: k)) cs) w') : LeadsR P K (G (b.at a (.code (unseq l z) :: k)) cs) w := by
  have h1 : LeadsR P (fun g w' => ∃ a', J a' w' ∧ g = G (b.at a' (.code z :: k)) cs) (G (b.at a (.code (unseq l z) :: k)) cs) w := by
    refine .of_steps hP ?_ (fine_at hi hc) fun τ d => ?_
    · rintro g w τ d ⟨a', h1, h2⟩
      exact ⟨a', hJ _ _ _ _ h1, h2⟩
    · obtain ⟨a', w', h1, h2⟩ := wps_steps (b := b) (k := k) (cs := cs) (z := z) l a (re w τ d) (h τ d)
      exact ⟨_, w', h2, G_not_lost _ _, fun _ => ⟨a', h1, rfl⟩⟩
  refine h1.trans ?_
  rintro g w' ⟨a', h1, rfl⟩
  exact hk a' w' h1
theorem bodyPost_re {fn : Func} {R : Ending → World → Prop} (hR : ∀ e w τ d, R e w → R e (re w τ d)) : ∀ e a w τ d, bodyPost P fn R e a w → bodyPost P fn R e a (re w τ d) := by
  intro e a w τ d h
  cases e with
  | normal => obtain ⟨hd, v, hr, hv⟩ := h; exact ⟨hd, v, results_re hr τ d, hR _ _ _ _ hv⟩
  | ret => obtain ⟨hd, v, hr, hv⟩ := h; exact ⟨hd, v, results_re hr τ d, hR _ _ _ _ hv⟩
  | panic chain => obtain ⟨hd, hv⟩ := h; exact ⟨hd, hR _ _ _ _ hv⟩
  | exit id => exact h
  | goto l => exact h
  | outgrown => exact hR _ _ _ _ h
theorem LeadsR.last (hP : Plain P) {f : FuncId} {fn : Func} {z : Code} {R : Ending → World → Prop} (hc : ∀ fr ∈ cs, okFrame fr) (hf : P.funcs[f]? = some fn) (hR : ∀ e w τ d, R e w → R e (re w τ d)) (hno : ∀ w, ¬ R .outgrown w)
    (h : ∀ τ d, z.wp P (bodyPost P fn R) a (re w τ d)) : LeadsR P (fun g w' => ∃ e fr, g = G fr cs ∧ okFrame fr ∧ R e w' ∧ fr.fn = f ∧ fr.leaving P w' e) (G ((base f).at a [.code z]) cs) w := by
  refine LeadsR.code (Q := bodyPost P fn R) (HWp.of_wp hP (bodyPost_re hR) (fun a w x => hno w x) h) ⟨fun _ h => (by cases h), hc, fun _ _ _ x => x.elim, fun _ _ _ x => x.elim⟩ fun e a' w' g h1 h2 => ?_
  cases e with
  | normal =>
    cases h2
    obtain ⟨hd, v, hr, hv⟩ := h1
    exact LeadsR.move hP (fine_G (okFrame_at (fun _ h => by cases h)) hc) (fun _ => .one step_end) fun hf' => .here fun τ d => ⟨.returned v, _, rfl, hf'.ok.frame, hR _ _ _ _ hv, rfl, rfl, hd, rfl, fn, hf, results_re hr τ d⟩
  | ret =>
    obtain ⟨todo, h3, rfl⟩ := h2
    obtain ⟨hd, v, hr, hv⟩ := h1
    exact .here fun τ d => ⟨.returned v, _, rfl, h3, hR _ _ _ _ hv, rfl, rfl, hd, rfl, fn, hf, results_re hr τ d⟩
  | panic chain =>
    obtain ⟨todo, h3, rfl⟩ := h2
    obtain ⟨hd, hv⟩ := h1
    exact .here fun τ d => ⟨.panicked chain, _, rfl, h3, hR _ _ _ _ hv, rfl, rfl, hd, fn, hf⟩
  | exit id => exact h1.elim
  | goto l => exact h1.elim
  | outgrown => exact h2.elim
theorem LeadsR.hpiece {c : Code} (J : Act → World → Prop) (hi : ∀ it ∈ k, okItem it) (hc : ∀ fr ∈ cs, okFrame fr) (h : HWp P c (fun e a' w' => e = .normal ∧ J a' w') a w) (hk : ∀ a' w', J a' w' → LeadsR P K (G (b.at a' k) cs) w') : LeadsR P K (G (b.at a (.code c :: k)) cs) w :=
  LeadsR.code h ⟨hi, hc, fun _ _ _ x => (by cases x.1), fun _ _ _ x => (by cases x.1)⟩ fun e a' w' g x y => by
    obtain ⟨rfl, x⟩ := x
    obtain rfl : g = _ := y
    exact hk a' w' x
theorem HWp.seqL (hP : Plain P) {x y : Code} {Q : Exit → Act → World → Prop} (J : Act → World → Prop) (hJ : ∀ a w τ d, J a w → J a (re w τ d)) (h : ∀ τ d, x.wp P (fun e a' w' => e = .normal ∧ J a' w') a (re w τ d)) (hk : ∀ a w, J a w → HWp P y Q a w) : HWp P (.seq x y) Q a w :=
  HWp.seq' hP J ((HWp.of_wp hP (Q := fun e a' w' => e = .normal ∧ J a' w') (fun e a w τ d x => ⟨x.1, hJ _ _ _ _ x.2⟩) (fun a w x => by cases x.1) h).mono fun e a w x => by obtain ⟨rfl, x⟩ := x; exact x) hk
theorem HWp.seqH (hP : Plain P) {x y : Code} {Q : Exit → Act → World → Prop} (J : Act → World → Prop) (h : HWp P x (fun e a' w' => e = .normal ∧ J a' w') a w) (hk : ∀ a w, J a w → HWp P y Q a w) : HWp P (.seq x y) Q a w :=
  HWp.seq' hP J (h.mono fun e a w x => by obtain ⟨rfl, x⟩ := x; exact x) hk
theorem HWp.of_lead {c : Code} {J : Act → World → Prop} (h : ∀ (b : Frame) (k : List Item) (cs : List Frame), (∀ it ∈ k, okItem it) → (∀ fr ∈ cs, okFrame fr) → LeadsR P (fun g w' => ∃ a', J a' w' ∧ g = G (b.at a' k) cs) (G (b.at a (.code c :: k)) cs) w) : HWp P c (fun e a' w' => e = .normal ∧ J a' w') a w :=
  fun b k cs hb => (h b k cs hb.items hb.frames).mono fun _ _ ⟨a', h1, h2⟩ => ⟨.normal, a', ⟨rfl, h1⟩, h2⟩
theorem HWp.blockN (hP : Plain P) {id : Nat} {c : Code} {J : Act → World → Prop} (hJ : ∀ a w τ d, J a w → J a (re w τ d)) (h : HWp P c (fun e a' w' => e = .normal ∧ J a' w') a w) : HWp P (.block id c) (fun e a' w' => e = .normal ∧ J a' w') a w :=
  HWp.block hP (fun a w τ d x => ⟨rfl, hJ _ _ _ _ x.2⟩) (h.mono fun e a w x => by obtain ⟨rfl, x⟩ := x; exact ⟨rfl, x⟩)
theorem HWp.loneN (hP : Plain P) {c : Code} {J : Act → World → Prop} (hJ : ∀ a w τ d, J a w → J a (re w τ d)) (h : ∀ τ d, c.wp P (fun e a' w' => e = .normal ∧ J a' w') a (re w τ d)) : HWp P c (fun e a' w' => e = .normal ∧ J a' w') a w :=
  HWp.of_wp hP (fun e a w τ d x => ⟨x.1, hJ _ _ _ _ x.2⟩) (fun a w x => by cases x.1) h
theorem HWp.blockLoop (hP : Plain P) {id : Nat} {c : Code} (I : Nat → Act → World → Prop) (J : Act → World → Prop) (hJ : ∀ a w τ d, J a w → J a (re w τ d)) (n₀ : Nat) (h₀ : I n₀ a w)
    (round : ∀ n a w, I n a w → HWp P c (fun e a' w' => (e = .normal ∧ ∃ m, m < n ∧ I m a' w') ∨ (e = .exit id ∧ J a' w')) a w) : HWp P (.block id (.loop c)) (fun e a' w' => e = .normal ∧ J a' w') a w := by
  refine HWp.block hP (fun a w τ d x => ⟨rfl, hJ _ _ _ _ x.2⟩) (HWp.loop hP I n₀ h₀ fun n a w hI => (round n a w hI).mono fun e a w x => ?_)
  rcases x with ⟨rfl, x⟩ | ⟨rfl, x⟩
  · exact x
  · simp only [Exit.then, Exit.inBlock, if_true]
    exact ⟨trivial, x⟩
end Go.Proofs.YtpbbmagjhkakgaaGreatDoor.Lf
namespace Go.Proofs.YtpbbmagjhkakgaaGreatDoor.Ev
open Go.RowKit Go.Deep Go.Maps Go.Proofs.YtpbbmagjhkakgaaGreatDoor.Lf Go.Conc
theorem reach_not {y : BT Pay} (hy : Good y) : reachT (notT y) ≤ reachT y := by
  cases y with
  | nil => exact hy.elim
  | node b o a l r =>
    have h0 := reach_nonneg (.inl hy)
    have hl : 0 ≤ a.hi := by rcases hy with ⟨_, _, h3, h4, _⟩ | ⟨_, _, h3, h4, _⟩ | ⟨_, _, h3, _⟩ | ⟨_, _, h3, _⟩ <;> omega
    show reachT (if a.op = 172 then l else mk 172 ByteArray.empty 0 0 (BT.node b o a l r) .nil) ≤ _
    by_cases ho : a.op = 172
    · rw [if_pos ho, reach_node]; omega
    · rw [if_neg ho]
      have e : reachT (mk 172 ByteArray.empty 0 0 (BT.node b o a l r) .nil) = 0 + max (reachT (BT.node b o a l r)) 0 := rfl
      rw [e]; omega
theorem reach_core : ∀ {x : BT Pay}, Good x → reachT (coreT x) ≤ reachT x
  | .nil, h => h.elim
  | .node b o a l r, h => by
    rcases h with ⟨h1, _, _, _, rfl, rfl⟩ | ⟨h1, _, _, _, rfl, rfl⟩ | ⟨h1, h2, h3, h4, gl, gr⟩ | ⟨h1, h2, h3, h4, gl, hr⟩
    · unfold coreT; rw [if_pos (.inl h1)]; exact Int.le_refl _
    · unfold coreT; rw [if_pos (.inr h1)]; exact Int.le_refl _
    · have cl := reach_core gl
      have cr := reach_core gr
      have gcl := good_core gl
      have gcr := good_core gr
      rw [reach_node]
      rcases h1 with h1 | h1 | h1
      · have e1 : coreT (.node b o a l r) = mk a.op ByteArray.empty a.lo a.hi (coreT l) (coreT r) := by simp [coreT, h1]
        rw [e1]
        show a.hi + max (reachT (coreT l)) (reachT (coreT r)) ≤ _
        omega
      · have e1 : coreT (.node b o a l r) = notT (mk 8743 ByteArray.empty 0 0 (notT (coreT l)) (notT (coreT r))) := by simp [coreT, h1]
        have g1 : Good (mk 8743 ByteArray.empty 0 0 (notT (coreT l)) (notT (coreT r))) := .inr (.inr (.inl ⟨.inl rfl, rfl, ⟨by decide, by decide, by decide⟩, by simp, good_not gcl, good_not gcr⟩))
        have n1 := reach_not g1
        have n2 := reach_not gcl
        have n3 := reach_not gcr
        have e2 : reachT (mk 8743 ByteArray.empty 0 0 (notT (coreT l)) (notT (coreT r))) = 0 + max (reachT (notT (coreT l))) (reachT (notT (coreT r))) := rfl
        rw [e1]; omega
      · have e1 : coreT (.node b o a l r) = mk a.op ByteArray.empty a.lo a.hi (coreT l) (coreT r) := by simp [coreT, h1]
        rw [e1]
        show a.hi + max (reachT (coreT l)) (reachT (coreT r)) ≤ _
        omega
    · have cl := reach_core gl
      have gcl := good_core gl
      rw [reach_node]
      rcases h1 with h1 | h1 | h1 | h1
      · have e1 : coreT (.node b o a l r) = notT (coreT l) := by simp [coreT, h1]
        have n2 := reach_not gcl
        rw [e1]; omega
      · have e1 : coreT (.node b o a l r) = mk a.op ByteArray.empty a.lo a.hi (coreT l) .nil := by simp [coreT, h1]
        rw [e1]
        show a.hi + max (reachT (coreT l)) 0 ≤ _
        subst hr
        have : reachT (.nil : BT Pay) = 0 := rfl
        omega
      · have e1 : coreT (.node b o a l r) = mk a.op ByteArray.empty a.lo a.hi (coreT l) .nil := by simp [coreT, h1]
        rw [e1]
        show a.hi + max (reachT (coreT l)) 0 ≤ _
        subst hr
        have : reachT (.nil : BT Pay) = 0 := rfl
        omega
      · have e1 : coreT (.node b o a l r) = notT (mk 79 ByteArray.empty a.lo a.hi (notT (coreT l)) .nil) := by simp [coreT, h1]
        have g1 : Good (mk 79 ByteArray.empty a.lo a.hi (notT (coreT l)) .nil) := .inr (.inr (.inr ⟨by simp, rfl, h3, fun h => absurd (show winB 79 = false from h) (by decide), good_not gcl, rfl⟩))
        have n1 := reach_not g1
        have n2 := reach_not gcl
        have e2 : reachT (mk 79 ByteArray.empty a.lo a.hi (notT (coreT l)) .nil) = a.hi + max (reachT (notT (coreT l))) 0 := rfl
        rw [e1]
        subst hr
        have : reachT (.nil : BT Pay) = 0 := rfl
        omega
end Go.Proofs.YtpbbmagjhkakgaaGreatDoor.Ev
