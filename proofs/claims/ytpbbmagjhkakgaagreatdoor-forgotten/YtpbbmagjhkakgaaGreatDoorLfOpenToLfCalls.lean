import Derived.Test.YtpbbmagjhkakgaaGreatDoorLfBesideToLfShut
namespace Go.Proofs.YtpbbmagjhkakgaaGreatDoor.Lf
open Go Go.Conc
open Go.ConcN (sumTo upd sumTo_upd upd_ne upd_same)
variable {P : Program}
section
variable {c : Nat} {z : Value} {B₀ : Nat} {R0 : (Nat → Prop) → World → World → Prop} {D0 : (Nat → Prop) → World → World → Array Event → Prop} {RB : (Nat → Prop) → World → World → Prop} {DB : (Nat → Prop) → World → World → Array Event → Prop} {CA CB : (Nat → Prop) → Touch → Prop} {n κ : Nat} {K : Goroutine → World → Prop}
structure St (P : Program) (c B₀ : Nat) (z : Value) (R0 RB : (Nat → Prop) → World → World → Prop) (CA CB : (Nat → Prop) → Touch → Prop) (n κ : Nat) (LB : List Value) (T : Nat → Prop) (b : Goroutine) (wb : World) (LA : List Value) (S : Nat → Prop) (g : Goroutine) (wa : World) (gs : Array Goroutine) (x : Goroutine) (w : World) (t : Trace) (q : Nat → Nat) (buf : Array Value) (s r : Nat) : Prop where
 r0 : R0 S wa w
 rB : RB T wb w
 apt : Apt B₀ S T w
 zero : gs[0]? = some x
 child : gs[κ]? = some b
 sit : LooksAs x g ∨ (x = parked g #[rcase c z] (.recv true) ∧ AtR P c z R0 CA S g wa ∧ buf = #[])
 leave : LeavX P (fun j => j = κ) t gs q
 trace : ∃ B, TI True κ B (CA S) (CB T) t
 chan : w.heap[c]? = some (.chan n buf false s r false)
 list : LA = buf.toList ++ LB
 room : buf.size + LB.length ≤ n
section
variable {LB LA : List Value} {S T : Nat → Prop} {b g x : Goroutine} {wb wa w : World} {gs : Array Goroutine} {t : Trace} {q : Nat → Nat} {buf : Array Value} {s r : Nat}
theorem St.at (H : Pair c B₀ R0 D0 RB DB CA CB) (h : St P c B₀ z R0 RB CA CB n κ LB T b wb LA S g wa gs x w t q buf s r) (d : Nat) : St P c B₀ z R0 RB CA CB n κ LB T b wb LA S g wa gs x (w.at d) t q buf s r := by
 exact ⟨H.t0.trans _ _ _ _ h.r0 (H.at0 _ w d), H.tB.trans _ _ _ _ h.rB (H.atB _ w d), h.apt.same rfl, h.zero, h.child, h.sit, h.leave, h.trace, h.chan, h.list, h.room⟩
theorem St.stays (h : St P c B₀ z R0 RB CA CB n κ LB T b wb LA S g wa gs x w t q buf s r) (a a' : Goroutine) : woken P a a' w x = x := by
 rcases h.sit with h1 | ⟨rfl, _, _⟩
 ·exact woken_running h1.status
 ·exact woken_recv_open a a' h.chan
theorem St.awake (h : St P c B₀ z R0 RB CA CB n κ LB T b wb LA S g wa gs x w t q buf s r) (hb : b.status = .running) : ∀ y ∈ gs, awake y := by
 intro y hy
 obtain ⟨i, hi, rfl⟩ := Array.mem_iff_getElem.1 hy
 rcases Nat.eq_zero_or_pos i with rfl | hpos
 ·have : gs[0] = x := by simpa [Array.getElem?_eq_getElem hi] using h.zero
  rw [this]
  rcases h.sit with h1 | ⟨h1, _, _⟩
  ·exact awake_of (.inl h1.status)
  ·exact awake_of (.inr (.inl (by rw [h1]; rfl)))
 ·by_cases hk : i = κ
  ·subst hk
   have : gs[i] = b := by simpa [Array.getElem?_eq_getElem hi] using h.child
   rw [this]; exact awake_of (.inl hb)
  ·exact awake_of ((h.leave.old i _ hpos hk (Array.getElem?_eq_getElem hi)).status.elim .inl fun x => .inr (.inr x))
theorem St.slip (hb : b.status = .running) (h : St P c B₀ z R0 RB CA CB n κ LB T b wb LA S g wa gs x w t q buf s r) {i : Nat} {y : Goroutine} {sl : Option (Nat × Nat)} (hi : gs[i]? = some y) (hy : y.status = .running) (hpos : 0 < i) (hk : i ≠ κ) :
  ∃ gs' u q', runT P (crowd gs w sl) i = (.next (crowd gs' w sl), u) ∧ gs'.size = gs.size ∧ sumTo gs.size q' < sumTo gs.size q ∧ St P c B₀ z R0 RB CA CB n κ LB T b wb LA S g wa gs' x w (t ++ u) q' buf s r := by
 obtain ⟨gs', u, q', e1, e2, e3, e4, e5, e6⟩ := Go.Proofs.YtpbbmagjhkakgaaGreatDoor.Lf.slip (w := w) (sl := sl) h.leave hi hy hpos hk
 obtain ⟨B, hT⟩ := h.trace
 obtain ⟨B', _, hT2⟩ := hT.still (fun op hop => (e5 op hop).2.1) (fun op hop => ⟨.inl (by rw [(e5 op hop).1]; omega), .inl (by rw [(e5 op hop).1]; exact hk)⟩)
 exact ⟨gs', u, q', e1, e2, e3, h.r0, h.rB, h.apt, e6 0 x (.inl rfl) h.zero h.stays, e6 κ b (.inr rfl) h.child (fun a a' => woken_running hb), h.sit, e4, ⟨B', hT2⟩, h.chan, h.list, h.room⟩
end
theorem phase_core (H : Pair c B₀ R0 D0 RB DB CA CB) (hκ : κ ≠ 0) {LB : List Value} {T : Nat → Prop} {b : Goroutine} {wb : World} (hb : b.status = .running)
  (mv : ∀ {LA : List Value} {S : Nat → Prop} {g : Goroutine} {wa : World}, SA P c z R0 D0 CA K LA S g wa → ∀ gs x w sl t q buf s r, St P c B₀ z R0 RB CA CB n κ LB T b wb LA S g wa gs x w t q buf s r → ∃ m' u, runT P (crowd gs w sl) κ = (.next m', u) ∧ Ends0 P K m' (t ++ u))
  {LA : List Value} {S : Nat → Prop} {g : Goroutine} {wa : World} (hA : SA P c z R0 D0 CA K LA S g wa) :
  ∀ (M : Nat) (gs : Array Goroutine) (x : Goroutine) (w : World) (sl : Option (Nat × Nat)) (t : Trace) (q : Nat → Nat) (buf : Array Value) (s r : Nat), sumTo gs.size q ≤ M → St P c B₀ z R0 RB CA CB n κ LB T b wb LA S g wa gs x w t q buf s r → Ends0 P K (crowd gs w sl) t := by
 have hparked : ∀ {LA : List Value} {S : Nat → Prop} {g : Goroutine} {wa : World}, SA P c z R0 D0 CA K LA S g wa → ∀ (M : Nat) (gs : Array Goroutine) (x : Goroutine) (w : World) (sl : Option (Nat × Nat)) (t : Trace) (q : Nat → Nat) (buf : Array Value) (s r : Nat), sumTo gs.size q ≤ M → x.status = .blocked →
   St P c B₀ z R0 RB CA CB n κ LB T b wb LA S g wa gs x w t q buf s r → Ends0 P K (crowd gs w sl) t := by
  intro LA S g wa hA M
  induction M using Nat.strongRecOn with
  | _ M ihM =>
   intro gs x w sl t q buf s r hM hx hS
   obtain ⟨i, y, d, sl', hi, hy, hst⟩ := crowd_pick (P := P) (w := w) (sl := sl) (hS.awake hb) ⟨κ, b, hS.child, hb⟩
   have hS' := hS.at H d
   rcases Nat.eq_zero_or_pos i with rfl | hpos
   ·rw [hS.zero] at hi
    obtain rfl := Option.some.inj hi
    rw [hx] at hy; cases hy
   ·by_cases hk : i = κ
    ·subst hk
     obtain ⟨m', u, e1, e2⟩ := mv hA gs x (w.at d) sl' t q buf s r hS'
     exact Ends0.step (hst.trans e1) e2
    ·obtain ⟨gs', u, q', e1, e2, e3, e4⟩ := hS'.slip hb (sl := sl') hi hy hpos hk
     exact Ends0.step (hst.trans e1) (ihM _ (Nat.lt_of_lt_of_le e3 hM) gs' x _ sl' _ q' buf s r (by rw [e2]; exact Nat.le_refl _) hx e4)
 induction hA with
 | @own LA S g wa f hs h1 h2 ih =>
  intro M
  induction M using Nat.strongRecOn with
  | _ M ihM =>
   intro gs x w sl t q buf s r hM hS
   rcases hS.sit with hx | ⟨hx, _, _⟩
   case inr => exact hparked (.own f hs h1 h2) M gs x w sl t q buf s r hM (by rw [hx]; rfl) hS
   obtain ⟨i, y, d, sl', hi, hy, hst⟩ := crowd_pick (P := P) (w := w) (sl := sl) (hS.awake hb) ⟨κ, b, hS.child, hb⟩
   have hS' := hS.at H d
   rcases Nat.eq_zero_or_pos i with rfl | hpos
   ·obtain rfl : y = x := by rw [hS.zero] at hi; exact (Option.some.inj hi).symm
    obtain ⟨a1, a2⟩ := h1 _ hS'.r0
    have hgo := (hx.step (P := P) true (w.at d)).trans a1
    obtain ⟨b1, b2, b3, b4⟩ := H.d0 _ _ _ _ _ hS'.apt a2
    have hrun := runT_crowd_go (P := P) (w := w.at d) (sl := sl') (i := 0) hi (show stepG P (0 == 0) y (w.at d) = _ from hgo)
    have hlt : 0 < gs.size := (Array.getElem?_eq_some_iff.1 hi).1
    have hmn := H.mono _ _ (grow_sub S (w.at d) (f (w.at d)).2.1)
    obtain ⟨B, hT⟩ := hS'.trace
    obtain ⟨B', _, hT2⟩ := (hT.mono (Nat.le_refl B) hmn.1 (fun _ x => x)).evs0 hκ (H.apart _ _ _ (hS'.apt.grow0 b4)) (fn := y.frame.fn) (pos := y.frame.place) b3
    refine Ends0.step (hst.trans hrun) (ih _ hS'.r0 _ _ _ _ sl' _ q buf s r (Nat.le_refl _) ⟨H.refl0 _ _, H.tB.trans _ _ _ _ hS'.rB b1, hS'.apt.grow0 b4, by simp [hlt], ?_, .inl (.self (h2 _ hS'.r0).running), ?_, ⟨B', hT2⟩, b2.trans hS'.chan, hS.list, hS.room⟩)
    ·rw [Array.getElem?_setIfInBounds_ne (Ne.symm hκ), Array.getElem?_map, hS.child]
     simp [woken_running hb]
    ·refine hS.leave.turn (by simp) (fun j v hj hjk hv => ?_) (fun op hop => by obtain ⟨e, _, rfl⟩ := Go.Conc.mem_ofEvents hop; exact ⟨.inl rfl, hlt⟩)
     rw [Array.getElem?_setIfInBounds_ne (by omega), Array.getElem?_map] at hv
     obtain ⟨z', hz, rfl⟩ := Option.map_eq_some_iff.1 hv
     rw [woken_quitsD (hS.leave.old j z' hj hjk hz)]
     exact hz
   ·by_cases hk : i = κ
    ·subst hk
     obtain ⟨m', u, e1, e2⟩ := mv (.own f hs h1 h2) gs x (w.at d) sl' t q buf s r hS'
     exact Ends0.step (hst.trans e1) e2
    ·obtain ⟨gs', u, q', e1, e2, e3, e4⟩ := hS'.slip hb (sl := sl') hi hy hpos hk
     exact Ends0.step (hst.trans e1) (ihM _ (Nat.lt_of_lt_of_le e3 hM) gs' x _ sl' _ q' buf s r (by rw [e2]; exact Nat.le_refl _) e4)
 | @recv v LA S g wa hs h1 h2 ih =>
  intro M
  induction M using Nat.strongRecOn with
  | _ M ihM =>
   intro gs x w sl t q buf s r hM hS
   rcases hS.sit with hx | ⟨hx, _, _⟩
   case inr => exact hparked (.recv hs h1 h2) M gs x w sl t q buf s r hM (by rw [hx]; rfl) hS
   obtain ⟨i, y, d, sl', hi, hy, hst⟩ := crowd_pick (P := P) (w := w) (sl := sl) (hS.awake hb) ⟨κ, b, hS.child, hb⟩
   have hS' := hS.at H d
   rcases Nat.eq_zero_or_pos i with rfl | hpos
   ·obtain rfl : y = x := by rw [hS.zero] at hi; exact (Option.some.inj hi).symm
    obtain ⟨es, a1, a2⟩ := h1 _ hS'.r0
    have hcm := (hx.step (P := P) true (w.at d)).trans a1
    have hlt : 0 < gs.size := (Array.getElem?_eq_some_iff.1 hi).1
    obtain ⟨B, hT⟩ := hS'.trace
    obtain ⟨B', _, hT2⟩ := hT.evs0 hκ (H.apart _ _ _ hS'.apt) (fn := y.frame.fn) (pos := y.frame.place) a2
    have hnb : ∀ (j : Nat) (g' : Goroutine), j ≠ 0 → gs[j]? = some g' → g'.status ≠ .blocked := fun j g' hj hg' => by
     by_cases hk : j = κ
     ·subst hk; rw [hS.child] at hg'; obtain rfl := Option.some.inj hg'; rw [hb]; simp
     ·rcases (hS.leave.old j g' (by omega) hk hg').status with e | e <;> rw [e] <;> simp
    by_cases hsz : buf = #[]
    ·
     subst hsz
     have hrun := crowd_waits (P := P) (gs := gs) (w := w.at d) (sl := sl') (i := 0) hi (show stepG P (0 == 0) y (w.at d) = _ from hcm) (fun cc hcc => by
      simp at hcc; subst hcc
      exact ways_recv_none hS'.chan (no_partners hnb))
     refine Ends0.step (hst.trans hrun) (hparked (.recv hs h1 h2) _ _ (parked g #[rcase c z] (.recv true)) _ sl' _ q #[] s r (Nat.le_refl _) rfl ⟨hS'.r0, hS'.rB, hS'.apt, by simp [hlt], ?_, .inr ⟨rfl, h1, rfl⟩, ?_, ⟨B', hT2⟩, hS'.chan, hS.list, hS.room⟩)
     ·rw [Array.getElem?_setIfInBounds_ne (Ne.symm hκ)]; exact hS.child
     ·refine hS.leave.turn (by simp) (fun j v hj hjk hv => ?_) (fun op hop => by obtain ⟨e, _, rfl⟩ := Go.Conc.mem_ofEvents hop; exact ⟨.inl rfl, hlt⟩)
      rw [Array.getElem?_setIfInBounds_ne (by omega)] at hv; exact hv
    ·
     obtain ⟨l0, hl0⟩ : ∃ l0, buf.toList = v :: l0 := by
      have := hS.list
      cases hbl : buf.toList with
      | nil => exact absurd (by simpa using hbl) hsz
      | cons a l => rw [hbl] at this; simp at this; exact ⟨l, by rw [this.1]⟩
     obtain ⟨hsz', hhd, htl⟩ := take_head hl0.symm
     have hrun := crowd_recv_buf (P := P) (gs := gs) (w := w.at d) (sl := sl') (i := 0) hi (show stepG P (0 == 0) y (w.at d) = _ from hcm) hS'.chan hsz' (no_partners hnb)
     rw [finishComm_recv, hhd] at hrun
     have hput := H.put0 S (w.at d) n (buf.extract 1 buf.size) false s (r + 1) false
     have hputB := H.putB T (w.at d) n (buf.extract 1 buf.size) false s (r + 1) false
     obtain ⟨B'', _, hT3⟩ := hT2.still (u := #[{ g := 0, fn := g.frame.fn, pos := g.frame.place, act := .recv c r n }, { g := 0, fn := g.frame.fn, pos := g.frame.place, act := .recvDone c r }]) (fun op hop => by simp at hop; rcases hop with rfl | rfl <;> rfl) (fun op hop => by simp at hop; rcases hop with rfl | rfl <;> simp)
     refine Ends0.step (hst.trans hrun) (ih _ (H.t0.trans _ _ _ _ hS'.r0 hput) _ _ _ _ sl' _ q (buf.extract 1 buf.size) s (r + 1) (Nat.le_refl _) ⟨H.refl0 _ _, H.tB.trans _ _ _ _ hS'.rB hputB, hS'.apt.same (setChan_size _ _ _ _ _ _ _ _), by simp [hlt], ?_, .inl (.self rfl), ?_, ⟨B'', by rw [← Array.append_assoc]; exact hT3⟩, setChan_same hS'.chan, ?_, ?_⟩)
     ·rw [Array.getElem?_setIfInBounds_ne (Ne.symm hκ)]; exact hS.child
     ·refine hS.leave.turn (by simp) (fun j v hj hjk hv => ?_) (fun op hop => ?_)
      ·rw [Array.getElem?_setIfInBounds_ne (by omega)] at hv; exact hv
      ·rcases Array.mem_append.1 hop with hop | hop
       ·obtain ⟨e, _, rfl⟩ := Go.Conc.mem_ofEvents hop; exact ⟨.inl rfl, hlt⟩
       ·simp at hop; rcases hop with rfl | rfl <;> exact ⟨.inl rfl, hlt⟩
     ·have := hS.list
      rw [hl0] at this
      simp at this
      rw [htl]; exact this
     ·have := hS.room
      simp
      omega
   ·by_cases hk : i = κ
    ·subst hk
     obtain ⟨m', u, e1, e2⟩ := mv (.recv hs h1 h2) gs x (w.at d) sl' t q buf s r hS'
     exact Ends0.step (hst.trans e1) e2
    ·obtain ⟨gs', u, q', e1, e2, e3, e4⟩ := hS'.slip hb (sl := sl') hi hy hpos hk
     exact Ends0.step (hst.trans e1) (ihM _ (Nat.lt_of_lt_of_le e3 hM) gs' x _ sl' _ q' buf s r (by rw [e2]; exact Nat.le_refl _) e4)
 | @fin S g wa hs h1 h2 =>
  intro M
  induction M using Nat.strongRecOn with
  | _ M ihM =>
   intro gs x w sl t q buf s r hM hS
   rcases hS.sit with hx | ⟨hx, _, _⟩
   case inr => exact hparked (.fin hs h1 h2) M gs x w sl t q buf s r hM (by rw [hx]; rfl) hS
   obtain ⟨i, y, d, sl', hi, hy, hst⟩ := crowd_pick (P := P) (w := w) (sl := sl) (hS.awake hb) ⟨κ, b, hS.child, hb⟩
   have hS' := hS.at H d
   rcases Nat.eq_zero_or_pos i with rfl | hpos
   ·obtain rfl : y = x := by rw [hS.zero] at hi; exact (Option.some.inj hi).symm
    obtain ⟨es, a1, a2⟩ := h1 _ hS'.r0
    have hcm := (hx.step (P := P) true (w.at d)).trans a1
    have hlt : 0 < gs.size := (Array.getElem?_eq_some_iff.1 hi).1
    obtain ⟨B, hT⟩ := hS'.trace
    obtain ⟨B', _, hT2⟩ := hT.evs0 hκ (H.apart _ _ _ hS'.apt) (fn := y.frame.fn) (pos := y.frame.place) a2
    have hnb : ∀ (j : Nat) (g' : Goroutine), j ≠ 0 → gs[j]? = some g' → g'.status ≠ .blocked := fun j g' hj hg' => by
     by_cases hk : j = κ
     ·subst hk; rw [hS.child] at hg'; obtain rfl := Option.some.inj hg'; rw [hb]; simp
     ·rcases (hS.leave.old j g' (by omega) hk hg').status with e | e <;> rw [e] <;> simp
    obtain rfl : buf = #[] := by
     have := hS.list
     simp at this
     exact this.1
    have hrun := crowd_waits (P := P) (gs := gs) (w := w.at d) (sl := sl') (i := 0) hi (show stepG P (0 == 0) y (w.at d) = _ from hcm) (fun cc hcc => by
     simp at hcc; subst hcc
     exact ways_recv_none hS'.chan (no_partners hnb))
    refine Ends0.step (hst.trans hrun) (hparked (.fin hs h1 h2) _ _ (parked g #[rcase c z] (.recv true)) _ sl' _ q #[] s r (Nat.le_refl _) rfl ⟨hS'.r0, hS'.rB, hS'.apt, by simp [hlt], ?_, .inr ⟨rfl, h1, rfl⟩, ?_, ⟨B', hT2⟩, hS'.chan, hS.list, hS.room⟩)
    ·rw [Array.getElem?_setIfInBounds_ne (Ne.symm hκ)]; exact hS.child
    ·refine hS.leave.turn (by simp) (fun j v hj hjk hv => ?_) (fun op hop => by obtain ⟨e, _, rfl⟩ := Go.Conc.mem_ofEvents hop; exact ⟨.inl rfl, hlt⟩)
     rw [Array.getElem?_setIfInBounds_ne (by omega)] at hv; exact hv
   ·by_cases hk : i = κ
    ·subst hk
     obtain ⟨m', u, e1, e2⟩ := mv (.fin hs h1 h2) gs x (w.at d) sl' t q buf s r hS'
     exact Ends0.step (hst.trans e1) e2
    ·obtain ⟨gs', u, q', e1, e2, e3, e4⟩ := hS'.slip hb (sl := sl') hi hy hpos hk
     exact Ends0.step (hst.trans e1) (ihM _ (Nat.lt_of_lt_of_le e3 hM) gs' x _ sl' _ q' buf s r (by rw [e2]; exact Nat.le_refl _) e4)
end
end Go.Proofs.YtpbbmagjhkakgaaGreatDoor.Lf
namespace Go.Proofs.YtpbbmagjhkakgaaGreatDoor.Lf
open Go Go.Conc
open Go.ConcN (sumTo upd sumTo_upd upd_ne upd_same)
variable {P : Program}
section
variable {c : Nat} {z : Value} {B₀ : Nat} {R0 : (Nat → Prop) → World → World → Prop} {D0 : (Nat → Prop) → World → World → Array Event → Prop} {RB : (Nat → Prop) → World → World → Prop} {DB : (Nat → Prop) → World → World → Array Event → Prop} {CA CB : (Nat → Prop) → Touch → Prop} {n κ : Nat} {K : Goroutine → World → Prop}
theorem phase (H : Pair c B₀ R0 D0 RB DB CA CB) (hκ : κ ≠ 0) {LB : List Value} {T : Nat → Prop} {b : Goroutine} {wb : World} (hB : SB P c RB DB CB n LB T b wb) :
    ∀ {LA : List Value} {S : Nat → Prop} {g : Goroutine} {wa : World}, SA P c z R0 D0 CA K LA S g wa → ∀ (gs : Array Goroutine) (x : Goroutine) (w : World) (sl : Option (Nat × Nat)) (t : Trace) (q : Nat → Nat) (buf : Array Value) (s r : Nat), St P c B₀ z R0 RB CA CB n κ LB T b wb LA S g wa gs x w t q buf s r → Ends0 P K (crowd gs w sl) t := by
  have hk0 : (κ == 0) = false := by simp [hκ]
  induction hB with
  | @own LB T b wb f hs h1 h2 ih =>
    intro LA S g wa hA gs x w sl t q buf s r hS
    refine phase_core H hκ hs (fun {LA S g wa} hA gs x w sl t q buf s r hS => ?_) hA _ gs x w sl t q buf s r (Nat.le_refl _) hS
    obtain ⟨a1, a2⟩ := h1 _ hS.rB
    obtain ⟨b1, b2, b3, b4⟩ := H.dB _ _ _ _ _ hS.apt a2
    have hrun := runT_crowd_go (P := P) (w := w) (sl := sl) (i := κ) hS.child (by rw [hk0]; exact a1)
    have hlt : κ < gs.size := (Array.getElem?_eq_some_iff.1 hS.child).1
    have hmn := H.mono _ _ (grow_sub T w (f w).2.1)
    obtain ⟨B, hT⟩ := hS.trace
    obtain ⟨B', _, hT2⟩ := (hT.mono (Nat.le_refl B) (fun _ x => x) hmn.2).evsC hκ (H.apart _ _ _ (hS.apt.growC b4)) (fn := b.frame.fn) (pos := b.frame.place) b3
    refine ⟨_, _, hrun, ih _ hS.rB hA _ x _ sl _ q buf s r ⟨H.t0.trans _ _ _ _ hS.r0 b1, H.reflB _ _, hS.apt.growC b4, ?_, by simp [hlt], hS.sit, ?_, ⟨B', hT2⟩, b2.trans hS.chan, hS.list, hS.room⟩⟩
    · rw [Array.getElem?_setIfInBounds_ne hκ, Array.getElem?_map, hS.zero]
      rcases hS.sit with h3 | ⟨rfl, _, _⟩
      · simp [woken_running h3.status]
      · simp [woken_recv_open b (f w).1 (b2.trans hS.chan)]
    · refine hS.leave.turn (by simp) (fun j v hj hjk hv => ?_) (fun op hop => by obtain ⟨e, _, rfl⟩ := Go.Conc.mem_ofEvents hop; exact ⟨.inr rfl, hlt⟩)
      rw [Array.getElem?_setIfInBounds_ne (Ne.symm hjk), Array.getElem?_map] at hv
      obtain ⟨z', hz, rfl⟩ := Option.map_eq_some_iff.1 hv
      rw [woken_quitsD (hS.leave.old j z' hj hjk hz)]
      exact hz
  | @send v y LB T b wb hs h1 h2 ih =>
    intro LA S g wa hA gs x w sl t q buf s r hS
    refine phase_core H hκ hs (fun {LA S g wa} hA gs x w sl t q buf s r hS => ?_) hA _ gs x w sl t q buf s r (Nat.le_refl _) hS
    obtain ⟨es, a1, a2⟩ := h1 _ hS.rB
    have hcm : stepG P (κ == 0) b w = .comm b #[scase c v y] true .send w es := by rw [hk0]; exact a1
    have hlt : κ < gs.size := (Array.getElem?_eq_some_iff.1 hS.child).1
    have hlt0 : 0 < gs.size := (Array.getElem?_eq_some_iff.1 hS.zero).1
    obtain ⟨B, hT⟩ := hS.trace
    obtain ⟨B', _, hT2⟩ := hT.evsC hκ (H.apart _ _ _ hS.apt) (fn := b.frame.fn) (pos := b.frame.place) a2
    have hout : ∀ j v, 0 < j → j ≠ κ → gs[j]? = some v → v.status ≠ .blocked := fun j v hj hjk hv => by rcases (hS.leave.old j v hj hjk hv).status with e | e <;> rw [e] <;> simp
    rcases hS.sit with hx | ⟨rfl, hat, rfl⟩
    ·
      have hroom : buf.size < n := by have := hS.room; simp at this; omega
      have hrun := crowd_send_room (P := P) (gs := gs) (w := w) (sl := sl) (i := κ) hS.child hcm hS.chan hroom (no_partners fun j g' hj hg' => by
        rcases Nat.eq_zero_or_pos j with rfl | hpos
        · rw [hS.zero] at hg'; obtain rfl := Option.some.inj hg'; rw [hx.status]; simp
        · exact hout j g' hpos hj hg')
      rw [finishComm_send] at hrun
      have hput := H.put0 S w n (buf.push v) false (s + 1) r false
      have hputB := H.putB T w n (buf.push v) false (s + 1) r false
      obtain ⟨B'', _, hT3⟩ := hT2.still (u := #[{ g := κ, fn := b.frame.fn, pos := b.frame.place, act := .send c s }, { g := κ, fn := b.frame.fn, pos := b.frame.place, act := .sendDone c s }]) (fun op hop => by simp at hop; rcases hop with rfl | rfl <;> rfl) (fun op hop => by simp at hop; rcases hop with rfl | rfl <;> simp)
      refine ⟨_, _, hrun, ih _ (H.tB.trans _ _ _ _ hS.rB hputB) hA _ x _ sl _ q (buf.push v) (s + 1) r ⟨H.t0.trans _ _ _ _ hS.r0 hput, H.reflB _ _, hS.apt.same (setChan_size _ _ _ _ _ _ _ _), ?_, by simp [hlt], .inl hx, ?_, ⟨B'', by rw [← Array.append_assoc]; exact hT3⟩, setChan_same hS.chan, by rw [hS.list]; simp, by have := hS.room; simp at this ⊢; omega⟩⟩
      · rw [Array.getElem?_setIfInBounds_ne hκ]; exact hS.zero
      · refine hS.leave.turn (by simp) (fun j v hj hjk hv => ?_) (fun op hop => ?_)
        · rw [Array.getElem?_setIfInBounds_ne (Ne.symm hjk)] at hv; exact hv
        · rcases Array.mem_append.1 hop with hop | hop
          · obtain ⟨e, _, rfl⟩ := Go.Conc.mem_ofEvents hop; exact ⟨.inr rfl, hlt⟩
          · simp at hop; rcases hop with rfl | rfl <;> exact ⟨.inr rfl, hlt⟩
    ·
      have hp : partners (gs.setIfInBounds κ ph) c false = [(0, 0)] := by
        have := partners_one (gs := gs.setIfInBounds κ ph) (r := c) (send := false) (j := 0) (g := parked g #[rcase c z] (.recv true)) (by rw [Array.getElem?_setIfInBounds_ne hκ]; exact hS.zero) (fun j g' hj hg' => by
          rcases getElem?_stand gs κ j g' hg' with ⟨_, rfl⟩ | ⟨hne, hg''⟩
          · exact offersAt_ph c false
          · exact offersAt_of_not_blocked (hout j g' (by omega) hne hg'') c false)
        rw [this, offersAt_parked_recv]
        simp
      have hrun := crowd_send_meets (P := P) (gs := gs) (w := w) (sl := sl) (i := κ) (j := 0) hS.child hcm hS.chan (Ne.symm hκ) hS.zero hp
      rw [finishComm_send, finishComm_recv] at hrun
      have hput := H.put0 S w n #[] false (s + 1) (r + 1) false
      have hputB := H.putB T w n #[] false (s + 1) (r + 1) false
      have hll := hS.list
      simp at hll
      have hA' : ∀ w₁, R0 S wa w₁ → SA P c z R0 D0 CA K LB S (Go.Conc.served g (recvd true v true)) w₁ := by
        cases hA with
        | own f k1 k2 k3 =>
          obtain ⟨e1, e2, _⟩ := hat _ hS.r0
          rw [(k2 _ hS.r0).1] at e2; cases e2
        | recv k1 k2 k3 =>
          simp only [List.cons.injEq] at hll
          obtain ⟨rfl, rfl⟩ := hll
          exact k3
        | fin k1 k2 k3 => cases hll
      obtain ⟨B'', _, hT3⟩ := hT2.still (u := #[{ g := κ, fn := b.frame.fn, pos := b.frame.place, act := .send c s }, { g := 0, fn := g.frame.fn, pos := g.frame.place, act := .recv c r n }, { g := κ, fn := b.frame.fn, pos := b.frame.place, act := .sendDone c s }, { g := 0, fn := g.frame.fn, pos := g.frame.place, act := .recvDone c r }]) (fun op hop => by simp at hop; rcases hop with rfl | rfl | rfl | rfl <;> rfl) (fun op hop => by simp at hop; rcases hop with rfl | rfl | rfl | rfl <;> simp)
      refine ⟨_, _, hrun, ih _ (H.tB.trans _ _ _ _ hS.rB hputB) (hA' _ (H.t0.trans _ _ _ _ hS.r0 hput)) _ (Go.Conc.served g (recvd true v true)) _ sl _ q #[] (s + 1) (r + 1) ⟨H.refl0 _ _, H.reflB _ _, hS.apt.same (setChan_size _ _ _ _ _ _ _ _), ?_, by simp [hlt], .inl (.self rfl), ?_, ⟨B'', by rw [← Array.append_assoc]; exact hT3⟩, setChan_same hS.chan, by simp, by have := hS.room; simp at this ⊢; omega⟩⟩
      · rw [Array.getElem?_setIfInBounds_ne hκ]; simp [hlt0]
      · refine hS.leave.turn (by simp) (fun j v hj hjk hv => ?_) (fun op hop => ?_)
        · rw [Array.getElem?_setIfInBounds_ne (Ne.symm hjk), Array.getElem?_setIfInBounds_ne (by omega)] at hv; exact hv
        · rcases Array.mem_append.1 hop with hop | hop
          · obtain ⟨e, _, rfl⟩ := Go.Conc.mem_ofEvents hop; exact ⟨.inr rfl, hlt⟩
          · simp at hop; rcases hop with rfl | rfl | rfl | rfl
            · exact ⟨.inr rfl, hlt⟩
            · exact ⟨.inl rfl, hlt0⟩
            · exact ⟨.inr rfl, hlt⟩
            · exact ⟨.inl rfl, hlt0⟩
  | @close T b b' wb qb hs hw h1 hq =>
    intro LA S g wa hA gs x w sl t q buf s r hS
    refine phase_core H hκ hs (fun {LA S g wa} hA gs x w sl t q buf s r hS => ?_) hA _ gs x w sl t q buf s r (Nat.le_refl _) hS
    obtain ⟨es, a1, a2⟩ := h1 w buf s r hS.rB hS.chan
    have hrun := runT_crowd_go (P := P) (w := w) (sl := sl) (i := κ) hS.child (by rw [hk0]; exact a1)
    have hlt : κ < gs.size := (Array.getElem?_eq_some_iff.1 hS.child).1
    have hput := H.put0 S w n buf true s r false
    obtain ⟨B, hT⟩ := hS.trace
    obtain ⟨B', _, hT2⟩ := hT.evsC hκ (H.apart _ _ _ hS.apt) (fn := b.frame.fn) (pos := b.frame.place) a2
    obtain ⟨B'', _, hT3⟩ := hT2.still (u := #[{ g := κ, fn := b.frame.fn, pos := b.frame.place, act := .close c }]) (fun op hop => by simp at hop; subst hop; rfl) (fun op hop => by simp at hop; subst hop; simp)
    have htr : t ++ MemOp.ofEvents κ b.frame.fn b.frame.place (es.push ⟨.obj c, true, true⟩) = t ++ MemOp.ofEvents κ b.frame.fn b.frame.place es ++ #[{ g := κ, fn := b.frame.fn, pos := b.frame.place, act := .close c }] := by
      rw [ofEvents_push, Array.push_eq_append, ← Array.append_assoc]; rfl
    have hdeaf : Deaf (t ++ MemOp.ofEvents κ b.frame.fn b.frame.place (es.push ⟨.obj c, true, true⟩)) κ = 0 := by rw [htr]; exact hT3.hearsC trivial
    have hShut : Shut κ c (t ++ MemOp.ofEvents κ b.frame.fn b.frame.place (es.push ⟨.obj c, true, true⟩)) := by
      rw [htr]
      have hpos : (t ++ MemOp.ofEvents κ b.frame.fn b.frame.place es ++ #[({ g := κ, fn := b.frame.fn, pos := b.frame.place, act := .close c } : MemOp)])[(t ++ MemOp.ofEvents κ b.frame.fn b.frame.place es).size]? = some { g := κ, fn := b.frame.fn, pos := b.frame.place, act := .close c } := by
        rw [Array.getElem?_append_right (Nat.le_refl _)]; simp
      refine ⟨_, by rw [act?_of hpos], by unfold Trace.g?; rw [hpos]; rfl, ⟨κ, by unfold Trace.g?; rw [hpos]; rfl, by rw [deaf_old (Nat.le_refl _)]; exact hT2.hearsC trivial⟩, fun i a ha hg => ?_⟩
      obtain ⟨y, hy, hya⟩ := touch_of ha
      rcases getElem?_append_cases hy with ⟨hi, _⟩ | ⟨_, hyu⟩
      · exact hi
      · simp at hyu; subst hyu; cases hya
    have hq' : b'.status = .running ∨ b'.status = .finished := hq.status
    have hwk : ∀ o, woken P b b' (w.setChan c n buf true s r false) o = o.again (w.setChan c n buf true s r false) := by
      intro o; unfold Go.Conc.woken; rcases hq' with h | h <;> simp [hw, h]
    have hx : ∃ x', ((gs.map (woken P b b' (w.setChan c n buf true s r false))).setIfInBounds κ b')[0]? = some x' ∧ LooksAs x' g := by
      rw [Array.getElem?_setIfInBounds_ne hκ, Array.getElem?_map, hS.zero]
      rcases hS.sit with h3 | ⟨rfl, _, _⟩
      · exact ⟨x, by simp [woken_running h3.status], h3⟩
      · exact ⟨{ parked g #[rcase c z] (.recv true) with status := .running }, by rw [Option.map_some, hwk, again_recv_closed (setChan_same hS.chan)], ⟨rfl, rfl, rfl, rfl⟩⟩
    obtain ⟨x', hx1, hx2⟩ := hx
    refine ⟨_, _, hrun, phase_shut H hκ hA _ T _ x' _ sl _ (upd q κ qb) buf s r (Nat.le_refl _) (hS.apt.same (setChan_size _ _ _ _ _ _ _ _)) (H.t0.trans _ _ _ _ hS.r0 hput) hx2 hx1 (by simpa using hlt) ⟨fun j v hj _ hv => ?_, fun j hj => ?_⟩ ⟨B'', by rw [htr]; exact hT3.weak⟩ hShut (setChan_same hS.chan) (by rw [hS.list]; simp)⟩
    · by_cases hjk : j = κ
      · subst hjk
        rw [Array.getElem?_setIfInBounds_self_of_lt (by simpa using hlt)] at hv
        obtain rfl := Option.some.inj hv
        rw [upd_same, hdeaf]
        exact hq
      · rw [Array.getElem?_setIfInBounds_ne (Ne.symm hjk), Array.getElem?_map] at hv
        obtain ⟨z', hz, rfl⟩ := Option.map_eq_some_iff.1 hv
        have hqj := hS.leave.old j z' hj hjk hz
        rw [woken_quitsD hqj, upd_ne q qb hjk, Deaf_off t _ (fun op hop e => by obtain ⟨e', _, rfl⟩ := Go.Conc.mem_ofEvents hop; exact hjk e.symm)]
        exact hqj
    · rw [Deaf_off t _ (fun op hop e => by obtain ⟨e', _, rfl⟩ := Go.Conc.mem_ofEvents hop; simp at hj; simp at e; omega)]
      exact hS.leave.above j (by simpa using hj)
end
end Go.Proofs.YtpbbmagjhkakgaaGreatDoor.Lf
namespace Go.Proofs.YtpbbmagjhkakgaaGreatDoor.Lf
open Go Go.Conc
variable {P : Program}
theorem G_not_lost (fr : Frame) (cs : List Frame) : ¬ Lost (G fr cs) := fun h => h.lost.elim (fun x => x rfl) (fun x => x rfl)
theorem first_step' (hP : Plain P) {n : Nat} {g : Goroutine} {w : World} {g' : Goroutine} {w' : World} (hg : Fine g) (hg' : ¬ Lost g') (h : runN P (n + 1) (solo g w) = .next (solo g' w')) :
    ∃ g1 w1 ops, stepT P (solo g w) = (.next (solo g1 w1), ops) ∧ Fine g1 ∧ Alone P g w g1 w1 ops ∧ runN P n (solo g1 w1) = .next (solo g' w') := by
  simp only [runN] at h
  cases hx : stepT P (solo g w) with
  | mk s ops =>
    have hs : step P (solo g w) = s := by rw [step, hx]
    rw [hs] at h
    cases s with
    | ended o x => cases h
    | next m1 =>
      rcases solo_step hP hg.ok hg.status hx with h2 | ⟨g1, w1, rfl, h3 | ⟨_, h4⟩⟩
      · have := runN_size h; simp [solo] at this; omega
      · exact absurd (lost_run hP h3 h) hg'
      · exact ⟨g1, w1, ops, rfl, (h4 hg.offers).1, (h4 hg.offers).2, h⟩
theorem run_fine (hP : Plain P) : ∀ {n : Nat} {g : Goroutine} {w : World} {g' : Goroutine} {w' : World}, Fine g → ¬ Lost g' → runN P n (solo g w) = .next (solo g' w') → Fine g' := by
  intro n
  induction n with
  | zero => intro g w g' w' hg _ h; simp only [runN, Stepped.next.injEq] at h; have := congrArg (fun m : Machine => m.gs[0]?) h; simp [solo] at this; exact this ▸ hg
  | succ n ih =>
    intro g w g' w' hg hg' h
    obtain ⟨g1, w1, _, _, h2, _, h4⟩ := first_step' hP hg hg' h
    exact ih h2 hg' h4
theorem fine_G {fr : Frame} {cs : List Frame} (h1 : okFrame fr) (h2 : ∀ x ∈ cs, okFrame x) : Fine (G fr cs) := ⟨⟨h1, h2, fun _ h => by cases h⟩, rfl, rfl, rfl⟩
theorem results_re {fn : Func} {tmps : Array Value} {w : World} {v : Value} (h : (results fn tmps).run P w = .ok v w) (τ : Tape) (d : Nat) : (results fn tmps).run P (re w τ d) = .ok v (re w τ d) := by
  have h1 : ((results fn tmps).runT P w #[]).1 = .ok v w := (Sem.runT_fst P _ w #[]).trans h
  obtain ⟨m, e1, e2⟩ := runT_alike P (results fn tmps) 0 w #[] (results_fit (P := P) fn tmps) (by rw [h1]; rfl)
  rw [h1] at e1 e2
  simp only [reR, Result.ok.injEq, true_and] at e1
  have hm : m = 0 := by have := congrArg World.drawn e1; simp [re] at this; omega
  subst hm
  have := congrArg Prod.fst (e2 τ d (fun j hj => absurd hj (Nat.not_lt_zero j)))
  rw [Sem.runT_fst] at this
  simpa [reR] using this
theorem leaving_re {fr : Frame} {w : World} {e : Ending} (h : fr.leaving P w e) (τ : Tape) (d : Nat) : fr.leaving P (re w τ d) e := by
  cases e with
  | returned v => obtain ⟨h1, h2, h3, fn, h4, h5⟩ := h; exact ⟨h1, h2, h3, fn, h4, results_re h5 τ d⟩
  | panicked chain => exact h
  | outgrown => trivial
def LeadsR (P : Program) (K : Goroutine → World → Prop) (g : Goroutine) (w : World) : Prop := ∀ τ d, Leads P K g (re w τ d)
theorem LeadsR.leads {K : Goroutine → World → Prop} {g : Goroutine} {w : World} (h : LeadsR P K g w) : Leads P K g w := h w.tape w.drawn
theorem LeadsR.other {K : Goroutine → World → Prop} {g : Goroutine} {w : World} (h : LeadsR P K g w) (τ : Tape) (d : Nat) : LeadsR P K g (re w τ d) := fun τ' d' => h τ' d'
theorem LeadsR.trans {K L : Goroutine → World → Prop} {g : Goroutine} {w : World} (h : LeadsR P K g w) (hk : ∀ g' w', K g' w' → LeadsR P L g' w') : LeadsR P L g w := fun τ d => (h τ d).trans fun g' w' x => (hk g' w' x).leads
theorem LeadsR.mono {K L : Goroutine → World → Prop} {g : Goroutine} {w : World} (h : LeadsR P K g w) (hk : ∀ g' w', K g' w' → L g' w') : LeadsR P L g w := fun τ d => (h τ d).mono hk
theorem LeadsR.of_steps (hP : Plain P) {K : Goroutine → World → Prop} (hK : ∀ g w τ d, K g w → K g (re w τ d)) {g : Goroutine} {w : World} (hg : Fine g) (h : ∀ τ d, ∃ g' w', Steps P (solo g (re w τ d)) (solo g' w') ∧ ¬ Lost g' ∧ (Fine g' → K g' w')) : LeadsR P K g w := by
  intro τ₀ d₀
  refine tree_leads (tree_of_comes hP hK hg fun τ d => ?_)
  obtain ⟨g', w', ⟨n, hn⟩, h2, h3⟩ := h τ d
  have hf := run_fine hP hg h2 hn
  exact ⟨n, g', w', hn, hf, h3 hf⟩
def HCalls (P : Program) (f : FuncId) (args : Array Value) (w : World) (R : Ending → World → Prop) : Prop :=
  ∀ cs, (∀ fr ∈ cs, okFrame fr) → LeadsR P (fun g w' => ∃ e fr, g = G fr cs ∧ okFrame fr ∧ R e w' ∧ fr.fn = f ∧ fr.leaving P w' e) (G (Frame.enter P f args .normal) cs) w
theorem HCalls.mono {f : FuncId} {args : Array Value} {w : World} {R R' : Ending → World → Prop} (h : HCalls P f args w R) (hr : ∀ e w', R e w' → R' e w') : HCalls P f args w R' :=
  fun cs hcs => (h cs hcs).mono fun _ _ ⟨e, fr, h1, h2, h3, h4, h5⟩ => ⟨e, fr, h1, h2, hr _ _ h3, h4, h5⟩
theorem HCalls.of_calls (hP : Plain P) {f : FuncId} {args : Array Value} {w : World} {R : Ending → World → Prop} (hR : ∀ e w τ d, R e w → R e (re w τ d)) (hno : ∀ w, ¬ R .outgrown w) (h : ∀ τ d, Calls P f args (re w τ d) R) : HCalls P f args w R := by
  intro cs hcs
  have hfin := fine_G (okFrame_enter (P := P) f args .normal) hcs
  refine LeadsR.of_steps hP ?_ hfin fun τ d => ?_
  · rintro g w τ d ⟨e, fr, h1, h2, h3, h4, h5⟩
    exact ⟨e, fr, h1, h2, hR _ _ _ _ h3, h4, leaving_re h5 τ d⟩
  · obtain ⟨e, w', fr, h1, h2, h3, h4⟩ := h τ d cs
    have hs : Steps P (lone (Frame.enter P f args .normal) cs (re w τ d)) (lone fr cs w') := by
      cases e with
      | returned v => exact h2
      | panicked c => exact h2
      | outgrown => exact absurd h1 (hno _)
    exact ⟨G fr cs, w', hs, G_not_lost fr cs, fun hf => ⟨e, fr, rfl, hf.ok.frame, h1, h3, h4⟩⟩
end Go.Proofs.YtpbbmagjhkakgaaGreatDoor.Lf
