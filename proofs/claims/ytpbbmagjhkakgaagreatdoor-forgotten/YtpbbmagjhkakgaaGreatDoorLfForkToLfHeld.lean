import Derived.Test.YtpbbmagjhkakgaaGreatDoorLfOpenToLfCalls
namespace Go.Proofs.YtpbbmagjhkakgaaGreatDoor.Lf
open Go Go.Conc
open Go.ConcN (sumTo upd sumTo_upd upd_ne upd_same)
variable {P : Program} {K : Goroutine → World → Prop}
def Forks (P : Program) (K : Goroutine → World → Prop) (g' child : Goroutine) (w' : World) : Prop :=
  ∃ (c : Nat) (z : Value) (R0 : (Nat → Prop) → World → World → Prop) (D0 : (Nat → Prop) → World → World → Array Event → Prop) (RB : (Nat → Prop) → World → World → Prop) (DB : (Nat → Prop) → World → World → Array Event → Prop) (CA CB : (Nat → Prop) → Touch → Prop) (n : Nat) (L : List Value),
    Pair c w'.heap.size R0 D0 RB DB CA CB ∧ SB P c RB DB CB n L (fun _ => False) child w' ∧ SA P c z R0 D0 CA K L (fun _ => False) g' w' ∧ w'.heap[c]? = some (.chan n #[] false 0 0 false) ∧ L.length ≤ n
theorem Leads.spawn {g : Goroutine} {w : World} (hg : g.status = .running) (h : ∀ d, ∃ g' child w' es, stepG P true g (w.at d) = .spawn g' child w' es ∧ (∀ e ∈ es, e.loc ≠ .mark .disable ∧ e.loc ≠ .mark .enable) ∧ Forks P K g' child w') : Leads P K g w := by
  have main : ∀ (M : Nat) (gs : Array Goroutine) (d0 : Nat) (sl : Option (Nat × Nat)) (t : Trace) (q : Nat → Nat), sumTo gs.size q ≤ M → gs[0]? = some g → LeavX P (fun _ => False) t gs q → (∃ B, Past (fun _ => False) B t) → Ends0 P K (crowd gs (w.at d0) sl) t := by
    intro M
    induction M using Nat.strongRecOn with
    | _ M ihM =>
      intro gs d0 sl t q hM h0 hL hB
      have haw : ∀ x ∈ gs, awake x := by
        intro x hx
        obtain ⟨i, hi, rfl⟩ := Array.mem_iff_getElem.1 hx
        rcases Nat.eq_zero_or_pos i with rfl | hpos
        · have : gs[0] = g := by simpa [Array.getElem?_eq_getElem hi] using h0
          rw [this]; exact awake_of (.inl hg)
        · exact awake_of ((hL.old i _ hpos (fun x => x) (Array.getElem?_eq_getElem hi)).status.elim .inl fun x => .inr (.inr x))
      obtain ⟨i, x, d, sl', hi, hx, hst⟩ := crowd_pick (P := P) (w := w.at d0) (sl := sl) haw ⟨0, g, h0, hg⟩
      have hw : (w.at d0).at d = w.at d := rfl
      rw [hw] at hst
      have hlt : 0 < gs.size := (Array.getElem?_eq_some_iff.1 h0).1
      obtain ⟨B, hB⟩ := hB
      rcases Nat.eq_zero_or_pos i with rfl | hpos
      · obtain rfl : x = g := by rw [h0] at hi; exact (Option.some.inj hi).symm
        obtain ⟨g', child, w', es, a1, a2, c, z, R0, D0, RB, DB, CA, CB, n, L, H, hSB, hSA, hc, hn⟩ := h d
        have hrun := runT_crowd_spawn (P := P) (w := w.at d) (sl := sl') (i := 0) hi (show stepG P (0 == 0) x (w.at d) = _ from a1)
        have hown : ∀ op ∈ MemOp.ofEvents 0 x.frame.fn x.frame.place es, op.g = 0 := fun op hop => by obtain ⟨e, _, rfl⟩ := Go.Conc.mem_ofEvents hop; rfl
        have hdf : Deaf (t ++ MemOp.ofEvents 0 x.frame.fn x.frame.place es) 0 = Deaf t 0 := by rw [Deaf_own]; exact deafBehind_still a2 _
        obtain ⟨B', hb1, hb2⟩ := low_all (MemOp.ofEvents 0 x.frame.fn x.frame.place es) B
        have hP := (hB.mono hb1).app0 hown (fun _ _ _ _ h => h.elim) hdf hb2
        have hk : Deaf (t ++ MemOp.ofEvents 0 x.frame.fn x.frame.place es) gs.size = 0 := by rw [Deaf_off t _ (fun op hop e => by have := hown op hop; omega)]; exact hL.above _ (Nat.le_refl _)
        have hT := TI.fork (CA := CA (fun _ => False)) (CB := CB (fun _ => False)) (hc := True) hP hk (x := { g := 0, fn := x.frame.fn, pos := x.frame.place, act := .go gs.size }) (y := { g := gs.size, fn := child.frame.fn, pos := x.frame.place, act := .start }) ⟨rfl, rfl⟩ ⟨rfl, rfl⟩
        have htr : ∀ a b : MemOp, t ++ ((MemOp.ofEvents 0 x.frame.fn x.frame.place es).push a |>.push b) = t ++ MemOp.ofEvents 0 x.frame.fn x.frame.place es ++ #[a, b] := by
          intro a b
          apply Array.ext'
          simp
        have hκ : gs.size ≠ 0 := by omega
        refine Ends0.step (hst.trans hrun) (phase H hκ hSB hSA _ g' w' sl' _ q #[] 0 0 ⟨H.refl0 _ _, H.reflB _ _, ⟨fun _ x => x.elim, fun _ x => x.elim, fun _ x => x.elim, Nat.le_refl _⟩, ?_, ?_, .inl (.self hSA.running), ⟨fun j y hj hjk hy => ?_, fun j hj => ?_⟩, ⟨B', by rw [htr]; exact hT⟩, hc, by simp, by simpa using hn⟩)
        · rw [Array.getElem?_push_lt (by simpa using hlt)]; simp
        · have e : gs.size = (gs.setIfInBounds 0 g').size := by simp
          rw [e, Array.getElem?_push_size]
        · have hjl : j < gs.size := by
            have := (Array.getElem?_eq_some_iff.1 hy).1
            simp at this; omega
          have hy' : gs[j]? = some y := by
            rw [Array.getElem?_push_lt (by simpa using hjl)] at hy
            simp only [Array.getElem_setIfInBounds_ne (by simpa using hjl) (show 0 ≠ j by omega)] at hy
            rw [Array.getElem?_eq_getElem hjl]; exact hy
          rw [htr, Deaf_off _ #[_, _] (fun op hop e => by simp at hop; rcases hop with rfl | rfl <;> simp at e <;> omega), Deaf_off t _ (fun op hop e => by have := hown op hop; omega)]
          exact hL.old j y hj (fun x => x) hy'
        · simp at hj
          rw [htr, Deaf_off _ #[_, _] (fun op hop e => by simp at hop; rcases hop with rfl | rfl <;> simp at e <;> omega), Deaf_off t _ (fun op hop e => by have := hown op hop; omega)]
          exact hL.above j (by omega)
      · obtain ⟨gs', u, q', e1, e2, e3, e4, e5, e6⟩ := slip (w := w.at d) (sl := sl') hL hi hx hpos (fun x => x)
        refine Ends0.step (hst.trans e1) (ihM _ (Nat.lt_of_lt_of_le e3 hM) gs' d sl' _ q' (by rw [e2]; exact Nat.le_refl _) (e6 0 g (.inl rfl) h0 fun a a' => woken_running hg) e4 ⟨B, ?_⟩)
        exact hB.appMute (g := i) (by omega) (fun op hop => (e5 op hop).1) (fun op hop => (e5 op hop).2.1) (fun op hop => (e5 op hop).2.2 B)
  intro gs sl t hf
  obtain ⟨h0, ⟨q, hL⟩, hB⟩ := hf
  exact main _ gs w.drawn sl t q (Nat.le_refl _) h0 (LeavX.of hL _) hB
theorem LeadsR.spawn {g : Goroutine} {w : World} (hg : g.status = .running) (h : ∀ τ d, ∃ g' child w' es, stepG P true g (re w τ d) = .spawn g' child w' es ∧ (∀ e ∈ es, e.loc ≠ .mark .disable ∧ e.loc ≠ .mark .enable) ∧ Forks P K g' child w') : LeadsR P K g w :=
  fun τ _ => Leads.spawn hg fun d' => h τ d'
end Go.Proofs.YtpbbmagjhkakgaaGreatDoor.Lf
namespace Go.Proofs.YtpbbmagjhkakgaaGreatDoor.Lf
open Go Go.Conc
structure Terr (c B : Nat) (M Ro : Nat → Prop) : Prop where
  chan : c < B
  m : ∀ b, M b → b < B ∧ b ≠ c
  ro : ∀ b, Ro b → b < B ∧ b ≠ c ∧ ¬ M b
section
variable (c B : Nat) (M Ro : Nat → Prop)
structure R0w (S : Nat → Prop) (w w' : World) : Prop where
  size : w.heap.size ≤ w'.heap.size
  block : ∀ b, b ≠ c → b < w.heap.size → (S b ∨ b < B) → w'.heap[b]? = w.heap[b]?
  os : w'.os = w.os
  output : w'.output = w.output
  tape : w'.tape = w.tape
structure RBw (T : Nat → Prop) (w w' : World) : Prop where
  size : w.heap.size ≤ w'.heap.size
  block : ∀ b, b ≠ c → b < w.heap.size → (T b ∨ Ro b) → w'.heap[b]? = w.heap[b]?
def CA1 (S : Nat → Prop) (a : Touch) : Prop := ∃ ad, a.loc = .cell ad ∧ (S ad.block ∨ (ad.block < B ∧ (a.write = true → M ad.block)))
def CB1 (T : Nat → Prop) (a : Touch) : Prop := (∃ ad, a.loc = .cell ad ∧ (T ad.block ∨ (Ro ad.block ∧ a.write = false))) ∨ a.loc = .obj c
structure D0w (S : Nat → Prop) (w w' : World) (es : Array Event) : Prop where
  size : w.heap.size ≤ w'.heap.size
  block : ∀ b, b < w.heap.size → ¬ S b → ¬ M b → w'.heap[b]? = w.heap[b]?
  evs : ∀ e ∈ es, EvK (CA1 B M (grow S w w')) e
structure DBw (T : Nat → Prop) (w w' : World) (es : Array Event) : Prop where
  size : w.heap.size ≤ w'.heap.size
  block : ∀ b, b < w.heap.size → ¬ T b → w'.heap[b]? = w.heap[b]?
  os : w'.os = w.os
  output : w'.output = w.output
  tape : w'.tape = w.tape
  evs : ∀ e ∈ es, EvK (CB1 c Ro (grow T w w')) e
theorem put_block {c : Nat} {w : World} {n : Nat} {buf : Array Value} {cl : Bool} {s r : Nat} {tm : Bool} {b : Nat} (h : b ≠ c) : (w.setChan c n buf cl s r tm).heap[b]? = w.heap[b]? := by
  simp only [World.setChan]; rw [Array.getElem?_setIfInBounds_ne (Ne.symm h)]
theorem the_pair (H : Terr c B M Ro) : Pair c B (R0w c B) (D0w B M) (RBw c Ro) (DBw c Ro) (CA1 B M) (CB1 c Ro) where
  t0 := ⟨fun S x y z h k => ⟨Nat.le_trans h.size k.size, fun b h1 h2 h3 => (k.block b h1 (Nat.lt_of_lt_of_le h2 h.size) h3).trans (h.block b h1 h2 h3), k.os.trans h.os, k.output.trans h.output, k.tape.trans h.tape⟩, fun S w => ⟨Nat.le_refl _, fun _ _ _ _ => rfl, fun e he => by simp at he⟩, fun S w => ⟨Nat.le_refl _, fun _ _ _ _ => rfl, fun e he => by simp at he⟩⟩
  tB := ⟨fun S x y z h k => ⟨Nat.le_trans h.size k.size, fun b h1 h2 h3 => (k.block b h1 (Nat.lt_of_lt_of_le h2 h.size) h3).trans (h.block b h1 h2 h3)⟩, fun S w => ⟨Nat.le_refl _, fun _ _ _ => rfl, rfl, rfl, rfl, fun e he => by simp at he⟩, fun S w => ⟨Nat.le_refl _, fun _ _ _ => rfl, rfl, rfl, rfl, fun e he => by simp at he⟩⟩
  refl0 S w := ⟨Nat.le_refl _, fun _ _ _ _ => rfl, rfl, rfl, rfl⟩
  reflB S w := ⟨Nat.le_refl _, fun _ _ _ _ => rfl⟩
  at0 S w d := ⟨Nat.le_refl _, fun _ _ _ _ => rfl, rfl, rfl, rfl⟩
  atB S w d := ⟨Nat.le_refl _, fun _ _ _ _ => rfl⟩
  put0 S w n buf cl s r tm := ⟨by rw [setChan_size]; exact Nat.le_refl _, fun b h _ _ => put_block h, rfl, rfl, rfl⟩
  putB S w n buf cl s r tm := ⟨by rw [setChan_size]; exact Nat.le_refl _, fun b h _ _ => put_block h⟩
  d0 S T w w' es hA h := by
    refine ⟨⟨h.size, fun b hc hb hT => h.block b hb ?_ ?_⟩, h.block c (Nat.lt_of_lt_of_le H.chan hA.low) ?_ ?_, h.evs, h.size⟩
    · intro hS
      rcases hT with hT | hT
      · exact hA.st b hS hT
      · have := (H.ro b hT).1; have := (hA.s b hS).1; omega
    · intro hM
      rcases hT with hT | hT
      · have := (H.m b hM).1; have := (hA.t b hT).1; omega
      · exact (H.ro b hT).2.2 hM
    · intro hS; have := (hA.s c hS).1; have := H.chan; omega
    · intro hM; exact (H.m c hM).2 rfl
  dB S T w w' es hA h := by
    refine ⟨⟨h.size, fun b hc hb hS => h.block b hb ?_, h.os, h.output, h.tape⟩, h.block c (Nat.lt_of_lt_of_le H.chan hA.low) ?_, h.evs, h.size⟩
    · intro hT
      rcases hS with hS | hS
      · exact hA.st b hS hT
      · have := (hA.t b hT).1; omega
    · intro hT; have := (hA.t c hT).1; have := H.chan; omega
  mono S S' h := ⟨fun a ⟨ad, h1, h2⟩ => ⟨ad, h1, h2.imp (h _) id⟩, fun a x => x.imp (fun ⟨ad, h1, h2⟩ => ⟨ad, h1, h2.imp (h _) id⟩) id⟩
  apart S T w hA := by
    have key : ∀ a b : Touch, CA1 B M S a → CB1 c Ro T b → a.loc = b.loc → (a.write = true ∨ b.write = true) → False := by
      rintro a b ⟨ad, h1, h2⟩ (⟨ad', k1, k2⟩ | k1) hl hw
      case inr => rw [h1, k1] at hl; cases hl
      rw [h1, k1] at hl
      cases hl
      rcases h2 with h2 | ⟨h2, h3⟩
      · rcases k2 with k2 | ⟨k2, _⟩
        · exact hA.st _ h2 k2
        · have := (hA.s _ h2).1; have := (H.ro _ k2).1; omega
      · rcases k2 with k2 | ⟨k2, k3⟩
        · have := (hA.t _ k2).1; omega
        · rcases hw with hw | hw
          · exact (H.ro _ k2).2.2 (h3 hw)
          · rw [k3] at hw; cases hw
    intro a b said ha hb
    exact ⟨fun h => key a b ha hb h.1 (by simpa using h.2.2.1), fun h => key a b ha hb h.1.symm (by have := h.2.2.1; simpa using this.symm)⟩
end
section
variable {c B : Nat} {M Ro : Nat → Prop}
theorem EvK.cell {C : Touch → Prop} {ad : Addr} {wr : Bool} (h : C ⟨.cell ad, wr, .plain⟩) : EvK C ⟨.cell ad, wr, false⟩ := by
  refine ⟨fun x hx _ => ?_, by simp, by simp⟩
  cases wr <;> (simp [MemAct.ofEvent, MemAct.touch?] at hx; subst hx; exact h)
theorem alloc_block (w : World) (o : Obj) {b : Nat} (h : b < w.heap.size) : (w.alloc o).heap[b]? = w.heap[b]? := by
  simp only [World.alloc]; rw [Array.getElem?_push_lt h, Array.getElem?_eq_getElem h]
theorem alloc_new (w : World) (o : Obj) : (w.alloc o).heap[w.heap.size]? = some o := by simp only [World.alloc]; rw [Array.getElem?_push_size]
theorem alloc_size (w : World) (o : Obj) : (w.alloc o).heap.size = w.heap.size + 1 := by simp only [World.alloc]; rw [Array.size_push]
theorem DBw.alloc (T : Nat → Prop) (w : World) (o : Obj) : DBw c Ro T w (w.alloc o) #[] := ⟨by rw [alloc_size]; omega, fun b h _ => alloc_block w o h, rfl, rfl, rfl, fun e he => by simp at he⟩
theorem D0w.alloc (S : Nat → Prop) (w : World) (o : Obj) : D0w B M S w (w.alloc o) #[] := ⟨by rw [alloc_size]; omega, fun b h _ _ => alloc_block w o h, fun e he => by simp at he⟩
theorem DBw.reads {T : Nat → Prop} {w : World} {es : Array Event} (h : ∀ e ∈ es, EvK (CB1 c Ro T) e) : DBw c Ro T w w es := ⟨Nat.le_refl _, fun _ _ _ => rfl, rfl, rfl, rfl, by rw [grow_self]; exact h⟩
theorem D0w.reads {S : Nat → Prop} {w : World} {es : Array Event} (h : ∀ e ∈ es, EvK (CA1 B M S) e) : D0w B M S w w es := ⟨Nat.le_refl _, fun _ _ _ _ => rfl, by rw [grow_self]; exact h⟩
end
end Go.Proofs.YtpbbmagjhkakgaaGreatDoor.Lf
namespace Go.Proofs.YtpbbmagjhkakgaaGreatDoor.Lf
open Go Go.Conc
section
variable {c B : Nat} {M Ro : Nat → Prop}
structure HB (c : Nat) (Ro T₀ : Nat → Prop) (w₀ : World) (T : Nat → Prop) (w : World) (fs : List (Nat × Obj)) : Prop where
  sub : ∀ b, T₀ b → T b
  keep : RBw c Ro T₀ w₀ w
  lt : c < w.heap.size
  facts : ∀ p ∈ fs, (T p.1 ∨ Ro p.1) ∧ p.1 ≠ c ∧ w.heap[p.1]? = some p.2
variable {T₀ T : Nat → Prop} {w₀ w w' : World} {fs : List (Nat × Obj)}
theorem HB.start (hc : c < w.heap.size) (h : ∀ p ∈ fs, (T p.1 ∨ Ro p.1) ∧ p.1 ≠ c ∧ w.heap[p.1]? = some p.2) : HB c Ro T w T w fs := ⟨fun _ h => h, ⟨Nat.le_refl _, fun _ _ _ _ => rfl⟩, hc, h⟩
theorem HB.rely (h : HB c Ro T₀ w₀ T w fs) (r : RBw c Ro T w w') : HB c Ro T₀ w₀ T w' fs :=
  ⟨h.sub, ⟨Nat.le_trans h.keep.size r.size, fun b h1 h2 h3 => (r.block b h1 (Nat.lt_of_lt_of_le h2 h.keep.size) (h3.imp (h.sub b) id)).trans (h.keep.block b h1 h2 h3)⟩, Nat.lt_of_lt_of_le h.lt r.size, fun p hp => by
    obtain ⟨h1, h2, h3⟩ := h.facts p hp
    exact ⟨h1, h2, (r.block _ h2 (Array.getElem?_eq_some_iff.1 h3).1 h1).trans h3⟩⟩
theorem HB.alloc (h : HB c Ro T₀ w₀ T w fs) (o : Obj) : HB c Ro T₀ w₀ (grow T w (w.alloc o)) (w.alloc o) ((w.heap.size, o) :: fs) := by
  refine ⟨fun b x => .inl (h.sub b x), ⟨by rw [alloc_size]; have := h.keep.size; omega, fun b h1 h2 h3 => (alloc_block w o (Nat.lt_of_lt_of_le h2 h.keep.size)).trans (h.keep.block b h1 h2 h3)⟩, by rw [alloc_size]; have := h.lt; omega, fun p hp => ?_⟩
  rcases List.mem_cons.1 hp with rfl | hp
  · exact ⟨.inl (.inr ⟨Nat.le_refl _, by rw [alloc_size]; exact Nat.lt_succ_self _⟩), fun e => by have := h.lt; omega, alloc_new w o⟩
  · obtain ⟨h1, h2, h3⟩ := h.facts p hp
    exact ⟨h1.imp .inl id, h2, (alloc_block w o (Array.getElem?_eq_some_iff.1 h3).1).trans h3⟩
theorem HB.get (h : HB c Ro T₀ w₀ T w fs) {b : Nat} {o : Obj} (hp : (b, o) ∈ fs) : w.heap[b]? = some o := (h.facts _ hp).2.2
theorem HB.own (h : HB c Ro T₀ w₀ T w fs) {b : Nat} {o : Obj} (hp : (b, o) ∈ fs) : T b ∨ Ro b := (h.facts _ hp).1
theorem HB.cell (h : HB c Ro T₀ w₀ T w fs) {b i : Nat} {cs : Array Value} {t : TypeId} {m : Nat × Nat} {v : Value} (hp : (b, Obj.cells cs t m) ∈ fs) (hv : cs[i]? = some v) : w.cell? ⟨b, i, none⟩ = some v := by
  have := h.get hp
  simp [World.cell?, this, hv]
theorem HB.call {T' : Nat → Prop} (h : HB c Ro T₀ w₀ T w fs) (hs : ∀ b, T b → T' b) (r : RBw c Ro T w w') : HB c Ro T₀ w₀ T' w' fs :=
  let k := h.rely r; ⟨fun b x => hs b (h.sub b x), k.keep, k.lt, fun p hp => let ⟨h1, h2, h3⟩ := k.facts p hp; ⟨h1.imp (hs _) id, h2, h3⟩⟩
theorem HB.read (h : HB c Ro T₀ w₀ T w fs) {b : Nat} {o : Obj} (hp : (b, o) ∈ fs) {ad : Addr} (ha : ad.block = b) : EvK (CB1 c Ro T) ⟨.cell ad, false, false⟩ :=
  EvK.cell (.inl ⟨ad, rfl, (h.own hp).imp (fun x => ha ▸ x) (fun x => ⟨ha ▸ x, rfl⟩)⟩)
theorem HB.fresh (h : HB c Ro T₀ w₀ T w fs) : w₀.heap.size ≤ w.heap.size ∧ ∀ p ∈ fs, p.1 ≠ w.heap.size := ⟨h.keep.size, fun p hp e => by have := (Array.getElem?_eq_some_iff.1 (h.facts p hp).2.2).1; omega⟩
theorem setCell_size (w : World) (a : Addr) (v : Value) : (w.setCell a v).heap.size = w.heap.size := by simp [World.setCell]
theorem setCell_other (w : World) (a : Addr) (v : Value) {k : Nat} (h : k ≠ a.block) : (w.setCell a v).heap[k]? = w.heap[k]? := by
  simp only [World.setCell]
  rw [Array.getElem?_modify]
  simp [Ne.symm h]
theorem setCell_same {w : World} {b i : Nat} {v : Value} {cs : Array Value} {t : TypeId} {m : Nat × Nat} (h : w.heap[b]? = some (.cells cs t m)) : (w.setCell ⟨b, i, none⟩ v).heap[b]? = some (.cells (cs.setIfInBounds i v) t m) := by
  simp only [World.setCell]
  rw [Array.getElem?_modify]
  simp [h]
theorem HB.set {b i : Nat} {v : Value} {cs : Array Value} {t : TypeId} {m : Nat × Nat} (h : HB c Ro T₀ w₀ T w ((b, .cells cs t m) :: fs)) (hb : w₀.heap.size ≤ b) (hd : ∀ p ∈ fs, p.1 ≠ b) : HB c Ro T₀ w₀ T (w.setCell ⟨b, i, none⟩ v) ((b, .cells (cs.setIfInBounds i v) t m) :: fs) := by
  refine ⟨h.sub, ⟨by rw [setCell_size]; exact h.keep.size, fun k h1 h2 h3 => ?_⟩, by rw [setCell_size]; exact h.lt, fun p hp => ?_⟩
  · rw [setCell_other _ _ _ (show k ≠ b by omega)]; exact h.keep.block k h1 h2 h3
  · rcases List.mem_cons.1 hp with rfl | hp
    · obtain ⟨h1, h2, h3⟩ := h.facts _ (.head _)
      exact ⟨h1, h2, setCell_same h3⟩
    · obtain ⟨h1, h2, h3⟩ := h.facts p (.tail _ hp)
      exact ⟨h1, h2, by rw [setCell_other _ _ _ (hd p hp)]; exact h3⟩
theorem DBw.sets {T : Nat → Prop} {w w' : World} {es : Array Event} {b : Nat} (hT : T b) (hs : w'.heap.size = w.heap.size) (hb : ∀ k, k ≠ b → w'.heap[k]? = w.heap[k]?) (h1 : w'.os = w.os) (h2 : w'.output = w.output) (h3 : w'.tape = w.tape) (he : ∀ e ∈ es, ∃ ad, e = ⟨.cell ad, true, false⟩ ∧ ad.block = b) : DBw c Ro T w w' es := by
  refine ⟨by rw [hs]; exact Nat.le_refl _, fun k _ hk => hb k fun e => hk (e ▸ hT), h1, h2, h3, fun e hm => ?_⟩
  obtain ⟨ad, rfl, rfl⟩ := he e hm
  exact EvK.cell (.inl ⟨ad, rfl, .inl (.inl hT)⟩)
theorem results_cell {P : Program} {fn : Func} {a : Tmp} {t : TypeId} (h : fn.results = #[.cell a t]) {tmps : Array Value} {ad : Addr} (ha : tmps.getD a undef = .pointer (some ad)) {w : World} {v : Value} (hl : (loadVar t ad).run P w = .ok v w) : (results fn tmps).run P w = .ok v w ∧ (results fn tmps).events P w #[] = (loadVar t ad).events P w #[] := by
  simp at ha
  constructor <;> simp [results, h, ha, asAddr, hl]
end
end Go.Proofs.YtpbbmagjhkakgaaGreatDoor.Lf
