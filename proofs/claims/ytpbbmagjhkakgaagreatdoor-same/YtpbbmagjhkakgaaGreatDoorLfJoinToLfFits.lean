/-
  The trace while one child is at work beside goroutine 0: two kinds of touches that do not meet; the go statement begins it, the closing of the channel and the receive that finds it closed end it.
-/
/-
  A piece of the model's semantics looks at just as many answers of the tape as it takes: for every program and every piece that is made as 'Fit' says.
-/
/-
  Every operation of the model's own is made as 'Fit' says: the two words 'do not listen' and 'listen again' come in pairs, a call of the system's that would wait ends the run; no program is named.
-/
import Derived.Conc.Beside
import Derived.Conc.CrowdTrace
import GoSem.Dispatch
import Derived.Laws.Sem
namespace Go.Proofs.YtpbbmagjhkakgaaGreatDoor.Lf
open Go Go.Conc
structure TI (hc : Prop) (κ B : Nat) (CA CB : Touch → Prop) (t : Trace) : Prop where
  clean : ∀ said, ¬ Race said t
  zero : ∀ i a, touchAt t i = some a → a.loc.isMemory = true → Knows t 0 i ∨ (t.g? i = some κ ∧ CB a)
  child : ∀ i a, touchAt t i = some a → a.loc.isMemory = true → Knows t κ i ∨ CA a
  over : ∀ i g, t.g? i = some g → g ≠ 0 → g ≠ κ → t.counts i → ∃ j, t.g? j = some 0 ∧ HappensBefore t i j
  hears : Deaf t 0 = 0
  hearsC : hc → Deaf t κ = 0
  seen : ∀ op ∈ t, op.act.low B
def ApartT (CA CB : Touch → Prop) : Prop := ∀ a b said, CA a → CB b → ¬ a.conflicts said b ∧ ¬ b.conflicts said a
section
variable {hc : Prop} {κ B : Nat} {CA CB : Touch → Prop} {t u : Trace}
theorem TI.mono {B' : Nat} {CA' CB' : Touch → Prop} (h : TI hc κ B CA CB t) (hB : B ≤ B') (h1 : ∀ a, CA a → CA' a) (h2 : ∀ a, CB a → CB' a) : TI hc κ B' CA' CB' t :=
  ⟨h.clean, fun i a x y => (h.zero i a x y).imp id fun z => ⟨z.1, h2 _ z.2⟩, fun i a x y => (h.child i a x y).imp id (h1 _), h.over, h.hears, h.hearsC, fun op hop => MemAct.low_mono hB (h.seen op hop)⟩
theorem over_app {t u : Trace} {κ : Nat} (h : ∀ i g, t.g? i = some g → g ≠ 0 → g ≠ κ → t.counts i → ∃ j, t.g? j = some 0 ∧ HappensBefore t i j) (hu : ∀ op ∈ u, op.g = 0 ∨ op.g = κ ∨ op.act.touch? = none) :
    ∀ i g, (t ++ u).g? i = some g → g ≠ 0 → g ≠ κ → (t ++ u).counts i → ∃ j, (t ++ u).g? j = some 0 ∧ HappensBefore (t ++ u) i j := by
  intro i g hg hne hk hc
  obtain ⟨x, hx, _⟩ := hc
  obtain ⟨op, hop, hox⟩ := touch_of hx
  rcases getElem?_append_cases hop with ⟨hi, hop'⟩ | ⟨_, hopu⟩
  · obtain ⟨j, hj, hb⟩ := h i g (by simpa [Trace.g?, getElem?_append_old hi] using hg) hne hk ((counts_old hi).1 ⟨x, hx, ‹_›⟩)
    have hjl : j < t.size := by
      unfold Trace.g? at hj
      obtain ⟨z, hz, _⟩ := Option.map_eq_some_iff.1 hj
      exact lt_size_of_getElem? hz
    exact ⟨j, by simpa [Trace.g?, getElem?_append_old hjl] using hj, hb_app u hb⟩
  · have hgo : op.g = g := by simpa [Trace.g?, hop] using hg
    rcases hu op hopu with h0 | h0 | h0
    · exact absurd (hgo.symm.trans h0) hne
    · exact absurd (hgo.symm.trans h0) hk
    · rw [h0] at hox; cases hox
theorem g?_lt {t : Trace} {i g : Nat} (h : t.g? i = some g) : i < t.size := by
  unfold Trace.g? at h
  obtain ⟨z, hz, _⟩ := Option.map_eq_some_iff.1 h
  exact lt_size_of_getElem? hz
theorem g?_app {t u : Trace} {i g : Nat} (h : t.g? i = some g) : (t ++ u).g? i = some g := by rw [g?_old (g?_lt h)]; exact h
theorem TI.weak (h : TI hc κ B CA CB t) : TI False κ B CA CB t := ⟨h.clean, h.zero, h.child, h.over, h.hears, fun x => x.elim, h.seen⟩
theorem TI.app0 (hκ : κ ≠ 0) (hA : ApartT CA CB) (h : TI hc κ B CA CB t) (hu : ∀ op ∈ u, op.g = 0) (hcl : ∀ op ∈ u, ∀ b, op.act.touch? = some b → b.loc.isMemory = true → CA b) (hd : Deaf (t ++ u) 0 = 0) (hl : ∀ op ∈ u, op.act.low B) : TI hc κ B CA CB (t ++ u) := by
  refine ⟨fun said => noRace_append (h.clean said) hu fun i a ha op hop b hb hcf => ?_, fun i a ha hm => ?_, fun i a ha hm => ?_, over_app h.over fun op hop => .inl (hu op hop), hd, fun x => (Deaf_other t (Ne.symm hκ) u hu).trans (h.hearsC x), seen_app h.seen hl⟩
  · rcases h.zero i a ha hcf.2.1 with hk | ⟨_, hb'⟩
    · exact hk
    · exact absurd hcf (hA b a said (hcl op hop b hb (hcf.1 ▸ hcf.2.1)) hb').2
  · obtain ⟨x, hx, hxa⟩ := touch_of ha
    rcases getElem?_append_cases hx with ⟨_, hx'⟩ | ⟨_, hxu⟩
    · exact (h.zero i a (by rw [touchAt_of hx']; exact hxa) hm).imp (·.app u) fun z => ⟨g?_app z.1, z.2⟩
    · have := knows_own hx
      rw [hu x hxu] at this
      exact .inl this
  · obtain ⟨x, hx, hxa⟩ := touch_of ha
    rcases getElem?_append_cases hx with ⟨_, hx'⟩ | ⟨_, hxu⟩
    · exact (h.child i a (by rw [touchAt_of hx']; exact hxa) hm).imp (·.app u) id
    · exact .inr (hcl x hxu a hxa hm)
theorem TI.appC (hκ : κ ≠ 0) (hA : ApartT CA CB) (h : TI hc κ B CA CB t) (hu : ∀ op ∈ u, op.g = κ) (hcl : ∀ op ∈ u, ∀ b, op.act.touch? = some b → b.loc.isMemory = true → CB b) (hd : hc → Deaf (t ++ u) κ = 0) (hl : ∀ op ∈ u, op.act.low B) : TI hc κ B CA CB (t ++ u) := by
  refine ⟨fun said => noRace_append (h.clean said) hu fun i a ha op hop b hb hcf => ?_, fun i a ha hm => ?_, fun i a ha hm => ?_, over_app h.over fun op hop => .inr (.inl (hu op hop)), (Deaf_other t hκ u hu).trans h.hears, hd, seen_app h.seen hl⟩
  · rcases h.child i a ha hcf.2.1 with hk | ha'
    · exact hk
    · exact absurd hcf (hA a b said ha' (hcl op hop b hb (hcf.1 ▸ hcf.2.1))).1
  · obtain ⟨x, hx, hxa⟩ := touch_of ha
    rcases getElem?_append_cases hx with ⟨_, hx'⟩ | ⟨_, hxu⟩
    · exact (h.zero i a (by rw [touchAt_of hx']; exact hxa) hm).imp (·.app u) fun z => ⟨g?_app z.1, z.2⟩
    · exact .inr ⟨by simp [Trace.g?, hx, hu x hxu], hcl x hxu a hxa hm⟩
  · obtain ⟨x, hx, hxa⟩ := touch_of ha
    rcases getElem?_append_cases hx with ⟨_, hx'⟩ | ⟨_, hxu⟩
    · exact (h.child i a (by rw [touchAt_of hx']; exact hxa) hm).imp (·.app u) id
    · have := knows_own hx
      rw [hu x hxu] at this
      exact .inl this
theorem TI.appMute (h : TI hc κ B CA CB t) (hn : ∀ op ∈ u, op.act.touch? = none) (hd0 : Deaf (t ++ u) 0 = 0) (hdκ : hc → Deaf (t ++ u) κ = 0) (hl : ∀ op ∈ u, op.act.low B) : TI hc κ B CA CB (t ++ u) := by
  refine ⟨fun said => ?_, fun i a ha hm => ?_, fun i a ha hm => ?_, over_app h.over fun op hop => .inr (.inr (hn op hop)), hd0, hdκ, seen_app h.seen hl⟩
  · rintro ⟨i, j, hij, ⟨a, b, ha, hb, hc⟩, n1, n2⟩
    obtain ⟨x, hx, hxa⟩ := touch_of ha
    obtain ⟨y, hy, hyb⟩ := touch_of hb
    rcases getElem?_append_cases hy with ⟨hj, hy'⟩ | ⟨_, hyu⟩
    · have hi : i < t.size := Nat.lt_trans hij hj
      have hx' : t[i]? = some x := by rw [← getElem?_append_old (u := u) hi]; exact hx
      exact h.clean said ⟨i, j, hij, ⟨a, b, by simp [Trace.act?, hx', hxa], by simp [Trace.act?, hy', hyb], hc⟩, fun e => n1 (hb_app u e), fun e => n2 (hb_app u e)⟩
    · rw [hn y hyu] at hyb; cases hyb
  · obtain ⟨x, hx, hxa⟩ := touch_of ha
    rcases getElem?_append_cases hx with ⟨_, hx'⟩ | ⟨_, hxu⟩
    · exact (h.zero i a (by rw [touchAt_of hx']; exact hxa) hm).imp (·.app u) fun z => ⟨g?_app z.1, z.2⟩
    · rw [hn x hxu] at hxa; cases hxa
  · obtain ⟨x, hx, hxa⟩ := touch_of ha
    rcases getElem?_append_cases hx with ⟨_, hx'⟩ | ⟨_, hxu⟩
    · exact (h.child i a (by rw [touchAt_of hx']; exact hxa) hm).imp (·.app u) id
    · rw [hn x hxu] at hxa; cases hxa
theorem TI.fork (h : Past (fun _ => False) B t) (hk : Deaf t κ = 0) {x y : MemOp} (hx : x.g = 0 ∧ x.act = .go κ) (hy : y.g = κ ∧ y.act = .start) : TI hc κ B CA CB (t ++ #[x, y]) := by
  have hn : ∀ op ∈ (#[x, y] : Trace), op.act.touch? = none := by
    intro op hop
    simp at hop
    rcases hop with rfl | rfl
    · rw [hx.2]; rfl
    · rw [hy.2]; rfl
  have hd : ∀ g, Deaf t g = 0 → Deaf (t ++ #[x, y]) g = 0 := by
    intro g hg
    have e : (t ++ #[x, y] : Trace) = t ++ [x, y].toArray := rfl
    rw [e, Deaf_append]
    simp [deafStep, hx.2, hy.2, hg]
  have base : TI hc κ B (fun _ => True) CB t := ⟨h.clean, fun i a ha hm => .inl ((h.known i a ha hm).resolve_right fun z => z.1.elim), fun _ _ _ _ => .inr trivial, fun i g h1 h2 _ h4 => h.over i g h1 h2 h4, h.hears, fun _ => hk, h.seen⟩
  have h2 := base.appMute hn (hd 0 h.hears) (fun _ => hd κ hk) (fun op hop => by
    simp at hop
    rcases hop with rfl | rfl
    · rw [hx.2]; trivial
    · rw [hy.2]; trivial)
  refine ⟨h2.clean, h2.zero, fun i a ha hm => ?_, h2.over, h2.hears, h2.hearsC, h2.seen⟩
  obtain ⟨z, hz, hza⟩ := touch_of ha
  rcases getElem?_append_cases hz with ⟨_, hz'⟩ | ⟨_, hzu⟩
  · exact .inl (Go.ConcN.fork_knows hx hy h.hears hk ((h.known i a (by rw [touchAt_of hz']; exact hza) hm).resolve_right fun z => z.1.elim))
  · rw [hn z hzu] at hza; cases hza
def Shut (κ c : Nat) (t : Trace) : Prop := ∃ pc, t.act? pc = some (.close c) ∧ t.g? pc = some κ ∧ t.heard pc ∧ ∀ i a, touchAt t i = some a → t.g? i = some κ → i < pc
theorem Shut.app {c : Nat} (h : Shut κ c t) (hu : ∀ op ∈ u, op.g = κ → op.act.touch? = none) : Shut κ c (t ++ u) := by
  obtain ⟨pc, h1, h2, h3, h4⟩ := h
  have hlt := g?_lt h2
  refine ⟨pc, by rw [act?_old hlt]; exact h1, g?_app h2, (heard_old hlt).2 h3, fun i a ha hg => ?_⟩
  obtain ⟨x, hx, hxa⟩ := touch_of ha
  rcases getElem?_append_cases hx with ⟨hi, hx'⟩ | ⟨_, hxu⟩
  · exact h4 i a (by rw [touchAt_of hx']; exact hxa) (by rw [g?_old hi] at hg; exact hg)
  · have : x.g = κ := by simpa [Trace.g?, hx] using hg
    rw [hu x hxu this] at hxa; cases hxa
theorem TI.join (hκ : κ ≠ 0) {c : Nat} (h : TI hc κ B CA CB t) (hs : Shut κ c t) {y : MemOp} (hy : y.g = 0 ∧ y.act = .recvClosed c) (hB : c < B) : Past (fun _ => False) B (t ++ #[y]) := by
  have hlast : (t ++ #[y])[t.size]? = some y := by rw [Array.getElem?_append_right (Nat.le_refl _)]; simp
  have hd : ∀ g, Deaf t g = 0 → Deaf (t ++ #[y]) g = 0 := by
    intro g hg
    rw [Deaf_push]
    simp [deafStep, hy.2, hg]
  have hn : ∀ op ∈ (#[y] : Trace), op.act.touch? = none := by
    intro op hop
    simp at hop
    subst hop
    rw [hy.2]; rfl
  have h2 := h.appMute hn (hd 0 h.hears) (fun x => hd κ (h.hearsC x)) (fun op hop => by simp at hop; subst hop; rw [hy.2]; exact hB)
  obtain ⟨pc, s1, s2, s3, s4⟩ := hs
  have hlt := g?_lt s2
  have edge : HappensBefore (t ++ #[y]) pc t.size := .single (.inr ⟨.closed (c := c) (by rw [act?_old hlt]; exact s1) (by rw [act?_of hlast, hy.2]), (heard_old hlt).2 s3, ⟨0, by simp [Trace.g?, hy.1], by rw [deaf_old (Nat.le_refl _)]; exact h.hears⟩⟩)
  have from_child : ∀ i a, touchAt (t ++ #[y]) i = some a → (t ++ #[y]).g? i = some κ → HappensBefore (t ++ #[y]) i t.size := by
    intro i a ha hg
    obtain ⟨x, hx, hxa⟩ := touch_of ha
    rcases getElem?_append_cases hx with ⟨hi, hx'⟩ | ⟨_, hxu⟩
    · have hip := s4 i a (by rw [touchAt_of hx']; exact hxa) (by rw [g?_old hi] at hg; exact hg)
      obtain ⟨z, hz, hzg⟩ := Option.map_eq_some_iff.1 (show (t[pc]?).map (·.g) = some κ from s2)
      have hxg : x.g = κ := by unfold Trace.g? at hg; rw [hx] at hg; exact Option.some.inj hg
      exact (hb_po hip hx (by rw [getElem?_append_old hlt]; exact hz) (hxg.trans hzg.symm)).trans edge
    · rw [hn x hxu] at hxa; cases hxa
  refine ⟨h2.clean, fun i a ha hm => ?_, fun i g hg hne hc => ?_, h2.hears, h2.seen⟩
  · rcases h2.zero i a ha hm with hk | ⟨hg, _⟩
    · exact .inl hk
    · exact .inl ⟨t.size, y, hlast, hy.1, .inr (from_child i a ha hg)⟩
  · by_cases hgk : g = κ
    · subst hgk
      obtain ⟨x, hx, _⟩ := hc
      exact ⟨t.size, by simp [Trace.g?, hy.1], from_child i x hx hg⟩
    · exact h2.over i g hg hne hgk hc
end
end Go.Proofs.YtpbbmagjhkakgaaGreatDoor.Lf

namespace Go.Proofs.YtpbbmagjhkakgaaGreatDoor.Lf
open Go Go.Conc
def re (w : World) (τ : Tape) (d : Nat) : World := { w with tape := τ, drawn := d }
def Alike (w : World) (m : Nat) (τ : Tape) (d : Nat) : Prop := ∀ j, j < m → τ (d + j) = w.tape (w.drawn + j)
theorem re_re (w : World) (τ τ' : Tape) (d d' : Nat) : re (re w τ d) τ' d' = re w τ' d' := rfl
theorem re_self (w : World) : re w w.tape w.drawn = w := rfl
theorem re_freeze (w : World) (τ : Tape) (d : Nat) (a : Addr) (n : Nat) : (re w τ d).freeze a n = re (w.freeze a n) τ d := by unfold World.freeze; split <;> rfl
def reX (τ : Tape) (d : Nat) : Except Halt (World × List Addr) → Except Halt (World × List Addr)
  | .ok (w, l) => .ok (re w τ d, l)
  | .error h => .error h
def reE (τ : Tape) (d : Nat) : Except String (World × List Addr) → Except String (World × List Addr)
  | .ok (w, l) => .ok (re w τ d, l)
  | .error h => .error h
theorem re_viewStore (p : Program) (w : World) (τ : Tape) (d : Nat) (at_ : Addr) (u : TypeId) (k : Addr) (v : Value) (b : Bool) :
    (re w τ d).viewStore p at_ u k v b = reE τ d (w.viewStore p at_ u k v b) := by
  unfold World.viewStore
  have hs : World.seen p (re w τ d) at_ u k b = World.seen p w at_ u k b := rfl
  rw [hs]
  simp only [re, bind, Except.bind, pure, Except.pure, MonadExcept.throw, throwThe, MonadExceptOf.throw]
  split
  · rfl
  · cases World.seen p w at_ u k b with
    | error e => rfl
    | ok x =>
      obtain ⟨c, e, frozen, first, like, cells⟩ := x
      simp only []
      split
      · split
        · rfl
        · split
          · rfl
          · rfl
      · rfl
theorem re_farStore (p : Program) (w : World) (τ : Tape) (d : Nat) (a : Addr) (v : Value) (b : Bool) :
    (re w τ d).farStore p a v b = reX τ d (w.farStore p a v b) := by
  unfold World.farStore
  have hh : (re w τ d).heap = w.heap := rfl
  have hn : (re w τ d).noCell a "store: no such cell" = w.noCell a "store: no such cell" := rfl
  rw [hh, hn]
  split
  · rename_i at_ u _
    rw [re_viewStore]
    cases World.viewStore p w at_ u a v b with
    | error e => rfl
    | ok x => rfl
  · rfl
theorem farStore_keeps {p : Program} {w w' : World} {a : Addr} {v : Value} {b : Bool} {t : List Addr} (h : w.farStore p a v b = .ok (w', t)) : w'.tape = w.tape ∧ w'.drawn = w.drawn := by
  have := re_farStore p w w.tape w.drawn a v b
  rw [re_self, h] at this
  simp only [reX, Except.ok.injEq, Prod.mk.injEq, and_true] at this
  rw [this]; exact ⟨rfl, rfl⟩
theorem ask_alike {α : Type} (a : Ask α) : ∀ w : World, ∃ m, (w.ask a).2 = re (w.ask a).2 w.tape (w.drawn + m) ∧
    ∀ τ d, Alike w m τ d → (re w τ d).ask a = ((w.ask a).1, re (w.ask a).2 τ (d + m)) := by
  induction a with
  | done a => exact fun w => ⟨0, rfl, fun τ d _ => rfl⟩
  | ask what range k ih =>
    intro w
    by_cases hf : (Question.extern what range).forced = true
    · obtain ⟨m, h1, h2⟩ := ih 0 w
      refine ⟨m, ?_, fun τ d h => ?_⟩
      · simp only [World.ask, hf, if_true]; exact h1
      · simp only [World.ask, hf, if_true]; exact h2 τ d h
    · obtain ⟨m, h1, h2⟩ := ih ((Question.extern what range).cut (w.tape w.drawn (.extern what range))) { w with drawn := w.drawn + 1 }
      refine ⟨m + 1, ?_, fun τ d h => ?_⟩
      · simp only [World.ask, hf, if_false, Bool.false_eq_true]
        rw [h1]
        simp only [re]
        congr 1; omega
      · simp only [World.ask, hf, if_false, Bool.false_eq_true]
        have h0 : τ d = w.tape w.drawn := by have := h 0 (by omega); simpa using this
        have := h2 τ (d + 1) (fun j hj => by have := h (j + 1) (by omega); simp only; rw [show d + 1 + j = d + (j + 1) by omega, this]; congr 1; omega)
        rw [show d + (m + 1) = d + 1 + m by omega, ← this]
        show World.ask _ (k ((Question.extern what range).cut (τ d (.extern what range)))) = _
        rw [h0]; rfl
def Ends : Halt → Bool
  | .panic _ | .goexit | .unsupported (.initOrder _) => false
  | _ => true
def Fit (P : Program) {α : Type} (L : α → Prop) : Nat → Sem α → Prop
  | d, .pure a => d = 0 ∧ L a
  | d, .load _ _ k => ∀ v, Fit P L d (k v)
  | d, .store _ _ _ k => Fit P L d k
  | d, .new _ k => ∀ n, Fit P L d (k n)
  | d, .shape _ k => ∀ s, Fit P L d (k s)
  | d, .freeze _ _ k => Fit P L d k
  | d, .frozen _ k => ∀ b, Fit P L d (k b)
  | d, .getObj _ k => ∀ o, Fit P L d (k o)
  | d, .setObj _ _ k => Fit P L d k
  | d, .choose _ k => ∀ n, Fit P L d (k n)
  | d, .sys _ k => (∃ h, k .wouldBlock = .halt h ∧ Ends h = true) ∧ ∀ r, Fit P L d (k r)
  | d, .program k => Fit P L d (k P)
  | d, .mark m k => Fit P L (match m with | .disable => d + 1 | .enable => d - 1 | _ => d) k
  | d, .halt h => d = 0 ∨ Ends h = true
theorem fit_bind {P : Program} {α β : Type} {L : α → Prop} {M : β → Prop} {f : α → Sem β} (hf : ∀ a, L a → Fit P M 0 (f a)) : ∀ {s : Sem α} {d : Nat}, Fit P L d s → Fit P M d (s.bind f) := by
  intro s
  induction s with
  | pure a => intro d h; obtain ⟨rfl, h⟩ := h; exact hf a h
  | load m a k ih => exact fun h v => ih v (h v)
  | store m a v k ih => exact fun h => ih h
  | new o k ih => exact fun h v => ih v (h v)
  | shape o k ih => exact fun h v => ih v (h v)
  | freeze a n k ih => exact fun h => ih h
  | frozen o k ih => exact fun h v => ih v (h v)
  | getObj o k ih => exact fun h v => ih v (h v)
  | setObj a n k ih => exact fun h => ih h
  | choose o k ih => exact fun h v => ih v (h v)
  | sys c k ih =>
    intro d h
    obtain ⟨⟨x, hx, he⟩, h⟩ := h
    exact ⟨⟨x, by show (k .wouldBlock).bind f = _; rw [hx]; rfl, he⟩, fun r => ih r (h r)⟩
  | program k ih => exact fun h => ih P h
  | mark m k ih => exact fun h => ih h
  | halt x => exact fun h => h
def reR {α : Type} (τ : Tape) (d : Nat) : Result α → Result α
  | .ok a w => .ok a (re w τ d)
  | .halt h w => .halt h (re w τ d)
def resOn {α : Type} : Result α → Bool
  | .ok _ _ => true
  | .halt h _ => !Ends h
theorem sys_alike {w : World} {c : Sys} (h : (w.sys c).1 ≠ .wouldBlock) : ∃ m, (w.sys c).2 = re (w.sys c).2 w.tape (w.drawn + m) ∧
    ∀ τ d, Alike w m τ d → (re w τ d).sys c = ((w.sys c).1, re (w.sys c).2 τ (d + m)) := by
  obtain ⟨m, h1, h2⟩ := ask_alike (Kernel.perform c w.os) w
  unfold World.sys at h ⊢
  have ho : ∀ τ d, (re w τ d).os = w.os := fun _ _ => rfl
  simp only [ho]
  generalize hx : w.ask (Kernel.perform c w.os) = x at h h1 h2 ⊢
  obtain ⟨⟨r, os⟩, w'⟩ := x
  refine ⟨m, ?_, fun τ d ha => ?_⟩
  · cases r <;> first | exact absurd rfl h | (simp only at h1 ⊢; rw [h1]; rfl)
  · rw [h2 τ d ha]
    cases r <;> first | exact absurd rfl h | rfl
theorem runT_alike (P : Program) {α : Type} {L : α → Prop} (s : Sem α) : ∀ (n : Nat) (w : World) (es : Array Event), Fit P L n s → resOn (s.runT P w es).1 = true →
    ∃ m, (s.runT P w es).1 = reR w.tape (w.drawn + m) (s.runT P w es).1 ∧ ∀ τ d, Alike w m τ d → s.runT P (re w τ d) es = (reR τ (d + m) (s.runT P w es).1, (s.runT P w es).2) := by
  induction s with
  | pure a => exact fun n w es _ _ => ⟨0, rfl, fun τ d _ => rfl⟩
  | load m a k ih =>
    intro n w es hf ho
    have hc : ∀ τ d, (re w τ d).cell? a = w.cell? a := fun _ _ => rfl
    have hl : ∀ τ d b, (re w τ d).farLoad P a b = w.farLoad P a b := fun _ _ _ => rfl
    simp only [Sem.runT, hc, hl] at ho ⊢
    cases hw : w.cell? a with
    | some v => simp only [hw] at ho ⊢; exact ih v n w _ (hf v) ho
    | none =>
      simp only [hw] at ho ⊢
      cases hx : w.farLoad P a (m == .atomic) with
      | ok x => obtain ⟨v, t⟩ := x; simp only [hx] at ho ⊢; exact ih v n w _ (hf v) ho
      | error e => simp only [hx] at ho ⊢; exact ⟨0, rfl, fun τ d _ => rfl⟩
  | store m a v k ih =>
    intro n w es hf ho
    cases v with
    | agg x => exact ⟨0, rfl, fun τ d _ => rfl⟩
    | tuple x => exact ⟨0, rfl, fun τ d _ => rfl⟩
    | _ =>
      have hc : ∀ τ d, (re w τ d).cell? a = w.cell? a := fun _ _ => rfl
      have hz : ∀ τ d, (re w τ d).frozen? a = w.frozen? a := fun _ _ => rfl
      simp only [Sem.runT, hc, hz, re_farStore] at ho ⊢
      cases hw : w.cell? a with
      | some u =>
        simp only [hw] at ho ⊢
        split at ho
        · rename_i hz1; simp only [hz1, if_true]; exact ⟨0, rfl, fun τ d _ => rfl⟩
        · rename_i hz1
          simp only [hz1, if_false, Bool.false_eq_true] at ho ⊢
          exact ih n _ _ hf ho
      | none =>
        simp only [hw] at ho ⊢
        cases hx : w.farStore P a _ (m == Mode.atomic) with
        | ok x =>
          obtain ⟨w', t⟩ := x
          simp only [hx, reX] at ho ⊢
          obtain ⟨e1, e2⟩ := farStore_keeps hx
          obtain ⟨m', h1, h2⟩ := ih n w' _ hf ho
          rw [e1, e2] at h1
          refine ⟨m', h1, fun τ d ha => h2 τ d fun j hj => ?_⟩
          rw [e1, e2]; exact ha j hj
        | error e => simp only [hx, reX] at ho ⊢; exact ⟨0, rfl, fun τ d _ => rfl⟩
  | new o k ih => exact fun n w es hf ho => ih w.heap.size n _ es (hf _) ho
  | shape r k ih => exact fun n w es hf ho => ih (w.shape? r) n w es (hf _) ho
  | freeze a c k ih =>
    intro n w es hf ho
    simp only [Sem.runT, re_freeze] at ho ⊢
    have e1 : (w.freeze a c).tape = w.tape := by unfold World.freeze; split <;> rfl
    have e2 : (w.freeze a c).drawn = w.drawn := by unfold World.freeze; split <;> rfl
    obtain ⟨m', h1, h2⟩ := ih n (w.freeze a c) es hf ho
    rw [e1, e2] at h1
    refine ⟨m', h1, fun τ d ha => h2 τ d fun j hj => ?_⟩
    rw [e1, e2]; exact ha j hj
  | frozen a k ih => exact fun n w es hf ho => ih (w.frozen? a) n w es (hf _) ho
  | getObj r k ih =>
    intro n w es hf ho
    have hh : ∀ τ d, (re w τ d).heap = w.heap := fun _ _ => rfl
    simp only [Sem.runT, hh] at ho ⊢
    cases hw : w.heap[r]? with
    | none => simp only [hw] at ho ⊢; exact ⟨0, rfl, fun τ d _ => rfl⟩
    | some o =>
      cases o with
      | cells c t z => simp only [hw] at ho ⊢; exact ⟨0, rfl, fun τ d _ => rfl⟩
      | _ => simp only [hw] at ho ⊢; exact ih _ n w _ (hf _) ho
  | setObj r o k ih =>
    intro n w es hf ho
    have hh : ∀ τ d, (re w τ d).heap = w.heap := fun _ _ => rfl
    simp only [Sem.runT, hh] at ho ⊢
    cases hw : w.heap[r]? with
    | none => simp only [hw] at ho ⊢; exact ⟨0, rfl, fun τ d _ => rfl⟩
    | some x =>
      cases x with
      | cells c t z => simp only [hw] at ho ⊢; exact ⟨0, rfl, fun τ d _ => rfl⟩
      | _ => simp only [hw] at ho ⊢; exact ih n _ _ hf ho
  | choose q k ih =>
    intro n w es hf ho
    simp only [Sem.runT] at ho ⊢
    by_cases hq : q.forced = true
    · simp only [hq, if_true] at ho ⊢; exact ih 0 n w es (hf _) ho
    · simp only [hq, if_false, Bool.false_eq_true] at ho ⊢
      obtain ⟨m', h1, h2⟩ := ih (q.cut (w.tape w.drawn q)) n { w with drawn := w.drawn + 1 } es (hf _) ho
      refine ⟨m' + 1, ?_, fun τ d ha => ?_⟩
      · rw [show w.drawn + (m' + 1) = w.drawn + 1 + m' by omega]; exact h1
      · have h0 : τ d = w.tape w.drawn := by have := ha 0 (by omega); simpa using this
        have := h2 τ (d + 1) (fun j hj => by have := ha (j + 1) (by omega); simp only; rw [show d + 1 + j = d + (j + 1) by omega, this]; congr 1; omega)
        rw [show d + (m' + 1) = d + 1 + m' by omega, ← this]
        show Sem.runT P (k (q.cut (τ d q))) _ es = _
        rw [h0]; rfl
  | sys c k ih =>
    intro n w es hf ho
    obtain ⟨⟨x, hx, he⟩, hf⟩ := hf
    simp only [Sem.runT] at ho ⊢
    by_cases hb : (w.sys c).1 = .wouldBlock
    · rw [hb, hx] at ho
      simp [Sem.runT, resOn, he] at ho
    · obtain ⟨m, h1, h2⟩ := sys_alike hb
      obtain ⟨m', h3, h4⟩ := ih (w.sys c).1 n (w.sys c).2 _ (hf _) ho
      have e1 : (w.sys c).2.tape = w.tape := by rw [h1]; rfl
      have e2 : (w.sys c).2.drawn = w.drawn + m := by rw [h1]; rfl
      refine ⟨m + m', ?_, fun τ d ha => ?_⟩
      · rw [e1, e2] at h3; rw [← Nat.add_assoc]; exact h3
      · rw [h2 τ d fun j hj => ha j (by omega)]
        simp only
        rw [h4 τ (d + m) fun j hj => ?_]
        · rw [Nat.add_assoc]
        · rw [e1, e2]; have := ha (m + j) (by omega); rw [← Nat.add_assoc] at this; rw [this, ← Nat.add_assoc]
  | program k ih => exact fun n w es hf ho => ih P n w es hf ho
  | mark m k ih => exact fun n w es hf ho => ih _ w _ hf ho
  | halt h => exact fun n w es hf ho => ⟨0, rfl, fun τ d _ => rfl⟩
end Go.Proofs.YtpbbmagjhkakgaaGreatDoor.Lf

namespace Go.Proofs.YtpbbmagjhkakgaaGreatDoor.Lf
open Go
theorem fit_pure (P : Program) {α : Type} (a : α) : Fit P (fun _ => True) 0 (pure a : Sem α) := ⟨rfl, trivial⟩
theorem fitB {P : Program} {α β : Type} {M : β → Prop} {s : Sem α} {f : α → Sem β} (hs : Fit P (fun _ => True) 0 s) (hf : ∀ a, Fit P M 0 (f a)) : Fit P M 0 (s >>= f) := fit_bind (fun a _ => hf a) hs
theorem fitM {P : Program} {α β : Type} {s : Sem α} {f : α → β} (hs : Fit P (fun _ => True) 0 s) : Fit P (fun _ => True) 0 (f <$> s) := fit_bind (L := fun _ => True) (f := fun a => pure (f a)) (fun _ _ => fit_pure P _) hs
theorem fit_load (P : Program) (a m) : Fit P (fun _ => True) 0 (load a m) := fun _ => ⟨rfl, trivial⟩
theorem fit_store (P : Program) (a v m) : Fit P (fun _ => True) 0 (store a v m) := ⟨rfl, trivial⟩
theorem fit_newObj (P : Program) (o) : Fit P (fun _ => True) 0 (newObj o) := fun _ => ⟨rfl, trivial⟩
theorem fit_shape (P : Program) (o) : Fit P (fun _ => True) 0 (shape o) := fun _ => ⟨rfl, trivial⟩
theorem fit_freeze (P : Program) (a n) : Fit P (fun _ => True) 0 (freeze a n) := ⟨rfl, trivial⟩
theorem fit_frozen (P : Program) (a) : Fit P (fun _ => True) 0 (frozen a) := fun _ => ⟨rfl, trivial⟩
theorem fit_getObj (P : Program) (r) : Fit P (fun _ => True) 0 (getObj r) := fun _ => ⟨rfl, trivial⟩
theorem fit_setObj (P : Program) (r o) : Fit P (fun _ => True) 0 (setObj r o) := ⟨rfl, trivial⟩
theorem fit_choose (P : Program) (q) : Fit P (fun _ => True) 0 (choose q) := fun _ => ⟨rfl, trivial⟩
theorem fit_program (P : Program) : Fit P (fun _ => True) 0 program := ⟨rfl, trivial⟩
theorem fit_stuck (P : Program) {α : Type} {L : α → Prop} (s : String) : Fit P L 0 (stuck s : Sem α) := .inl rfl
theorem fit_unsupported (P : Program) {α : Type} {L : α → Prop} (s) : Fit P L 0 (unsupported s : Sem α) := .inl rfl
theorem fit_goPanic (P : Program) {α : Type} {L : α → Prop} (s) : Fit P L 0 (goPanic s : Sem α) := .inl rfl
theorem fit_throw (P : Program) {α : Type} {L : α → Prop} (s) : Fit P L 0 (throw s : Sem α) := .inl rfl
theorem fit_askRoom (P : Program) (n) : Fit P (fun _ => True) 0 (askRoom n) := by unfold askRoom; split <;> exact ⟨rfl, trivial⟩
theorem fLi {P : Program} {α β : Type} {f : α → β → Sem (ForInStep β)} (hf : ∀ a b, Fit P (fun _ => True) 0 (f a b)) (l : List α) : ∀ b, Fit P (fun _ => True) 0 (forIn l b f) := by
  induction l with
  | nil => intro b; rw [List.forIn_nil]; exact fit_pure P _
  | cons a l ih => intro b; rw [List.forIn_cons]; refine fitB (hf _ _) fun r => ?_; split <;> first | exact fit_pure P _ | exact ih _
theorem fAi {P : Program} {α β : Type} {f : α → β → Sem (ForInStep β)} (hf : ∀ a b, Fit P (fun _ => True) 0 (f a b)) (l : Array α) (b : β) : Fit P (fun _ => True) 0 (forIn l b f) := by
  rw [← Array.forIn_toList]; exact fLi hf _ _
theorem fRi {P : Program} {β : Type} {f : Nat → β → Sem (ForInStep β)} (hf : ∀ a b, Fit P (fun _ => True) 0 (f a b)) (l : Std.Legacy.Range) (b : β) : Fit P (fun _ => True) 0 (forIn l b f) := by
  rw [Std.Legacy.Range.forIn_eq_forIn_range']; exact fLi hf _ _
theorem fFo {P : Program} {α β : Type} {f : β → α → Sem β} (hf : ∀ a b, Fit P (fun _ => True) 0 (f a b)) (l : List α) : ∀ b, Fit P (fun _ => True) 0 (List.foldlM f b l) := by
  induction l with
  | nil => intro b; exact fit_pure P _
  | cons a l ih => intro b; rw [List.foldlM_cons]; exact fitB (hf _ _) fun r => ih _
theorem fLm {P : Program} {α β : Type} {f : α → Sem β} (hf : ∀ a, Fit P (fun _ => True) 0 (f a)) (l : List α) : Fit P (fun _ => True) 0 (List.mapM f l) := by
  rw [List.mapM_eq_reverse_foldlM_cons]; exact fitM (fFo (fun _ a => fitM (hf a)) _ _)
theorem fAm {P : Program} {α β : Type} {f : α → Sem β} (hf : ∀ a, Fit P (fun _ => True) 0 (f a)) (l : Array α) : Fit P (fun _ => True) 0 (Array.mapM f l) := by
  rw [Array.mapM_eq_mapM_toList]; exact fitM (fLm hf _)
theorem fitIte {P : Program} {α : Type} {L : α → Prop} {c : Prop} [Decidable c] {x y : Sem α} (hx : Fit P L 0 x) (hy : Fit P L 0 y) : Fit P L 0 (if c then x else y) := by split <;> assumption
theorem fit_marked (P : Program) {m : Mark} (h : m ≠ .disable) (h' : m ≠ .enable) : Fit P (fun _ => True) 0 (mark m) := by
  unfold mark Fit
  cases m <;> first | exact absurd rfl h | exact absurd rfl h' | exact ⟨rfl, trivial⟩
theorem fit_asBool (P : Program) (x0) : Fit P (fun _ => True) 0 (@Go.asBool x0) := by
  unfold Go.asBool
  try dsimp only
  repeat' (first | (with_reducible first | exact fit_pure P _ | apply fit_stuck | apply fitB | apply fitM | apply fLi | apply fAi | apply fRi | apply fFo | apply fAm | apply fLm) | (intro _) | split | (exact trivial) | (dsimp only) | (with_reducible first | apply fitIte | exact fit_marked P (by simp) (by simp)))
theorem fit_underlying (P : Program) (x0) : Fit P (fun _ => True) 0 (@Go.underlying x0) := by
  unfold Go.underlying
  try dsimp only
  repeat' (first | (with_reducible first | exact fit_pure P _ | apply fit_program | apply fit_stuck | apply fitB | apply fitM | apply fLi | apply fAi | apply fRi | apply fFo | apply fAm | apply fLm) | (intro _) | split | (exact trivial) | (dsimp only) | (with_reducible first | apply fitIte | exact fit_marked P (by simp) (by simp)))
theorem fit_isAgg (P : Program) (x0) : Fit P (fun _ => True) 0 (@Go.isAgg x0) := by
  unfold Go.isAgg
  try dsimp only
  repeat' (first | (with_reducible first | exact fit_pure P _ | apply fit_underlying | apply fitB | apply fitM | apply fLi | apply fAi | apply fRi | apply fFo | apply fAm | apply fLm) | (intro _) | split | (exact trivial) | (dsimp only) | (with_reducible first | apply fitIte | exact fit_marked P (by simp) (by simp)))
theorem fit_typeInfo (P : Program) (x0) : Fit P (fun _ => True) 0 (@Go.typeInfo x0) := by
  unfold Go.typeInfo
  try dsimp only
  repeat' (first | (with_reducible first | exact fit_pure P _ | apply fit_program | apply fit_stuck | apply fitB | apply fitM | apply fLi | apply fAi | apply fRi | apply fFo | apply fAm | apply fLm) | (intro _) | split | (exact trivial) | (dsimp only) | (with_reducible first | apply fitIte | exact fit_marked P (by simp) (by simp)))
theorem fit_sizeOf (P : Program) (x0) : Fit P (fun _ => True) 0 (@Go.sizeOf x0) := by
  unfold Go.sizeOf
  try dsimp only
  repeat' (first | (with_reducible first | exact fit_pure P _ | apply fit_typeInfo | apply fitB | apply fitM | apply fLi | apply fAi | apply fRi | apply fFo | apply fAm | apply fLm) | (intro _) | split | (exact trivial) | (dsimp only) | (with_reducible first | apply fitIte | exact fit_marked P (by simp) (by simp)))
theorem fit_loadCellsFrom (P : Program) (x0 x1 x2 x3) : Fit P (fun _ => True) 0 (loadCellsFrom x0 x1 x2 x3) := by
  induction x2 generalizing x1 x3 with
  | zero => exact fit_pure P _
  | succ n ih => unfold loadCellsFrom; exact fitB (fit_load P _ _) fun _ => ih _ _
theorem fit_loadCells (P : Program) (x0) (x1) : Fit P (fun _ => True) 0 (@Go.loadCells x0 x1) := by
  unfold Go.loadCells
  try dsimp only
  repeat' (first | (with_reducible first | exact fit_pure P _ | apply fit_loadCellsFrom | apply fitB | apply fitM | apply fLi | apply fAi | apply fRi | apply fFo | apply fAm | apply fLm) | (intro _) | split | (exact trivial) | (dsimp only) | (with_reducible first | apply fitIte | exact fit_marked P (by simp) (by simp)))
theorem fit_loadVar (P : Program) (x0) (x1) : Fit P (fun _ => True) 0 (@Go.loadVar x0 x1) := by
  unfold Go.loadVar
  try dsimp only
  repeat' (first | (with_reducible first | exact fit_pure P _ | apply fit_isAgg | apply fit_sizeOf | apply fit_loadCells | apply fit_load | apply fitB | apply fitM | apply fLi | apply fAi | apply fRi | apply fFo | apply fAm | apply fLm) | (intro _) | split | (exact trivial) | (dsimp only) | (with_reducible first | apply fitIte | exact fit_marked P (by simp) (by simp)))
theorem fit_Place_get (P : Program) (x0) (x1) : Fit P (fun _ => True) 0 (@Go.Place.get x0 x1) := by
  unfold Go.Place.get
  try dsimp only
  repeat' (first | (with_reducible first | exact fit_pure P _ | apply fit_loadVar | apply fitB | apply fitM | apply fLi | apply fAi | apply fRi | apply fFo | apply fAm | apply fLm) | (intro _) | split | (exact trivial) | (dsimp only) | (with_reducible first | apply fitIte | exact fit_marked P (by simp) (by simp)))
theorem fit_numberAt (P : Program) (x0) : Fit P (fun _ => True) 0 (@Go.numberAt x0) := by
  unfold Go.numberAt
  try dsimp only
  repeat' (first | (with_reducible first | exact fit_pure P _ | apply fit_shape | apply fit_getObj | apply fitB | apply fitM | apply fLi | apply fAi | apply fRi | apply fFo | apply fAm | apply fLm) | (intro _) | split | (exact trivial) | (dsimp only) | (with_reducible first | apply fitIte | exact fit_marked P (by simp) (by simp)))
theorem fit_behindNumber (P : Program) (x0) : Fit P (fun _ => True) 0 (@Go.behindNumber x0) := by
  unfold Go.behindNumber
  try dsimp only
  repeat' (first | (with_reducible first | exact fit_pure P _ | apply fit_numberAt | apply fitB | apply fitM | apply fLi | apply fAi | apply fRi | apply fFo | apply fAm | apply fLm) | (intro _) | split | (exact trivial) | (dsimp only) | (with_reducible first | apply fitIte | exact fit_marked P (by simp) (by simp)))
theorem fit_viewAt (P : Program) (x0) : Fit P (fun _ => True) 0 (@Go.viewAt x0) := by
  unfold Go.viewAt
  try dsimp only
  repeat' (first | (with_reducible first | exact fit_pure P _ | apply fit_shape | apply fit_getObj | apply fitB | apply fitM | apply fLi | apply fAi | apply fRi | apply fFo | apply fAm | apply fLm) | (intro _) | split | (exact trivial) | (dsimp only) | (with_reducible first | apply fitIte | exact fit_marked P (by simp) (by simp)))
theorem fit_noView (P : Program) (x0) : Fit P (fun _ => True) 0 (@Go.noView x0) := by
  unfold Go.noView
  try dsimp only
  repeat' (first | (with_reducible first | exact fit_pure P _ | apply fit_viewAt | apply fit_unsupported | apply fitB | apply fitM | apply fLi | apply fAi | apply fRi | apply fFo | apply fAm | apply fLm) | (intro _) | split | (exact trivial) | (dsimp only) | (with_reducible first | apply fitIte | exact fit_marked P (by simp) (by simp)))
theorem fit_byteOf (P : Program) (x0) : Fit P (fun _ => True) 0 (@Go.byteOf x0) := by
  unfold Go.byteOf
  try dsimp only
  repeat' (first | (with_reducible first | exact fit_pure P _ | apply fit_program | apply fit_noView | apply fit_shape | apply fit_stuck | apply fitB | apply fitM | apply fLi | apply fAi | apply fRi | apply fFo | apply fAm | apply fLm) | (intro _) | split | (exact trivial) | (dsimp only) | (with_reducible first | apply fitIte | exact fit_marked P (by simp) (by simp)))
theorem fit_stringish (P : Program) (x0) : Fit P (fun _ => True) 0 (@Go.stringish x0) := by
  unfold Go.stringish
  try dsimp only
  repeat' (first | (with_reducible first | exact fit_pure P _ | apply fit_frozen | apply fit_shape | apply fitB | apply fitM | apply fLi | apply fAi | apply fRi | apply fFo | apply fAm | apply fLm) | (intro _) | split | (exact trivial) | (dsimp only) | (with_reducible first | apply fitIte | exact fit_marked P (by simp) (by simp)))
theorem fit_mayBeOne (P : Program) (x0) (x1) : Fit P (fun _ => True) 0 (@Go.mayBeOne x0 x1) := by
  unfold Go.mayBeOne
  try dsimp only
  repeat' (first | (with_reducible first | exact fit_pure P _ | apply fit_shape | apply fit_stringish | apply fitB | apply fitM | apply fLi | apply fAi | apply fRi | apply fFo | apply fAm | apply fLm) | (intro _) | split | (exact trivial) | (dsimp only) | (with_reducible first | apply fitIte | exact fit_marked P (by simp) (by simp)))
theorem fit_sameAddr (P : Program) (x0) (x1) : Fit P (fun _ => True) 0 (@Go.sameAddr x0 x1) := by
  unfold Go.sameAddr
  try dsimp only
  repeat' (first | (with_reducible first | exact fit_pure P _ | apply fit_frozen | apply fit_noView | apply fit_mayBeOne | apply fit_choose | apply fit_unsupported | apply fitB | apply fitM | apply fLi | apply fAi | apply fRi | apply fFo | apply fAm | apply fLm) | (intro _) | split | (exact trivial) | (dsimp only) | (with_reducible first | apply fitIte | exact fit_marked P (by simp) (by simp)))
theorem fit_samePointer (P : Program) (x0) (x1) : Fit P (fun _ => True) 0 (@Go.samePointer x0 x1) := by
  unfold Go.samePointer
  try dsimp only
  repeat' (first | (with_reducible first | exact fit_pure P _ | apply fit_sameAddr | apply fitB | apply fitM | apply fLi | apply fAi | apply fRi | apply fFo | apply fAm | apply fLm) | (intro _) | split | (exact trivial) | (dsimp only) | (with_reducible first | apply fitIte | exact fit_marked P (by simp) (by simp)))
theorem fit_typeStr (P : Program) (x0) : Fit P (fun _ => True) 0 (@Go.typeStr x0) := by
  unfold Go.typeStr
  try dsimp only
  repeat' (first | (with_reducible first | exact fit_pure P _ | apply fit_typeInfo | apply fit_unsupported | apply fitB | apply fitM | apply fLi | apply fAi | apply fRi | apply fFo | apply fAm | apply fLm) | (intro _) | split | (exact trivial) | (dsimp only) | (with_reducible first | apply fitIte | exact fit_marked P (by simp) (by simp)))
theorem fit_elemOf (P : Program) (x0) : Fit P (fun _ => True) 0 (@Go.elemOf x0) := by
  unfold Go.elemOf
  try dsimp only
  repeat' (first | (with_reducible first | exact fit_pure P _ | apply fit_underlying | apply fit_stuck | apply fitB | apply fitM | apply fLi | apply fAi | apply fRi | apply fFo | apply fAm | apply fLm) | (intro _) | split | (exact trivial) | (dsimp only) | (with_reducible first | apply fitIte | exact fit_marked P (by simp) (by simp)))
theorem fit_newRow (P : Program) (x0) (x1) : Fit P (fun _ => True) 0 (@Go.newRow x0 x1) := by
  unfold Go.newRow
  try dsimp only
  repeat' (first | (with_reducible first | exact fit_pure P _ | apply fit_newObj | apply fitB | apply fitM | apply fLi | apply fAi | apply fRi | apply fFo | apply fAm | apply fLm) | (intro _) | split | (exact trivial) | (dsimp only) | (with_reducible first | apply fitIte | exact fit_marked P (by simp) (by simp)))
theorem fit_newVar (P : Program) (x0) (x1) : Fit P (fun _ => True) 0 (@Go.newVar x0 x1) := by
  unfold Go.newVar
  try dsimp only
  repeat' (first | (with_reducible first | exact fit_pure P _ | apply fit_newRow | apply fitB | apply fitM | apply fLi | apply fAi | apply fRi | apply fFo | apply fAm | apply fLm) | (intro _) | split | (exact trivial) | (dsimp only) | (with_reducible first | apply fitIte | exact fit_marked P (by simp) (by simp)))
theorem fit_runtimePanic (P : Program) {x0} (x1) : Fit P (fun _ => True) 0 (@Go.runtimePanic x0 x1) := by
  unfold Go.runtimePanic
  try dsimp only
  repeat' (first | (with_reducible first | exact fit_pure P _ | apply fit_program | apply fit_goPanic | apply fit_elemOf | apply fit_newVar | apply fitB | apply fitM | apply fLi | apply fAi | apply fRi | apply fFo | apply fAm | apply fLm) | (intro _) | split | (exact trivial) | (dsimp only) | (with_reducible first | apply fitIte | exact fit_marked P (by simp) (by simp)))
theorem fit_part (P : Program) (x0) (x1) (x2) : Fit P (fun _ => True) 0 (@Go.part x0 x1 x2) := by
  unfold Go.part
  try dsimp only
  repeat' (first | (with_reducible first | exact fit_pure P _ | apply fit_isAgg | apply fit_sizeOf | apply fit_stuck | apply fitB | apply fitM | apply fLi | apply fAi | apply fRi | apply fFo | apply fAm | apply fLm) | (intro _) | split | (exact trivial) | (dsimp only) | (with_reducible first | apply fitIte | exact fit_marked P (by simp) (by simp)))
theorem fit_Op_equalIn (P : Program) (x0) (x1) (x2) (x3) : Fit P (fun _ => True) 0 (@Go.Op.equalIn x0 x1 x2 x3) := by
  induction x0 generalizing x1 x2 x3 with
  | zero =>
    unfold Go.Op.equalIn
    try dsimp only
    repeat' (first | (with_reducible first | exact fit_pure P _ | apply fit_unsupported | apply fit_underlying | apply fit_stuck | apply fit_behindNumber | apply fit_program | apply fit_byteOf | apply fit_typeInfo | apply fit_sizeOf | apply fit_sameAddr | apply fit_choose | apply fit_samePointer | apply fit_typeStr | apply fit_runtimePanic | apply fit_part | apply fitB | apply fitM) | (intro _) | split | (exact trivial))
  | succ n ih =>
    unfold Go.Op.equalIn
    try dsimp only
    repeat' (first | (with_reducible first | exact fit_pure P _ | apply ih | apply fit_unsupported | apply fit_underlying | apply fit_stuck | apply fit_behindNumber | apply fit_program | apply fit_byteOf | apply fit_typeInfo | apply fit_sizeOf | apply fit_sameAddr | apply fit_choose | apply fit_samePointer | apply fit_typeStr | apply fit_runtimePanic | apply fit_part | apply fitB | apply fitM | apply fLi | apply fAi | apply fRi) | (intro _) | split | (exact trivial))
theorem fit_Op_equal (P : Program) (x0) (x1) (x2) : Fit P (fun _ => True) 0 (@Go.Op.equal x0 x1 x2) := by
  unfold Go.Op.equal
  try dsimp only
  repeat' (first | (with_reducible first | exact fit_pure P _ | apply fit_Op_equalIn | apply fitB | apply fitM | apply fLi | apply fAi | apply fRi | apply fFo | apply fAm | apply fLm) | (intro _) | split | (exact trivial) | (dsimp only) | (with_reducible first | apply fitIte | exact fit_marked P (by simp) (by simp)))
theorem fit_Instr_findAsking (P : Program) (x0 x1 x2 x3) : Fit P (fun _ => True) 0 (Instr.findAsking x0 x1 x2 x3) := by
  induction x2 generalizing x3 with
  | nil => exact fit_pure P _
  | cons e es ih => unfold Instr.findAsking; refine fitB (fit_Op_equal P _ _ _) fun _ => ?_; split <;> first | exact ih _ | exact fit_pure P _
theorem fit_Instr_findKey (P : Program) (x0) (x1) (x2) : Fit P (fun _ => True) 0 (@Go.Instr.findKey x0 x1 x2) := by
  unfold Go.Instr.findKey
  try dsimp only
  repeat' (first | (with_reducible first | exact fit_pure P _ | apply fit_underlying | apply fit_Instr_findAsking | apply fitB | apply fitM | apply fLi | apply fAi | apply fRi | apply fFo | apply fAm | apply fLm) | (intro _) | split | (exact trivial) | (dsimp only) | (with_reducible first | apply fitIte | exact fit_marked P (by simp) (by simp)))
theorem fit_Builtin_firstCells (P : Program) (x0) (x1) (x2) : Fit P (fun _ => True) 0 (@Go.Builtin.firstCells x0 x1 x2) := by
  unfold Go.Builtin.firstCells
  try dsimp only
  repeat' (first | (with_reducible first | exact fit_pure P _ | apply fit_loadCells | apply fit_stuck | apply fitB | apply fitM | apply fLi | apply fAi | apply fRi | apply fFo | apply fAm | apply fLm) | (intro _) | split | (exact trivial) | (dsimp only) | (with_reducible first | apply fitIte | exact fit_marked P (by simp) (by simp)))
theorem fit_zeroValue (P : Program) (x0) : Fit P (fun _ => True) 0 (@Go.zeroValue x0) := by
  unfold Go.zeroValue
  try dsimp only
  repeat' (first | (with_reducible first | exact fit_pure P _ | apply fit_typeInfo | apply fit_unsupported | apply fitB | apply fitM | apply fLi | apply fAi | apply fRi | apply fFo | apply fAm | apply fLm) | (intro _) | split | (exact trivial) | (dsimp only) | (with_reducible first | apply fitIte | exact fit_marked P (by simp) (by simp)))
theorem fit_storeCells (P : Program) (x0 x1 x2) : Fit P (fun _ => True) 0 (storeCells x0 x1 x2) := by
  induction x1 generalizing x2 with
  | nil => exact fit_pure P _
  | cons e es ih => unfold storeCells; exact fitB (fit_store P _ _ _) fun _ => ih _
theorem fit_storeVar (P : Program) (x0) (x1) (x2) : Fit P (fun _ => True) 0 (@Go.storeVar x0 x1 x2) := by
  unfold Go.storeVar
  try dsimp only
  repeat' (first | (with_reducible first | exact fit_pure P _ | apply fit_sizeOf | apply fit_storeCells | apply fit_stuck | apply fitB | apply fitM | apply fLi | apply fAi | apply fRi | apply fFo | apply fAm | apply fLm) | (intro _) | split | (exact trivial) | (dsimp only) | (with_reducible first | apply fitIte | exact fit_marked P (by simp) (by simp)))
theorem fit_Instr_alloc (P : Program) (x0) (x1) (x2) : Fit P (fun _ => True) 0 (@Go.Instr.alloc x0 x1 x2) := by
  unfold Go.Instr.alloc
  try dsimp only
  repeat' (first | (with_reducible first | exact fit_pure P _ | apply fit_zeroValue | apply fit_storeVar | apply fit_newVar | apply fitB | apply fitM | apply fLi | apply fAi | apply fRi | apply fFo | apply fAm | apply fLm) | (intro _) | split | (exact trivial) | (dsimp only) | (with_reducible first | apply fitIte | exact fit_marked P (by simp) (by simp)))
theorem fit_Builtin_holdsCells (P : Program) (x0) (x1) : Fit P (fun _ => True) 0 (@Go.Builtin.holdsCells x0 x1) := by
  unfold Go.Builtin.holdsCells
  try dsimp only
  repeat' (first | (with_reducible first | exact fit_pure P _ | apply fit_shape | apply fitB | apply fitM | apply fLi | apply fAi | apply fRi | apply fFo | apply fAm | apply fLm) | (intro _) | split | (exact trivial) | (dsimp only) | (with_reducible first | apply fitIte | exact fit_marked P (by simp) (by simp)))
theorem fit_Builtin_mayShare (P : Program) (x0) (x1) (x2) (x3) (x4) : Fit P (fun _ => True) 0 (@Go.Builtin.mayShare x0 x1 x2 x3 x4) := by
  unfold Go.Builtin.mayShare
  try dsimp only
  repeat' (first | (with_reducible first | exact fit_pure P _ | apply fit_Builtin_holdsCells | apply fit_frozen | apply fitB | apply fitM | apply fLi | apply fAi | apply fRi | apply fFo | apply fAm | apply fLm) | (intro _) | split | (exact trivial) | (dsimp only) | (with_reducible first | apply fitIte | exact fit_marked P (by simp) (by simp)))
theorem fit_asIntOf (P : Program) (x0) : Fit P (fun _ => True) 0 (@Go.asIntOf x0) := by
  unfold Go.asIntOf
  try dsimp only
  repeat' (first | (with_reducible first | exact fit_pure P _ | apply fit_unsupported | apply fit_stuck | apply fitB | apply fitM | apply fLi | apply fAi | apply fRi | apply fFo | apply fAm | apply fLm) | (intro _) | split | (exact trivial) | (dsimp only) | (with_reducible first | apply fitIte | exact fit_marked P (by simp) (by simp)))
theorem fit_asInt (P : Program) (x0) : Fit P (fun _ => True) 0 (@Go.asInt x0) := by
  unfold Go.asInt
  try dsimp only
  repeat' (first | (with_reducible first | exact fit_pure P _ | apply fit_asIntOf | apply fitB | apply fitM | apply fLi | apply fAi | apply fRi | apply fFo | apply fAm | apply fLm) | (intro _) | split | (exact trivial) | (dsimp only) | (with_reducible first | apply fitIte | exact fit_marked P (by simp) (by simp)))
theorem fit_Builtin_lenOf (P : Program) (x0) : Fit P (fun _ => True) 0 (@Go.Builtin.lenOf x0) := by
  unfold Go.Builtin.lenOf
  try dsimp only
  repeat' (first | (with_reducible first | exact fit_pure P _ | apply fit_stuck | apply fitB | apply fitM | apply fLi | apply fAi | apply fRi | apply fFo | apply fAm | apply fLm) | (intro _) | split | (exact trivial) | (dsimp only) | (with_reducible first | apply fitIte | exact fit_marked P (by simp) (by simp)))
theorem fit_Builtin_append_ (P : Program) (x0 x1 x2) : Fit P (fun _ => True) 0 (Builtin.append_ x0 x1 x2) := by
  unfold Builtin.append_
  split
  · refine fitB (fit_underlying P _) fun t => ?_
    split
    · split
      · refine fitB (fit_sizeOf P _) fun size => ?_
        extract_lets j0 j1
        have h0 : ∀ u, Fit P (fun _ => True) 0 (j0 u) := fun u => fit_unsupported P _
        have h1 : ∀ zeros, Fit P (fun _ => True) 0 (j1 zeros) := by
          intro zeros
          simp -zeta only [j1]
          extract_lets j2
          have h2 : ∀ n, Fit P (fun _ => True) 0 (j2 n) := by
            intro n
            simp -zeta only [j2]
            extract_lets app need j3 j4 j5
            have ha : Fit P (fun _ => True) 0 app :=
              fitIte (fit_Builtin_firstCells P _ _ _) (fitIte (fit_pure P _) (fitB (fit_zeroValue P _) fun _ => fit_pure P _))
            have h4 : ∀ u, Fit P (fun _ => True) 0 (j4 u) := by
              intro u
              refine fitB (fit_choose P _) fun _ => fitB (fit_typeInfo P _) fun _ => fitB (fit_askRoom P _) fun _ => fitB (fit_Builtin_firstCells P _ _ _) fun _ => fitB ha fun _ => fitB (fit_zeroValue P _) fun _ => ?_
              exact fitB (fit_newRow P _ _) fun _ => fit_pure P _
            have h5 : ∀ u, Fit P (fun _ => True) 0 (j5 u) := by
              intro u
              refine fitB (fit_typeInfo P _) fun info => ?_
              refine fitIte (fitB (fitIte (fit_runtimePanic P _) (fitB (fit_Builtin_mayShare P _ _ _ _ _) fun _ => ?_)) fun _ => h4 ()) (h4 ())
              exact fitIte (fitB (fit_marked P (by simp) (by simp)) fun _ => h0 ()) (h0 ())
            refine fitIte ?_ ?_
            · refine fitB ha fun new => ?_
              split
              · exact fitB (fit_storeCells P _ _ _) fun _ => fit_pure P _
              · exact fit_pure P _
            · refine fitB (fit_typeInfo P _) fun info => ?_
              exact fitIte (fitB (fit_runtimePanic P _) fun _ => h5 ()) (h5 ())
          refine fitIte ?_ (fitB (fit_Builtin_lenOf P _) fun _ => h2 _)
          refine fitB (fit_asInt P _) fun l => ?_
          extract_lets l' j4 j3
          have h4 : ∀ u, Fit P (fun _ => True) 0 (j4 u) := fun u => fitB (fit_pure P _) fun _ => h2 _
          have h3 : ∀ u, Fit P (fun _ => True) 0 (j3 u) := by
            intro u
            refine fitB (fit_typeInfo P _) fun info => ?_
            exact fitIte (fitB (fit_choose P _) fun _ => fitB (fit_runtimePanic P _) fun _ => h4 ()) (h4 ())
          exact fitIte (fitB (fit_runtimePanic P _) fun _ => h3 ()) (h3 ())
        split
        · exact fitB (fit_underlying P _) fun _ => fitB (fit_pure P _) fun _ => h1 _
        · exact fitB (fit_pure P _) fun _ => h1 _
      · exact fit_stuck P _
    · exact fit_stuck P _
  · exact fit_stuck P _
theorem fit_Builtin_cap_ (P : Program) (x0) (x1) (x2) : Fit P (fun _ => True) 0 (@Go.Builtin.cap_ x0 x1 x2) := by
  unfold Go.Builtin.cap_
  try dsimp only
  repeat' (first | (with_reducible first | exact fit_pure P _ | apply fit_underlying | apply fit_stuck | apply fit_getObj | apply fitB | apply fitM | apply fLi | apply fAi | apply fRi | apply fFo | apply fAm | apply fLm) | (intro _) | split | (exact trivial) | (dsimp only) | (with_reducible first | apply fitIte | exact fit_marked P (by simp) (by simp)))
theorem fit_Builtin_clear_ (P : Program) (x0) (x1) (x2) : Fit P (fun _ => True) 0 (@Go.Builtin.clear_ x0 x1 x2) := by
  unfold Go.Builtin.clear_
  try dsimp only
  repeat' (first | (with_reducible first | exact fit_pure P _ | apply fit_underlying | apply fit_getObj | apply fit_setObj | apply fit_stuck | apply fit_zeroValue | apply fit_storeCells | apply fitB | apply fitM | apply fLi | apply fAi | apply fRi | apply fFo | apply fAm | apply fLm) | (intro _) | split | (exact trivial) | (dsimp only) | (with_reducible first | apply fitIte | exact fit_marked P (by simp) (by simp)))
theorem fit_Builtin_close_ (P : Program) (x0 x1 x2) : Fit P (fun _ => True) 0 (Builtin.close_ x0 x1 x2) := by
  rcases x2 with ⟨_ | ⟨a, _ | ⟨b, l⟩⟩⟩
  · exact fit_stuck P _
  · cases a with
    | chan r =>
      cases r with
      | none => exact (fit_runtimePanic P (.plain "close of nil channel") : Fit P (fun _ => True) 0 (runtimePanic (.plain "close of nil channel") : Sem Value))
      | some r =>
        refine fitB (s := getObj r) (fit_getObj P r) fun o => ?_
        cases o with
        | chan a b c d e f =>
          cases c with
          | true => exact fitB (fit_runtimePanic P _) fun _ => fitB (fit_setObj P _ _) fun _ => fit_pure P _
          | false => exact fitB (fit_setObj P _ _) fun _ => fit_pure P _
        | _ => exact fit_stuck P _
    | _ => exact fit_stuck P _
  · exact fit_stuck P _
theorem fit_Builtin_complex_ (P : Program) (x0 x1 x2) : Fit P (fun _ => True) 0 (Builtin.complex_ x0 x1 x2) := by
  rcases x2 with ⟨_ | ⟨a, _ | ⟨b, _ | ⟨c, l⟩⟩⟩⟩
  · exact fit_stuck P _
  · exact fit_stuck P _
  · cases a with
    | float k re =>
      cases b with
      | float k' im =>
        by_cases h : k = k'
        · have e : Builtin.complex_ x0 x1 ⟨[.float k re, .float k' im]⟩ = pure (.complex k re im) := (if_pos h : (if k = k' then pure (.complex k re im) else stuck "complex: parts of different kinds" : Sem Value) = _)
          rw [e]; exact fit_pure P _
        · have e : Builtin.complex_ x0 x1 ⟨[.float k re, .float k' im]⟩ = stuck "complex: parts of different kinds" := (if_neg h : (if k = k' then pure (.complex k re im) else stuck "complex: parts of different kinds" : Sem Value) = _)
          rw [e]; exact fit_stuck P _
      | _ => exact fit_stuck P _
    | _ => exact fit_stuck P _
  · exact fit_stuck P _
theorem fit_Builtin_copy_ (P : Program) (x0) (x1) (x2) : Fit P (fun _ => True) 0 (@Go.Builtin.copy_ x0 x1 x2) := by
  unfold Go.Builtin.copy_
  try dsimp only
  repeat' (first | (with_reducible first | exact fit_pure P _ | apply fit_underlying | apply fit_Builtin_lenOf | apply fit_sizeOf | apply fit_Builtin_firstCells | apply fit_storeCells | apply fit_stuck | apply fitB | apply fitM | apply fLi | apply fAi | apply fRi | apply fFo | apply fAm | apply fLm) | (intro _) | split | (exact trivial) | (dsimp only) | (with_reducible first | apply fitIte | exact fit_marked P (by simp) (by simp)))
theorem fit_Instr_checkKey (P : Program) (x0) (x1) (x2) (x3) : Fit P (fun _ => True) 0 (@Go.Instr.checkKey x0 x1 x2 x3) := by
  induction x1 generalizing x0 x2 x3 with
  | zero =>
    unfold Go.Instr.checkKey
    try dsimp only
    repeat' (first | (with_reducible first | exact fit_pure P _ | apply fit_unsupported | apply fit_underlying | apply fit_typeInfo | apply fit_typeStr | apply fit_runtimePanic | apply fit_sizeOf | apply fit_part | apply fit_stuck | apply fitB | apply fitM) | (intro _) | split | (exact trivial))
  | succ n ih =>
    unfold Go.Instr.checkKey
    try dsimp only
    repeat' (first | (with_reducible first | exact fit_pure P _ | apply ih | apply fit_unsupported | apply fit_underlying | apply fit_typeInfo | apply fit_typeStr | apply fit_runtimePanic | apply fit_sizeOf | apply fit_part | apply fit_stuck | apply fitB | apply fitM | apply fLi | apply fAi | apply fRi) | (intro _) | split | (exact trivial))
theorem fit_Builtin_delete_ (P : Program) (x0) (x1) (x2) : Fit P (fun _ => True) 0 (@Go.Builtin.delete_ x0 x1 x2) := by
  unfold Go.Builtin.delete_
  try dsimp only
  repeat' (first | (with_reducible first | exact fit_pure P _ | apply fit_underlying | apply fit_Instr_checkKey | apply fit_getObj | apply fit_Instr_findKey | apply fit_setObj | apply fit_stuck | apply fitB | apply fitM | apply fLi | apply fAi | apply fRi | apply fFo | apply fAm | apply fLm) | (intro _) | split | (exact trivial) | (dsimp only) | (with_reducible first | apply fitIte | exact fit_marked P (by simp) (by simp)))
theorem fit_Builtin_imag_ (P : Program) (x0) (x1) (x2) : Fit P (fun _ => True) 0 (@Go.Builtin.imag_ x0 x1 x2) := by
  unfold Go.Builtin.imag_
  rcases x2 with ⟨_ | ⟨a, _ | ⟨b, _ | ⟨c, _ | ⟨d, l⟩⟩⟩⟩⟩
  all_goals (try cases a)
  all_goals (try cases b)
  all_goals (try cases c)
  all_goals first | exact fit_stuck P _ | exact fit_pure P _ | skip
  all_goals
    repeat' (first | (with_reducible first | exact fit_pure P _ | apply fit_stuck | apply fitB | apply fitM) | (intro _) | split | (exact trivial) | (exact fit_stuck P _) | (exact fit_pure P _) | (dsimp only) | (apply fitB))
theorem fit_Builtin_len_ (P : Program) (x0) (x1) (x2) : Fit P (fun _ => True) 0 (@Go.Builtin.len_ x0 x1 x2) := by
  unfold Go.Builtin.len_
  try dsimp only
  repeat' (first | (with_reducible first | exact fit_pure P _ | apply fit_underlying | apply fit_stuck | apply fit_getObj | apply fitB | apply fitM | apply fLi | apply fAi | apply fRi | apply fFo | apply fAm | apply fLm) | (intro _) | split | (exact trivial) | (dsimp only) | (with_reducible first | apply fitIte | exact fit_marked P (by simp) (by simp)))
theorem fit_Op_stringOp (P : Program) (x0) (x1) (x2) : Fit P (fun _ => True) 0 (@Go.Op.stringOp x0 x1 x2) := by
  unfold Go.Op.stringOp
  try dsimp only
  repeat' (first | (with_reducible first | exact fit_pure P _ | apply fit_unsupported | apply fit_stuck | apply fitB | apply fitM | apply fLi | apply fAi | apply fRi | apply fFo | apply fAm | apply fLm) | (intro _) | split | (exact trivial) | (dsimp only) | (with_reducible first | apply fitIte | exact fit_marked P (by simp) (by simp)))
theorem fit_Builtin_max2 (P : Program) (x0) (x1) : Fit P (fun _ => True) 0 (@Go.Builtin.max2 x0 x1) := by
  unfold Go.Builtin.max2
  try dsimp only
  repeat' (first | (with_reducible first | exact fit_pure P _ | apply fit_choose | apply fit_Op_stringOp | apply fit_asBool | apply fit_unsupported | apply fit_stuck | apply fitB | apply fitM | apply fLi | apply fAi | apply fRi | apply fFo | apply fAm | apply fLm) | (intro _) | split | (exact trivial) | (dsimp only) | (with_reducible first | apply fitIte | exact fit_marked P (by simp) (by simp)))
theorem fit_Builtin_max_ (P : Program) (x0) (x1) (x2) : Fit P (fun _ => True) 0 (@Go.Builtin.max_ x0 x1 x2) := by
  unfold Go.Builtin.max_
  try dsimp only
  repeat' (first | (with_reducible first | exact fit_pure P _ | apply fit_stuck | apply fit_Builtin_max2 | apply fitB | apply fitM | apply fLi | apply fAi | apply fRi | apply fFo | apply fAm | apply fLm) | (intro _) | split | (exact trivial) | (dsimp only) | (with_reducible first | apply fitIte | exact fit_marked P (by simp) (by simp)))
theorem fit_Builtin_min2 (P : Program) (x0) (x1) : Fit P (fun _ => True) 0 (@Go.Builtin.min2 x0 x1) := by
  unfold Go.Builtin.min2
  try dsimp only
  repeat' (first | (with_reducible first | exact fit_pure P _ | apply fit_choose | apply fit_Op_stringOp | apply fit_asBool | apply fit_unsupported | apply fit_stuck | apply fitB | apply fitM | apply fLi | apply fAi | apply fRi | apply fFo | apply fAm | apply fLm) | (intro _) | split | (exact trivial) | (dsimp only) | (with_reducible first | apply fitIte | exact fit_marked P (by simp) (by simp)))
theorem fit_Builtin_min_ (P : Program) (x0) (x1) (x2) : Fit P (fun _ => True) 0 (@Go.Builtin.min_ x0 x1 x2) := by
  unfold Go.Builtin.min_
  try dsimp only
  repeat' (first | (with_reducible first | exact fit_pure P _ | apply fit_stuck | apply fit_Builtin_min2 | apply fitB | apply fitM | apply fLi | apply fAi | apply fRi | apply fFo | apply fAm | apply fLm) | (intro _) | split | (exact trivial) | (dsimp only) | (with_reducible first | apply fitIte | exact fit_marked P (by simp) (by simp)))
theorem fit_Instr_panicnil (P : Program) : Fit P (fun _ => True) 0 Instr.panicnil := by
  unfold Instr.panicnil
  refine ⟨⟨_, rfl, rfl⟩, fun r => ?_⟩
  show Fit P _ 0 (Sem.bind (.pure r) _)
  simp only [Sem.bind]
  split
  · exact fitB (fit_program P) fun _ => fit_pure P _
  · exact fit_stuck P _
theorem fit_Instr_panic (P : Program) (x0) : Fit P (fun _ => True) 0 (@Go.Instr.panic x0) := by
  unfold Go.Instr.panic
  try dsimp only
  repeat' (first | (with_reducible first | exact fit_pure P _ | apply fit_goPanic | apply fit_Instr_panicnil | apply fit_runtimePanic | apply fit_stuck | apply fitB | apply fitM | apply fLi | apply fAi | apply fRi | apply fFo | apply fAm | apply fLm) | (intro _) | split | (exact trivial) | (dsimp only) | (with_reducible first | apply fitIte | exact fit_marked P (by simp) (by simp)))
theorem fit_Builtin_real_ (P : Program) (x0) (x1) (x2) : Fit P (fun _ => True) 0 (@Go.Builtin.real_ x0 x1 x2) := by
  unfold Go.Builtin.real_
  rcases x2 with ⟨_ | ⟨a, _ | ⟨b, _ | ⟨c, _ | ⟨d, l⟩⟩⟩⟩⟩
  all_goals (try cases a)
  all_goals (try cases b)
  all_goals (try cases c)
  all_goals first | exact fit_stuck P _ | exact fit_pure P _ | skip
  all_goals
    repeat' (first | (with_reducible first | exact fit_pure P _ | apply fit_stuck | apply fitB | apply fitM) | (intro _) | split | (exact trivial) | (exact fit_stuck P _) | (exact fit_pure P _) | (dsimp only) | (apply fitB))
theorem fit_Builtin_unsafeAdd_ (P : Program) (x0 x1 x2) : Fit P (fun _ => True) 0 (Builtin.unsafeAdd_ x0 x1 x2) := by
  rcases x2 with ⟨_ | ⟨a, _ | ⟨b, _ | ⟨c, l⟩⟩⟩⟩
  · exact fit_stuck P _
  · exact fit_stuck P _
  · cases a with
    | pointer r =>
      refine fitB (s := asInt b) (fit_asInt P b) fun n => ?_
      repeat' (first | (with_reducible first | exact fit_pure P _ | apply fit_unsupported | apply fit_viewAt | apply fit_shape | apply fit_program | apply fitB) | (intro _) | split | (dsimp only))
    | _ => exact fit_stuck P _
  · exact fit_stuck P _
theorem fit_variablesAt (P : Program) (x0) (x1) (x2) : Fit P (fun _ => True) 0 (@Go.variablesAt x0 x1 x2) := by
  unfold Go.variablesAt
  try dsimp only
  repeat' (first | (with_reducible first | exact fit_pure P _ | apply fit_program | apply fit_shape | apply fitB | apply fitM | apply fLi | apply fAi | apply fRi | apply fFo | apply fAm | apply fLm) | (intro _) | split | (exact trivial) | (dsimp only) | (with_reducible first | apply fitIte | exact fit_marked P (by simp) (by simp)))
theorem fit_Builtin_unsafeSlice_ (P : Program) (x0 x1 x2) : Fit P (fun _ => True) 0 (Builtin.unsafeSlice_ x0 x1 x2) := by
  rcases x2 with ⟨_ | ⟨a, _ | ⟨b, _ | ⟨c, l⟩⟩⟩⟩
  · exact fit_stuck P _
  · exact fit_stuck P _
  · cases a with
    | pointer r =>
      refine fitB (s := asInt b) (fit_asInt P b) fun n => ?_
      repeat' (first | (with_reducible first | exact fit_pure P _ | apply fit_stuck | apply fit_unsupported | apply fit_runtimePanic | apply fit_newObj | apply fit_elemOf | apply fit_typeInfo | apply fit_sizeOf | apply fit_variablesAt | apply fit_viewAt | apply fit_shape | apply fit_program | apply fitB) | (intro _) | split | (dsimp only))
    | _ => exact fit_stuck P _
  · exact fit_stuck P _
theorem fit_Builtin_unsafeSliceData_ (P : Program) (x0 x1 x2) : Fit P (fun _ => True) 0 (Builtin.unsafeSliceData_ x0 x1 x2) := by
  rcases x2 with ⟨_ | ⟨a, _ | ⟨b, l⟩⟩⟩
  · exact fit_stuck P _
  · cases a with
    | slice r n c =>
      cases r with
      | none => exact fit_pure P _
      | some r =>
        by_cases hc : c ≠ 0
        · refine cast ?_ (fit_pure P (Value.pointer (some r)))
          exact congrArg (Fit P (fun _ => True) 0) (if_pos hc).symm
        · refine cast (congrArg (Fit P (fun _ => True) 0) (if_neg hc).symm) ?_
          repeat' (first | (with_reducible first | exact fit_pure P _ | apply fit_newObj | apply fit_elemOf | apply fit_viewAt | apply fitB) | (intro _) | split | (dsimp only))
    | _ => exact fit_stuck P _
  · exact fit_stuck P _
theorem fit_loadBytes (P : Program) (x0 x1 x2) : Fit P (fun _ => True) 0 (loadBytes x0 x1 x2) := by
  induction x2 generalizing x0 x1 with
  | zero => exact fit_pure P _
  | succ n ih => unfold loadBytes; refine fitB (fit_load P _ _) fun _ => ?_; split <;> first | exact ih _ _ | exact fit_stuck P _
theorem fit_Builtin_unsafeString_ (P : Program) (x0 x1 x2) : Fit P (fun _ => True) 0 (Builtin.unsafeString_ x0 x1 x2) := by
  rcases x2 with ⟨_ | ⟨a, _ | ⟨b, _ | ⟨c, l⟩⟩⟩⟩
  · exact fit_stuck P _
  · exact fit_stuck P _
  · cases a with
    | pointer r =>
      refine fitB (s := asInt b) (fit_asInt P b) fun n => ?_
      repeat' (first | (with_reducible first | exact fit_pure P _ | apply fit_stuck | apply fit_unsupported | apply fit_runtimePanic | apply fit_loadBytes | apply fit_elemOf | apply fit_freeze | apply fit_variablesAt | apply fitB) | (intro _) | split | (dsimp only))
    | _ => exact fit_stuck P _
  · exact fit_stuck P _
theorem fit_markStringish (P : Program) (x0) : Fit P (fun _ => True) 0 (@Go.markStringish x0) := by
  unfold Go.markStringish
  try dsimp only
  repeat' (first | (with_reducible first | exact fit_pure P _ | apply fit_shape | apply fit_freeze | apply fitB | apply fitM | apply fLi | apply fAi | apply fRi | apply fFo | apply fAm | apply fLm) | (intro _) | split | (exact trivial) | (dsimp only) | (with_reducible first | apply fitIte | exact fit_marked P (by simp) (by simp)))
theorem fit_Builtin_unsafeStringData_ (P : Program) (x0 x1 x2) : Fit P (fun _ => True) 0 (Builtin.unsafeStringData_ x0 x1 x2) := by
  rcases x2 with ⟨_ | ⟨a, _ | ⟨b, l⟩⟩⟩
  · exact fit_stuck P _
  · cases a with
    | string s =>
      by_cases hc : s.size = 0
      · refine cast (congrArg (Fit P (fun _ => True) 0) (if_pos hc).symm) ?_
        repeat' (first | (with_reducible first | exact fit_pure P _ | apply fit_newRow | apply fit_markStringish | apply fit_choose | apply fit_elemOf | apply fit_freeze | apply fitB) | (intro _) | split | (dsimp only))
      · refine cast (congrArg (Fit P (fun _ => True) 0) (if_neg hc).symm) ?_
        repeat' (first | (with_reducible first | exact fit_pure P _ | apply fit_newRow | apply fit_markStringish | apply fit_choose | apply fit_elemOf | apply fit_freeze | apply fitB) | (intro _) | split | (dsimp only))
    | _ => exact fit_stuck P _
  · exact fit_stuck P _
theorem fit_asAddr (P : Program) (x0) : Fit P (fun _ => True) 0 (@Go.asAddr x0) := by
  unfold Go.asAddr
  try dsimp only
  repeat' (first | (with_reducible first | exact fit_pure P _ | apply fit_runtimePanic | apply fit_stuck | apply fitB | apply fitM | apply fLi | apply fAi | apply fRi | apply fFo | apply fAm | apply fLm) | (intro _) | split | (exact trivial) | (dsimp only) | (with_reducible first | apply fitIte | exact fit_marked P (by simp) (by simp)))
theorem fit_partAt (P : Program) (x0) (x1) (x2) : Fit P (fun _ => True) 0 (@Go.partAt x0 x1 x2) := by
  unfold Go.partAt
  try dsimp only
  repeat' (first | (with_reducible first | exact fit_pure P _ | apply fit_byteOf | apply fitB | apply fitM | apply fLi | apply fAi | apply fRi | apply fFo | apply fAm | apply fLm) | (intro _) | split | (exact trivial) | (dsimp only) | (with_reducible first | apply fitIte | exact fit_marked P (by simp) (by simp)))
theorem fit_fieldPlace (P : Program) (x0) (x1) : Fit P (fun _ => True) 0 (@Go.fieldPlace x0 x1) := by
  unfold Go.fieldPlace
  try dsimp only
  repeat' (first | (with_reducible first | exact fit_pure P _ | apply fit_sizeOf | apply fit_partAt | apply fitB | apply fitM | apply fLi | apply fAi | apply fRi | apply fFo | apply fAm | apply fLm) | (intro _) | split | (exact trivial) | (dsimp only) | (with_reducible first | apply fitIte | exact fit_marked P (by simp) (by simp)))
theorem fit_follow (P : Program) (x0) (x1) (x2) : Fit P (fun _ => True) 0 (@Go.follow x0 x1 x2) := by
  induction x0 generalizing x1 x2 with
  | nil =>
    unfold Go.follow
    try dsimp only
    repeat' (first | (with_reducible first | exact fit_pure P _ | apply fit_underlying | apply fit_Place_get | apply fit_asAddr | apply fit_fieldPlace | apply fit_part | apply fit_stuck | apply fitB | apply fitM) | (intro _) | split | (exact trivial))
  | cons e es ih =>
    unfold Go.follow
    try dsimp only
    repeat' (first | (with_reducible first | exact fit_pure P _ | apply ih | apply fit_underlying | apply fit_Place_get | apply fit_asAddr | apply fit_fieldPlace | apply fit_part | apply fit_stuck | apply fitB | apply fitM | apply fLi | apply fAi | apply fRi) | (intro _) | split | (exact trivial))
theorem fit_Builtin_ssaWrapNilChk_ (P : Program) (x0 x1 x2) : Fit P (fun _ => True) 0 (Builtin.ssaWrapNilChk_ x0 x1 x2) := by
  rcases x2 with ⟨_ | ⟨a, _ | ⟨b, _ | ⟨c, _ | ⟨d, l⟩⟩⟩⟩⟩
  · exact fit_stuck P _
  · exact fit_stuck P _
  · exact fit_stuck P _
  · cases b with
    | string s =>
      cases c with
      | string m =>
        cases a with
        | pointer r =>
          cases r with
          | some r => exact fit_pure P _
          | none =>
            refine fitB (s := choose (.extern "ssa:wrapnilchk.dereferenced" 2)) (fit_choose P _) fun n => ?_
            repeat' (first | (with_reducible first | exact fit_pure P _ | apply fit_stuck | apply fit_unsupported | apply fit_runtimePanic | apply fit_typeInfo | apply fit_underlying | apply fitB) | (intro _) | split | (dsimp only))
        | _ => exact fit_stuck P _
      | _ => exact fit_stuck P _
    | _ => exact fit_stuck P _
  · exact fit_stuck P _
theorem fit_receiverAt (P : Program) (x0) (x1) (x2) (x3) : Fit P (fun _ => True) 0 (@Go.receiverAt x0 x1 x2 x3) := by
  unfold Go.receiverAt
  try dsimp only
  repeat' (first | (with_reducible first | exact fit_pure P _ | apply fit_underlying | apply fit_Place_get | apply fit_asAddr | apply fit_loadVar | apply fit_Builtin_ssaWrapNilChk_ | apply fit_stuck | apply fitB | apply fitM | apply fLi | apply fAi | apply fRi | apply fFo | apply fAm | apply fLm) | (intro _) | split | (exact trivial) | (dsimp only) | (with_reducible first | apply fitIte | exact fit_marked P (by simp) (by simp)))
theorem fit_method (P : Program) (x0) (x1) (x2) (x3) : Fit P (fun _ => True) 0 (@Go.method x0 x1 x2 x3) := by
  induction x0 generalizing x1 x2 x3 with
  | zero =>
    unfold Go.method
    try dsimp only
    repeat' (first | (with_reducible first | exact fit_pure P _ | apply fit_unsupported | apply fit_typeInfo | apply fit_follow | apply fit_Place_get | apply fit_runtimePanic | apply fit_stuck | apply fit_receiverAt | apply fitB | apply fitM) | (intro _) | split | (exact trivial))
  | succ n ih =>
    unfold Go.method
    try dsimp only
    repeat' (first | (with_reducible first | exact fit_pure P _ | apply ih | apply fit_unsupported | apply fit_typeInfo | apply fit_follow | apply fit_Place_get | apply fit_runtimePanic | apply fit_stuck | apply fit_receiverAt | apply fitB | apply fitM | apply fLi | apply fAi | apply fRi) | (intro _) | split | (exact trivial))
theorem fit_receiverVia (P : Program) (x0) (x1) (x2) (x3) : Fit P (fun _ => True) 0 (@Go.receiverVia x0 x1 x2 x3) := by
  unfold Go.receiverVia
  try dsimp only
  repeat' (first | (with_reducible first | exact fit_pure P _ | apply fit_follow | apply fit_receiverAt | apply fitB | apply fitM | apply fLi | apply fAi | apply fRi | apply fFo | apply fAm | apply fLm) | (intro _) | split | (exact trivial) | (dsimp only) | (with_reducible first | apply fitIte | exact fit_marked P (by simp) (by simp)))
theorem fit_Instr_getLoop (P : Program) (x0) : Fit P (fun _ => True) 0 (@Go.Instr.getLoop x0) := by
  unfold Go.Instr.getLoop
  try dsimp only
  repeat' (first | (with_reducible first | exact fit_pure P _ | apply fit_getObj | apply fit_stuck | apply fitB | apply fitM | apply fLi | apply fAi | apply fRi | apply fFo | apply fAm | apply fLm) | (intro _) | split | (exact trivial) | (dsimp only) | (with_reducible first | apply fitIte | exact fit_marked P (by simp) (by simp)))
theorem fit_Instr_keyThatStays (P : Program) (x0) (x1) : Fit P (fun _ => True) 0 (@Go.Instr.keyThatStays x0 x1) := by
  unfold Go.Instr.keyThatStays
  try dsimp only
  repeat' (first | (with_reducible first | exact fit_pure P _ | apply fit_choose | apply fitB | apply fitM | apply fLi | apply fAi | apply fRi | apply fFo | apply fAm | apply fLm) | (intro _) | split | (exact trivial) | (dsimp only) | (with_reducible first | apply fitIte | exact fit_marked P (by simp) (by simp)))
theorem fit_Op_floatArith (P : Program) (x0) (x1) (x2) (x3) : Fit P (fun _ => True) 0 (@Go.Op.floatArith x0 x1 x2 x3) := by
  unfold Go.Op.floatArith
  try dsimp only
  repeat' (first | (with_reducible first | exact fit_pure P _ | apply fit_choose | apply fit_stuck | apply fitB | apply fitM | apply fLi | apply fAi | apply fRi | apply fFo | apply fAm | apply fLm) | (intro _) | split | (exact trivial) | (dsimp only) | (with_reducible first | apply fitIte | exact fit_marked P (by simp) (by simp)))
theorem fit_Op_Complex_arith (P : Program) (x0) (x1) (x2) (x3) : Fit P (fun _ => True) 0 (@Go.Op.Complex.arith x0 x1 x2 x3) := by
  unfold Go.Op.Complex.arith
  try dsimp only
  repeat' (first | (with_reducible first | exact fit_pure P _ | apply fit_Op_floatArith | apply fit_stuck | apply fitB | apply fitM | apply fLi | apply fAi | apply fRi | apply fFo | apply fAm | apply fLm) | (intro _) | split | (exact trivial) | (dsimp only) | (with_reducible first | apply fitIte | exact fit_marked P (by simp) (by simp)))
theorem fit_Op_Complex_add (P : Program) (x0) (x1) : Fit P (fun _ => True) 0 (@Go.Op.Complex.add x0 x1) := by
  unfold Go.Op.Complex.add
  try dsimp only
  repeat' (first | (with_reducible first | exact fit_pure P _ | apply fit_Op_Complex_arith | apply fitB | apply fitM | apply fLi | apply fAi | apply fRi | apply fFo | apply fAm | apply fLm) | (intro _) | split | (exact trivial) | (dsimp only) | (with_reducible first | apply fitIte | exact fit_marked P (by simp) (by simp)))
theorem fit_Instr_box (P : Program) (x0) (x1) : Fit P (fun _ => True) 0 (@Go.Instr.box x0 x1) := by
  unfold Go.Instr.box
  try dsimp only
  repeat' (first | (with_reducible first | exact fit_pure P _ | apply fit_newVar | apply fitB | apply fitM | apply fLi | apply fAi | apply fRi | apply fFo | apply fAm | apply fLm) | (intro _) | split | (exact trivial) | (dsimp only) | (with_reducible first | apply fitIte | exact fit_marked P (by simp) (by simp)))
theorem fit_Instr_entry (P : Program) (x0) : Fit P (fun _ => True) 0 (@Go.Instr.entry x0) := by
  unfold Go.Instr.entry
  try dsimp only
  repeat' (first | (with_reducible first | exact fit_pure P _ | apply fit_getObj | apply fit_unsupported | apply fit_stuck | apply fitB | apply fitM | apply fLi | apply fAi | apply fRi | apply fFo | apply fAm | apply fLm) | (intro _) | split | (exact trivial) | (dsimp only) | (with_reducible first | apply fitIte | exact fit_marked P (by simp) (by simp)))
theorem fit_asAgg (P : Program) (x0) : Fit P (fun _ => True) 0 (@Go.asAgg x0) := by
  unfold Go.asAgg
  try dsimp only
  repeat' (first | (with_reducible first | exact fit_pure P _ | apply fit_stuck | apply fitB | apply fitM | apply fLi | apply fAi | apply fRi | apply fFo | apply fAm | apply fLm) | (intro _) | split | (exact trivial) | (dsimp only) | (with_reducible first | apply fitIte | exact fit_marked P (by simp) (by simp)))
theorem fit_Instr_field (P : Program) (x0) (x1) (x2) : Fit P (fun _ => True) 0 (@Go.Instr.field x0 x1 x2) := by
  unfold Go.Instr.field
  try dsimp only
  repeat' (first | (with_reducible first | exact fit_pure P _ | apply fit_underlying | apply fit_asAgg | apply fit_part | apply fit_stuck | apply fitB | apply fitM | apply fLi | apply fAi | apply fRi | apply fFo | apply fAm | apply fLm) | (intro _) | split | (exact trivial) | (dsimp only) | (with_reducible first | apply fitIte | exact fit_marked P (by simp) (by simp)))
theorem fit_Op_floatCmp (P : Program) (x0) (x1) (x2) (x3) : Fit P (fun _ => True) 0 (@Go.Op.floatCmp x0 x1 x2 x3) := by
  unfold Go.Op.floatCmp
  try dsimp only
  repeat' (first | (with_reducible first | exact fit_pure P _ | apply fit_stuck | apply fitB | apply fitM | apply fLi | apply fAi | apply fRi | apply fFo | apply fAm | apply fLm) | (intro _) | split | (exact trivial) | (dsimp only) | (with_reducible first | apply fitIte | exact fit_marked P (by simp) (by simp)))
theorem fit_panicString (P : Program) {x0} (x1) : Fit P (fun _ => True) 0 (@Go.panicString x0 x1) := by
  unfold Go.panicString
  try dsimp only
  repeat' (first | (with_reducible first | exact fit_pure P _ | apply fit_program | apply fit_goPanic | apply fitB | apply fitM | apply fLi | apply fAi | apply fRi | apply fFo | apply fAm | apply fLm) | (intro _) | split | (exact trivial) | (dsimp only) | (with_reducible first | apply fitIte | exact fit_marked P (by simp) (by simp)))
theorem fit_Conv_seenAt (P : Program) (x0) : Fit P (fun _ => True) 0 (@Go.Conv.seenAt x0) := by
  unfold Go.Conv.seenAt
  try dsimp only
  repeat' (first | (with_reducible first | exact fit_pure P _ | apply fit_viewAt | apply fit_unsupported | apply fit_program | apply fit_shape | apply fitB | apply fitM | apply fLi | apply fAi | apply fRi | apply fFo | apply fAm | apply fLm) | (intro _) | split | (exact trivial) | (dsimp only) | (with_reducible first | apply fitIte | exact fit_marked P (by simp) (by simp)))
theorem fit_cellsIn (P : Program) (x0) : Fit P (fun _ => True) 0 (@Go.cellsIn x0) := by
  unfold Go.cellsIn
  try dsimp only
  repeat' (first | (with_reducible first | exact fit_pure P _ | apply fit_shape | apply fit_getObj | apply fitB | apply fitM | apply fLi | apply fAi | apply fRi | apply fFo | apply fAm | apply fLm) | (intro _) | split | (exact trivial) | (dsimp only) | (with_reducible first | apply fitIte | exact fit_marked P (by simp) (by simp)))
theorem fit_asNumber (P : Program) (x0) (x1) : Fit P (fun _ => True) 0 (@Go.asNumber x0 x1) := by
  unfold Go.asNumber
  try dsimp only
  repeat' (first | (with_reducible first | exact fit_pure P _ | apply fit_newObj | apply fitB | apply fitM | apply fLi | apply fAi | apply fRi | apply fFo | apply fAm | apply fLm) | (intro _) | split | (exact trivial) | (dsimp only) | (with_reducible first | apply fitIte | exact fit_marked P (by simp) (by simp)))
theorem fit_Conv_unsafePointer (P : Program) (x0) (x1) (x2) : Fit P (fun _ => True) 0 (@Go.Conv.unsafePointer x0 x1 x2) := by
  unfold Go.Conv.unsafePointer
  try dsimp only
  repeat' (first | (with_reducible first | exact fit_pure P _ | apply fit_underlying | apply fit_Conv_seenAt | apply fit_cellsIn | apply fit_sizeOf | apply fit_newObj | apply fit_variablesAt | apply fit_shape | apply fit_program | apply fit_unsupported | apply fit_asNumber | apply fit_stuck | apply fitB | apply fitM | apply fLi | apply fAi | apply fRi | apply fFo | apply fAm | apply fLm) | (intro _) | split | (exact trivial) | (dsimp only) | (with_reducible first | apply fitIte | exact fit_marked P (by simp) (by simp)))
theorem fit_Op_Complex_mul (P : Program) (x0) (x1) : Fit P (fun _ => True) 0 (@Go.Op.Complex.mul x0 x1) := by
  unfold Go.Op.Complex.mul
  try dsimp only
  repeat' (first | (with_reducible first | exact fit_pure P _ | apply fit_Op_Complex_arith | apply fitB | apply fitM | apply fLi | apply fAi | apply fRi | apply fFo | apply fAm | apply fLm) | (intro _) | split | (exact trivial) | (dsimp only) | (with_reducible first | apply fitIte | exact fit_marked P (by simp) (by simp)))
theorem fit_Op_Complex_sub (P : Program) (x0) (x1) : Fit P (fun _ => True) 0 (@Go.Op.Complex.sub x0 x1) := by
  unfold Go.Op.Complex.sub
  try dsimp only
  repeat' (first | (with_reducible first | exact fit_pure P _ | apply fit_Op_Complex_arith | apply fitB | apply fitM | apply fLi | apply fAi | apply fRi | apply fFo | apply fAm | apply fLm) | (intro _) | split | (exact trivial) | (dsimp only) | (with_reducible first | apply fitIte | exact fit_marked P (by simp) (by simp)))
theorem fit_Op_Complex_corrected (P : Program) (x0) (x1) (x2) (x3) (x4) : Fit P (fun _ => True) 0 (@Go.Op.Complex.corrected x0 x1 x2 x3 x4) := by
  unfold Go.Op.Complex.corrected
  try dsimp only
  repeat' (first | (with_reducible first | exact fit_pure P _ | apply fit_Op_Complex_mul | apply fit_Op_Complex_add | apply fit_Op_Complex_sub | apply fitB | apply fitM | apply fLi | apply fAi | apply fRi | apply fFo | apply fAm | apply fLm) | (intro _) | split | (exact trivial) | (dsimp only) | (with_reducible first | apply fitIte | exact fit_marked P (by simp) (by simp)))
theorem fit_Instr_arrayAt (P : Program) (x0) (x1) : Fit P (fun _ => True) 0 (@Go.Instr.arrayAt x0 x1) := by
  unfold Go.Instr.arrayAt
  try dsimp only
  repeat' (first | (with_reducible first | exact fit_pure P _ | apply fit_underlying | apply fit_runtimePanic | apply fit_stuck | apply fitB | apply fitM | apply fLi | apply fAi | apply fRi | apply fFo | apply fAm | apply fLm) | (intro _) | split | (exact trivial) | (dsimp only) | (with_reducible first | apply fitIte | exact fit_marked P (by simp) (by simp)))
theorem fit_Deferred_ofValue (P : Program) (x0) (x1) : Fit P (fun _ => True) 0 (@Go.Deferred.ofValue x0 x1) := by
  unfold Go.Deferred.ofValue
  try dsimp only
  repeat' (first | (with_reducible first | exact fit_pure P _ | apply fit_stuck | apply fitB | apply fitM | apply fLi | apply fAi | apply fRi | apply fFo | apply fAm | apply fLm) | (intro _) | split | (exact trivial) | (dsimp only) | (with_reducible first | apply fitIte | exact fit_marked P (by simp) (by simp)))
theorem fit_resolve (P : Program) (x0) (x1) (x2) : Fit P (fun _ => True) 0 (@Go.resolve x0 x1 x2) := by
  unfold Go.resolve
  try dsimp only
  repeat' (first | (with_reducible first | exact fit_pure P _ | apply fit_Deferred_ofValue | apply fitB | apply fitM | apply fLi | apply fAi | apply fRi | apply fFo | apply fAm | apply fLm) | (intro _) | split | (exact trivial) | (dsimp only) | (with_reducible first | apply fitIte | exact fit_marked P (by simp) (by simp)))
theorem fit_Instr_buildSlice (P : Program) (x0) (x1) (x2) : Fit P (fun _ => True) 0 (@Go.Instr.buildSlice x0 x1 x2) := by
  unfold Go.Instr.buildSlice
  try dsimp only
  repeat' (first | (with_reducible first | exact fit_pure P _ | apply fit_underlying | apply fit_sizeOf | apply fit_newRow | apply fit_stuck | apply fit_zeroValue | apply fit_unsupported | apply fitB | apply fitM | apply fLi | apply fAi | apply fRi | apply fFo | apply fAm | apply fLm) | (intro _) | split | (exact trivial) | (dsimp only) | (with_reducible first | apply fitIte | exact fit_marked P (by simp) (by simp)))
theorem fit_Instr_mapUpdate (P : Program) (x0) (x1) (x2) (x3) : Fit P (fun _ => True) 0 (@Go.Instr.mapUpdate x0 x1 x2 x3) := by
  unfold Go.Instr.mapUpdate
  try dsimp only
  repeat' (first | (with_reducible first | exact fit_pure P _ | apply fit_underlying | apply fit_runtimePanic | apply fit_getObj | apply fit_Instr_checkKey | apply fit_Instr_findKey | apply fit_Instr_keyThatStays | apply fit_setObj | apply fit_stuck | apply fitB | apply fitM | apply fLi | apply fAi | apply fRi | apply fFo | apply fAm | apply fLm) | (intro _) | split | (exact trivial) | (dsimp only) | (with_reducible first | apply fitIte | exact fit_marked P (by simp) (by simp)))
theorem fit_boundsPanic (P : Program) {x0} (x1) (x2) (x3) (x4) : Fit P (fun _ => True) 0 (@Go.boundsPanic x0 x1 x2 x3 x4) := by
  unfold Go.boundsPanic
  try dsimp only
  repeat' (first | (with_reducible first | exact fit_pure P _ | apply fit_runtimePanic | apply fit_choose | apply fitB | apply fitM | apply fLi | apply fAi | apply fRi | apply fFo | apply fAm | apply fLm) | (intro _) | split | (exact trivial) | (dsimp only) | (with_reducible first | apply fitIte | exact fit_marked P (by simp) (by simp)))
theorem fit_Instr_index (P : Program) (x0) (x1) (x2) : Fit P (fun _ => True) 0 (@Go.Instr.index x0 x1 x2) := by
  unfold Go.Instr.index
  try dsimp only
  repeat' (first | (with_reducible first | exact fit_pure P _ | apply fit_asIntOf | apply fit_underlying | apply fit_sizeOf | apply fit_part | apply fit_boundsPanic | apply fit_stuck | apply fitB | apply fitM | apply fLi | apply fAi | apply fRi | apply fFo | apply fAm | apply fLm) | (intro _) | split | (exact trivial) | (dsimp only) | (with_reducible first | apply fitIte | exact fit_marked P (by simp) (by simp)))
theorem fit_Conv_floatToInt (P : Program) (x0) (x1) (x2) : Fit P (fun _ => True) 0 (@Go.Conv.floatToInt x0 x1 x2) := by
  unfold Go.Conv.floatToInt
  try dsimp only
  repeat' (first | (with_reducible first | exact fit_pure P _ | apply fit_choose | apply fitB | apply fitM | apply fLi | apply fAi | apply fRi | apply fFo | apply fAm | apply fLm) | (intro _) | split | (exact trivial) | (dsimp only) | (with_reducible first | apply fitIte | exact fit_marked P (by simp) (by simp)))
theorem fit_Conv_runesToString (P : Program) (x0) : Fit P (fun _ => True) 0 (@Go.Conv.runesToString x0) := by
  unfold Go.Conv.runesToString
  try dsimp only
  repeat' (first | (with_reducible first | exact fit_pure P _ | apply fit_loadCells | apply fit_stuck | apply fitB | apply fitM | apply fLi | apply fAi | apply fRi | apply fFo | apply fAm | apply fLm) | (intro _) | split | (exact trivial) | (dsimp only) | (with_reducible first | apply fitIte | exact fit_marked P (by simp) (by simp)))
theorem fit_Instr_sliceBound (P : Program) (x0) (x1) (x2) : Fit P (fun _ => True) 0 (@Go.Instr.sliceBound x0 x1 x2) := by
  unfold Go.Instr.sliceBound
  try dsimp only
  repeat' (first | (with_reducible first | exact fit_pure P _ | apply fit_asIntOf | apply fit_boundsPanic | apply fitB | apply fitM | apply fLi | apply fAi | apply fRi | apply fFo | apply fAm | apply fLm) | (intro _) | split | (exact trivial) | (dsimp only) | (with_reducible first | apply fitIte | exact fit_marked P (by simp) (by simp)))
theorem fit_Instr_takeDeferred (P : Program) (x0) : Fit P (fun _ => True) 0 (@Go.Instr.takeDeferred x0) := by
  unfold Go.Instr.takeDeferred
  try dsimp only
  repeat' (first | (with_reducible first | exact fit_pure P _ | apply fit_getObj | apply fit_setObj | apply fit_stuck | apply fitB | apply fitM | apply fLi | apply fAi | apply fRi | apply fFo | apply fAm | apply fLm) | (intro _) | split | (exact trivial) | (dsimp only) | (with_reducible first | apply fitIte | exact fit_marked P (by simp) (by simp)))
theorem fit_Op_addrMod (P : Program) (x0) (x1) (x2) : Fit P (fun _ => True) 0 (@Go.Op.addrMod x0 x1 x2) := by
  unfold Go.Op.addrMod
  try dsimp only
  repeat' (first | (with_reducible first | exact fit_pure P _ | apply fit_shape | apply fit_typeInfo | apply fit_byteOf | apply fit_unsupported | apply fitB | apply fitM | apply fLi | apply fAi | apply fRi | apply fFo | apply fAm | apply fLm) | (intro _) | split | (exact trivial) | (dsimp only) | (with_reducible first | apply fitIte | exact fit_marked P (by simp) (by simp)))
theorem fit_movedNumber (P : Program) (x0) (x1) (x2) : Fit P (fun _ => True) 0 (@Go.movedNumber x0 x1 x2) := by
  unfold Go.movedNumber
  try dsimp only
  repeat' (first | (with_reducible first | exact fit_pure P _ | apply fit_underlying | apply fit_behindNumber | apply fit_Builtin_unsafeAdd_ | apply fit_asNumber | apply fit_unsupported | apply fitB | apply fitM | apply fLi | apply fAi | apply fRi | apply fFo | apply fAm | apply fLm) | (intro _) | split | (exact trivial) | (dsimp only) | (with_reducible first | apply fitIte | exact fit_marked P (by simp) (by simp)))
theorem fit_Op_intArith (P : Program) (x0) (x1) (x2) (x3) : Fit P (fun _ => True) 0 (@Go.Op.intArith x0 x1 x2 x3) := by
  unfold Go.Op.intArith
  try dsimp only
  repeat' (first | (with_reducible first | exact fit_pure P _ | apply fit_stuck | apply fitB | apply fitM | apply fLi | apply fAi | apply fRi | apply fFo | apply fAm | apply fLm) | (intro _) | split | (exact trivial) | (dsimp only) | (with_reducible first | apply fitIte | exact fit_marked P (by simp) (by simp)))
theorem fit_Op_intBits (P : Program) (x0) (x1) (x2) (x3) : Fit P (fun _ => True) 0 (@Go.Op.intBits x0 x1 x2 x3) := by
  unfold Go.Op.intBits
  try dsimp only
  repeat' (first | (with_reducible first | exact fit_pure P _ | apply fit_stuck | apply fitB | apply fitM | apply fLi | apply fAi | apply fRi | apply fFo | apply fAm | apply fLm) | (intro _) | split | (exact trivial) | (dsimp only) | (with_reducible first | apply fitIte | exact fit_marked P (by simp) (by simp)))
theorem fit_Op_unary (P : Program) (x0) (x1) : Fit P (fun _ => True) 0 (@Go.Op.unary x0 x1) := by
  unfold Go.Op.unary
  try dsimp only
  repeat' (first | (with_reducible first | exact fit_pure P _ | apply fit_Op_intArith | apply fit_Op_intBits | apply fit_unsupported | apply fit_stuck | apply fitB | apply fitM | apply fLi | apply fAi | apply fRi | apply fFo | apply fAm | apply fLm) | (intro _) | split | (exact trivial) | (dsimp only) | (with_reducible first | apply fitIte | exact fit_marked P (by simp) (by simp)))
theorem fit_Instr_makeSlice (P : Program) (x0) (x1) (x2) : Fit P (fun _ => True) 0 (@Go.Instr.makeSlice x0 x1 x2) := by
  unfold Go.Instr.makeSlice
  try dsimp only
  repeat' (first | (with_reducible first | exact fit_pure P _ | apply fit_underlying | apply fit_asInt | apply fit_typeInfo | apply fit_askRoom | apply fit_sizeOf | apply fit_newRow | apply fit_zeroValue | apply fit_runtimePanic | apply fit_choose | apply fit_stuck | apply fitB | apply fitM | apply fLi | apply fAi | apply fRi | apply fFo | apply fAm | apply fLm) | (intro _) | split | (exact trivial) | (dsimp only) | (with_reducible first | apply fitIte | exact fit_marked P (by simp) (by simp)))
theorem fit_Instr_makeChan (P : Program) (x0) (x1) : Fit P (fun _ => True) 0 (@Go.Instr.makeChan x0 x1) := by
  unfold Go.Instr.makeChan
  try dsimp only
  repeat' (first | (with_reducible first | exact fit_pure P _ | apply fit_asInt | apply fit_underlying | apply fit_typeInfo | apply fit_newObj | apply fit_runtimePanic | apply fit_stuck | apply fitB | apply fitM | apply fLi | apply fAi | apply fRi | apply fFo | apply fAm | apply fLm) | (intro _) | split | (exact trivial) | (dsimp only) | (with_reducible first | apply fitIte | exact fit_marked P (by simp) (by simp)))
theorem fit_cutType (P : Program) (x0) : Fit P (fun _ => True) 0 (@Go.cutType x0) := by
  unfold Go.cutType
  try dsimp only
  repeat' (first | (with_reducible first | exact fit_pure P _ | apply fit_program | apply fit_stuck | apply fitB | apply fitM | apply fLi | apply fAi | apply fRi | apply fFo | apply fAm | apply fLm) | (intro _) | split | (exact trivial) | (dsimp only) | (with_reducible first | apply fitIte | exact fit_marked P (by simp) (by simp)))
theorem fit_Op_Complex_quo (P : Program) (x0) (x1) : Fit P (fun _ => True) 0 (@Go.Op.Complex.quo x0 x1) := by
  unfold Go.Op.Complex.quo
  try dsimp only
  repeat' (first | (with_reducible first | exact fit_pure P _ | apply fit_Op_Complex_arith | apply fitB | apply fitM | apply fLi | apply fAi | apply fRi | apply fFo | apply fAm | apply fLm) | (intro _) | split | (exact trivial) | (dsimp only) | (with_reducible first | apply fitIte | exact fit_marked P (by simp) (by simp)))
theorem fit_Conv_intToInt (P : Program) (x0) (x1) : Fit P (fun _ => True) 0 (@Go.Conv.intToInt x0 x1) := by
  unfold Go.Conv.intToInt
  try dsimp only
  repeat' (first | (with_reducible exact fit_pure P _)  | (with_reducible first | apply fitB | apply fitM | apply fLi | apply fAi | apply fRi | apply fFo | apply fAm | apply fLm) | (intro _) | split | (exact trivial) | (dsimp only) | (with_reducible first | apply fitIte | exact fit_marked P (by simp) (by simp)))
theorem fit_Op_shift (P : Program) (x0) (x1) (x2) (x3) (x4) : Fit P (fun _ => True) 0 (@Go.Op.shift x0 x1 x2 x3 x4) := by
  unfold Go.Op.shift
  try dsimp only
  repeat' (first | (with_reducible first | exact fit_pure P _ | apply fit_runtimePanic | apply fit_stuck | apply fitB | apply fitM | apply fLi | apply fAi | apply fRi | apply fFo | apply fAm | apply fLm) | (intro _) | split | (exact trivial) | (dsimp only) | (with_reducible first | apply fitIte | exact fit_marked P (by simp) (by simp)))
theorem fit_Op_intDiv (P : Program) (x0) (x1) (x2) (x3) : Fit P (fun _ => True) 0 (@Go.Op.intDiv x0 x1 x2 x3) := by
  unfold Go.Op.intDiv
  try dsimp only
  repeat' (first | (with_reducible first | exact fit_pure P _ | apply fit_runtimePanic | apply fit_stuck | apply fitB | apply fitM | apply fLi | apply fAi | apply fRi | apply fFo | apply fAm | apply fLm) | (intro _) | split | (exact trivial) | (dsimp only) | (with_reducible first | apply fitIte | exact fit_marked P (by simp) (by simp)))
theorem fit_Op_intCmp (P : Program) (x0) (x1) (x2) : Fit P (fun _ => True) 0 (@Go.Op.intCmp x0 x1 x2) := by
  unfold Go.Op.intCmp
  try dsimp only
  repeat' (first | (with_reducible first | exact fit_pure P _ | apply fit_stuck | apply fitB | apply fitM | apply fLi | apply fAi | apply fRi | apply fFo | apply fAm | apply fLm) | (intro _) | split | (exact trivial) | (dsimp only) | (with_reducible first | apply fitIte | exact fit_marked P (by simp) (by simp)))
theorem fit_Conv_floatToFloat (P : Program) (x0) (x1) (x2) : Fit P (fun _ => True) 0 (@Go.Conv.floatToFloat x0 x1 x2) := by
  unfold Go.Conv.floatToFloat
  try dsimp only
  repeat' (first | (with_reducible first | exact fit_pure P _ | apply fit_choose | apply fitB | apply fitM | apply fLi | apply fAi | apply fRi | apply fFo | apply fAm | apply fLm) | (intro _) | split | (exact trivial) | (dsimp only) | (with_reducible first | apply fitIte | exact fit_marked P (by simp) (by simp)))
theorem fit_Op_Complex_conv (P : Program) (x0) (x1) (x2) : Fit P (fun _ => True) 0 (@Go.Op.Complex.conv x0 x1 x2) := by
  unfold Go.Op.Complex.conv
  try dsimp only
  repeat' (first | (with_reducible first | exact fit_pure P _ | apply fit_Conv_floatToFloat | apply fit_stuck | apply fitB | apply fitM | apply fLi | apply fAi | apply fRi | apply fFo | apply fAm | apply fLm) | (intro _) | split | (exact trivial) | (dsimp only) | (with_reducible first | apply fitIte | exact fit_marked P (by simp) (by simp)))
theorem fit_Op_Complex_product (P : Program) (x0) (x1) (x2) (x3) : Fit P (fun _ => True) 0 (@Go.Op.Complex.product x0 x1 x2 x3) := by
  unfold Go.Op.Complex.product
  try dsimp only
  repeat' (first | (with_reducible first | exact fit_pure P _ | apply fit_Op_Complex_mul | apply fit_Op_Complex_sub | apply fit_Op_Complex_add | apply fitB | apply fitM | apply fLi | apply fAi | apply fRi | apply fFo | apply fAm | apply fLm) | (intro _) | split | (exact trivial) | (dsimp only) | (with_reducible first | apply fitIte | exact fit_marked P (by simp) (by simp)))
theorem fit_Op_Complex_cmp (P : Program) (x0) (x1) (x2) (x3) : Fit P (fun _ => True) 0 (@Go.Op.Complex.cmp x0 x1 x2 x3) := by
  unfold Go.Op.Complex.cmp
  try dsimp only
  repeat' (first | (with_reducible first | exact fit_pure P _ | apply fit_Op_floatCmp | apply fit_asBool | apply fitB | apply fitM | apply fLi | apply fAi | apply fRi | apply fFo | apply fAm | apply fLm) | (intro _) | split | (exact trivial) | (dsimp only) | (with_reducible first | apply fitIte | exact fit_marked P (by simp) (by simp)))
theorem fit_Op_Complex_quotient (P : Program) (x0) (x1) (x2) (x3) : Fit P (fun _ => True) 0 (@Go.Op.Complex.quotient x0 x1 x2 x3) := by
  unfold Go.Op.Complex.quotient
  try dsimp only
  repeat' (first | (with_reducible first | exact fit_pure P _ | apply fit_Op_Complex_cmp | apply fit_Op_Complex_mul | apply fit_Op_Complex_corrected | apply fit_Op_Complex_quo | apply fit_Op_Complex_add | apply fit_Op_Complex_sub | apply fitB | apply fitM | apply fLi | apply fAi | apply fRi | apply fFo | apply fAm | apply fLm) | (intro _) | split | (exact trivial) | (dsimp only) | (with_reducible first | apply fitIte | exact fit_marked P (by simp) (by simp)))
theorem fit_Op_complexOp (P : Program) (x0) (x1) (x2) (x3) (x4) (x5) : Fit P (fun _ => True) 0 (@Go.Op.complexOp x0 x1 x2 x3 x4 x5) := by
  unfold Go.Op.complexOp
  try dsimp only
  repeat' (first | (with_reducible first | exact fit_pure P _ | apply fit_Op_Complex_arith | apply fit_Op_Complex_conv | apply fit_Op_Complex_product | apply fit_Op_Complex_quotient | apply fit_Op_Complex_cmp | apply fit_stuck | apply fitB | apply fitM | apply fLi | apply fAi | apply fRi | apply fFo | apply fAm | apply fLm) | (intro _) | split | (exact trivial) | (dsimp only) | (with_reducible first | apply fitIte | exact fit_marked P (by simp) (by simp)))
theorem fit_movedPointer (P : Program) (x0) (x1) (x2) : Fit P (fun _ => True) 0 (@Go.movedPointer x0 x1 x2) := by
  unfold Go.movedPointer
  try dsimp only
  repeat' (first | (with_reducible first | exact fit_pure P _ | apply fit_Builtin_unsafeAdd_ | apply fit_numberAt | apply fit_unsupported | apply fitB | apply fitM | apply fLi | apply fAi | apply fRi | apply fFo | apply fAm | apply fLm) | (intro _) | split | (exact trivial) | (dsimp only) | (with_reducible first | apply fitIte | exact fit_marked P (by simp) (by simp)))
theorem fit_Op_twoPlaces (P : Program) (x0) (x1) : Fit P (fun _ => True) 0 (@Go.Op.twoPlaces x0 x1) := by
  unfold Go.Op.twoPlaces
  try dsimp only
  repeat' (first | (with_reducible first | exact fit_pure P _ | apply fit_program | apply fit_byteOf | apply fit_unsupported | apply fitB | apply fitM | apply fLi | apply fAi | apply fRi | apply fFo | apply fAm | apply fLm) | (intro _) | split | (exact trivial) | (dsimp only) | (with_reducible first | apply fitIte | exact fit_marked P (by simp) (by simp)))
theorem fit_Op_addrSub (P : Program) (x0) (x1) (x2) : Fit P (fun _ => True) 0 (@Go.Op.addrSub x0 x1 x2) := by
  unfold Go.Op.addrSub
  try dsimp only
  repeat' (first | (with_reducible first | exact fit_pure P _ | apply fit_Op_twoPlaces | apply fitB | apply fitM | apply fLi | apply fAi | apply fRi | apply fFo | apply fAm | apply fLm) | (intro _) | split | (exact trivial) | (dsimp only) | (with_reducible first | apply fitIte | exact fit_marked P (by simp) (by simp)))
theorem fit_Op_addrCmp (P : Program) (x0) (x1) (x2) : Fit P (fun _ => True) 0 (@Go.Op.addrCmp x0 x1 x2) := by
  unfold Go.Op.addrCmp
  try dsimp only
  repeat' (first | (with_reducible first | exact fit_pure P _ | apply fit_Op_twoPlaces | apply fit_unsupported | apply fitB | apply fitM | apply fLi | apply fAi | apply fRi | apply fFo | apply fAm | apply fLm) | (intro _) | split | (exact trivial) | (dsimp only) | (with_reducible first | apply fitIte | exact fit_marked P (by simp) (by simp)))
theorem fit_binOp (P : Program) (x0) (x1) (x2) (x3) : Fit P (fun _ => True) 0 (@Go.binOp x0 x1 x2 x3) := by
  unfold Go.binOp
  try dsimp only
  repeat' (first | (with_reducible first | exact fit_pure P _ | apply fit_Op_shift | apply fit_stuck | apply fit_Op_intArith | apply fit_Op_intDiv | apply fit_Op_intBits | apply fit_Op_intCmp | apply fit_Op_floatArith | apply fit_Op_floatCmp | apply fit_Op_complexOp | apply fit_Op_stringOp | apply fit_Op_equal | apply fit_underlying | apply fit_movedPointer | apply fit_movedNumber | apply fit_behindNumber | apply fit_Op_addrSub | apply fit_Op_addrCmp | apply fit_Op_addrMod | apply fit_unsupported | apply fitB | apply fitM | apply fLi | apply fAi | apply fRi | apply fFo | apply fAm | apply fLm) | (intro _) | split | (exact trivial) | (dsimp only) | (with_reducible first | apply fitIte | exact fit_marked P (by simp) (by simp)))
theorem fit_Conv_intToFloat (P : Program) (x0) (x1) : Fit P (fun _ => True) 0 (@Go.Conv.intToFloat x0 x1) := by
  unfold Go.Conv.intToFloat
  try dsimp only
  repeat' (first | (with_reducible exact fit_pure P _)  | (with_reducible first | apply fitB | apply fitM | apply fLi | apply fAi | apply fRi | apply fFo | apply fAm | apply fLm) | (intro _) | split | (exact trivial) | (dsimp only) | (with_reducible first | apply fitIte | exact fit_marked P (by simp) (by simp)))
theorem fit_Conv_complexToComplex (P : Program) (x0) (x1) (x2) (x3) : Fit P (fun _ => True) 0 (@Go.Conv.complexToComplex x0 x1 x2 x3) := by
  unfold Go.Conv.complexToComplex
  try dsimp only
  repeat' (first | (with_reducible first | exact fit_pure P _ | apply fit_Conv_floatToFloat | apply fit_stuck | apply fitB | apply fitM | apply fLi | apply fAi | apply fRi | apply fFo | apply fAm | apply fLm) | (intro _) | split | (exact trivial) | (dsimp only) | (with_reducible first | apply fitIte | exact fit_marked P (by simp) (by simp)))
theorem fit_Conv_intToString (P : Program) (x0) : Fit P (fun _ => True) 0 (@Go.Conv.intToString x0) := by
  unfold Go.Conv.intToString
  try dsimp only
  repeat' (first | (with_reducible exact fit_pure P _)  | (with_reducible first | apply fitB | apply fitM | apply fLi | apply fAi | apply fRi | apply fFo | apply fAm | apply fLm) | (intro _) | split | (exact trivial) | (dsimp only) | (with_reducible first | apply fitIte | exact fit_marked P (by simp) (by simp)))
theorem fit_Conv_stringToBytes (P : Program) (x0) (x1) : Fit P (fun _ => True) 0 (@Go.Conv.stringToBytes x0 x1) := by
  unfold Go.Conv.stringToBytes
  try dsimp only
  repeat' (first | (with_reducible first | exact fit_pure P _ | apply fit_choose | apply fit_newRow | apply fit_markStringish | apply fitB | apply fitM | apply fLi | apply fAi | apply fRi | apply fFo | apply fAm | apply fLm) | (intro _) | split | (exact trivial) | (dsimp only) | (with_reducible first | apply fitIte | exact fit_marked P (by simp) (by simp)))
theorem fit_Conv_stringToRunes (P : Program) (x0) (x1) : Fit P (fun _ => True) 0 (@Go.Conv.stringToRunes x0 x1) := by
  unfold Go.Conv.stringToRunes
  try dsimp only
  repeat' (first | (with_reducible first | exact fit_pure P _ | apply fit_choose | apply fit_newRow | apply fitB | apply fitM | apply fLi | apply fAi | apply fRi | apply fFo | apply fAm | apply fLm) | (intro _) | split | (exact trivial) | (dsimp only) | (with_reducible first | apply fitIte | exact fit_marked P (by simp) (by simp)))
theorem fit_Conv_bytesToString (P : Program) (x0) : Fit P (fun _ => True) 0 (@Go.Conv.bytesToString x0) := by
  unfold Go.Conv.bytesToString
  try dsimp only
  repeat' (first | (with_reducible first | exact fit_pure P _ | apply fit_loadCells | apply fit_stuck | apply fitB | apply fitM | apply fLi | apply fAi | apply fRi | apply fFo | apply fAm | apply fLm) | (intro _) | split | (exact trivial) | (dsimp only) | (with_reducible first | apply fitIte | exact fit_marked P (by simp) (by simp)))
theorem fit_convert (P : Program) (x0) (x1) (x2) : Fit P (fun _ => True) 0 (@Go.convert x0 x1 x2) := by
  unfold Go.convert
  try dsimp only
  repeat' (first | (with_reducible first | exact fit_pure P _ | apply fit_underlying | apply fit_Conv_intToInt | apply fit_Conv_intToFloat | apply fit_Conv_floatToInt | apply fit_Conv_floatToFloat | apply fit_Conv_complexToComplex | apply fit_Conv_intToString | apply fit_Conv_stringToBytes | apply fit_Conv_stringToRunes | apply fit_stuck | apply fit_markStringish | apply fit_unsupported | apply fit_Conv_bytesToString | apply fit_Conv_runesToString | apply fit_Conv_unsafePointer | apply fitB | apply fitM | apply fLi | apply fAi | apply fRi | apply fFo | apply fAm | apply fLm) | (intro _) | split | (exact trivial) | (dsimp only) | (with_reducible first | apply fitIte | exact fit_marked P (by simp) (by simp)))
theorem fit_Instr_extract (P : Program) (x0) (x1) : Fit P (fun _ => True) 0 (@Go.Instr.extract x0 x1) := by
  unfold Go.Instr.extract
  try dsimp only
  repeat' (first | (with_reducible first | exact fit_pure P _ | apply fit_stuck | apply fitB | apply fitM | apply fLi | apply fAi | apply fRi | apply fFo | apply fAm | apply fLm) | (intro _) | split | (exact trivial) | (dsimp only) | (with_reducible first | apply fitIte | exact fit_marked P (by simp) (by simp)))
theorem fit_Instr_next (P : Program) (x0) (x1) (x2) : Fit P (fun _ => True) 0 (@Go.Instr.next x0 x1 x2) := by
  unfold Go.Instr.next
  try dsimp only
  repeat' (first | (with_reducible first | exact fit_pure P _ | apply fit_getObj | apply fit_setObj | apply fit_choose | apply fit_stuck | apply fit_unsupported | apply fitB | apply fitM | apply fLi | apply fAi | apply fRi | apply fFo | apply fAm | apply fLm) | (intro _) | split | (exact trivial) | (dsimp only) | (with_reducible first | apply fitIte | exact fit_marked P (by simp) (by simp)))
theorem fit_Instr_sureAddr (P : Program) (x0) : Fit P (fun _ => True) 0 (@Go.Instr.sureAddr x0) := by
  unfold Go.Instr.sureAddr
  try dsimp only
  repeat' (first | (with_reducible first | exact fit_pure P _ | apply fit_stuck | apply fitB | apply fitM | apply fLi | apply fAi | apply fRi | apply fFo | apply fAm | apply fLm) | (intro _) | split | (exact trivial) | (dsimp only) | (with_reducible first | apply fitIte | exact fit_marked P (by simp) (by simp)))
theorem fit_Instr_deferInRound (P : Program) (x0) (x1) : Fit P (fun _ => True) 0 (@Go.Instr.deferInRound x0 x1) := by
  unfold Go.Instr.deferInRound
  try dsimp only
  repeat' (first | (with_reducible first | exact fit_pure P _ | apply fit_Instr_getLoop | apply fit_getObj | apply fit_setObj | apply fit_throw | apply fit_stuck | apply fitB | apply fitM | apply fLi | apply fAi | apply fRi | apply fFo | apply fAm | apply fLm) | (intro _) | split | (exact trivial) | (dsimp only) | (with_reducible first | apply fitIte | exact fit_marked P (by simp) (by simp)))
theorem fit_followBlind (P : Program) (x0) (x1) (x2) : Fit P (fun _ => True) 0 (@Go.followBlind x0 x1 x2) := by
  induction x0 generalizing x1 x2 with
  | nil =>
    unfold Go.followBlind
    try dsimp only
    repeat' (first | (with_reducible first | exact fit_pure P _ | apply fit_underlying | apply fit_stuck | apply fit_part | apply fitB | apply fitM) | (intro _) | split | (exact trivial))
  | cons e es ih =>
    unfold Go.followBlind
    try dsimp only
    repeat' (first | (with_reducible first | exact fit_pure P _ | apply ih | apply fit_underlying | apply fit_stuck | apply fit_part | apply fitB | apply fitM | apply fLi | apply fAi | apply fRi) | (intro _) | split | (exact trivial))
theorem fit_nilAhead (P : Program) (x0) (x1) (x2) (x3) : Fit P (fun _ => True) 0 (@Go.nilAhead x0 x1 x2 x3) := by
  induction x0 generalizing x1 x2 x3 with
  | zero =>
    unfold Go.nilAhead
    try dsimp only
    repeat' (first | (with_reducible first | exact fit_pure P _ | apply fit_typeInfo | apply fit_followBlind | apply fit_stuck | apply fit_underlying | apply fitB | apply fitM) | (intro _) | split | (exact trivial))
  | succ n ih =>
    unfold Go.nilAhead
    try dsimp only
    repeat' (first | (with_reducible first | exact fit_pure P _ | apply ih | apply fit_typeInfo | apply fit_followBlind | apply fit_stuck | apply fit_underlying | apply fitB | apply fitM | apply fLi | apply fAi | apply fRi) | (intro _) | split | (exact trivial))
theorem fit_Op_eqGuardIn (P : Program) (x0) (x1) (x2) (x3) : Fit P (fun _ => True) 0 (@Go.Op.eqGuardIn x0 x1 x2 x3) := by
  induction x0 generalizing x1 x2 x3 with
  | zero =>
    unfold Go.Op.eqGuardIn
    try dsimp only
    repeat' (first | (with_reducible first | exact fit_pure P _ | apply fit_unsupported | apply fit_underlying | apply fit_part | apply fit_sizeOf | apply fitB | apply fitM) | (intro _) | split | (exact trivial))
  | succ n ih =>
    unfold Go.Op.eqGuardIn
    try dsimp only
    repeat' (first | (with_reducible first | exact fit_pure P _ | apply ih | apply fit_unsupported | apply fit_underlying | apply fit_part | apply fit_sizeOf | apply fitB | apply fitM | apply fLi | apply fAi | apply fRi) | (intro _) | split | (exact trivial))
theorem fit_Instr_ready (P : Program) (x0) : Fit P (fun _ => True) 0 (@Go.Instr.ready x0) := by
  unfold Go.Instr.ready
  try dsimp only
  repeat' (first | (with_reducible first | exact fit_pure P _ | apply fit_shape | apply fit_getObj | apply fit_setObj | apply fit_stuck | apply fitB | apply fitM | apply fLi | apply fAi | apply fRi | apply fFo | apply fAm | apply fLm) | (intro _) | split | (exact trivial) | (dsimp only) | (with_reducible first | apply fitIte | exact fit_marked P (by simp) (by simp)))
theorem fit_Instr_typeAssert (P : Program) (x0) (x1) (x2) (x3) : Fit P (fun _ => True) 0 (@Go.Instr.typeAssert x0 x1 x2 x3) := by
  unfold Go.Instr.typeAssert
  try dsimp only
  repeat' (first | (with_reducible first | exact fit_pure P _ | apply fit_zeroValue | apply fit_runtimePanic | apply fit_underlying | apply fit_typeInfo | apply fit_stuck | apply fitB | apply fitM | apply fLi | apply fAi | apply fRi | apply fFo | apply fAm | apply fLm) | (intro _) | split | (exact trivial) | (dsimp only) | (with_reducible first | apply fitIte | exact fit_marked P (by simp) (by simp)))
theorem fit_Instr_sliceBounds (P : Program) (x0) (x1) (x2) (x3) (x4) (x5) : Fit P (fun _ => True) 0 (@Go.Instr.sliceBounds x0 x1 x2 x3 x4 x5) := by
  unfold Go.Instr.sliceBounds
  try dsimp only
  repeat' (first | (with_reducible first | exact fit_pure P _ | apply fit_Instr_sliceBound | apply fit_stuck | apply fitB | apply fitM | apply fLi | apply fAi | apply fRi | apply fFo | apply fAm | apply fLm) | (intro _) | split | (exact trivial) | (dsimp only) | (with_reducible first | apply fitIte | exact fit_marked P (by simp) (by simp)))
theorem fit_Instr_loadAt (P : Program) (x0) (x1) : Fit P (fun _ => True) 0 (@Go.Instr.loadAt x0 x1) := by
  unfold Go.Instr.loadAt
  try dsimp only
  repeat' (first | (with_reducible first | exact fit_pure P _ | apply fit_Instr_sureAddr | apply fit_loadVar | apply fitB | apply fitM | apply fLi | apply fAi | apply fRi | apply fFo | apply fAm | apply fLm) | (intro _) | split | (exact trivial) | (dsimp only) | (with_reducible first | apply fitIte | exact fit_marked P (by simp) (by simp)))
theorem fit_Instr_makeMap (P : Program) (x0) (x1) : Fit P (fun _ => True) 0 (@Go.Instr.makeMap x0 x1) := by
  unfold Go.Instr.makeMap
  try dsimp only
  repeat' (first | (with_reducible first | exact fit_pure P _ | apply fit_newObj | apply fit_underlying | apply fit_asInt | apply fit_stuck | apply fitB | apply fitM | apply fLi | apply fAi | apply fRi | apply fFo | apply fAm | apply fLm) | (intro _) | split | (exact trivial) | (dsimp only) | (with_reducible first | apply fitIte | exact fit_marked P (by simp) (by simp)))
theorem fit_Instr_makeFunc (P : Program) (x0) (x1) (x2) : Fit P (fun _ => True) 0 (@Go.Instr.makeFunc x0 x1 x2) := by
  unfold Go.Instr.makeFunc
  try dsimp only
  repeat' (first | (with_reducible exact fit_pure P _)  | (with_reducible first | apply fitB | apply fitM | apply fLi | apply fAi | apply fRi | apply fFo | apply fAm | apply fLm) | (intro _) | split | (exact trivial) | (dsimp only) | (with_reducible first | apply fitIte | exact fit_marked P (by simp) (by simp)))
theorem fit_Instr_build (P : Program) (x0) (x1) : Fit P (fun _ => True) 0 (@Go.Instr.build x0 x1) := by
  unfold Go.Instr.build
  try dsimp only
  repeat' (first | (with_reducible first | exact fit_pure P _ | apply fit_zeroValue | apply fit_underlying | apply fit_sizeOf | apply fit_stuck | apply fitB | apply fitM | apply fLi | apply fAi | apply fRi | apply fFo | apply fAm | apply fLm) | (intro _) | split | (exact trivial) | (dsimp only) | (with_reducible first | apply fitIte | exact fit_marked P (by simp) (by simp)))
theorem fit_Instr_indexAt (P : Program) (x0) (x1) (x2) : Fit P (fun _ => True) 0 (@Go.Instr.indexAt x0 x1 x2) := by
  unfold Go.Instr.indexAt
  try dsimp only
  repeat' (first | (with_reducible first | exact fit_pure P _ | apply fit_asIntOf | apply fit_underlying | apply fit_sizeOf | apply fit_unsupported | apply fit_boundsPanic | apply fit_Instr_sureAddr | apply fit_stuck | apply fitB | apply fitM | apply fLi | apply fAi | apply fRi | apply fFo | apply fAm | apply fLm) | (intro _) | split | (exact trivial) | (dsimp only) | (with_reducible first | apply fitIte | exact fit_marked P (by simp) (by simp)))
theorem fit_Instr_endLoop (P : Program) (x0) : Fit P (fun _ => True) 0 (@Go.Instr.endLoop x0) := by
  unfold Go.Instr.endLoop
  try dsimp only
  repeat' (first | (with_reducible first | exact fit_pure P _ | apply fit_Instr_getLoop | apply fit_setObj | apply fit_runtimePanic | apply fitB | apply fitM | apply fLi | apply fAi | apply fRi | apply fFo | apply fAm | apply fLm) | (intro _) | split | (exact trivial) | (dsimp only) | (with_reducible first | apply fitIte | exact fit_marked P (by simp) (by simp)))
theorem fit_Instr_fieldAt (P : Program) (x0) (x1) (x2) : Fit P (fun _ => True) 0 (@Go.Instr.fieldAt x0 x1 x2) := by
  unfold Go.Instr.fieldAt
  try dsimp only
  repeat' (first | (with_reducible first | exact fit_pure P _ | apply fit_underlying | apply fit_Instr_sureAddr | apply fit_fieldPlace | apply fit_stuck | apply fitB | apply fitM | apply fLi | apply fAi | apply fRi | apply fFo | apply fAm | apply fLm) | (intro _) | split | (exact trivial) | (dsimp only) | (with_reducible first | apply fitIte | exact fit_marked P (by simp) (by simp)))
theorem fit_Instr_waits (P : Program) (x0) : Fit P (fun _ => True) 0 (@Go.Instr.waits x0) := by
  unfold Go.Instr.waits
  try dsimp only
  repeat' (first | (with_reducible first | exact fit_pure P _ | apply fit_shape | apply fitB | apply fitM | apply fLi | apply fAi | apply fRi | apply fFo | apply fAm | apply fLm) | (intro _) | split | (exact trivial) | (dsimp only) | (with_reducible first | apply fitIte | exact fit_marked P (by simp) (by simp)))
theorem fit_Instr_storeAt (P : Program) (x0) (x1) (x2) : Fit P (fun _ => True) 0 (@Go.Instr.storeAt x0 x1 x2) := by
  unfold Go.Instr.storeAt
  try dsimp only
  repeat' (first | (with_reducible first | exact fit_pure P _ | apply fit_Instr_sureAddr | apply fit_storeVar | apply fitB | apply fitM | apply fLi | apply fAi | apply fRi | apply fFo | apply fAm | apply fLm) | (intro _) | split | (exact trivial) | (dsimp only) | (with_reducible first | apply fitIte | exact fit_marked P (by simp) (by simp)))
theorem fit_eqGuard (P : Program) (x0) (x1) (x2) (x3) (x4) (x5) : Fit P (fun _ => True) 0 (@Go.eqGuard x0 x1 x2 x3 x4 x5) := by
  unfold Go.eqGuard
  try dsimp only
  repeat' (first | (with_reducible first | exact fit_pure P _ | apply fit_Op_eqGuardIn | apply fit_unsupported | apply fit_program | apply fitB | apply fitM | apply fLi | apply fAi | apply fRi | apply fFo | apply fAm | apply fLm) | (intro _) | split | (exact trivial) | (dsimp only) | (with_reducible first | apply fitIte | exact fit_marked P (by simp) (by simp)))
theorem fit_Instr_makeInterface (P : Program) (x0) (x1) : Fit P (fun _ => True) 0 (@Go.Instr.makeInterface x0 x1) := by
  unfold Go.Instr.makeInterface
  try dsimp only
  repeat' (first | (with_reducible first | exact fit_pure P _ | apply fit_underlying | apply fit_stuck | apply fitB | apply fitM | apply fLi | apply fAi | apply fRi | apply fFo | apply fAm | apply fLm) | (intro _) | split | (exact trivial) | (dsimp only) | (with_reducible first | apply fitIte | exact fit_marked P (by simp) (by simp)))
theorem fit_Instr_slice (P : Program) (x0) (x1) (x2) (x3) (x4) : Fit P (fun _ => True) 0 (@Go.Instr.slice x0 x1 x2 x3 x4) := by
  unfold Go.Instr.slice
  try dsimp only
  repeat' (first | (with_reducible first | exact fit_pure P _ | apply fit_underlying | apply fit_Instr_sliceBounds | apply fit_stuck | apply fit_sizeOf | apply fit_asAddr | apply fitB | apply fitM | apply fLi | apply fAi | apply fRi | apply fFo | apply fAm | apply fLm) | (intro _) | split | (exact trivial) | (dsimp only) | (with_reducible first | apply fitIte | exact fit_marked P (by simp) (by simp)))
theorem fit_Instr_sliceAt (P : Program) (x0) (x1) (x2) (x3) (x4) : Fit P (fun _ => True) 0 (@Go.Instr.sliceAt x0 x1 x2 x3 x4) := by
  unfold Go.Instr.sliceAt
  try dsimp only
  repeat' (first | (with_reducible first | exact fit_pure P _ | apply fit_underlying | apply fit_Instr_sureAddr | apply fit_Instr_sliceBounds | apply fit_sizeOf | apply fit_Instr_slice | apply fitB | apply fitM | apply fLi | apply fAi | apply fRi | apply fFo | apply fAm | apply fLm) | (intro _) | split | (exact trivial) | (dsimp only) | (with_reducible first | apply fitIte | exact fit_marked P (by simp) (by simp)))
theorem fit_Instr_lookup (P : Program) (x0) (x1) (x2) (x3) : Fit P (fun _ => True) 0 (@Go.Instr.lookup x0 x1 x2 x3) := by
  unfold Go.Instr.lookup
  try dsimp only
  repeat' (first | (with_reducible first | exact fit_pure P _ | apply fit_underlying | apply fit_Instr_checkKey | apply fit_Instr_findKey | apply fit_zeroValue | apply fit_getObj | apply fit_stuck | apply fitB | apply fitM | apply fLi | apply fAi | apply fRi | apply fFo | apply fAm | apply fLm) | (intro _) | split | (exact trivial) | (dsimp only) | (with_reducible first | apply fitIte | exact fit_marked P (by simp) (by simp)))
theorem fit_Instr_mapEntry (P : Program) (x0) (x1) (x2) : Fit P (fun _ => True) 0 (@Go.Instr.mapEntry x0 x1 x2) := by
  unfold Go.Instr.mapEntry
  try dsimp only
  repeat' (first | (with_reducible first | exact fit_pure P _ | apply fit_underlying | apply fit_runtimePanic | apply fit_getObj | apply fit_Instr_checkKey | apply fit_Instr_findKey | apply fit_Instr_keyThatStays | apply fit_setObj | apply fit_zeroValue | apply fit_stuck | apply fitB | apply fitM | apply fLi | apply fAi | apply fRi | apply fFo | apply fAm | apply fLm) | (intro _) | split | (exact trivial) | (dsimp only) | (with_reducible first | apply fitIte | exact fit_marked P (by simp) (by simp)))
theorem fit_Instr_entryStore (P : Program) (x0) (x1) (x2) (x3) : Fit P (fun _ => True) 0 (@Go.Instr.entryStore x0 x1 x2 x3) := by
  unfold Go.Instr.entryStore
  try dsimp only
  repeat' (first | (with_reducible first | exact fit_pure P _ | apply fit_getObj | apply fit_asInt | apply fit_setObj | apply fit_unsupported | apply fit_stuck | apply fitB | apply fitM | apply fLi | apply fAi | apply fRi | apply fFo | apply fAm | apply fLm) | (intro _) | split | (exact trivial) | (dsimp only) | (with_reducible first | apply fitIte | exact fit_marked P (by simp) (by simp)))
theorem fit_Instr_range (P : Program) (x0) (x1) : Fit P (fun _ => True) 0 (@Go.Instr.range x0 x1) := by
  unfold Go.Instr.range
  try dsimp only
  repeat' (first | (with_reducible first | exact fit_pure P _ | apply fit_underlying | apply fit_newObj | apply fit_getObj | apply fit_stuck | apply fitB | apply fitM | apply fLi | apply fAi | apply fRi | apply fFo | apply fAm | apply fLm) | (intro _) | split | (exact trivial) | (dsimp only) | (with_reducible first | apply fitIte | exact fit_marked P (by simp) (by simp)))
theorem fit_Instr_enterLoop (P : Program) (x0) (x1) (x2) (x3) (x4) (x5) : Fit P (fun _ => True) 0 (@Go.Instr.enterLoop x0 x1 x2 x3 x4 x5) := by
  unfold Go.Instr.enterLoop
  try dsimp only
  repeat' (first | (with_reducible first | exact fit_pure P _ | apply fit_newObj | apply fit_Instr_getLoop | apply fitB | apply fitM | apply fLi | apply fAi | apply fRi | apply fFo | apply fAm | apply fLm) | (intro _) | split | (exact trivial) | (dsimp only) | (with_reducible first | apply fitIte | exact fit_marked P (by simp) (by simp)))
theorem fit_Instr_beginRound (P : Program) (x0) : Fit P (fun _ => True) 0 (@Go.Instr.beginRound x0) := by
  unfold Go.Instr.beginRound
  try dsimp only
  repeat' (first | (with_reducible first | exact fit_pure P _ | apply fit_Instr_getLoop | apply fit_setObj | apply fit_runtimePanic | apply fitB | apply fitM | apply fLi | apply fAi | apply fRi | apply fFo | apply fAm | apply fLm) | (intro _) | split | (exact trivial) | (dsimp only) | (with_reducible first | apply fitIte | exact fit_marked P (by simp) (by simp)))
theorem fit_Instr_endRound (P : Program) (x0) (x1) : Fit P (fun _ => True) 0 (@Go.Instr.endRound x0 x1) := by
  unfold Go.Instr.endRound
  try dsimp only
  repeat' (first | (with_reducible first | exact fit_pure P _ | apply fit_Instr_getLoop | apply fit_setObj | apply fitB | apply fitM | apply fLi | apply fAi | apply fRi | apply fFo | apply fAm | apply fLm) | (intro _) | split | (exact trivial) | (dsimp only) | (with_reducible first | apply fitIte | exact fit_marked P (by simp) (by simp)))
theorem fit_asString (P : Program) (x0) : Fit P (fun _ => True) 0 (@Go.asString x0) := by
  unfold Go.asString
  try dsimp only
  repeat' (first | (with_reducible first | exact fit_pure P _ | apply fit_stuck | apply fitB | apply fitM | apply fLi | apply fAi | apply fRi | apply fFo | apply fAm | apply fLm) | (intro _) | split | (exact trivial) | (dsimp only) | (with_reducible first | apply fitIte | exact fit_marked P (by simp) (by simp)))
end Go.Proofs.YtpbbmagjhkakgaaGreatDoor.Lf
