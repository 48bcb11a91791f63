import Derived.Test.YtpbbmagjhkakgaaGreatDoorLfFitsToLfStep
namespace Go.Proofs.YtpbbmagjhkakgaaGreatDoor.Lf
open Go Go.Conc
variable {P : Program}
def okItem : Item → Prop
  | .extern row _ => row = "runtime.print$piece"
  | .call .. => False
  | _ => True
def okFrame (fr : Frame) : Prop := ∀ it ∈ fr.todo, okItem it
def lowest (g : Goroutine) : Frame := g.callers.getLast?.getD g.frame
structure okG (g : Goroutine) : Prop where
  frame : okFrame g.frame
  callers : ∀ fr ∈ g.callers, okFrame fr
  dying : ∀ d, g.dying = some d → d.calling = true → (lowest g).kind = .report
def Local (dying : Bool) (F : World → GStep) (w : World) : Prop :=
  match F w with
  | .go g w' es => okG g ∧ (dying = true → g.dying ≠ none) ∧ (∀ t, g.status ≠ .sleeping t) ∧ g.status ≠ .parked ∧
      (g.dying = none → g.status = .running → g.offers = none ∧ deafBehind 0 es = 0 ∧ ∃ m, w' = re w' w.tape (w.drawn + m) ∧ ∀ τ d, Alike w m τ d → F (re w τ d) = .go g (re w' τ (d + m)) es)
  | .comm g cs b sh w' es => okG g ∧ g.status = .running ∧ (dying = true → g.dying ≠ none) ∧
      (g.dying = none → g.offers = none ∧ deafBehind 0 es = 0 ∧ ∃ m, w' = re w' w.tape (w.drawn + m) ∧ ∀ τ d, Alike w m τ d → F (re w τ d) = .comm g cs b sh (re w' τ (d + m)) es)
  | .coroswitch g c x w' es => okG g ∧ g.status = .running ∧ (dying = true → g.dying ≠ none) ∧
      (g.dying = none → g.offers = none ∧ deafBehind 0 es = 0 ∧ ∃ m, w' = re w' w.tape (w.drawn + m) ∧ ∀ τ d, Alike w m τ d → F (re w τ d) = .coroswitch g c x (re w' τ (d + m)) es)
  | .spawn .. => True
  | .ended .. => True
  | _ => False
theorem okFrame_finish {fr : Frame} (h : okFrame fr) (v : Value) : okFrame (fr.finish v) := by
  unfold Frame.finish
  split
  all_goals rename_i heq
  all_goals intro it hit
  · simp only [List.mem_cons] at hit
    rcases hit with rfl | hit
    · exact trivial
    · exact h it (by rw [heq]; exact List.mem_cons_of_mem _ hit)
  · simp only [List.mem_cons] at hit
    rcases hit with rfl | hit
    · exact trivial
    · exact h it (by rw [heq]; exact List.mem_cons_of_mem _ hit)
  · exact h it (by rw [heq]; exact List.mem_cons_of_mem _ hit)
  · exact (h (.call _ _ _ _) (by rw [heq]; exact List.mem_cons_self) : False).elim
  · exact h it (by rw [heq]; exact List.mem_cons_of_mem _ hit)
  · exact h it hit
theorem okFrame_of_sub {fr : Frame} (h : okFrame fr) {fr' : Frame} (hs : ∀ it ∈ fr'.todo, it ∈ fr.todo ∨ okItem it) : okFrame fr' := fun it hit => (hs it hit).elim (h it) id
theorem okFrame_enter (f : FuncId) (args : Array Value) (k : CallKind) : okFrame (Frame.enter P f args k) := by
  intro it hit
  simp only [Frame.enter, List.mem_singleton] at hit
  subst hit; exact trivial
theorem okFrame_round (l : Nat) (f : FuncId) (t : Array Value) (a b : Code) (k : CallKind) : okFrame (Frame.round l f t a b k) := by
  intro it hit
  simp only [Frame.round, List.mem_cons, List.not_mem_nil, or_false] at hit
  rcases hit with rfl | rfl | rfl <;> exact trivial
theorem okFrame_row (args : Array Value) (k : CallKind) : okFrame (Frame.ofRow P "runtime.print$piece" args k) := by
  intro it hit
  simp only [Frame.ofRow, List.mem_singleton] at hit
  subst hit; rfl
theorem okFrame_mode {fr : Frame} (h : okFrame fr) {fr' : Frame} (ht : fr'.todo = fr.todo) : okFrame fr' := by unfold okFrame; rw [ht]; exact h
theorem okFrame_raise {fr : Frame} (h : okFrame fr) (vs : List PanicEntry) : okFrame (fr.raise vs) := by unfold Frame.raise; split <;> exact okFrame_mode h rfl
theorem finish_kind (fr : Frame) (v : Value) : (fr.finish v).kind = fr.kind := by unfold Frame.finish; split <;> rfl
theorem raise_kind (fr : Frame) (v : List PanicEntry) : (fr.raise v).kind = fr.kind := by unfold Frame.raise; split <;> rfl
theorem okG.top {g : Goroutine} (h : okG g) {fr : Frame} (hf : okFrame fr) (hk : fr.kind = g.frame.kind) (st : GoStatus) (off : Option (Array CommCase × CommShape)) : okG { frame := fr, callers := g.callers, status := st, dying := g.dying, offers := off } := by
  refine ⟨hf, h.callers, fun d hd hc => ?_⟩
  have := h.dying d hd hc
  unfold lowest at this ⊢
  cases hl : g.callers.getLast? with
  | none => rw [hl] at this; simp only [Option.getD_none] at this ⊢; rw [hk]; exact this
  | some x => rw [hl] at this; simp only [Option.getD_some] at this ⊢; exact this
theorem okG.push {g : Goroutine} (h : okG g) {fr fr' : Frame} (hf : okFrame fr) (hf' : okFrame fr') (hk : fr'.kind = g.frame.kind) (st : GoStatus) : okG { frame := fr, callers := fr' :: g.callers, status := st, dying := g.dying } := by
  refine ⟨hf, fun x hx => ?_, fun d hd hc => ?_⟩
  · rcases List.mem_cons.1 hx with rfl | hx
    · exact hf'
    · exact h.callers x hx
  · have := h.dying d hd hc
    unfold lowest at this ⊢
    cases hl : g.callers.getLast? with
    | none =>
      have hn : g.callers = [] := by simpa using hl
      rw [hl] at this
      simp only [hn, List.getLast?_singleton, Option.getD_some, Option.getD_none] at this ⊢
      rw [hk]; exact this
    | some x =>
      rw [hl] at this
      have e : (fr' :: g.callers).getLast? = some x := by
        rw [List.getLast?_cons]; simp [hl]
      simp only [e, Option.getD_some]
      exact this
theorem okG.pop {g : Goroutine} (h : okG g) {c : Frame} {rest : List Frame} (hc : g.callers = c :: rest) {fr : Frame} (hf : okFrame fr) (hk : fr.kind = c.kind) (st : GoStatus) : okG { frame := fr, callers := rest, status := st, dying := g.dying } := by
  refine ⟨hf, fun x hx => h.callers x (by rw [hc]; exact List.mem_cons_of_mem _ hx), fun d hd hca => ?_⟩
  have := h.dying d hd hca
  unfold lowest at this ⊢
  rw [hc, List.getLast?_cons] at this
  cases hl : rest.getLast? with
  | none => simp only [hl, Option.getD_none, Option.getD_some] at this ⊢; rw [hk]; exact this
  | some x => simp only [hl, Option.getD_some] at this ⊢; exact this
theorem okG.dead {g : Goroutine} {d : Dying} (hd : g.dying = some d) (hc : d.calling = false) (hf : okFrame g.frame) (hcs : ∀ fr ∈ g.callers, okFrame fr) : okG g :=
  ⟨hf, hcs, fun e he hce => by rw [hd] at he; cases he; rw [hc] at hce; cases hce⟩
def Made (dying : Bool) {α : Type} (r : Result α) (K : Result α → GStep) (x : GStep) : Prop := match x with
      | .go g w' es => es = #[] ∧ okG g ∧ (dying = true → g.dying ≠ none) ∧ (∀ t, g.status ≠ .sleeping t) ∧ g.status ≠ .parked ∧
          (g.dying = none → g.status = .running → g.offers = none ∧ resGo r = true ∧ ∀ τ d, K (reR τ d r) = .go g (re w' τ d) #[])
      | .comm g cs b sh w' es => es = #[] ∧ okG g ∧ g.status = .running ∧ (dying = true → g.dying ≠ none) ∧
          (g.dying = none → g.offers = none ∧ resGo r = true ∧ ∀ τ d, K (reR τ d r) = .comm g cs b sh (re w' τ d) #[])
      | .coroswitch g c x w' es => es = #[] ∧ okG g ∧ g.status = .running ∧ (dying = true → g.dying ≠ none) ∧
          (g.dying = none → g.offers = none ∧ resGo r = true ∧ ∀ τ d, K (reR τ d r) = .coroswitch g c x (re w' τ d) #[])
      | .spawn .. => True
      | .ended .. => True
      | _ => False
theorem local_shift {dying : Bool} {F E : World → GStep} {w w' : World} {m : Nat} (h0 : F w = E w') (h1 : w' = re w' w.tape (w.drawn + m)) (h2 : ∀ τ d, Alike w m τ d → F (re w τ d) = E (re w' τ (d + m))) (h : Local dying E w') : Local dying F w := by
  have e1 : w'.tape = w.tape := by rw [h1]; rfl
  have e2 : w'.drawn = w.drawn + m := by rw [h1]; rfl
  have key : ∀ m' w'' (X : World → GStep), (w'' = re w'' w'.tape (w'.drawn + m') ∧ ∀ τ d, Alike w' m' τ d → E (re w' τ d) = X (re w'' τ (d + m'))) →
      ∃ n, w'' = re w'' w.tape (w.drawn + n) ∧ ∀ τ d, Alike w n τ d → F (re w τ d) = X (re w'' τ (d + n)) := by
    rintro m' w'' X ⟨a, b⟩
    refine ⟨m + m', by rw [e1, e2] at a; rw [← Nat.add_assoc]; exact a, fun τ d ha => ?_⟩
    rw [h2 τ d fun j hj => ha j (by omega), ← Nat.add_assoc]
    refine b τ (d + m) fun j hj => ?_
    rw [e1, e2]; have := ha (m + j) (by omega); rw [← Nat.add_assoc] at this; rw [this, ← Nat.add_assoc]
  unfold Local at h ⊢
  rw [h0]
  generalize E w' = x at h ⊢
  cases x with
  | go g w'' es =>
    obtain ⟨a1, a2, a3, a4, a5⟩ := h
    exact ⟨a1, a2, a3, a4, fun x y => let ⟨b1, b2, m', b3, b4⟩ := a5 x y; ⟨b1, b2, key m' w'' (fun v => .go g v es) ⟨b3, b4⟩⟩⟩
  | comm g cs b sh w'' es =>
    obtain ⟨a1, a0, a2, a5⟩ := h
    exact ⟨a1, a0, a2, fun x => let ⟨b1, b2, m', b3, b4⟩ := a5 x; ⟨b1, b2, key m' w'' (fun v => .comm g cs b sh v es) ⟨b3, b4⟩⟩⟩
  | coroswitch g c y w'' es =>
    obtain ⟨a1, a0, a2, a5⟩ := h
    exact ⟨a1, a0, a2, fun x => let ⟨b1, b2, m', b3, b4⟩ := a5 x; ⟨b1, b2, key m' w'' (fun v => .coroswitch g c y v es) ⟨b3, b4⟩⟩⟩
  | spawn => exact trivial
  | ended => exact trivial
  | _ => exact h.elim
theorem local_run {α : Type} {L : α → Prop} {s : Sem α} (hs : Fit P L 0 s) (dying : Bool) (fn : FuncId) (K : Result α → GStep) (w : World) {F : World → GStep}
    (hF : ∀ w, ∃ es, F w = GStep.after es (K (s.runT P w #[]).1) ∧ (resGo (s.runT P w #[]).1 = true → es = seen P fn (s.runT P w #[]).2 ∨ es = #[]) ∧
      ∀ w', (s.runT P w' #[]).2 = (s.runT P w #[]).2 → resGo (s.runT P w #[]).1 = true → resGo (s.runT P w' #[]).1 = true → F w' = GStep.after es (K (s.runT P w' #[]).1))
    (hK : Made dying (s.runT P w #[]).1 K (K (s.runT P w #[]).1)) :
    Local dying F w := by
  unfold Local
  obtain ⟨ev, hF1, hF2, hF3⟩ := hF w
  have h0 := hK
  clear hK
  unfold Made at h0
  have hev : resGo (s.runT P w #[]).1 = true → deafBehind 0 ev = 0 := fun h => by
    rcases hF2 h with rfl | rfl
    · rw [seen_even fn (runT_synced s w #[] (fun e he => by simp at he))]
      exact runT_even s 0 w #[] 0 hs h rfl
    · rfl
  have hal := fun h => runT_alike P s 0 w #[] hs (resOn_of_go h)
  rw [hF1]
  clear hF1 hF2
  generalize hx : s.runT P w #[] = x at h0 hev hal hF3 ⊢
  obtain ⟨r, es⟩ := x
  simp only at h0 hev hal hF3 ⊢
  have hgo : ∀ τ d, resGo (reR τ d r) = resGo r := fun τ d => by cases r with | ok a w => rfl | halt x w => cases x <;> rfl
  generalize hk : K r = k at h0 ⊢
  cases k with
  | go g w' es' =>
    obtain ⟨rfl, h1, h2, h3, h4, h5⟩ := h0
    refine ⟨h1, h2, h3, h4, fun hd hr => ?_⟩
    obtain ⟨h6, h7, h9⟩ := h5 hd hr
    obtain ⟨m, e1, e2⟩ := hal h7
    refine ⟨h6, by simpa [GStep.after] using hev h7, m, ?_, fun τ d ha => ?_⟩
    · have := h9 w.tape (w.drawn + m)
      rw [← e1, hk] at this
      simp only [GStep.go.injEq, true_and, and_true] at this
      exact this
    · have hw := e2 τ d ha
      rw [hF3 (re w τ d) (by rw [hw]) h7 (by rw [hw]; simp only [hgo]; exact h7), hw]
      simp only [h9, GStep.after]
  | comm g cs b sh w' es' =>
    obtain ⟨rfl, h1, h00, h2, h5⟩ := h0
    refine ⟨h1, h00, h2, fun hd => ?_⟩
    obtain ⟨h6, h7, h9⟩ := h5 hd
    obtain ⟨m, e1, e2⟩ := hal h7
    refine ⟨h6, by simpa [GStep.after] using hev h7, m, ?_, fun τ d ha => ?_⟩
    · have := h9 w.tape (w.drawn + m)
      rw [← e1, hk] at this
      simp only [GStep.comm.injEq, true_and, and_true] at this
      exact this
    · have hw := e2 τ d ha
      rw [hF3 (re w τ d) (by rw [hw]) h7 (by rw [hw]; simp only [hgo]; exact h7), hw]
      simp only [h9, GStep.after]
  | coroswitch g c y w' es' =>
    obtain ⟨rfl, h1, h00, h2, h5⟩ := h0
    refine ⟨h1, h00, h2, fun hd => ?_⟩
    obtain ⟨h6, h7, h9⟩ := h5 hd
    obtain ⟨m, e1, e2⟩ := hal h7
    refine ⟨h6, by simpa [GStep.after] using hev h7, m, ?_, fun τ d ha => ?_⟩
    · have := h9 w.tape (w.drawn + m)
      rw [← e1, hk] at this
      simp only [GStep.coroswitch.injEq, true_and, and_true] at this
      exact this
    · have hw := e2 τ d ha
      rw [hF3 (re w τ d) (by rw [hw]) h7 (by rw [hw]; simp only [hgo]; exact h7), hw]
      simp only [h9, GStep.after]
  | spawn => exact trivial
  | ended => exact trivial
  | _ => exact h0.elim
def made (P : Program) (fr : Frame) (callers : List Frame) (dying : Option Dying) : Result Next → GStep
  | .ok a w => stepG.apply P false fr callers dying (.pure a) w
  | .halt h w => stepG.apply P false fr callers dying (.halt h) w
end Go.Proofs.YtpbbmagjhkakgaaGreatDoor.Lf
namespace Go.Proofs.YtpbbmagjhkakgaaGreatDoor.Lf
open Go Go.Conc
variable {P : Program}
theorem seen_nil (fn : FuncId) : seen P fn #[] = #[] := by simp [seen]
theorem after_nil (x : GStep) : GStep.after #[] x = x := by cases x <;> simp [GStep.after]
theorem apply_made' (fr : Frame) (callers : List Frame) (dying : Option Dying) (s : Sem Next) (w : World) {r : Result Next} {es : Array Event} (h : s.runT P w #[] = (r, es)) (hr : resGo r = true) :
  stepG.apply P true fr callers dying s w = GStep.after (seen P fr.fn (if fr.kind == .early then #[] else es)) (made P fr callers dying r) := by
 cases r with
 | ok a w' =>
  simp only [made]
  unfold stepG.apply
  simp only [h, if_true, Bool.false_eq_true, if_false, Sem.run, ite_self, seen_nil, after_nil]
 | halt x w' =>
  cases x <;> first | (simp [resGo] at hr; done) | skip
  all_goals
   simp only [made]
   unfold stepG.apply
   simp only [h, if_true, Bool.false_eq_true, if_false, Sem.run, ite_self, seen_nil, after_nil]
theorem apply_made2 (fr : Frame) (callers : List Frame) (dying : Option Dying) (s : Sem Next) (w : World) {r : Result Next} {es : Array Event} (h : s.runT P w #[] = (r, es)) :
  ∃ es', stepG.apply P true fr callers dying s w = GStep.after es' (made P fr callers dying r) := by
 cases r with
 | ok a w' => exact ⟨_, apply_made' fr callers dying s w h rfl⟩
 | halt x w' =>
  cases x with
  | unsupported u =>
   cases u <;> first
    | (refine ⟨seen P fr.fn (if fr.kind == .early then #[] else es), ?_⟩; simp only [made]; unfold stepG.apply; simp only [h, if_true, Bool.false_eq_true, if_false, Sem.run, ite_self, seen_nil, after_nil]; done)
    | (refine ⟨#[], ?_⟩; simp only [made]; unfold stepG.apply; simp only [h, if_true, Bool.false_eq_true, if_false, Sem.run, ite_self, seen_nil, after_nil]; done)
  | _ => first
    | (refine ⟨seen P fr.fn (if fr.kind == .early then #[] else es), ?_⟩; simp only [made]; unfold stepG.apply; simp only [h, if_true, Bool.false_eq_true, if_false, Sem.run, ite_self, seen_nil, after_nil]; done)
    | (refine ⟨#[], ?_⟩; simp only [made]; unfold stepG.apply; simp only [h, if_true, Bool.false_eq_true, if_false, Sem.run, ite_self, seen_nil, after_nil]; done)
theorem apply_made (fr : Frame) (callers : List Frame) (dying : Option Dying) (s : Sem Next) (w : World) :
  ∃ es, stepG.apply P true fr callers dying s w = GStep.after es (made P fr callers dying (s.runT P w #[]).1) ∧ (resGo (s.runT P w #[]).1 = true → es = seen P fr.fn (s.runT P w #[]).2 ∨ es = #[]) ∧
   ∀ w', (s.runT P w' #[]).2 = (s.runT P w #[]).2 → resGo (s.runT P w #[]).1 = true → resGo (s.runT P w' #[]).1 = true → stepG.apply P true fr callers dying s w' = GStep.after es (made P fr callers dying (s.runT P w' #[]).1) := by
 by_cases hr : resGo (s.runT P w #[]).1 = true
 ·refine ⟨_, apply_made' fr callers dying s w rfl hr, fun _ => ?_, fun w' h1 _ h3 => ?_⟩
  ·by_cases hk : (fr.kind == .early) = true
   ·exact .inr (by simp only [hk, if_true, seen_nil])
   ·exact .inl (by simp only [hk, if_false, Bool.false_eq_true])
  ·rw [← h1]; exact apply_made' fr callers dying s w' rfl h3
 ·obtain ⟨es', h⟩ := apply_made2 fr callers dying s w (r := (s.runT P w #[]).1) (es := (s.runT P w #[]).2) rfl
  exact ⟨es', h, fun h => absurd h hr, fun _ _ h => absurd h hr⟩
theorem okG.here {fr : Frame} {callers : List Frame} {st : GoStatus} {dying : Option Dying} {off : Option (Array CommCase × CommShape)} (h : okG ⟨fr, callers, st, dying, off⟩) {fr' : Frame} (hf : okFrame fr') (hk : fr'.kind = fr.kind) (st' : GoStatus) : okG { frame := fr', callers := callers, status := st', dying := dying } :=
 h.top hf hk st' none
theorem dieOf_ok {fr : Frame} (hf : okFrame fr) (l : List ByteArray) (m : String) (b : Bool) (w : World) (dying : Bool) {α : Type} {r : Result α} (K : Result α → GStep) : Made dying r K (dieOf fr l m b w) := by
 unfold dieOf Made
 exact ⟨rfl, okG.dead rfl rfl hf (fun _ h => by cases h), (fun _ h => by cases h), (by simp), (by simp), (fun h => by cases h)⟩
theorem endThrow_ok {fr : Frame} (hf : okFrame fr) (m : String) (w : World) (dying : Bool) {α : Type} {r : Result α} (K : Result α → GStep) : Made dying r K (endThrow fr m w) := dieOf_ok hf _ _ _ _ _ _
theorem endFatal_ok {fr : Frame} (hf : okFrame fr) (callers : List Frame) (dy : Option Dying) (m : String) (w : World) (dying : Bool) {α : Type} {r : Result α} (K : Result α → GStep) : Made dying r K (endFatal P fr callers dy m w) := by
 unfold endFatal
 simp only
 split
 ·exact dieOf_ok hf _ _ _ _ _ _
 ·exact trivial
 ·exact trivial
def Similar (cs cs' : List Frame) : Prop := cs'.map (fun f => (f.todo, f.kind)) = cs.map (fun f => (f.todo, f.kind))
theorem tryRecover_sim : ∀ {callers : List Frame} {fr : Frame} {v : Value} {cs : List Frame}, tryRecover fr callers = some (v, cs) → Similar callers cs := by
 intro callers
 induction callers with
 | nil => intro fr v cs h; unfold tryRecover at h; split at h <;> simp_all
 | cons c rest ih =>
  intro fr v cs h
  unfold tryRecover at h
  split at h
  ·rename_i heq
   cases heq
   split at h
   ·cases h; simp [Similar]
   ·cases h
  ·rename_i heq
   cases heq
   obtain ⟨⟨v', rest'⟩, h1, h2⟩ := Option.map_eq_some_iff.1 h
   cases h2
   have := ih h1
   simp only [Similar, List.map_cons] at this ⊢
   rw [this]
  ·cases h
theorem tryRecoverLoop_sim : ∀ {callers : List Frame} {l : Nat} {v : Value} {cs : List Frame}, tryRecoverLoop l callers = some (v, cs) → Similar callers cs := by
 intro callers
 induction callers with
 | nil => intro l v cs h; simp [tryRecoverLoop] at h
 | cons c rest ih =>
  intro l v cs h
  unfold tryRecoverLoop at h
  obtain ⟨⟨v', rest'⟩, h1, h2⟩ := Option.map_eq_some_iff.1 h
  cases h2
  have : Similar rest rest' := by
   split at h1
   ·exact ih h1
   ·split at h1
    ·exact tryRecover_sim h1
    ·exact ih h1
   ·exact ih h1
  simp only [Similar, List.map_cons] at this ⊢
  rw [this]
theorem okG.sim {g : Goroutine} (h : okG g) {cs : List Frame} (hs : Similar g.callers cs) : okG { g with callers := cs } := by
 refine ⟨h.frame, fun fr hfr => ?_, fun d hd hc => ?_⟩
 ·have : (fr.todo, fr.kind) ∈ g.callers.map (fun f => (f.todo, f.kind)) := by rw [← hs]; exact List.mem_map.2 ⟨fr, hfr, rfl⟩
  obtain ⟨f, hf, e⟩ := List.mem_map.1 this
  exact okFrame_mode (h.callers f hf) (by simp only [Prod.mk.injEq] at e; exact e.1.symm)
 ·have h0 := h.dying d hd hc
  have e : (cs.map (fun f => (f.todo, f.kind))).getLast? = (g.callers.map (fun f => (f.todo, f.kind))).getLast? := by rw [hs]
  rw [List.getLast?_map, List.getLast?_map] at e
  unfold lowest at h0 ⊢
  simp only
  cases h1 : g.callers.getLast? with
  | none => rw [h1] at e h0; cases h2 : cs.getLast? with
   | none => exact h0
   | some x => rw [h2] at e; cases e
  | some y => rw [h1] at e h0; cases h2 : cs.getLast? with
   | none => rw [h2] at e; cases e
   | some x => rw [h2] at e; simp only [Option.map_some, Option.some.injEq, Prod.mk.injEq] at e; simp only [Option.getD_some] at h0 ⊢; rw [e.2]; exact h0
theorem made_ok {fr : Frame} {callers : List Frame} {dying : Option Dying} (hg : okG ⟨fr, callers, .running, dying, none⟩) (r : Result Next) (hL : ∀ a w', r = .ok a w' → okNext a)
  (hio : ∀ g w', r ≠ .halt (.unsupported (.initOrder g)) w') : Made dying.isSome r (made P fr callers dying) (made P fr callers dying r) := by
 have hdy : ∀ g : Goroutine, g.dying = dying → (dying.isSome = true → g.dying ≠ none) := fun g h h' => by rw [h]; intro h0; rw [h0] at h'; cases h'
 cases r with
 | ok n w' =>
  have hn := hL n w' rfl
  cases n with
  | value v =>
   have e : ∀ w, made P fr callers dying (.ok (.value v) w) = .go { frame := fr.finish v, callers, status := .running, dying } w := fun w => by
    simp only [made, stepG.apply, Bool.false_eq_true, if_false, Sem.run, ite_self, seen_nil, after_nil]
   rw [e]
   exact ⟨rfl, hg.here (okFrame_finish hg.frame v) (finish_kind _ _) _, hdy _ rfl, by simp, by simp, fun _ _ => ⟨rfl, rfl, fun _ _ => e _⟩⟩
  | skip =>
   have e : ∀ w, made P fr callers dying (.ok .skip w) = .go { frame := fr.finish undef, callers, status := .running, dying } w := fun w => by
    simp only [made, stepG.apply, Bool.false_eq_true, if_false, Sem.run, ite_self, seen_nil, after_nil]
   rw [e]
   exact ⟨rfl, hg.here (okFrame_finish hg.frame _) (finish_kind _ _) _, hdy _ rfl, by simp, by simp, fun _ _ => ⟨rfl, rfl, fun _ _ => e _⟩⟩
  | enter f args =>
   have e : ∃ k, ∀ w, made P fr callers dying (.ok (.enter f args) w) = .go { frame := Frame.enter P f args k, callers := fr :: callers, status := .running, dying } w := ⟨_, fun w => by
    simp only [made, stepG.apply, Bool.false_eq_true, if_false, Sem.run, ite_self, seen_nil, after_nil]
    rfl⟩
   obtain ⟨k, e⟩ := e
   rw [e]
   exact ⟨rfl, hg.push (okFrame_enter _ _ _) hg.frame rfl _, hdy _ rfl, by simp, by simp, fun _ _ => ⟨rfl, rfl, fun _ _ => e _⟩⟩
  | round l f t a b =>
   have e : ∀ w, made P fr callers dying (.ok (.round l f t a b) w) = .go { frame := Frame.round l f t a b .normal, callers := fr :: callers, status := .running, dying } w := fun w => by
    simp only [made, stepG.apply, Bool.false_eq_true, if_false, Sem.run, ite_self, seen_nil, after_nil]
   rw [e]
   exact ⟨rfl, hg.push (okFrame_round _ _ _ _ _ _) hg.frame rfl _, hdy _ rfl, by simp, by simp, fun _ _ => ⟨rfl, rfl, fun _ _ => e _⟩⟩
  | defer d =>
   have e : ∀ w, made P fr callers dying (.ok (.defer d) w) = .go { frame := ({ fr with defers := d :: fr.defers } : Frame).finish undef, callers, status := .running, dying } w := fun w => by
    simp only [made, stepG.apply, Bool.false_eq_true, if_false, Sem.run, ite_self, seen_nil, after_nil]
   rw [e]
   exact ⟨rfl, hg.here (fr' := ({ fr with defers := d :: fr.defers } : Frame).finish undef) (okFrame_finish (fr := { fr with defers := d :: fr.defers }) (okFrame_mode (fr := fr) hg.frame rfl) _) (by rw [finish_kind]) _, hdy _ rfl, by simp, by simp, fun _ _ => ⟨rfl, rfl, fun _ _ => e _⟩⟩
  | spawn d =>
   have e : (∃ m, made P fr callers dying (.ok (.spawn d) w') = endThrow fr m w') ∨ ∃ g c, made P fr callers dying (.ok (.spawn d) w') = .spawn g c w' := by
    simp only [made, stepG.apply, Bool.false_eq_true, if_false, Sem.run, ite_self, seen_nil, after_nil]
    repeat' split
    all_goals first | exact .inl ⟨_, rfl⟩ | exact .inr ⟨_, _, rfl⟩
   rcases e with ⟨m, e⟩ | ⟨g, c, e⟩
   ·rw [e]; exact endThrow_ok hg.frame m w' _ _
   ·rw [e]; exact trivial
  | comm cs b sh =>
   have e : ∀ w, made P fr callers dying (.ok (.comm cs b sh) w) = .comm { frame := fr, callers, status := .running, dying } cs b sh w := fun w => by
    simp only [made, stepG.apply, Bool.false_eq_true, if_false, Sem.run, ite_self, seen_nil, after_nil]
   rw [e]
   exact ⟨rfl, hg, rfl, hdy _ rfl, fun _ => ⟨rfl, rfl, fun _ _ => e _⟩⟩
  | coroswitch c x =>
   have e : ∀ w, made P fr callers dying (.ok (.coroswitch c x) w) = .coroswitch { frame := fr, callers, status := .running, dying } c x w := fun w => by
    simp only [made, stepG.apply, Bool.false_eq_true, if_false, Sem.run, ite_self, seen_nil, after_nil]
   rw [e]
   exact ⟨rfl, hg, rfl, hdy _ rfl, fun _ => ⟨rfl, rfl, fun _ _ => e _⟩⟩
  | row row args =>
   obtain rfl : row = "runtime.print$piece" := hn
   by_cases hex : ∃ ro ar k, fr.todo = .extern ro ar :: k
   ·obtain ⟨ro, ar, k, ht⟩ := hex
    have e : ∀ w, made P fr callers dying (.ok (.row "runtime.print$piece" args) w) = .go { frame := { fr with todo := .extern "runtime.print$piece" args :: k }, callers, status := .running, dying } w := fun w => by
     simp only [made, stepG.apply, Bool.false_eq_true, if_false, Sem.run, ite_self, seen_nil, after_nil, ht]
    rw [e]
    refine ⟨rfl, hg.here (fr' := { fr with todo := .extern "runtime.print$piece" args :: k }) (fun it hit => ?_) rfl _, hdy _ rfl, by simp, by simp, fun _ _ => ⟨rfl, rfl, fun _ _ => e _⟩⟩
    rcases List.mem_cons.1 hit with rfl | hit
    ·rfl
    ·exact hg.frame it (by show it ∈ fr.todo; rw [ht]; exact List.mem_cons_of_mem _ hit)
   ·have e : ∃ k, ∀ w, made P fr callers dying (.ok (.row "runtime.print$piece" args) w) = .go { frame := Frame.ofRow P "runtime.print$piece" args k, callers := fr :: callers, status := .running, dying } w := by
     refine ⟨.normal, fun w => ?_⟩
     cases htd : fr.todo with
     | nil => simp only [made, stepG.apply, Bool.false_eq_true, if_false, Sem.run, ite_self, seen_nil, after_nil, htd]
     | cons it k =>
      cases it with
      | extern ro ar => exact (hex ⟨_, _, _, htd⟩).elim
      | call a b c d => exact (hg.frame (.call a b c d) (by show _ ∈ fr.todo; rw [htd]; exact List.mem_cons_self) : False).elim
      | _ => simp only [made, stepG.apply, Bool.false_eq_true, if_false, Sem.run, ite_self, seen_nil, after_nil, htd]
    obtain ⟨k, e⟩ := e
    rw [e]
    exact ⟨rfl, hg.push (okFrame_row _ _) hg.frame rfl _, hdy _ rfl, by simp, by simp, fun _ _ => ⟨rfl, rfl, fun _ _ => e _⟩⟩
  | recover =>
   have e : (∃ v cs, Similar callers cs ∧ ∀ w, made P fr callers dying (.ok .recover w) = .go { frame := fr.finish v, callers := cs, status := .running, dying } w) := by
    simp only [made, stepG.apply, Bool.false_eq_true, if_false, Sem.run, ite_self, seen_nil, after_nil]
    split
    ·rename_i v cs h
     refine ⟨v, cs, ?_, fun _ => rfl⟩
     split at h
     ·split at h
      ·exact tryRecover_sim h
      ·exact tryRecoverLoop_sim h
     ·exact tryRecover_sim h
    ·exact ⟨_, callers, rfl, fun _ => rfl⟩
   obtain ⟨v, cs, hs, e⟩ := e
   rw [e]
   exact ⟨rfl, (hg.here (okFrame_finish hg.frame v) (finish_kind _ _) .running).sim hs, hdy _ rfl, by simp, by simp, fun _ _ => ⟨rfl, rfl, fun _ _ => e _⟩⟩
  | _ => exact hn.elim
 | halt x w' =>
  cases x with
  | panic v =>
   have e : ∀ w, made P fr callers dying (.halt (.panic v) w) = .go { frame := fr.raise [{ v, recovered := false }], callers, status := .running, dying } w := fun w => by
    simp only [made, stepG.apply, Bool.false_eq_true, if_false, Sem.run, ite_self, seen_nil, after_nil]
   rw [e]
   exact ⟨rfl, hg.here (okFrame_raise hg.frame _) (raise_kind _ _) _, hdy _ rfl, by simp, by simp, fun _ _ => ⟨rfl, rfl, fun _ _ => e _⟩⟩
  | goexit =>
   have e : ∀ w, made P fr callers dying (.halt .goexit w) = .go { frame := fr.raise [goexitEntry], callers, status := .running, dying } w := fun w => by
    simp only [made, stepG.apply, Bool.false_eq_true, if_false, Sem.run, ite_self, seen_nil, after_nil]
   rw [e]
   exact ⟨rfl, hg.here (okFrame_raise hg.frame _) (raise_kind _ _) _, hdy _ rfl, by simp, by simp, fun _ _ => ⟨rfl, rfl, fun _ _ => e _⟩⟩
  | blocked =>
   have e : made P fr callers dying (.halt .blocked w') = .go { frame := fr, callers, status := .blocked, dying } w' := by
    simp only [made, stepG.apply, Bool.false_eq_true, if_false, Sem.run, ite_self, seen_nil, after_nil]
   rw [e]
   exact ⟨rfl, hg.here hg.frame rfl _, hdy _ rfl, by simp, by simp, fun _ h => by cases h⟩
  | waiting =>
   have e : made P fr callers dying (.halt .waiting w') = .go { frame := fr, callers, status := .waiting, dying } w' := by
    simp only [made, stepG.apply, Bool.false_eq_true, if_false, Sem.run, ite_self, seen_nil, after_nil]
   rw [e]
   exact ⟨rfl, hg.here hg.frame rfl _, hdy _ rfl, by simp, by simp, fun _ h => by cases h⟩
  | fatal m =>
   have e : made P fr callers dying (.halt (.fatal m) w') = endFatal P fr callers dying m w' := by
    simp only [made, stepG.apply, Bool.false_eq_true, if_false, Sem.run, ite_self, seen_nil, after_nil]
   rw [e]; exact endFatal_ok hg.frame callers dying m w' _ _
  | throw m =>
   have e : made P fr callers dying (.halt (.throw m) w') = endThrow fr m w' := by
    simp only [made, stepG.apply, Bool.false_eq_true, if_false, Sem.run, ite_self, seen_nil, after_nil]
   rw [e]; exact endThrow_ok hg.frame m w' _ _
  | unsupported u =>
   cases u with
   | initOrder g => exact absurd rfl (hio g w')
   | _ =>
    simp only [made, stepG.apply, Bool.false_eq_true, if_false, Sem.run, ite_self, seen_nil, after_nil]
    exact trivial
  | _ =>
   simp only [made, stepG.apply, Bool.false_eq_true, if_false, Sem.run, ite_self, seen_nil, after_nil]
   exact trivial
theorem okG.pushes {fr : Frame} {callers : List Frame} {dying : Option Dying} (h : okG ⟨fr, callers, .running, dying, none⟩) {f : Frame} (hf : okFrame f) {l : List Frame} (hl : ∀ x ∈ l, okFrame x) : okG { frame := f, callers := l ++ fr :: callers, status := .running, dying := dying } := by
 refine ⟨hf, fun x hx => ?_, fun d hd hc => ?_⟩
 ·rcases List.mem_append.1 hx with hx | hx
  ·exact hl x hx
  ·rcases List.mem_cons.1 hx with rfl | hx
   ·exact h.frame
   ·exact h.callers x hx
 ·have := h.dying d hd hc
  unfold lowest at this ⊢
  simp only [List.getLast?_append, List.getLast?_cons] at this ⊢
  cases hl : callers.getLast? <;> simp [hl] at this ⊢ <;> exact this
theorem brought_re (w : World) (τ : Tape) (d n : Nat) : ∀ l s, P.brought (re w τ d) n l s = P.brought w n l s := by
 induction n with
 | zero => intro l s; unfold Program.brought; cases l <;> rfl
 | succ n ih =>
  intro l s
  cases l with
  | nil => rfl
  | cons f l =>
   unfold Program.brought
   simp only [ih]
   rfl
theorem found_re (w : World) (τ : Tape) (d n : Nat) : ∀ f, P.found (re w τ d) n f = P.found w n f := by
 induction n with
 | zero => intro f; rfl
 | succ n ih =>
  intro f
  unfold Program.found
  simp only [ih]
  rfl
theorem local_early {fr : Frame} {callers : List Frame} {dying : Option Dying} (hg : okG ⟨fr, callers, .running, dying, none⟩) (g : Nat) (w : World) : Local dying.isSome (fun w => early P fr callers dying g w) w := by
 have hdy : ∀ g : Goroutine, g.dying = dying → (dying.isSome = true → g.dying ≠ none) := fun g h h' => by rw [h]; intro h0; rw [h0] at h'; cases h'
 have hh : ∀ w τ d, (re w τ d).heap = w.heap := fun _ _ _ => rfl
 have hbr : ∀ w τ d n l s, P.brought (re w τ d) n l s = P.brought w n l s := fun w τ d n l s => brought_re w τ d n l s
 have hfo : ∀ w τ d n f, P.found (re w τ d) n f = P.found w n f := fun w τ d n f => found_re w τ d n f
 have now : ∀ {F : World → GStep} (x : Goroutine) (f : Array Obj → Array Obj) (w : World), okG x → x.dying = dying → x.status = .running → x.offers = none → (∀ τ d, F (re w τ d) = .go x (re { w with heap := f w.heap } τ d)) → Local dying.isSome F w := by
  intro F x f w hx hd hst ho hF
  have h0 := hF w.tape w.drawn
  rw [re_self] at h0
  unfold Local
  rw [h0]
  exact ⟨hx, hdy _ hd, by rw [hst]; simp, by rw [hst]; simp, fun _ _ => ⟨ho, rfl, 0, rfl, fun τ d _ => hF τ d⟩⟩
 have stop : ∀ {F : World → GStep} (w : World) {o w' es}, F w = .ended o w' es → Local dying.isSome F w := by
  intro F w o w' es h; unfold Local; rw [h]; trivial
 have notYet : ∀ {F : World → GStep} (w : World), (∀ τ d, F (re w τ d) = match w.heap[g]? with | some (.pending c elem) => .go { frame := fr, callers, status := .running, dying } (re { w with heap := w.heap.setIfInBounds g (.cells c elem) } τ d) | _ => .ended (.stuck "early: the variable does not wait" (fr.pos P)) (re w τ d)) → Local dying.isSome F w := by
  intro F w hF
  cases hw : w.heap[g]? with
  | none => exact stop w (by have := hF w.tape w.drawn; rw [hw] at this; exact this)
  | some o =>
   cases o with
   | pending c elem => exact now _ (fun h => h.setIfInBounds g (.cells c elem)) w (hg.here hg.frame rfl _) rfl rfl rfl (fun τ d => by rw [hF, hw])
   | _ => exact stop w (by have := hF w.tape w.drawn; rw [hw] at this; exact this)
 have hsh : ∀ w τ d (o : Option Nat), o.bind (re w τ d).shape? = o.bind w.shape? := fun _ _ _ _ => rfl
 by_cases h1 : P.follows .staticDataAhead = true
 ·cases h2 : P.stepOf g with
  | none => exact stop (o := .unsupported (.initOrder g) (fr.pos P)) (w' := w) (es := #[]) w (by simp [early, h1, h2])
  | some f =>
   have there : ∀ {F : World → GStep} (w : World), (∀ τ d, F (re w τ d) = .go { frame := Frame.enter P f #[] .early, callers := (if (P.code? f).any P.plainData then (P.brought w (2 * P.funcs.size + 1) [f] []).drop 1 else []).map (Frame.enter P · #[] .early) ++ fr :: callers, status := .running, dying } (re w τ d)) → Local dying.isSome F w := by
    intro F w hF
    refine now _ (fun h => h) w (hg.pushes (okFrame_enter _ _ _) fun x hx => ?_) rfl rfl rfl hF
    obtain ⟨y, _, rfl⟩ := List.mem_map.1 hx
    exact okFrame_enter _ _ _
   by_cases h3 : (P.code? f).any P.atRunTime = true
   ·exact notYet w (fun τ d => by simp only [early, h1, h2, h3, hh, Bool.not_true, Bool.false_eq_true, if_false, if_true]; rfl)
   by_cases h4 : (((P.code? f).bind fun c => (readies c).getLast?).bind w.shape?).isSome = true
   ·exact notYet w (fun τ d => by simp only [early, h1, h2, h3, h4, hh, hsh, Bool.not_true, Bool.false_eq_true, if_false, if_true]; rfl)
   cases h5 : P.found w P.funcs.size f with
   | unknown => exact stop (o := .unsupported (.initOrder g) (fr.pos P)) (w' := w) (es := #[]) w (by simp only [early, h1, h2, h3, h4, h5, Bool.not_true, Bool.false_eq_true, if_false])
   | notYet =>
    cases h6 : (fr.kind == .early) with
    | true => exact stop (o := .unsupported (.initOrder g) (fr.pos P)) (w' := w) (es := #[]) w (by simp only [early, h1, h2, h3, h4, h5, h6, Bool.not_true, Bool.false_eq_true, if_false])
    | false => exact notYet w (fun τ d => by simp only [early, h1, h2, h3, h4, h5, h6, hh, hsh, hfo, Bool.not_true, Bool.false_eq_true, if_false]; rfl)
   | either =>
    cases h6 : (fr.kind == .early) with
    | true => exact there w (fun τ d => by simp only [early, h1, h2, h3, h4, h5, h6, hh, hsh, hfo, hbr, Bool.not_true, Bool.false_eq_true, if_false])
    | false =>
     by_cases h7 : (P.code? f).any P.plainData = true
     ·exact there w (fun τ d => by simp only [early, h1, h2, h3, h4, h5, h6, h7, hh, hsh, hfo, hbr, Bool.not_true, Bool.false_eq_true, if_false, if_true])
     by_cases h8 : (P.code? f).any P.bareCopy = true
     ·have hch : ∀ w, (choose (.early g)).run P w = .ok ((Question.early g).cut (w.tape w.drawn (.early g))) { w with drawn := w.drawn + 1 } := fun w => by simp [choose, Sem.run, Question.forced]
      have al : ∀ τ d, Alike w 1 τ d → τ d = w.tape w.drawn := fun τ d h => by have := h 0 (by omega); simpa using this
      cases hn : (Question.early g).cut (w.tape w.drawn (.early g)) with
      | zero =>
       refine local_shift (E := fun v => match v.heap[g]? with | some (.pending c elem) => .go { frame := fr, callers, status := .running, dying } { v with heap := v.heap.setIfInBounds g (.cells c elem) } | _ => .ended (.stuck "early: the variable does not wait" (fr.pos P)) v) (w' := { w with drawn := w.drawn + 1 }) (m := 1) ?_ rfl (fun τ d ha => ?_) (notYet _ (fun τ d => ?_))
       ·simp only [early, h1, h2, h3, h4, h5, h6, h7, h8, hch, hn, Bool.not_true, Bool.false_eq_true, if_false]
        rfl
       ·have e : (Question.early g).cut ((re w τ d).tape (re w τ d).drawn (.early g)) = 0 := by show (Question.early g).cut (τ d (.early g)) = 0; rw [al τ d ha]; exact hn
        simp only [early, h1, h2, h3, h4, h5, h6, h7, h8, hh, hsh, hfo, hch, e, Bool.not_true, Bool.false_eq_true, if_false]
        rfl
       ·rfl
      | succ k =>
       refine local_shift (E := fun v => .go { frame := Frame.enter P f #[] .early, callers := (if (P.code? f).any P.plainData then (P.brought w (2 * P.funcs.size + 1) [f] []).drop 1 else []).map (Frame.enter P · #[] .early) ++ fr :: callers, status := .running, dying } v) (w' := { w with drawn := w.drawn + 1 }) (m := 1) ?_ rfl (fun τ d ha => ?_) (there _ (fun τ d => ?_))
       ·simp only [early, h1, h2, h3, h4, h5, h6, h7, h8, hch, hn, Bool.not_true, Bool.false_eq_true, if_false]
       ·have e : (Question.early g).cut ((re w τ d).tape (re w τ d).drawn (.early g)) = k + 1 := by show (Question.early g).cut (τ d (.early g)) = k + 1; rw [al τ d ha]; exact hn
        simp only [early, h1, h2, h3, h4, h5, h6, h7, h8, hh, hsh, hfo, hch, e, Bool.not_true, Bool.false_eq_true, if_false]
        rfl
       ·simp only [h7, Bool.false_eq_true, if_false]
     ·exact notYet w (fun τ d => by simp only [early, h1, h2, h3, h4, h5, h6, h7, h8, hh, hsh, hfo, Bool.not_true, Bool.not_false, Bool.false_eq_true, if_false, if_true]; rfl)
 ·exact notYet w (fun τ d => by simp only [early, h1, hh, Bool.not_false, if_true]; rfl)
theorem local_apply {fr : Frame} {callers : List Frame} {dying : Option Dying} (hg : okG ⟨fr, callers, .running, dying, none⟩) {s : Sem Next} (hs : Fit P okNext 0 s) (w : World) : Local dying.isSome (fun w => stepG.apply P true fr callers dying s w) w := by
 by_cases hio : ∃ g w', (s.runT P w #[]).1 = .halt (.unsupported (.initOrder g)) w'
 ·obtain ⟨g, w', hr⟩ := hio
  obtain ⟨m, e1, e2⟩ := runT_alike P s 0 w #[] hs (by rw [hr]; rfl)
  have ea : ∀ w w' es, s.runT P w #[] = (.halt (.unsupported (.initOrder g)) w', es) → stepG.apply P true fr callers dying s w = early P fr callers dying g w' := by
   intro w w' es h
   unfold stepG.apply
   simp only [h, if_true, ite_self, seen_nil, after_nil]
  refine local_shift (E := fun w => early P fr callers dying g w) (w' := w') (m := m) (ea w w' _ (Prod.ext hr rfl)) ?_ (fun τ d ha => ?_) (local_early hg g w')
  ·rw [hr] at e1; simp only [reR, Result.halt.injEq, true_and] at e1; exact e1
  ·have := e2 τ d ha
   rw [hr] at this
   exact ea _ _ _ this
 ·exact local_run hs _ fr.fn (made P fr callers dying) w (fun w => apply_made fr callers dying s w) (made_ok hg _ (fun a w' h => runT_leaf s 0 w #[] hs h) (fun g w' h => hio ⟨g, w', h⟩))
end Go.Proofs.YtpbbmagjhkakgaaGreatDoor.Lf
namespace Go.Proofs.YtpbbmagjhkakgaaGreatDoor.Lf
open Go Go.Conc
variable {P : Program}
theorem hdy {dying : Option Dying} (g : Goroutine) (h : g.dying = dying) : (dying.isSome = true → g.dying ≠ none) := fun h' => by rw [h]; intro h0; rw [h0] at h'; cases h'
theorem local_now {dying : Option Dying} {F : World → GStep} {w : World} (x : Goroutine) (hx : okG x) (hd : dying.isSome = true → x.dying ≠ none) (hs : ∀ t, x.status ≠ .sleeping t) (hp : x.status ≠ .parked) (ho : x.offers = none) (hF : ∀ τ d, F (re w τ d) = .go x (re w τ d)) : Local dying.isSome F w := by
  have h0 := hF w.tape w.drawn
  rw [re_self] at h0
  unfold Local
  rw [h0]
  exact ⟨hx, hd, hs, hp, fun _ _ => ⟨ho, rfl, 0, rfl, fun τ d _ => hF τ d⟩⟩
theorem local_stop {dying : Bool} {F : World → GStep} {w : World} {o : Outcome} {w' : World} {es : Array Event} (h : F w = .ended o w' es) : Local dying F w := by
  unfold Local; rw [h]; trivial
theorem made_go {dying : Bool} {α : Type} {r : Result α} {K : Result α → GStep} {g : Goroutine} {w' : World} (h1 : okG g) (h2 : dying = true → g.dying ≠ none) (h3 : ∀ t, g.status ≠ .sleeping t) (h4 : g.status ≠ .parked) (h5 : g.offers = none) (h6 : resGo r = true) (h7 : ∀ τ d, K (reR τ d r) = .go g (re w' τ d)) : Made dying r K (.go g w') :=
  ⟨rfl, h1, h2, h3, h4, fun _ _ => ⟨h5, h6, h7⟩⟩
theorem doReturn_ok {fr : Frame} {callers : List Frame} {dying : Option Dying} (hg : okG ⟨fr, callers, .running, dying, none⟩) (hc : ∀ d, dying = some d → d.calling = true) (v : Value) {α : Type} {r : Result α} {K : Result α → GStep} {w : World} (hr : resGo r = true) (hK : ∀ τ d, K (reR τ d r) = doReturn P true fr callers dying v (re w τ d)) :
    Made dying.isSome r K (doReturn P true fr callers dying v w) := by
  have go : ∀ {x : Goroutine}, okG x → (dying.isSome = true → x.dying ≠ none) → x.status = .running → x.offers = none → (∀ w, doReturn P true fr callers dying v w = .go x w) → Made dying.isSome r K (doReturn P true fr callers dying v w) := by
    intro x h1 h2 h3 h4 h5
    rw [h5]
    exact made_go h1 h2 (by rw [h3]; simp) (by rw [h3]; simp) h4 hr (fun τ d => by rw [hK, h5])
  cases callers with
  | cons c rest =>
    have hcf : okFrame c := hg.callers c List.mem_cons_self
    cases hk : fr.kind with
    | normal => exact go (hg.pop rfl (okFrame_finish hcf v) (finish_kind _ _) .running) (hdy _ rfl) rfl rfl (fun w => by simp only [doReturn, hk])
    | wrapped => exact go (hg.pop rfl (okFrame_finish hcf v) (finish_kind _ _) .running) (hdy _ rfl) rfl rfl (fun w => by simp only [doReturn, hk])
    | early => exact go (hg.pop rfl hcf rfl .running) (hdy _ rfl) rfl rfl (fun w => by simp only [doReturn, hk])
    | _ =>
      have e : ∃ c' : Frame, c'.todo = c.todo ∧ c'.kind = c.kind ∧ ∀ w, doReturn P true fr (c :: rest) dying v w = .go { frame := c', callers := rest, status := .running, dying } w := by
        simp only [doReturn, hk]
        split
        · split
          · exact ⟨{ c with mode := .returning }, rfl, rfl, fun _ => rfl⟩
          · exact ⟨{ c with mode := .panicking _ }, rfl, rfl, fun _ => rfl⟩
        · exact ⟨c, rfl, rfl, fun _ => rfl⟩
      obtain ⟨c', e1, e2, e3⟩ := e
      exact go (hg.pop rfl (okFrame_mode hcf e1) e2 .running) (hdy _ rfl) rfl rfl e3
  | nil =>
    cases hk : fr.kind with
    | report =>
      have e : (∃ d', d'.calling = false ∧ ∀ w, doReturn P true fr [] dying v w = .go { frame := fr, callers := [], status := .running, dying := some d' } w) ∨ ∃ o, doReturn P true fr [] dying v w = .ended o w := by
        simp only [doReturn, hk]
        split
        · exact .inl ⟨_, rfl, fun _ => rfl⟩
        · exact .inr ⟨_, rfl⟩
        · rename_i h _; exact absurd rfl h
      rcases e with ⟨d', e1, e2⟩ | ⟨o, e⟩
      · exact go (x := { frame := fr, callers := [], status := .running, dying := some d' }) (okG.dead rfl e1 hg.frame (fun _ h => by cases h)) (fun _ h => by cases h) rfl rfl e2
      · rw [e]; exact trivial
    | _ =>
      have hnd : dying = none := by
        cases hdd : dying with
        | none => rfl
        | some d =>
          have := hg.dying d hdd (hc d hdd)
          simp [lowest, hk] at this
      subst hnd
      have e : (∃ f, ∀ w, doReturn P true fr [] none v w = .go { frame := Frame.enter P f #[] .normal, callers := [], status := .running, dying := none } w) ∨ ∃ o, doReturn P true fr [] none v w = .ended o w := by
        simp only [doReturn, hk, Bool.not_true, Bool.false_eq_true, if_false]
        split
        · exact .inl ⟨_, fun _ => rfl⟩
        · exact .inr ⟨_, rfl⟩
      rcases e with ⟨f, e⟩ | ⟨o, e⟩
      · exact go (x := { frame := Frame.enter P f #[] .normal, callers := [], status := .running, dying := none }) ⟨okFrame_enter _ _ _, (fun _ h => by cases h), (fun _ h => by cases h)⟩ (fun h => by cases h) rfl rfl e
      · rw [e]; exact trivial
theorem results_fit (fn : Func) (tmps : Array Value) : Fit P (fun _ => True) 0 (results fn tmps) := by
  unfold results
  refine fitB (fAm (fun x => ?_) _) fun _ => fit_pure P _
  cases x with
  | tmp t => exact fit_pure P _
  | cell a t => exact fitB (fit_asAddr P _) fun _ => fit_loadVar P _ _
theorem local_callDeferred (hP : Plain P) {fr : Frame} {callers : List Frame} {dying : Option Dying} (hg : okG ⟨fr, callers, .running, dying, none⟩) (d : Deferred) (w : World) : Local dying.isSome (fun w => callDeferred P fr callers dying d w) w := by
  by_cases h0 : d.target = .nil ∧ ∃ c, fr.mode = .panicking c
  · obtain ⟨h1, c, h2⟩ := h0
    have : ∃ o, callDeferred P fr callers dying d w = .ended o w := by
      unfold callDeferred
      rw [h1, h2]
      exact ⟨_, rfl⟩
    obtain ⟨o, e⟩ := this
    exact local_stop e
  · have e : ∃ (φ : Result Next → Array Event → Array Event) (K : Result Next → GStep), (∀ w, callDeferred P fr callers dying d w = GStep.after (φ ((invoke d.target d.args).runT P w #[]).1 ((invoke d.target d.args).runT P w #[]).2) (K ((invoke d.target d.args).runT P w #[]).1)) ∧
        (∀ r es, resGo r = true → φ r es = seen P fr.fn es) ∧ ∀ r : Result Next, (∀ a w', r = .ok a w' → okNext a) → Made dying.isSome r K (K r) := by
      refine ⟨fun r es => seen P fr.fn (match r with | .halt .blocked _ | .halt .waiting _ => #[] | _ => es), ?K, ?main, ?evs, ?rest⟩
      case main =>
        intro w
        unfold callDeferred
        refine (if_neg fun h => h0 ?_).trans ?_
        · cases h1 : d.target <;> rw [h1] at h <;> first | (simp at h; done) | skip
          cases h2 : fr.mode <;> rw [h2] at h <;> first | (simp at h; done) | skip
          exact ⟨rfl, _, rfl⟩
        generalize (invoke d.target d.args).runT P w #[] = x
        obtain ⟨r, es⟩ := x
        dsimp only
        exact rfl
      case evs =>
        intro r es hr
        cases r with
        | ok a w => rfl
        | halt x w => cases x <;> first | rfl | (simp [resGo] at hr; done)
      case rest =>
        intro r hL
        cases r with
        | ok n w' =>
          have hn := hL n w' rfl
          cases n with
          | enter f args => exact made_go (hg.push (okFrame_enter _ _ _) hg.frame rfl _) (hdy _ rfl) (by simp) (by simp) rfl rfl (fun _ _ => rfl)
          | round l f t a b => exact made_go (hg.push (okFrame_round _ _ _ _ _ _) hg.frame rfl _) (hdy _ rfl) (by simp) (by simp) rfl rfl (fun _ _ => rfl)
          | row row args =>
            obtain rfl : row = "runtime.print$piece" := hn
            exact made_go (hg.push (okFrame_row _ _) hg.frame rfl _) (hdy _ rfl) (by simp) (by simp) rfl rfl (fun _ _ => rfl)
          | recover =>
            have e : ∃ cs, Similar callers cs ∧ ∀ w, (match fr.mode, tryRecover fr callers with | .returning, some (_, callers) => GStep.go { frame := fr, callers, status := .running, dying } w | _, _ => GStep.go { frame := fr, callers, status := .running, dying } w) = .go { frame := fr, callers := cs, status := .running, dying } w := by
              split
              · rename_i h; exact ⟨_, tryRecover_sim h, fun _ => rfl⟩
              · exact ⟨callers, rfl, fun _ => rfl⟩
            obtain ⟨cs, h1, h2⟩ := e
            exact Eq.mpr (congrArg (Made dying.isSome (Result.ok Next.recover w') _) (h2 w')) (made_go ((hg.here hg.frame rfl .running).sim h1) (hdy _ rfl) (by simp) (by simp) rfl rfl (fun τ d => h2 (re w' τ d)))
          | coroswitch c x =>
            cases x with
            | true => exact ⟨rfl, hg, rfl, hdy _ rfl, fun _ => ⟨rfl, rfl, fun _ _ => rfl⟩⟩
            | false => exact trivial
          | value v => exact made_go (hg.here hg.frame rfl _) (hdy _ rfl) (by simp) (by simp) rfl rfl (fun _ _ => rfl)
          | skip => exact made_go (hg.here hg.frame rfl _) (hdy _ rfl) (by simp) (by simp) rfl rfl (fun _ _ => rfl)
          | defer d => exact made_go (hg.here hg.frame rfl _) (hdy _ rfl) (by simp) (by simp) rfl rfl (fun _ _ => rfl)
          | spawn d => exact made_go (hg.here hg.frame rfl _) (hdy _ rfl) (by simp) (by simp) rfl rfl (fun _ _ => rfl)
          | comm a b c => exact made_go (hg.here hg.frame rfl _) (hdy _ rfl) (by simp) (by simp) rfl rfl (fun _ _ => rfl)
          | _ => exact hn.elim
        | halt x w' =>
          cases x with
          | panic v => exact made_go (hg.here (okFrame_raise hg.frame _) (raise_kind _ _) _) (hdy _ rfl) (by simp) (by simp) rfl rfl (fun _ _ => rfl)
          | goexit => exact made_go (hg.here (okFrame_raise hg.frame _) (raise_kind _ _) _) (hdy _ rfl) (by simp) (by simp) rfl rfl (fun _ _ => rfl)
          | fatal m => exact endFatal_ok hg.frame callers dying m w' _ _
          | throw m => exact endThrow_ok hg.frame m w' _ _
          | blocked => exact ⟨rfl, hg.here (fr' := { fr with defers := d :: fr.defers }) (okFrame_mode (fr := fr) hg.frame rfl) rfl _, hdy _ rfl, by simp, by simp, fun _ h => by cases h⟩
          | waiting => exact ⟨rfl, hg.here (fr' := { fr with defers := d :: fr.defers }) (okFrame_mode (fr := fr) hg.frame rfl) rfl _, hdy _ rfl, by simp, by simp, fun _ h => by cases h⟩
          | _ => exact trivial
    obtain ⟨φ, K, h1, h2, h3⟩ := e
    refine local_run (fit_invoke hP _ _) _ fr.fn K w (fun w => ⟨_, h1 w, fun hr => .inl (h2 _ _ hr), fun w' ha hr hr' => ?_⟩) (h3 _ fun a w' h => runT_leaf _ 0 w #[] (fit_invoke hP _ _) h)
    rw [h1 w', h2 _ _ hr, h2 _ _ hr', ha]
end Go.Proofs.YtpbbmagjhkakgaaGreatDoor.Lf
