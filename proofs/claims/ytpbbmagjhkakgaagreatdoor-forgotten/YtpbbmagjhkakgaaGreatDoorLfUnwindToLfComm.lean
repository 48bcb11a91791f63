import Derived.Test.YtpbbmagjhkakgaaGreatDoorLfLocToLfLeave
import Derived.Lone
import Derived.RunT
import Derived.Conc.CrowdComm
namespace Go.Proofs.YtpbbmagjhkakgaaGreatDoor.Lf
open Go Go.Conc
variable {P : Program}
theorem local_runT {α : Type} {L : α → Prop} {s : Sem α} (hs : Fit P L 0 s) {dying : Bool} {fn : FuncId} {w : World} {F : World → GStep}
    (h : ∃ K : Result α → GStep, (∀ w, F w = GStep.after (seen P fn (s.runT P w #[]).2) (K (s.runT P w #[]).1)) ∧ ∀ r, Made dying r K (K r)) : Local dying F w := by
  obtain ⟨K, h1, h2⟩ := h
  refine local_run hs _ fn K w (fun w => ⟨_, h1 w, fun _ => .inl rfl, fun w' ha _ _ => ?_⟩) (h2 _)
  rw [h1 w', ha]
theorem local_doReturn {fr : Frame} {callers : List Frame} {dying : Option Dying} (hg : okG ⟨fr, callers, .running, dying, none⟩) (hc : ∀ d, dying = some d → d.calling = true) (v : Value) {F : World → GStep} (hF : ∀ w, F w = doReturn P true fr callers dying v w) (w : World) : Local dying.isSome F w := by
  refine local_run (L := fun _ => True) (s := (pure () : Sem Unit)) (fit_pure P ()) _ fr.fn (fun r => match r with | .ok _ w => doReturn P true fr callers dying v w | .halt _ w => .ended (.stuck "" "") w) w (fun w => ⟨#[], ?_, fun _ => .inr rfl, fun w' _ _ _ => ?_⟩) ?_
  · rw [hF, after_nil]; rfl
  · rw [hF, after_nil]; rfl
  · exact doReturn_ok hg hc v rfl (fun _ _ => rfl)
theorem local_dead {dying : Bool} {F : World → GStep} {w w' : World} {fr : Frame} {d : Dying} (hf : okFrame fr) (h1 : d.calling = false) (h : F w = .go { frame := fr, callers := [], status := .running, dying := some d } w') : Local dying F w := by
  unfold Local; rw [h]
  exact ⟨okG.dead rfl h1 hf (fun _ h => by cases h), (fun _ h => by cases h), (by simp), (by simp), (fun h => by cases h)⟩
theorem local_unwind (hP : Plain P) {fr : Frame} {callers : List Frame} {dying : Option Dying} (hg : okG ⟨fr, callers, .running, dying, none⟩) (hc : ∀ d, dying = some d → d.calling = true) (w : World) : Local dying.isSome (fun w => unwind P true fr callers dying w) w := by
  cases hd : fr.defers with
  | cons d ds =>
    have hg' : okG ⟨{ fr with defers := ds }, callers, .running, dying, none⟩ := hg.here (fr' := { fr with defers := ds }) (okFrame_mode (fr := fr) hg.frame rfl) rfl _
    obtain ⟨t, args⟩ := d
    cases t with
    | collected block =>
      refine local_runT (P := P) (s := Instr.takeDeferred block) (fit_Instr_takeDeferred P block) (fn := fr.fn) ⟨?K, ?main, ?rest⟩
      case main =>
        intro w
        unfold unwind
        rw [hd]
        dsimp only
        generalize (Instr.takeDeferred block).runT P w #[] = x
        obtain ⟨r, es⟩ := x
        dsimp only
        exact rfl
      case rest =>
        intro r
        cases r with
        | ok a w => exact made_go (hg.here (fr' := { fr with defers := a ++ ds }) (okFrame_mode (fr := fr) hg.frame rfl) rfl _) (hdy _ rfl) (by simp) (by simp) rfl rfl (fun _ _ => rfl)
        | halt x w => exact trivial
    | fn a b =>
      have e : ∀ w, unwind P true fr callers dying w = callDeferred P { fr with defers := ds } callers dying ⟨.fn a b, args⟩ w := fun w => by unfold unwind; rw [hd]
      simp only [e]; exact local_callDeferred hP hg' _ w
    | nil =>
      have e : ∀ w, unwind P true fr callers dying w = callDeferred P { fr with defers := ds } callers dying ⟨.nil, args⟩ w := fun w => by unfold unwind; rw [hd]
      simp only [e]; exact local_callDeferred hP hg' _ w
    | builtin a b c d =>
      have e : ∀ w, unwind P true fr callers dying w = callDeferred P { fr with defers := ds } callers dying ⟨.builtin a b c d, args⟩ w := fun w => by unfold unwind; rw [hd]
      simp only [e]; exact local_callDeferred hP hg' _ w
    | coroexit c =>
      have e : ∀ w, unwind P true fr callers dying w = callDeferred P { fr with defers := ds } callers dying ⟨.coroexit c, args⟩ w := fun w => by unfold unwind; rw [hd]
      simp only [e]; exact local_callDeferred hP hg' _ w
  | nil =>
    cases hm : fr.mode with
    | run => exact local_stop (o := .stuck "unwind: the frame is running" (fr.pos P)) (w' := w) (es := #[]) (by unfold unwind; rw [hd, hm])
    | panicking chain =>
      by_cases hcat : fr.catches P = true
      · exact local_stop (o := .unsupported (.noEntry "a panic or Goexit out of a method that fmt calls behind a cut's door") (fr.pos P)) (w' := w) (es := #[]) (by unfold unwind; rw [hd, hm]; simp only [hcat, if_true])
      · cases callers with
        | cons c rest =>
          exact local_now _ (hg.pop rfl (okFrame_raise (hg.callers c List.mem_cons_self) chain) (raise_kind _ _) .running) (hdy _ rfl) (by simp) (by simp) rfl (fun τ d => by unfold unwind; rw [hd, hm]; simp only [hcat, if_false, Bool.false_eq_true])
        | nil =>
          cases hdy' : dying with
          | none =>
            subst hdy'
            by_cases hge : (chain.head?.any (·.goexit)) = true
            · exact local_now (dying := none) { frame := fr, callers := [], status := .finished, dying := none } (hg.here hg.frame rfl _) (fun h => by cases h) (by simp) (by simp) rfl (fun τ d => by unfold unwind; rw [hd, hm]; simp only [hcat, hge, if_false, if_true, Bool.false_eq_true])
            · have e : (∃ d w', d.calling = false ∧ unwind P true fr [] none w = .go { frame := fr, callers := [], status := .running, dying := some d } w') ∨ ∃ o w', unwind P true fr [] none w = .ended o w' := by
                unfold unwind; rw [hd, hm]; simp only [hcat, hge, if_false, Bool.false_eq_true]
                split
                · exact .inl ⟨_, _, rfl, rfl⟩
                · exact .inr ⟨_, _, rfl⟩
                · exact .inr ⟨_, _, rfl⟩
              rcases e with ⟨d, w', h1, h2⟩ | ⟨o, w', h⟩
              · exact local_dead hg.frame h1 h2
              · exact local_stop h
          | some d =>
            have e : (∃ d' w', d'.calling = false ∧ unwind P true fr [] (some d) w = .go { frame := fr, callers := [], status := .running, dying := some d' } w') ∨ ∃ o w', unwind P true fr [] (some d) w = .ended o w' := by
              unfold unwind; rw [hd, hm]; simp only [hcat, if_false, Bool.false_eq_true]
              split
              · unfold endPrinting
                dsimp only
                split
                · exact .inl ⟨_, _, rfl, rfl⟩
                · exact .inr ⟨_, _, rfl⟩
              · exact .inr ⟨_, _, rfl⟩
            rcases e with ⟨d', w', h1, h⟩ | ⟨o, w', h⟩
            · exact local_dead hg.frame h1 h
            · exact local_stop h
    | returning =>
      cases hf : P.funcs[fr.fn]? with
      | none => exact local_doReturn (P := P) hg hc (fr.tmps.getD 0 undef) (fun w => by unfold unwind; rw [hd, hm]; simp only [hf]) w
      | some fn =>
        refine local_runT (P := P) (s := results fn fr.tmps) (results_fit fn fr.tmps) (fn := fr.fn) ⟨?K2, ?main2, ?rest2⟩
        case main2 =>
          intro w
          unfold unwind
          rw [hd, hm]
          simp only [hf]
          generalize (results fn fr.tmps).runT P w #[] = x
          obtain ⟨r, es⟩ := x
          dsimp only
          exact rfl
        case rest2 =>
          intro r
          cases r with
          | ok v w => exact doReturn_ok hg hc v rfl (fun _ _ => rfl)
          | halt x w => cases x <;> exact trivial
end Go.Proofs.YtpbbmagjhkakgaaGreatDoor.Lf
namespace Go.Proofs.YtpbbmagjhkakgaaGreatDoor.Lf
open Go Go.Conc
variable {P : Program}
theorem piece_next : Extern.next "runtime.print$piece" = some (Extern.PrintPieces.piece #[] #[]) := by rfl
theorem local_then {α : Type} {L : α → Prop} {s : Sem α} (hs : Fit P L 0 s) {dying : Bool} {fn : FuncId} {w : World} {F : World → GStep} {E : α → World → GStep} {H : Halt → World → GStep}
  (hF : ∀ w, F w = match s.runT P w #[] with | (r, es) => GStep.after (seen P fn es) (match r with | .ok a w => E a w | .halt x w => H x w)) (hE : ∀ a w, Local dying (E a) w) (hH : ∀ x w, ∃ o, H x w = .ended o w) : Local dying F w := by
 cases hr : (s.runT P w #[]).1 with
 | halt x w' =>
  obtain ⟨o, ho⟩ := hH x w'
  refine local_stop (o := o) (w' := w') (es := seen P fn (s.runT P w #[]).2) ?_
  rw [hF w]
  show GStep.after (seen P fn (s.runT P w #[]).2) (match (s.runT P w #[]).1 with | .ok a w => E a w | .halt x w => H x w) = _
  rw [hr]; simp only [ho, GStep.after, Array.append_empty]
 | ok a w' =>
  obtain ⟨m, e1, e2⟩ := runT_alike P s 0 w #[] hs (by rw [hr]; rfl)
  have hev : deafBehind 0 (seen P fn (s.runT P w #[]).2) = 0 := by
   rw [seen_even fn (runT_synced s w #[] (fun e he => by simp at he))]
   exact runT_even s 0 w #[] 0 hs (by rw [hr]; rfl) rfl
  generalize hes : seen P fn (s.runT P w #[]).2 = ev at hev
  have hFw : F w = GStep.after ev (E a w') := by
   rw [hF w, ← hes]
   show GStep.after (seen P fn (s.runT P w #[]).2) (match (s.runT P w #[]).1 with | .ok a w => E a w | .halt x w => H x w) = _
   rw [hr]
  rw [hr] at e1 e2
  simp only [reR, Result.ok.injEq, true_and] at e1
  refine local_shift (E := fun w => GStep.after ev (E a w)) (w' := w') (m := m) hFw e1 (fun τ d ha => ?_) ?_
  ·rw [hF, e2 τ d ha]
   simp only [reR, hes]
  ·have h := hE a w'
   have hev' : ∀ es, deafBehind 0 es = 0 → deafBehind 0 (ev ++ es) = 0 := fun es h => by rw [deafBehind_app, hev, h]
   unfold Local at h ⊢
   dsimp only
   cases hx : E a w' with
   | go g w'' es =>
    rw [hx] at h
    obtain ⟨a1, a2, a3, a4, a5⟩ := h
    exact ⟨a1, a2, a3, a4, fun x y => let ⟨b1, b2, m', b3, b4⟩ := a5 x y; ⟨b1, hev' _ b2, m', b3, fun τ d ha => by rw [b4 τ d ha]; rfl⟩⟩
   | comm g cs b sh w'' es =>
    rw [hx] at h
    obtain ⟨a1, a0, a2, a5⟩ := h
    exact ⟨a1, a0, a2, fun x => let ⟨b1, b2, m', b3, b4⟩ := a5 x; ⟨b1, hev' _ b2, m', b3, fun τ d ha => by rw [b4 τ d ha]; rfl⟩⟩
   | coroswitch g c y w'' es =>
    rw [hx] at h
    obtain ⟨a1, a0, a2, a5⟩ := h
    exact ⟨a1, a0, a2, fun x => let ⟨b1, b2, m', b3, b4⟩ := a5 x; ⟨b1, hev' _ b2, m', b3, fun τ d ha => by rw [b4 τ d ha]; rfl⟩⟩
   | spawn => exact trivial
   | ended => exact trivial
   | _ => rw [hx] at h; exact h.elim
theorem exitTo_mem {id : Nat} : ∀ {k k' : List Item}, exitTo id k = some k' → ∀ x ∈ k', x ∈ k := by
 intro k
 induction k with
 | nil => intro k' h; simp [exitTo] at h
 | cons a k ih =>
  intro k' h x hx
  unfold exitTo at h
  split at h
  ·rename_i heq
   cases heq
   split at h
   ·cases h; exact List.mem_cons_of_mem _ hx
   ·exact List.mem_cons_of_mem _ (ih h x hx)
  ·rename_i heq
   cases heq
   exact List.mem_cons_of_mem _ (ih h x hx)
  ·cases h
theorem gotoIn_mem {id : Nat} : ∀ {k k' : List Item}, gotoIn id k = some k' → ∀ x ∈ k', x ∈ k ∨ okItem x := by
 intro k
 induction k with
 | nil => intro k' h; simp [gotoIn] at h
 | cons a k ih =>
  intro k' h x hx
  unfold gotoIn at h
  split at h
  ·rename_i heq
   cases heq
   split at h
   ·cases h
    rcases List.mem_cons.1 hx with rfl | hx
    ·exact .inr trivial
    ·exact .inl hx
   ·exact (ih h x hx).imp (List.mem_cons_of_mem _) (fun h => h)
  ·rename_i heq
   cases heq
   exact (ih h x hx).imp (List.mem_cons_of_mem _) (fun h => h)
  ·cases h
theorem local_exec (hP : Plain P) {fr : Frame} {callers : List Frame} {dying : Option Dying} (hg : okG ⟨fr, callers, .running, dying, none⟩) (hc : ∀ d, dying = some d → d.calling = true) (w : World) : Local dying.isSome (fun w => stepG.exec P true true fr callers dying w) w := by
 have to : ∀ (todo : List Item), (∀ it ∈ todo, it ∈ fr.todo ∨ okItem it) → (∀ w, stepG.exec P true true fr callers dying w = .go { frame := { fr with todo }, callers, status := .running, dying } w) → Local dying.isSome (fun w => stepG.exec P true true fr callers dying w) w := by
  intro todo h1 h2
  exact local_now _ (hg.here (fr' := { fr with todo }) (okFrame_of_sub (fr := fr) hg.frame h1) rfl .running) (hdy _ rfl) (by simp) (by simp) rfl (fun τ d => h2 _)
 have leave : ∀ (jump : Option Code), (fr.roundOf = none → (∀ w, stepG.exec P true true fr callers dying w = .go { frame := { fr with mode := .returning }, callers, status := .running, dying } w) ∨ ∃ o, stepG.exec P true true fr callers dying w = .ended o w) →
   (∀ l, fr.roundOf = some l → ∃ K : Result Value → GStep, (∀ w, stepG.exec P true true fr callers dying w = GStep.after (seen P fr.fn ((Instr.endRound l jump).runT P w #[]).2) (K ((Instr.endRound l jump).runT P w #[]).1)) ∧ (∀ v w, K (.ok v w) = doReturn P true fr callers dying v w) ∧ ∀ x w, ∃ o, K (.halt x w) = .ended o w) →
   Local dying.isSome (fun w => stepG.exec P true true fr callers dying w) w := by
  intro jump h h'
  cases hr : fr.roundOf with
  | none =>
   rcases h hr with h | ⟨o, h⟩
   ·exact local_now _ (hg.here (fr' := { fr with mode := .returning }) (okFrame_mode (fr := fr) hg.frame rfl) rfl .running) (hdy _ rfl) (by simp) (by simp) rfl (fun τ d => h _)
   ·exact local_stop h
  | some l =>
   obtain ⟨K, h1, h2, h3⟩ := h' l hr
   refine local_runT (P := P) (fit_Instr_endRound P l jump) (fn := fr.fn) ⟨K, h1, fun r => ?_⟩
   cases r with
   | ok v w => rw [h2]; exact doReturn_ok hg hc v rfl (fun _ _ => h2 _ _)
   | halt x w => obtain ⟨o, h⟩ := h3 x w; rw [h]; exact trivial
 have round : ∀ (jump : Option Code) (l : Nat), fr.roundOf = some l → (∀ w, stepG.exec P true true fr callers dying w = match (Instr.endRound l jump).runT P w #[] with | (r, es) => GStep.after (seen P fr.fn es) (match r with | .ok v w => doReturn P true fr callers dying v w | .halt _ w => .ended (.stuck "range over a function: no such loop" (fr.pos P)) w)) →
   ∃ K : Result Value → GStep, (∀ w, stepG.exec P true true fr callers dying w = GStep.after (seen P fr.fn ((Instr.endRound l jump).runT P w #[]).2) (K ((Instr.endRound l jump).runT P w #[]).1)) ∧ (∀ v w, K (.ok v w) = doReturn P true fr callers dying v w) ∧ ∀ x w, ∃ o, K (.halt x w) = .ended o w := by
  intro jump l hr h
  exact ⟨fun r => match r with | .ok v w => doReturn P true fr callers dying v w | .halt _ w => .ended (.stuck "range over a function: no such loop" (fr.pos P)) w, h, fun _ _ => rfl, fun _ _ => ⟨_, rfl⟩⟩
 cases ht : fr.todo with
 | nil => exact leave none (fun hr => .inl fun w => by simp only [stepG.exec, ht, hr, if_true]) (fun l hr => round none l hr fun w => by simp only [stepG.exec, ht, hr]; rfl)
 | cons it k =>
  have sub : ∀ x ∈ k, x ∈ fr.todo := fun x hx => by rw [ht]; exact List.mem_cons_of_mem _ hx
  have sub1 : ∀ {a : Item}, okItem a → ∀ x ∈ a :: k, x ∈ fr.todo ∨ okItem x := fun {a} ha x hx => by
   rcases List.mem_cons.1 hx with rfl | hx
   ·exact .inr ha
   ·exact .inl (sub x hx)
  have sub2 : ∀ {a b : Item}, okItem a → okItem b → ∀ x ∈ a :: b :: k, x ∈ fr.todo ∨ okItem x := fun {a b} ha hb x hx => by
   rcases List.mem_cons.1 hx with rfl | hx
   ·exact .inr ha
   ·exact sub1 hb x hx
  cases it with
  | code c =>
   cases c with
   | skip => exact to k (fun x hx => .inl (sub x hx)) (fun w => by simp only [stepG.exec, ht])
   | label l => exact to k (fun x hx => .inl (sub x hx)) (fun w => by simp only [stepG.exec, ht])
   | seq a b => exact to (.code a :: .code b :: k) (sub2 trivial trivial) (fun w => by simp only [stepG.exec, ht])
   | block id b => exact to (.code b :: .inBlock id :: k) (sub2 trivial trivial) (fun w => by simp only [stepG.exec, ht])
   | loop b => exact to (.code b :: .inLoop b :: k) (sub2 trivial trivial) (fun w => by simp only [stepG.exec, ht])
   | scope b => exact to (.code b :: .inScope b :: k) (sub2 trivial trivial) (fun w => by simp only [stepG.exec, ht])
   | cond c a b =>
    cases he : fr.eval c with
    | bool t => exact to (.code (if t then a else b) :: k) (sub1 trivial) (fun w => by simp only [stepG.exec, ht, he])
    | _ => exact local_stop (o := .stuck "cond: bool expected" (fr.pos P)) (w' := w) (es := #[]) (by simp only [stepG.exec, ht, he])
   | ret => exact leave (some .ret) (fun hr => .inl fun w => by simp only [stepG.exec, ht, hr, if_true]) (fun l hr => round (some .ret) l hr fun w => by simp only [stepG.exec, ht, hr]; rfl)
   | exit id =>
    cases he : exitTo id k with
    | some k' => exact to k' (fun x hx => .inl (sub x (exitTo_mem he x hx))) (fun w => by simp only [stepG.exec, ht, he, Option.elim])
    | none => exact leave (some (.exit id)) (fun hr => .inr ⟨.stuck "exit, goto: no such block or label" (fr.pos P), by simp only [stepG.exec, ht, hr, he, Option.elim, Bool.false_eq_true, if_false]⟩) (fun l hr => round (some (.exit id)) l hr fun w => by simp only [stepG.exec, ht, hr, he, Option.elim]; rfl)
   | goto l =>
    cases he : gotoIn l k with
    | some k' => exact to k' (fun x hx => (gotoIn_mem he x hx).imp (sub x) id) (fun w => by simp only [stepG.exec, ht, he, Option.elim])
    | none => exact leave (some (.goto l)) (fun hr => .inr ⟨.stuck "exit, goto: no such block or label" (fr.pos P), by simp only [stepG.exec, ht, hr, he, Option.elim, Bool.false_eq_true, if_false]⟩) (fun l' hr => round (some (.goto l)) l' hr fun w => by simp only [stepG.exec, ht, hr, he, Option.elim]; rfl)
   | refuse why => exact local_stop (w' := w) (es := #[]) (by simp only [stepG.exec, ht]; rfl)
   | region id ops draw =>
    cases draw with
    | false => exact to (.inRegion ops (List.range ops.size) :: k) (sub1 trivial) (fun w => by simp only [stepG.exec, ht, Bool.not_false, if_true])
    | true =>
     refine local_run (L := fun _ => True) (s := choose (.order fr.fn id)) (fit_choose P _) _ fr.fn (fun r => match r with | .ok t w => .go { frame := { fr with todo := .inRegion ops (Region.schedule (P.follows .mixedOrders) ops t) :: k }, callers, status := .running, dying } w | .halt _ w => .ended (.stuck "order" (fr.pos P)) w) w (fun w => ⟨#[], ?_, fun _ => .inr rfl, fun w' _ _ _ => ?_⟩) ?_
     ·simp only [stepG.exec, ht, Bool.not_true, Bool.false_eq_true, if_false, after_nil]; rfl
     ·simp only [stepG.exec, ht, Bool.not_true, Bool.false_eq_true, if_false, after_nil]; rfl
     ·exact made_go (hg.here (fr' := { fr with todo := .inRegion ops _ :: k }) (okFrame_of_sub (fr := fr) hg.frame (sub1 trivial)) rfl .running) (hdy _ rfl) (by simp) (by simp) rfl rfl (fun _ _ => rfl)
   | rangeFunc f ps a b =>
    refine local_then (P := P) (s := Instr.enterLoop fr.fn fr.tmps ps a b fr.roundOf) (fit_Instr_enterLoop P _ _ _ _ _ _) (fn := fr.fn) (E := fun x w => stepG.apply P true { fr with todo := .inRangeFunc x.1 :: k, defers := x.2 ++ fr.defers } callers dying (do let d ← resolve ({ fr with todo := .inRangeFunc x.1 :: k, defers := x.2 ++ fr.defers } : Frame).eval { callee := .value f, args := #[.const (.func (.yield x.1) #[] #[])], argTypes := #[] } 0; invoke d.target d.args) w) (H := fun _ w => .ended (.stuck "range over a function: no such loop" (fr.pos P)) w) (fun w => ?_) (fun x w => ?_) (fun _ _ => ⟨_, rfl⟩)
    ·simp only [stepG.exec, ht]
     generalize (Instr.enterLoop fr.fn fr.tmps ps a b fr.roundOf).runT P w #[] = x
     obtain ⟨r, es⟩ := x
     cases r with
     | ok y w => obtain ⟨l, mk⟩ := y; rfl
     | halt y w => rfl
    ·refine local_apply (hg.here (fr' := { fr with todo := .inRangeFunc x.1 :: k, defers := x.2 ++ fr.defers }) (okFrame_of_sub (fr := fr) hg.frame (sub1 trivial)) rfl .running) (fitB (fit_resolve P _ _ _) fun _ => fit_invoke hP _ _) w
  | inBlock id => exact to k (fun x hx => .inl (sub x hx)) (fun w => by simp only [stepG.exec, ht])
  | inScope b => exact to k (fun x hx => .inl (sub x hx)) (fun w => by simp only [stepG.exec, ht])
  | inLoop b => exact to (.code b :: .inLoop b :: k) (sub2 trivial trivial) (fun w => by simp only [stepG.exec, ht])
  | inRangeFunc l => exact local_stop (w' := w) (es := #[]) (by simp only [stepG.exec, ht]; rfl)
  | call a b c d => exact (hg.frame (.call a b c d) (by show _ ∈ fr.todo; rw [ht]; exact List.mem_cons_self) : False).elim
  | extern row args =>
   obtain rfl : row = "runtime.print$piece" := hg.frame (.extern row args) (by show _ ∈ fr.todo; rw [ht]; exact List.mem_cons_self)
   have e : ∀ w, stepG.exec P true true fr callers dying w = stepG.apply P true fr callers dying (Extern.PrintPieces.piece #[] #[] args) w := fun w => by simp only [stepG.exec, ht, piece_next, Option.elim]
   simp only [e]; exact local_apply hg (fit_piece _ _ _) w
  | beginRound =>
   have e : ∃ s, Fit P okNext 0 s ∧ ∀ w, stepG.exec P true true fr callers dying w = stepG.apply P true fr callers dying s w := by
    refine ⟨_, ?_, fun w => by simp only [stepG.exec, ht]; rfl⟩
    refine fitB ?_ fun _ => ⟨rfl, trivial⟩
    cases fr.roundOf with
    | none => exact fit_stuck P _
    | some l => exact fit_Instr_beginRound P l
   obtain ⟨s, h1, h2⟩ := e
   simp only [h2]; exact local_apply hg h1 w
  | endRangeFunc l =>
   refine local_runT (P := P) (s := Instr.endLoop l) (fit_Instr_endLoop P l) (fn := fr.fn) ⟨?K, ?main, ?rest⟩
   case main =>
    intro w
    simp only [stepG.exec, ht]
    generalize (Instr.endLoop l).runT P w #[] = x
    obtain ⟨r, es⟩ := x
    dsimp only
    exact rfl
   case rest =>
    intro r
    cases r with
    | ok j w =>
     refine made_go (hg.here (fr' := { fr with todo := (j.map Item.code).toList ++ k }) (okFrame_of_sub (fr := fr) hg.frame fun x hx => ?_) rfl .running) (hdy _ rfl) (by simp) (by simp) rfl rfl (fun _ _ => rfl)
     rcases List.mem_append.1 hx with hx | hx
     ·cases j with
      | none => cases hx
      | some c => simp at hx; subst hx; exact .inr trivial
     ·exact .inl (sub x hx)
    | halt x w =>
     cases x with
     | panic v => exact made_go (hg.here (okFrame_raise hg.frame _) (raise_kind _ _) _) (hdy _ rfl) (by simp) (by simp) rfl rfl (fun _ _ => rfl)
     | _ => exact trivial
  | inRegion ops l =>
   cases l with
   | nil => exact to k (fun x hx => .inl (sub x hx)) (fun w => by simp only [stepG.exec, ht])
   | cons i l =>
    by_cases hw : (((ops[i]?).map (Region.wanted · (yielded ops fr.tmps))).getD false) = true
    ·have e : ∀ w, stepG.exec P true true fr callers dying w = stepG.oper P true fr callers dying w := fun w => by simp only [stepG.exec, ht, hw, if_true]
     simp only [e]
     cases ho : fr.oper? with
     | none => exact local_stop (o := .stuck "no operation here" (fr.pos P)) (w' := w) (es := #[]) (by simp only [stepG.oper, ho])
     | some o =>
      have e : ∃ s, Fit P okNext 0 s ∧ ∀ w, stepG.oper P true fr callers dying w = stepG.apply P true fr callers dying s w := by
       simp only [stepG.oper, ho]
       split
       ·exact ⟨_, fitB (fit_resolve P _ _ _) fun _ => fitB (fit_Instr_deferInRound P _ _) fun _ => fit_ok (n := .skip) trivial, fun _ => rfl⟩
       ·exact ⟨_, fit_execOp hP _ _, fun _ => rfl⟩
      obtain ⟨s, h1, h2⟩ := e
      simp only [h2]; exact local_apply hg h1 w
    ·exact local_now _ (hg.here (okFrame_finish hg.frame undef) (finish_kind _ _) .running) (hdy _ rfl) (by simp) (by simp) rfl (fun τ d => by simp only [stepG.exec, ht, hw, if_false, Bool.false_eq_true])
theorem die_ok {fr : Frame} (hf : okFrame fr) {d : Dying} (hcal : d.calling = false) (w : World) : (∃ o w' es, die P fr d w = .ended o w' es) ∨ ∃ fr' st d' w' es, die P fr d w = .go { frame := fr', callers := [], status := st, dying := some d' } w' es ∧ okFrame fr' ∧ (d'.calling = true → fr'.kind = .report) ∧ (st = .running ∨ st = .blocked) := by
 have stay : ∀ (d' : Dying) (st : GoStatus) (w' : World) (es : Array Event), d'.calling = false → (st = .running ∨ st = .blocked) → ∃ fr' st' d'' w'' es', GStep.go { frame := fr, callers := [], status := st, dying := some d' } w' es = .go { frame := fr', callers := [], status := st', dying := some d'' } w'' es' ∧ okFrame fr' ∧ (d''.calling = true → fr'.kind = .report) ∧ (st' = .running ∨ st' = .blocked) :=
  fun d' st w' es h1 h2 => ⟨_, _, _, _, _, rfl, hf, fun h => (by rw [h1] at h; cases h), h2⟩
 unfold die
 split
 ·rename_i f _
  unfold writeOn
  split
  ·exact .inl ⟨_, _, _, rfl⟩
  ·dsimp only
   split
   ·exact .inr (stay _ _ _ _ hcal (.inl rfl))
   ·exact .inr (stay _ _ _ _ hcal (.inr rfl))
   ·exact .inl ⟨_, _, _, rfl⟩
   ·exact .inl ⟨_, _, _, rfl⟩
 ·split
  ·split
   ·exact .inr (stay _ _ _ _ hcal (.inr rfl))
   ·refine .inl ?_
    unfold endWith
    dsimp only
    split
    ·split <;> exact ⟨_, _, _, rfl⟩
    ·exact ⟨_, _, _, rfl⟩
    ·exact ⟨_, _, _, rfl⟩
  ·rename_i v mark rest _
   dsimp only
   split
   ·exact .inr (stay _ _ _ _ hcal (.inl rfl))
   ·split
    ·exact .inr (stay _ _ _ _ hcal (.inl rfl))
    ·exact .inl ⟨_, _, _, rfl⟩
   ·rename_i t recv name _
    generalize (invoke (.fn (.method name) #[]) #[.iface t recv]).runT P w #[] = x
    obtain ⟨r, es⟩ := x
    dsimp only
    split
    ·exact .inr ⟨_, _, _, _, _, rfl, okFrame_enter _ _ _, fun _ => rfl, .inl rfl⟩
    ·exact .inr (stay _ _ _ _ hcal (.inl rfl))
    ·exact .inl ⟨_, _, _, rfl⟩
    ·unfold endPrinting
     dsimp only
     split
     ·exact .inr (stay _ _ _ _ rfl (.inl rfl))
     ·exact .inl ⟨_, _, _, rfl⟩
    ·exact .inl ⟨_, _, _, rfl⟩
   ·exact .inl ⟨_, _, _, rfl⟩
theorem local_stepG (hP : Plain P) {g : Goroutine} (hg : okG g) (w : World) : Local g.dying.isSome (fun w => stepG P true g w) w := by
 obtain ⟨fr, callers, st, dying, off⟩ := g
 have hg' : okG ⟨fr, callers, .running, dying, none⟩ := hg.top hg.frame rfl _ _
 by_cases hd : ∃ d, dying = some d ∧ d.calling = false
 ·obtain ⟨d, rfl, hcal⟩ := hd
  have e : ∀ w, stepG P true ⟨fr, callers, st, some d, off⟩ w = die P fr d w := fun w => by
   unfold stepG
   obtain ⟨a, b, c, e, f, g, h⟩ := d; simp only at hcal; subst hcal; rfl
  simp only [e]
  rcases die_ok (P := P) (fr := fr) hg.frame hcal w with ⟨o, w', es, h⟩ | ⟨fr', st', d', w', es, h, h1, h2, h3⟩
  ·exact local_stop h
  ·unfold Local
   dsimp only
   rw [h]
   refine ⟨⟨h1, (fun _ h => by cases h), fun d'' hd hc => ?_⟩, (fun _ h => by cases h), ?_, ?_, (fun h => by cases h)⟩
   ·cases hd; exact h2 hc
   ·rcases h3 with rfl | rfl <;> simp
   ·rcases h3 with rfl | rfl <;> simp
 ·have hc : ∀ d, dying = some d → d.calling = true := fun d h => by
   cases hcal : d.calling with
   | true => rfl
   | false => exact absurd ⟨d, h, hcal⟩ hd
  cases hm : fr.mode with
  | run =>
   have e : ∀ w, stepG P true ⟨fr, callers, st, dying, off⟩ w = stepG.exec P true true fr callers dying w := fun w => by
    unfold stepG
    cases hdd : dying with
    | none => simp only [hm]
    | some d => have := hc d hdd; obtain ⟨a, b, c, e, f, g, h⟩ := d; simp only at this; subst this; simp only [hm]
   simp only [e]; exact local_exec hP hg' hc w
  | _ =>
   have e : ∀ w, stepG P true ⟨fr, callers, st, dying, off⟩ w = unwind P true fr callers dying w := fun w => by
    unfold stepG
    cases hdd : dying with
    | none => simp only [hm]
    | some d => have := hc d hdd; obtain ⟨a, b, c, e, f, g, h⟩ := d; simp only at this; subst this; simp only [hm]
   simp only [e]; exact local_unwind hP hg' hc w
end Go.Proofs.YtpbbmagjhkakgaaGreatDoor.Lf
namespace Go.Proofs.YtpbbmagjhkakgaaGreatDoor.Lf
open Go Go.Conc
variable {P : Program}
def NoP (gs : Array Goroutine) : Prop := ∀ r s, partners gs r s = []
theorem ways_noP {gs : Array Goroutine} (h : NoP gs) (w : World) (c : CommCase) : ways w gs c = ways w #[] c := by
  have h0 : ∀ r s, partners #[] r s = [] := fun r s => by simp [partners]
  unfold ways
  split
  · split <;> simp only [h _ _, h0 _ _]
  · rfl
def laidIn (gs : Array Goroutine) (rest : Rest) : Stepped → Stepped
  | .next m => .next { world := m.world, gs := gs.setIfInBounds 0 (m.gs.getD 0 default), rest }
  | .ended o w => .ended o w
theorem noP_ph : NoP #[ph] := fun r s => by simp [partners, ph]
theorem waitingAt_none {rest : Rest} (h : rest.timers = #[]) (cases : Array CommCase) (w : World) : waitingAt rest cases w = some w := by
  have h1 : timerAhead rest w.os.mono cases = false := by
    have := timerAhead_crowd #[] w none w.os.mono cases
    unfold timerAhead at this ⊢
    rw [h]; exact this
  unfold waitingAt
  rw [h1]; rfl
def rest0 : Rest := { timers := #[], alone := none, slice := none }
theorem ways_way {w : World} {c : CommCase} {x : Way} (h : x ∈ ways w #[] c) : ∀ a b, x ≠ .partner a b := by
  have h0 : ∀ r s, partners #[] r s = [] := fun r s => by simp [partners]
  intro a b e
  subst e
  unfold ways at h
  split at h
  · split at h
    · simp only [h0] at h
      split at h <;> first | (simp at h; done) | (split at h <;> simp at h)
    · simp only [h0] at h
      split at h <;> first | (simp at h; done) | (split at h <;> simp at h)
    · cases h
  · cases h
theorem pick_way {w : World} {l : List (Nat × CommCase × List Way)} (hl : ∀ x ∈ l, ∀ y ∈ x.2.2, ∀ a b, y ≠ .partner a b) {k : Nat} {c : CommCase} {y : Way} {w' : World}
    (h : (do
      let a ← choose (.select l.length)
      let b ← choose (.extern "which waiting goroutine is the partner" (l.getD a (0, default, [])).2.2.length)
      pure ((l.getD a (0, default, [])).1, (l.getD a (0, default, [])).2.1, (l.getD a (0, default, [])).2.2.getD b .closed) : Sem (Nat × CommCase × Way)).run P w = .ok (k, c, y) w') : ∀ a b, y ≠ .partner a b := by
  refine runT_leaf (P := P) (L := fun x => ∀ a b, x.2.2 ≠ .partner a b) _ 0 w #[] ?_ ((Sem.runT_fst P _ w #[]).trans h)
  refine fitB (fit_choose P _) fun a => fitB (fit_choose P _) fun b => ⟨rfl, ?_⟩
  intro x z
  simp only [List.getD_eq_getElem?_getD]
  cases h1 : l[a]? with
  | none => simp
  | some e =>
    cases h2 : e.2.2[b]? with
    | none => simp [h2]
    | some u => simp only [Option.getD_some, h2]; exact hl e (List.mem_of_getElem? h1) u (List.mem_of_getElem? h2) x z
theorem comm_lone {gs : Array Goroutine} {rest : Rest} (hp : NoP gs) (ht : rest.timers = #[]) (g : Goroutine) (cases : Array CommCase) (blocking : Bool) (shape : CommShape) (w : World) :
    communicate P rest gs 0 g cases blocking shape w = (laidIn gs rest (communicate P rest0 #[ph] 0 g cases blocking shape w).1, (communicate P rest0 #[ph] 0 g cases blocking shape w).2) := by
  unfold communicate
  simp only [ways_noP hp, ways_noP noP_ph, hp _ _, noP_ph _ _, waitingAt_none ht, waitingAt_none (rest := rest0) rfl]
  split
  · rfl
  split
  · split
    · simp [laidIn]
    · simp [laidIn]
  · split
    · rfl
    · split
      · split
        · simp [laidIn]
        · rfl
      · simp [laidIn]
      · simp [laidIn]
      · simp [laidIn]
      · refine absurd rfl (pick_way ?_ ‹Sem.run P _ w = Result.ok _ _› _ _)
        intro x hx y hy
        obtain ⟨⟨c, k⟩, _, rfl⟩ := List.mem_map.1 (List.mem_filter.1 hx).1
        exact ways_way hy
      · refine absurd rfl (pick_way ?_ ‹Sem.run P _ w = Result.ok _ _› _ _)
        intro x hx y hy
        obtain ⟨⟨c, k⟩, _, rfl⟩ := List.mem_map.1 (List.mem_filter.1 hx).1
        exact ways_way hy
      · rfl
theorem fit_pick (l : List (Nat × CommCase × List Way)) : Fit P (fun _ => True) 0 (do
      let a ← choose (.select l.length)
      let b ← choose (.extern "which waiting goroutine is the partner" (l.getD a (0, default, [])).2.2.length)
      pure ((l.getD a (0, default, [])).1, (l.getD a (0, default, [])).2.1, (l.getD a (0, default, [])).2.2.getD b .closed) : Sem (Nat × CommCase × Way)) :=
  fitB (fit_choose P _) fun _ => fitB (fit_choose P _) fun _ => fit_pure P _
theorem comm_local (g : Goroutine) (cases : Array CommCase) (blocking : Bool) (shape : CommShape) (w : World) :
    (∃ o w', (communicate P rest0 #[ph] 0 g cases blocking shape w).1 = .ended o w') ∨
    (communicate P rest0 #[ph] 0 g cases blocking shape w = (.next { world := w, gs := #[{ g with status := .blocked, offers := some (cases, shape) }], rest := rest0 }, #[])) ∨
    (∃ (g' : Goroutine) (w' : World) (acts : Array MemAct) (m : Nat),
      g'.callers = g.callers ∧ g'.dying = g.dying ∧ (g'.status = .running ∨ g'.status = g.status) ∧ (g'.offers = none ∨ g'.offers = g.offers) ∧ (∀ a ∈ acts, ∀ m, a ≠ .mark m) ∧ ((∃ v, g'.frame = g.frame.finish v) ∨ ∃ v, g'.frame = g.frame.raise v) ∧
      w' = re w' w.tape (w.drawn + m) ∧ communicate P rest0 #[ph] 0 g cases blocking shape w = (.next { world := w', gs := #[g'], rest := rest0 }, acts.map fun a => { g := 0, fn := g.frame.fn, pos := g.frame.place, act := a }) ∧
      ∀ τ d, Alike w m τ d → communicate P rest0 #[ph] 0 g cases blocking shape (re w τ d) = (.next { world := re w' τ (d + m), gs := #[g'], rest := rest0 }, acts.map fun a => { g := 0, fn := g.frame.fn, pos := g.frame.place, act := a })) := by
  have hh : ∀ τ d, (re w τ d).heap = w.heap := fun _ _ => rfl
  have hws : ∀ τ d c, ways (re w τ d) #[] c = ways w #[] c := fun _ _ _ => rfl
  unfold communicate
  simp only [ways_noP noP_ph, noP_ph _ _, waitingAt_none (rest := rest0) rfl, hh, hws]
  split
  · exact .inl ⟨_, _, rfl⟩
  rename_i hill
  split
  · split
    · exact .inr (.inl (by simp))
    · refine .inr (.inr ⟨g.finishComm P cases shape (-1) undef false, w, #[], 0, rfl, rfl, .inl rfl, .inl rfl, (by simp), .inl ⟨_, rfl⟩, rfl, by simp, fun τ d _ => by simp⟩)
  · rename_i hne
    generalize hl : (List.filter (fun x => !x.2.snd.isEmpty) (List.map (fun x => (x.snd, x.fst, ways w #[] x.fst)) cases.zipIdx.toList)) = l
    have hl2 : ∀ x ∈ l, ∀ y ∈ x.2.2, ∀ a b, y ≠ .partner a b := by
      intro x hx y hy
      rw [← hl] at hx
      obtain ⟨⟨c, k⟩, _, rfl⟩ := List.mem_map.1 (List.mem_filter.1 hx).1
      exact ways_way hy
    have hway := fun k c y w' h => pick_way (P := P) (w := w) hl2 (k := k) (c := c) (y := y) (w' := w') h
    have hal := runT_alike P _ 0 w #[] (fit_pick (P := P) l)
    simp only [Sem.runT_fst] at hal
    generalize hp : (do
      let a ← choose (.select l.length)
      let b ← choose (.extern "which waiting goroutine is the partner" (l.getD a (0, default, [])).2.2.length)
      pure ((l.getD a (0, default, [])).1, (l.getD a (0, default, [])).2.1, (l.getD a (0, default, [])).2.2.getD b .closed) : Sem (Nat × CommCase × Way)) = pk at hal hway ⊢
    cases hr : pk.run P w with
    | halt x w1 => exact .inl ⟨_, _, rfl⟩
    | ok x w1 =>
      obtain ⟨k, c, way⟩ := x
      have hnp := hway k c way w1 hr
      obtain ⟨m, e1, e2⟩ := hal (by rw [hr]; rfl)
      rw [hr] at e1 e2
      simp only [reR, Result.ok.injEq, true_and] at e1
      have e3 : ∀ τ d, Alike w m τ d → pk.run P (re w τ d) = .ok (k, c, way) (re w1 τ (d + m)) := fun τ d ha => by
        have := congrArg Prod.fst (e2 τ d ha)
        rw [Sem.runT_fst] at this
        exact this
      have hpan : ∀ w, (runtimePanic (.plain "send on closed channel") : Sem Unit).run P w = .halt (.panic (.iface P.rt.plainError (strVal "send on closed channel"))) w := fun w => rfl
      have hh1 : ∀ τ d, (re w1 τ d).heap = w1.heap := fun _ _ => rfl
      dsimp only
      generalize hrr : Goroutine.again.match_3 (fun _ => Nat) c.chan (fun r => r) (fun _ => 0) = rr
      cases way with
      | partner a b => exact absurd rfl (hnp a b)
      | sendClosed =>
        refine .inr (.inr ⟨{ g with frame := g.frame.raise [{ v := .iface P.rt.plainError (strVal "send on closed channel"), recovered := false }] }, w1, #[], m, rfl, rfl, .inr rfl, .inr rfl, by simp, .inr ⟨_, rfl⟩, e1, by simp only [hpan]; simp, fun τ d ha => by simp only [e3 τ d ha, hpan]; simp⟩)
      | closed =>
        refine .inr (.inr ⟨g.finishComm P cases shape k c.zero false, w1, #[.recvClosed rr], m, rfl, rfl, .inl rfl, .inl rfl, by simp, .inl ⟨_, rfl⟩, e1, by simp, fun τ d ha => by simp only [e3 τ d ha, hrr]; simp⟩)
      | buffer =>
        cases ho : w1.heap[rr]? with
        | none => exact .inl ⟨_, _, rfl⟩
        | some o =>
          cases o with
          | chan cap buf closed sent rcvd tm =>
            cases hs : c.send with
            | some v =>
              refine .inr (.inr ⟨g.finishComm P cases shape k undef false, { w1 with heap := w1.heap.setIfInBounds rr (.chan cap (buf.push v) closed (sent + 1) rcvd tm) }, #[.send rr sent, .sendDone rr sent], m, rfl, rfl, .inl rfl, .inl rfl, by simp, .inl ⟨_, rfl⟩, by rw [e1]; rfl, by simp, fun τ d ha => by simp only [e3 τ d ha, hh1, hrr, ho, hs]; simp [re]⟩)
            | none =>
              refine .inr (.inr ⟨g.finishComm P cases shape k (buf.getD 0 undef) true, { w1 with heap := w1.heap.setIfInBounds rr (.chan cap (buf.extract 1 buf.size) closed sent (rcvd + 1) tm) }, #[.recv rr rcvd cap, .recvDone rr rcvd], m, rfl, rfl, .inl rfl, .inl rfl, by simp, .inl ⟨_, rfl⟩, by rw [e1]; rfl, by simp, fun τ d ha => by simp only [e3 τ d ha, hh1, hrr, ho, hs]; simp [re]⟩)
          | _ => exact .inl ⟨_, _, rfl⟩
end Go.Proofs.YtpbbmagjhkakgaaGreatDoor.Lf
