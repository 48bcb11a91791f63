import Derived.Test.YtpbbmagjhkakgaaGreatDoorLfOpenToLfCalls
import Derived.Test.YtpbbmagjhkakgaaGreatDoorLfForkToLfHeld
import Derived.Test.YtpbbmagjhkakgaaGreatDoorLfFitsToLfStep
import Derived.Orders
namespace Go.Proofs.YtpbbmagjhkakgaaGreatDoor.Lf
open Go Go.Conc
variable {P : Program}
def At (b : Frame) (k : List Item) (cs : List Frame) (g : Goroutine) : Exit → Act → Prop
  | .normal, a => g = G (b.at a k) cs
  | .exit id, a => ∃ k', exitTo id k = some k' ∧ g = G (b.at a k') cs
  | .goto l, a => ∃ k', gotoIn l k = some k' ∧ g = G (b.at a k') cs
  | .ret, a => ∃ todo, (∀ it ∈ todo, okItem it) ∧ g = G { b.at a todo with mode := .returning } cs
  | .panic chain, a => ∃ todo, (∀ it ∈ todo, okItem it) ∧ g = G { b.at a todo with mode := .panicking chain } cs
  | .outgrown, _ => False
structure Behind (Q : Exit → Act → World → Prop) (k : List Item) (cs : List Frame) : Prop where
  items : ∀ it ∈ k, okItem it
  frames : ∀ fr ∈ cs, okFrame fr
  exits : ∀ id a w, Q (.exit id) a w → ∃ k', exitTo id k = some k'
  gotos : ∀ l a w, Q (.goto l) a w → ∃ k', gotoIn l k = some k'
def HWp (P : Program) (c : Code) (Q : Exit → Act → World → Prop) (a : Act) (w : World) : Prop :=
  ∀ (b : Frame) (k : List Item) (cs : List Frame), Behind Q k cs → LeadsR P (fun g w' => ∃ e a', Q e a' w' ∧ At b k cs g e a') (G (b.at a (.code c :: k)) cs) w
theorem HWp.mono {c : Code} {Q Q' : Exit → Act → World → Prop} {a : Act} {w : World} (h : HWp P c Q a w) (hq : ∀ e a w, Q e a w → Q' e a w) : HWp P c Q' a w :=
  fun b k cs hb => (h b k cs ⟨hb.items, hb.frames, fun id a w x => hb.exits id a w (hq _ _ _ x), fun id a w x => hb.gotos id a w (hq _ _ _ x)⟩).mono fun _ _ ⟨e, a', x, y⟩ => ⟨e, a', hq _ _ _ x, y⟩
theorem okFrame_at {b : Frame} {a : Act} {k : List Item} (h : ∀ it ∈ k, okItem it) : okFrame (b.at a k) := h
theorem okItems_cons {it : Item} {k : List Item} (h0 : okItem it) (h : ∀ it ∈ k, okItem it) : ∀ x ∈ it :: k, okItem x := fun x hx => by
  rcases List.mem_cons.1 hx with rfl | hx
  · exact h0
  · exact h x hx
theorem fine_at {b : Frame} {a : Act} {c : Code} {k : List Item} {cs : List Frame} (h : ∀ it ∈ k, okItem it) (hc : ∀ fr ∈ cs, okFrame fr) : Fine (G (b.at a (.code c :: k)) cs) := fine_G (okFrame_at (okItems_cons trivial h)) hc
theorem LeadsR.move (hP : Plain P) {K : Goroutine → World → Prop} {fr fr' : Frame} {cs : List Frame} {w : World} (hg : Fine (G fr cs)) (h : ∀ w, Steps P (lone fr cs w) (lone fr' cs w)) (hk : Fine (G fr' cs) → LeadsR P K (G fr' cs) w) : LeadsR P K (G fr cs) w := by
  have h1 : LeadsR P (fun g w' => g = G fr' cs ∧ Fine g ∧ ∃ τ d, w' = re w τ d) (G fr cs) w := by
    refine .of_steps hP ?_ hg fun τ d => ⟨G fr' cs, re w τ d, h _, G_not_lost _ _, fun hf => ⟨rfl, hf, τ, d, rfl⟩⟩
    rintro g w' τ d ⟨rfl, hf, τ', d', rfl⟩
    exact ⟨rfl, hf, τ, d, rfl⟩
  refine h1.trans ?_
  rintro g w' ⟨rfl, hf, τ, d, rfl⟩
  exact (hk hf).other τ d
theorem HWp.of_wp (hP : Plain P) {c : Code} {Q : Exit → Act → World → Prop} {a : Act} {w : World} (hQ : ∀ e a w τ d, Q e a w → Q e a (re w τ d)) (hno : ∀ a w, ¬ Q .outgrown a w) (h : ∀ τ d, c.wp P Q a (re w τ d)) : HWp P c Q a w := by
  intro b k cs hb
  refine .of_steps hP ?_ (fine_at hb.items hb.frames) fun τ d => ?_
  · rintro g w τ d ⟨e, a', h1, h2⟩
    exact ⟨e, a', hQ _ _ _ _ _ h1, h2⟩
  · obtain ⟨e, a', w', h1, h2⟩ := h τ d b k cs
    cases e with
    | normal => exact ⟨_, w', h2, G_not_lost _ _, fun _ => ⟨.normal, a', h1, rfl⟩⟩
    | exit id => obtain ⟨k', hk⟩ := hb.exits id a' w' h1; exact ⟨_, w', h2 k' hk, G_not_lost _ _, fun _ => ⟨.exit id, a', h1, k', hk, rfl⟩⟩
    | goto l => obtain ⟨k', hk⟩ := hb.gotos l a' w' h1; exact ⟨_, w', h2 k' hk, G_not_lost _ _, fun _ => ⟨.goto l, a', h1, k', hk, rfl⟩⟩
    | ret => obtain ⟨todo, hs⟩ := h2; exact ⟨_, w', hs, G_not_lost _ _, fun hf => ⟨.ret, a', h1, todo, hf.ok.frame, rfl⟩⟩
    | panic chain => obtain ⟨todo, hs⟩ := h2; exact ⟨_, w', hs, G_not_lost _ _, fun hf => ⟨.panic chain, a', h1, todo, hf.ok.frame, rfl⟩⟩
    | outgrown => exact absurd h1 (hno _ _)
theorem At.pass {b : Frame} {x : Item} {k : List Item} {cs : List Frame} {g : Goroutine} {e : Exit} {a : Act} (hx : x.plain = true) (he : e ≠ .normal) (h : At b (x :: k) cs g e a) : At b k cs g e a := by
  cases e with
  | normal => exact absurd rfl he
  | exit id => obtain ⟨k', h1, h2⟩ := h; exact ⟨k', by cases x <;> simp_all [exitTo, Item.plain], h2⟩
  | goto l => obtain ⟨k', h1, h2⟩ := h; exact ⟨k', by cases x <;> simp_all [gotoIn, Item.plain], h2⟩
  | ret => exact h
  | panic chain => exact h
  | outgrown => exact h
theorem Behind.pass {Q Q' : Exit → Act → World → Prop} {k : List Item} {cs : List Frame} {x : Item} (hb : Behind Q k cs) (hx : x.plain = true) (hok : okItem x) (h1 : ∀ id a w, Q' (.exit id) a w → Q (.exit id) a w) (h2 : ∀ id a w, Q' (.goto id) a w → Q (.goto id) a w) : Behind Q' (x :: k) cs :=
  ⟨okItems_cons hok hb.items, hb.frames, fun id a w h => by
    obtain ⟨k', hk⟩ := hb.exits id a w (h1 _ _ _ h); exact ⟨k', by cases x <;> simp_all [exitTo, Item.plain]⟩, fun id a w h => by
    obtain ⟨k', hk⟩ := hb.gotos id a w (h2 _ _ _ h); exact ⟨k', by cases x <;> simp_all [gotoIn, Item.plain]⟩⟩
theorem LeadsR.then {K L : Goroutine → World → Prop} {g : Goroutine} {w : World} (h : LeadsR P K g w) (hk : ∀ g' w', K g' w' → Leads P L g' w') : LeadsR P L g w := fun τ d => (h τ d).trans hk
theorem LeadsR.step (hP : Plain P) {K : Goroutine → World → Prop} {fr fr' : Frame} {cs cs' : List Frame} {w : World} (hg : Fine (G fr cs)) (h : ∀ τ d, Steps P (lone fr cs (re w τ d)) (lone fr' cs' (re w τ d))) (hk : Fine (G fr' cs') → LeadsR P K (G fr' cs') w) : LeadsR P K (G fr cs) w := by
  have h1 : LeadsR P (fun g w' => g = G fr' cs' ∧ Fine g ∧ ∃ τ d, w' = re w τ d) (G fr cs) w := by
    refine .of_steps hP ?_ hg fun τ d => ⟨G fr' cs', re w τ d, h _ _, G_not_lost _ _, fun hf => ⟨rfl, hf, τ, d, rfl⟩⟩
    rintro g w' τ d ⟨rfl, hf, τ', d', rfl⟩
    exact ⟨rfl, hf, τ, d, rfl⟩
  refine h1.trans ?_
  rintro g w' ⟨rfl, hf, τ, d, rfl⟩
  exact (hk hf).other τ d
theorem LeadsR.here {K : Goroutine → World → Prop} {g : Goroutine} {w : World} (h : ∀ τ d, K g (re w τ d)) : LeadsR P K g w := fun τ d => .here (h τ d)
theorem HWp.seq (hP : Plain P) {x y : Code} {Q : Exit → Act → World → Prop} {a : Act} {w : World} (h : HWp P x (Exit.then (HWp P y Q) Q) a w) : HWp P (.seq x y) Q a w := by
  intro b k cs hb
  refine LeadsR.move hP (fine_at hb.items hb.frames) (fun _ => .one step_seq) fun _ => ?_
  refine (h b (.code y :: k) cs (hb.pass rfl trivial (fun _ _ _ x => x) (fun _ _ _ x => x))).then ?_
  rintro g w' ⟨e, a', h1, h2⟩
  cases e with
  | normal => cases h2; exact (h1 b k cs hb).leads
  | _ => exact .here ⟨_, a', h1, At.pass (x := .code y) rfl (by simp) h2⟩
theorem HWp.seq' (hP : Plain P) {x y : Code} {Q : Exit → Act → World → Prop} {a : Act} {w : World} (J : Act → World → Prop) (h : HWp P x (Exit.then J Q) a w) (hk : ∀ a w, J a w → HWp P y Q a w) : HWp P (.seq x y) Q a w :=
  .seq hP (h.mono fun e a w x => by cases e <;> first | exact hk _ _ x | exact x)
theorem HWp.cond (hP : Plain P) {c : Operand} {x y : Code} {t : Bool} {Q : Exit → Act → World → Prop} {a : Act} {w : World} (hc : a.eval c = .bool t) (h : HWp P (if t then x else y) Q a w) : HWp P (.cond c x y) Q a w :=
  fun b k cs hb => LeadsR.move hP (fine_at hb.items hb.frames) (fun _ => .one (step_cond hc)) fun _ => h b k cs hb
theorem HWp.block (hP : Plain P) {id : Nat} {c : Code} {Q : Exit → Act → World → Prop} {a : Act} {w : World} (hQ : ∀ a w τ d, Q .normal a w → Q .normal a (re w τ d)) (h : HWp P c (Exit.inBlock id Q) a w) : HWp P (.block id c) Q a w := by
  intro b k cs hb
  refine LeadsR.move hP (fine_at hb.items hb.frames) (fun _ => .one step_block) fun _ => ?_
  refine (h b (.inBlock id :: k) cs ⟨okItems_cons trivial hb.items, hb.frames, fun id' a w x => ?_, fun l a w x => ?_⟩).then ?_
  · by_cases hid : id' = id
    · exact ⟨k, by simp [exitTo, hid]⟩
    · simp only [Exit.inBlock, hid, if_false] at x
      obtain ⟨k', hk⟩ := hb.exits id' a w x
      have : (id == id') = false := by simp; exact fun h => hid h.symm
      exact ⟨k', by simp [exitTo, this, hk]⟩
  · obtain ⟨k', hk⟩ := hb.gotos l a w x
    exact ⟨k', by simp [gotoIn, hk]⟩
  rintro g w' ⟨e, a', h1, h2⟩
  cases e with
  | normal =>
    cases h2
    exact (LeadsR.move hP (fine_G (okFrame_at (okItems_cons (it := .inBlock id) trivial hb.items)) hb.frames) (fun _ => .one step_inBlock) fun _ => .here fun τ d => ⟨.normal, a', hQ _ _ _ _ h1, rfl⟩).leads
  | exit id' =>
    obtain ⟨k', h3, h4⟩ := h2
    by_cases hid : id' = id
    · subst hid
      simp only [Exit.inBlock, if_true] at h1
      simp [exitTo] at h3
      subst h3
      exact .here ⟨.normal, a', h1, h4⟩
    · simp only [Exit.inBlock, hid, if_false] at h1
      have : (id == id') = false := by simp; exact fun h => hid h.symm
      simp [exitTo, this] at h3
      exact .here ⟨.exit id', a', h1, k', h3, h4⟩
  | goto l => obtain ⟨k', h3, h4⟩ := h2; simp [gotoIn] at h3; exact .here ⟨.goto l, a', h1, k', h3, h4⟩
  | ret => exact .here ⟨.ret, a', h1, h2⟩
  | panic chain => exact .here ⟨.panic chain, a', h1, h2⟩
  | outgrown => exact h2.elim
theorem HWp.loop (hP : Plain P) {c : Code} {Q : Exit → Act → World → Prop} {a : Act} {w : World} (I : Nat → Act → World → Prop) (n₀ : Nat) (h₀ : I n₀ a w)
    (round : ∀ n a w, I n a w → HWp P c (Exit.then (fun a' w' => ∃ m, m < n ∧ I m a' w') Q) a w) : HWp P (.loop c) Q a w := by
  intro b k cs hb
  have key : ∀ n a w, I n a w → LeadsR P (fun g w' => ∃ e a', Q e a' w' ∧ At b k cs g e a') (G (b.at a (.code c :: .inLoop c :: k)) cs) w := by
    intro n
    induction n using Nat.strongRecOn with
    | _ n ih =>
      intro a w hn
      refine (round n a w hn b (.inLoop c :: k) cs (hb.pass rfl trivial (fun _ _ _ x => x) (fun _ _ _ x => x))).then ?_
      rintro g w' ⟨e, a', h1, h2⟩
      cases e with
      | normal =>
        cases h2
        obtain ⟨m, hm, h1⟩ := h1
        exact (LeadsR.move hP (fine_G (okFrame_at (okItems_cons (it := .inLoop c) trivial hb.items)) hb.frames) (fun _ => .one step_inLoop) fun _ => ih m hm a' w' h1).leads
      | _ => exact .here ⟨_, a', h1, At.pass (x := .inLoop c) rfl (by simp) h2⟩
  exact LeadsR.move hP (fine_at hb.items hb.frames) (fun _ => .one step_loop) fun _ => key n₀ a w h₀
theorem HWp.ret (hP : Plain P) {Q : Exit → Act → World → Prop} {a : Act} {w : World} (h : ∀ τ d, Q .ret a (re w τ d)) : HWp P .ret Q a w :=
  fun _ _ _ hb => LeadsR.move hP (fine_at hb.items hb.frames) (fun _ => .one step_ret) fun hf => .here fun τ d => ⟨.ret, a, h τ d, _, hf.ok.frame, rfl⟩
theorem HWp.exit (hP : Plain P) {id : Nat} {Q : Exit → Act → World → Prop} {a : Act} {w : World} (h : ∀ τ d, Q (.exit id) a (re w τ d)) : HWp P (.exit id) Q a w := fun _ _ _ hb => by
  obtain ⟨k', hk⟩ := hb.exits id a _ (h w.tape w.drawn)
  exact LeadsR.move hP (fine_at hb.items hb.frames) (fun _ => .one (step_exit hk)) fun _ => .here fun τ d => ⟨.exit id, a, h τ d, k', hk, rfl⟩
theorem okFrames_cons {fr : Frame} {cs : List Frame} (h0 : okFrame fr) (h : ∀ x ∈ cs, okFrame x) : ∀ x ∈ fr :: cs, okFrame x := fun x hx => by
  rcases List.mem_cons.1 hx with rfl | hx
  · exact h0
  · exact h x hx
theorem fine_ops {b : Frame} {a : Act} {ops : Array Oper} {l : List Nat} {k : List Item} {cs : List Frame} (h : ∀ it ∈ k, okItem it) (hc : ∀ fr ∈ cs, okFrame fr) : Fine (G (b.at a (.inRegion ops l :: k)) cs) := fine_G (okFrame_at (okItems_cons trivial h)) hc
end Go.Proofs.YtpbbmagjhkakgaaGreatDoor.Lf
namespace Go.Proofs.YtpbbmagjhkakgaaGreatDoor.Lf
open Go Go.Conc
variable {P : Program} {K : Goroutine → World → Prop} {b : Frame} {k : List Item} {cs : List Frame} {a : Act} {w : World}
theorem LeadsR.seq (hP : Plain P) {x y : Code} (hi : ∀ it ∈ k, okItem it) (hc : ∀ fr ∈ cs, okFrame fr) (h : LeadsR P K (G (b.at a (.code x :: .code y :: k)) cs) w) : LeadsR P K (G (b.at a (.code (.seq x y) :: k)) cs) w :=
  LeadsR.move hP (fine_at hi hc) (fun _ => .one step_seq) fun _ => h
theorem LeadsR.code {c : Code} {Q : Exit → Act → World → Prop} (h : HWp P c Q a w) (hb : Behind Q k cs) (hk : ∀ e a' w' g, Q e a' w' → At b k cs g e a' → LeadsR P K g w') : LeadsR P K (G (b.at a (.code c :: k)) cs) w :=
  (h b k cs hb).trans fun g w' ⟨e, a', h1, h2⟩ => hk e a' w' g h1 h2
theorem LeadsR.piece (hP : Plain P) {c : Code} (J : Act → World → Prop) (hJ : ∀ a w τ d, J a w → J a (re w τ d)) (hi : ∀ it ∈ k, okItem it) (hc : ∀ fr ∈ cs, okFrame fr) (h : ∀ τ d, c.wp P (fun e a' w' => e = .normal ∧ J a' w') a (re w τ d)) (hk : ∀ a' w', J a' w' → LeadsR P K (G (b.at a' k) cs) w') : LeadsR P K (G (b.at a (.code c :: k)) cs) w :=
  LeadsR.code (Q := fun e a' w' => e = .normal ∧ J a' w') (HWp.of_wp hP (fun e a w τ d x => ⟨x.1, hJ _ _ _ _ x.2⟩) (fun a w x => by cases x.1) h) ⟨hi, hc, fun _ _ _ x => (by cases x.1), fun _ _ _ x => (by cases x.1)⟩
    fun e a' w' g x y => by
      obtain ⟨rfl, x⟩ := x
      obtain rfl : g = _ := y
      exact hk a' w' x
theorem LeadsR.val (hP : Plain P) {ops : Array Oper} {i : Nat} {rest : List Nat} {o : Oper} {v : Value} {w' : World} (ho : ops[i]? = some o) (hw : Region.wanted o (yielded ops a.tmps) = true)
    (hr : ∀ τ d, (execOp a.eval o).run P (re w τ d) = .ok (.value v) (re w' τ d)) (hi : ∀ it ∈ k, okItem it) (hc : ∀ fr ∈ cs, okFrame fr)
    (h : LeadsR P K (G (b.at (a.put o.dst v) (.inRegion ops rest :: k)) cs) w') : LeadsR P K (G (b.at a (.inRegion ops (i :: rest) :: k)) cs) w := by
  have hfin : (b.at a (.inRegion ops (i :: rest) :: k)).finish v = b.at (a.put o.dst v) (.inRegion ops rest :: k) := by rw [Frame.finish_at, ho]; rfl
  have h1 : LeadsR P (fun g x => g = G (b.at (a.put o.dst v) (.inRegion ops rest :: k)) cs ∧ ∃ τ d, x = re w' τ d) (G (b.at a (.inRegion ops (i :: rest) :: k)) cs) w := by
    refine .of_steps hP ?_ (fine_ops hi hc) fun τ d => ⟨_, re w' τ d, .one (step_lone_go (fr' := b.at (a.put o.dst v) (.inRegion ops rest :: k)) (cs' := cs) ?_), G_not_lost _ _, fun _ => ⟨rfl, τ, d, rfl⟩⟩
    · rintro g x τ d ⟨rfl, τ', d', rfl⟩
      exact ⟨rfl, τ, d, rfl⟩
    · rw [stepG_op ho hw, ← hfin]; simp [stepG.apply, hr, Frame.at]
  refine h1.trans ?_
  rintro g x ⟨rfl, τ, d, rfl⟩
  exact h.other τ d
theorem LeadsR.non (hP : Plain P) {ops : Array Oper} {i : Nat} {rest : List Nat} {o : Oper} {w' : World} (ho : ops[i]? = some o) (hw : Region.wanted o (yielded ops a.tmps) = true)
    (hr : ∀ τ d, (execOp a.eval o).run P (re w τ d) = .ok .skip (re w' τ d)) (hi : ∀ it ∈ k, okItem it) (hc : ∀ fr ∈ cs, okFrame fr)
    (h : LeadsR P K (G (b.at (a.put o.dst undef) (.inRegion ops rest :: k)) cs) w') : LeadsR P K (G (b.at a (.inRegion ops (i :: rest) :: k)) cs) w := by
  have hfin : (b.at a (.inRegion ops (i :: rest) :: k)).finish undef = b.at (a.put o.dst undef) (.inRegion ops rest :: k) := by rw [Frame.finish_at, ho]; rfl
  have h1 : LeadsR P (fun g x => g = G (b.at (a.put o.dst undef) (.inRegion ops rest :: k)) cs ∧ ∃ τ d, x = re w' τ d) (G (b.at a (.inRegion ops (i :: rest) :: k)) cs) w := by
    refine .of_steps hP ?_ (fine_ops hi hc) fun τ d => ⟨_, re w' τ d, .one (step_lone_go (fr' := b.at (a.put o.dst undef) (.inRegion ops rest :: k)) (cs' := cs) ?_), G_not_lost _ _, fun _ => ⟨rfl, τ, d, rfl⟩⟩
    · rintro g x τ d ⟨rfl, τ', d', rfl⟩
      exact ⟨rfl, τ, d, rfl⟩
    · rw [stepG_op ho hw, ← hfin]; simp [stepG.apply, hr, Frame.at]
  refine h1.trans ?_
  rintro g x ⟨rfl, τ, d, rfl⟩
  exact h.other τ d
theorem LeadsR.region (hP : Plain P) {id : Nat} {ops : Array Oper} (hi : ∀ it ∈ k, okItem it) (hc : ∀ fr ∈ cs, okFrame fr) (h : LeadsR P K (G (b.at a (.inRegion ops (List.range ops.size) :: k)) cs) w) : LeadsR P K (G (b.at a (.code (.region id ops false) :: k)) cs) w :=
  LeadsR.move hP (fine_at hi hc) (fun _ => .one step_region) fun _ => h
theorem LeadsR.nil (hP : Plain P) {ops : Array Oper} (hi : ∀ it ∈ k, okItem it) (hc : ∀ fr ∈ cs, okFrame fr) (h : LeadsR P K (G (b.at a k) cs) w) : LeadsR P K (G (b.at a (.inRegion ops [] :: k)) cs) w :=
  LeadsR.move hP (fine_ops hi hc) (fun _ => .one step_region_end) fun _ => h
theorem LeadsR.draw (hP : Plain P) {id : Nat} {ops : Array Oper} (hi : ∀ it ∈ k, okItem it) (hc : ∀ fr ∈ cs, okFrame fr) (h : ∀ t, LeadsR P K (G (b.at a (.inRegion ops (Region.schedule (P.follows .mixedOrders) ops t) :: k)) cs) w) : LeadsR P K (G (b.at a (.code (.region id ops true) :: k)) cs) w := by
  have h1 : LeadsR P (fun g w' => (∃ t, g = G (b.at a (.inRegion ops (Region.schedule (P.follows .mixedOrders) ops t) :: k)) cs) ∧ ∃ τ d, w' = re w τ d) (G (b.at a (.code (.region id ops true) :: k)) cs) w := by
    refine .of_steps hP ?_ (fine_at hi hc) fun τ d => ?_
    · rintro g w' τ d ⟨h1, τ', d', rfl⟩
      exact ⟨h1, τ, d, rfl⟩
    · exact ⟨_, re w τ (d + 1), .one step_region_draw, G_not_lost _ _, fun _ => ⟨⟨_, rfl⟩, τ, d + 1, rfl⟩⟩
  refine h1.trans ?_
  rintro g w' ⟨⟨t, rfl⟩, τ, d, rfl⟩
  exact (h t).other τ d
theorem LeadsR.enter (hP : Plain P) {ops : Array Oper} {i : Nat} {rest : List Nat} {o : Oper} {f : FuncId} {args : Array Value} (ho : ops[i]? = some o) (hw : Region.wanted o (yielded ops a.tmps) = true)
    (hr : ∀ τ d, (execOp a.eval o).run P (re w τ d) = .ok (.enter f args) (re w τ d)) (hi : ∀ it ∈ k, okItem it) (hc : ∀ fr ∈ cs, okFrame fr)
    (h : LeadsR P K (G (Frame.enter P f args .normal) (b.at a (.inRegion ops (i :: rest) :: k) :: cs)) w) : LeadsR P K (G (b.at a (.inRegion ops (i :: rest) :: k)) cs) w := by
  refine LeadsR.step hP (fine_ops hi hc) (fun τ d => .one (step_lone_go (fr' := Frame.enter P f args .normal) (cs' := b.at a (.inRegion ops (i :: rest) :: k) :: cs) ?_)) fun _ => h
  rw [stepG_op ho hw]; simp [stepG.apply, hr, Frame.at]
theorem LeadsR.call (hP : Plain P) {ops : Array Oper} {i : Nat} {rest : List Nat} {o : Oper} {f : FuncId} {args : Array Value} {R : Ending → World → Prop} (ho : ops[i]? = some o) (hw : Region.wanted o (yielded ops a.tmps) = true)
    (hr : ∀ τ d, (execOp a.eval o).run P (re w τ d) = .ok (.enter f args) (re w τ d)) (hi : ∀ it ∈ k, okItem it) (hc : ∀ fr ∈ cs, okFrame fr) (h : HCalls P f args w R) (hR : ∀ e w', R e w' → ∃ v, e = .returned v)
    (hk : ∀ v w', R (.returned v) w' → LeadsR P K (G (b.at (a.put o.dst v) (.inRegion ops rest :: k)) cs) w') : LeadsR P K (G (b.at a (.inRegion ops (i :: rest) :: k)) cs) w := by
  have hfin : ∀ v, (b.at a (.inRegion ops (i :: rest) :: k)).finish v = b.at (a.put o.dst v) (.inRegion ops rest :: k) := by
    intro v; rw [Frame.finish_at, ho]; rfl
  have hfr : okFrame (b.at a (.inRegion ops (i :: rest) :: k)) := okFrame_at (okItems_cons trivial hi)
  refine LeadsR.enter hP ho hw hr hi hc ((h _ (okFrames_cons hfr hc)).trans ?_)
  rintro g w' ⟨e, fr, rfl, h2, h3, _, h5⟩
  obtain ⟨v, rfl⟩ := hR e w' h3
  refine LeadsR.step hP (fine_G h2 (okFrames_cons hfr hc)) (fr' := b.at (a.put o.dst v) (.inRegion ops rest :: k)) (cs' := cs) (fun τ d => .one ?_) fun _ => hk v w' h3
  rw [← hfin]; exact step_leave_returned (leaving_re h5 τ d)
def allOrders (md : Region.Mode) (ops : Array Oper) : Nat → Array Bool → List (List Nat)
  | 0, _ => [[]]
  | fuel + 1, listed => if Region.ready md ops listed = [] then [[]] else (Region.ready md ops listed).flatMap fun i => (allOrders md ops fuel (listed.setIfInBounds i true)).map (i :: ·)
theorem linearise_go_acc (md : Region.Mode) (ops : Array Oper) : ∀ (fuel t : Nat) (listed : Array Bool) (acc : List Nat), Region.linearise.go md ops fuel t listed acc = acc.reverse ++ Region.linearise.go md ops fuel t listed []
  | 0, _, _, acc => by simp [Region.linearise.go]
  | fuel + 1, t, listed, acc => by
    simp only [Region.linearise.go]
    split
    · rename_i i hi
      rw [linearise_go_acc md ops fuel _ _ (i :: acc), linearise_go_acc md ops fuel _ _ [i]]
      simp
    · simp
theorem linearise_mem (md : Region.Mode) (ops : Array Oper) : ∀ (fuel t : Nat) (listed : Array Bool), Region.linearise.go md ops fuel t listed [] ∈ allOrders md ops fuel listed
  | 0, _, _ => by simp [Region.linearise.go, allOrders]
  | fuel + 1, t, listed => by
    have hgo : Region.linearise.go md ops (fuel + 1) t listed [] = (match (Region.ready md ops listed)[t % (Region.ready md ops listed).length]? with
      | some i => Region.linearise.go md ops fuel (t / (Region.ready md ops listed).length) (listed.setIfInBounds i true) [i]
      | none => [].reverse) := rfl
    rw [hgo]
    cases hi : (Region.ready md ops listed)[t % (Region.ready md ops listed).length]? with
    | none =>
      have hnil : Region.ready md ops listed = [] := by
        rcases Nat.eq_zero_or_pos (Region.ready md ops listed).length with h | h
        · exact List.length_eq_zero_iff.1 h
        · have := List.getElem?_eq_none_iff.1 hi
          have := Nat.mod_lt t h
          omega
      simp [allOrders, hnil]
    | some i =>
      have hm : i ∈ Region.ready md ops listed := List.mem_of_getElem? hi
      have hne : Region.ready md ops listed ≠ [] := fun h => by rw [h] at hm; cases hm
      simp only [allOrders, if_neg hne]
      rw [linearise_go_acc]
      refine List.mem_flatMap.2 ⟨i, hm, List.mem_map.2 ⟨_, linearise_mem md ops fuel (t / (Region.ready md ops listed).length) _, by simp⟩⟩
theorem schedule_mem (hm : P.follows .mixedOrders = true) (ops : Array Oper) (t : Nat) : Region.schedule (P.follows .mixedOrders) ops t ∈ allOrders .any ops ops.size (Array.replicate ops.size false) := by
  simp only [Region.schedule, hm, Bool.true_or, if_true]
  exact linearise_mem .any ops _ t _
theorem HCalls.of_lead {f : FuncId} {fn : Func} {c : Code} {args : Array Value} {R : Ending → World → Prop} (hf : P.funcs[f]? = some fn) (hb : fn.body = some c)
    (h : ∀ cs, (∀ fr ∈ cs, okFrame fr) → LeadsR P (fun g w' => ∃ e fr, g = G fr cs ∧ okFrame fr ∧ R e w' ∧ fr.fn = f ∧ fr.leaving P w' e) (G ((base f).at { tmps := args ++ Array.replicate (fn.ntmps - args.size) undef, defers := [] } [.code c]) cs) w) : HCalls P f args w R := by
  intro cs hcs
  rw [enter_at args hf hb]
  exact h cs hcs
theorem LeadsR.ret (hP : Plain P) {f : FuncId} {fn : Func} {R : Ending → World → Prop} {v : Value} (hi : ∀ it ∈ k, okItem it) (hc : ∀ fr ∈ cs, okFrame fr) (hf : P.funcs[f]? = some fn) (hd : a.defers = []) (hr : ∀ τ d, (results fn a.tmps).run P (re w τ d) = .ok v (re w τ d)) (hR : ∀ τ d, R (.returned v) (re w τ d)) :
    LeadsR P (fun g w' => ∃ e fr, g = G fr cs ∧ okFrame fr ∧ R e w' ∧ fr.fn = f ∧ fr.leaving P w' e) (G ((base f).at a (.code .ret :: k)) cs) w :=
  LeadsR.code (Q := fun e a' w' => e = .ret ∧ a' = a ∧ ∃ τ d, w' = re w τ d) (HWp.ret hP fun τ d => ⟨rfl, rfl, τ, d, rfl⟩) ⟨hi, hc, fun _ _ _ x => (by cases x.1), fun _ _ _ x => (by cases x.1)⟩ fun e a' w' g x y => by
    obtain ⟨rfl, rfl, τ, d, rfl⟩ := x
    obtain ⟨todo, h3, rfl⟩ := y
    exact .here fun τ' d' => ⟨.returned v, _, rfl, h3, hR τ' d', rfl, rfl, hd, rfl, fn, hf, hr τ' d'⟩
end Go.Proofs.YtpbbmagjhkakgaaGreatDoor.Lf
namespace Go.Proofs.YtpbbmagjhkakgaaGreatDoor.Lf
open Go Go.Extern
variable {P : Program}
theorem fit_Extern_Rtype_ofHandle (P : Program) (x0) : Fit P (fun _ => True) 0 (@Go.Extern.Rtype.ofHandle x0) := by
  unfold Go.Extern.Rtype.ofHandle
  repeat' (first | (with_reducible first | exact fit_pure P _ | apply fit_program | apply fit_stuck | apply fitB) | (intro _) | split | (exact trivial) | (dsimp only))
theorem fit_Extern_ReflectliteValue_partsAny (P : Program) (x) : Fit P (fun _ => True) 0 (ReflectliteValue.partsAny x) := by
  cases x with
  | agg cs =>
    rcases cs with ⟨_ | ⟨a, _ | ⟨b, _ | ⟨c, _ | ⟨d, l⟩⟩⟩⟩⟩
    · exact fit_stuck P _
    · exact fit_stuck P _
    · exact fit_stuck P _
    · cases c with
      | int k n =>
        cases k with
        | u64 =>
          rcases n with (_ | n) | n
          · exact fit_pure P _
          · cases b with
            | pointer r =>
              cases r with
              | none => exact fit_stuck P _
              | some r => exact fitB (s := Rtype.ofHandle a) (fit_Extern_Rtype_ofHandle P _) fun _ => fit_pure P _
            | _ => exact fit_stuck P _
          · cases b with
            | pointer r =>
              cases r with
              | none => exact fit_stuck P _
              | some r => exact fitB (s := Rtype.ofHandle a) (fit_Extern_Rtype_ofHandle P _) fun _ => fit_pure P _
            | _ => exact fit_stuck P _
        | _ => cases b with
          | pointer r => cases r <;> exact fit_stuck P _
          | _ => exact fit_stuck P _
      | _ => cases b with
          | pointer r => cases r <;> exact fit_stuck P _
          | _ => exact fit_stuck P _
    · exact fit_stuck P _
  | _ => exact fit_stuck P _
theorem fit_Extern_ReflectliteValue_errorText (P : Program) (x) : Fit P (fun _ => True) 0 (ReflectliteValue.errorText x) := by
  rcases x with ⟨_ | ⟨a, _ | ⟨b, l⟩⟩⟩
  · exact fit_stuck P _
  · cases a with
    | pointer r =>
      cases r with
      | none => exact (fit_panics (.nilDeref) : Fit P (fun _ => True) 0 (runtimePanic .nilDeref : Sem Value))
      | some r => exact fitB (s := load r) (fit_load P _ _) fun _ => fitB (fit_asString P _) fun _ => fitB (fit_load P _ _) fun _ => fitB (fit_asInt P _) fun _ => fit_pure P _
    | _ => exact fit_stuck P _
  · exact fit_stuck P _
theorem fit_Extern_Rtype_under (P : Program) (x0) : Fit P (fun _ => True) 0 (@Go.Extern.Rtype.under x0) := by
  unfold Go.Extern.Rtype.under
  repeat' (first | (with_reducible first | exact fit_pure P _ | apply fit_typeInfo | apply fitB) | (intro _) | split | (exact trivial) | (dsimp only))
theorem fit_Extern_Rtype_elemq (P : Program) (x0) : Fit P (fun _ => True) 0 (@Go.Extern.Rtype.elem? x0) := by
  unfold Go.Extern.Rtype.elem?
  repeat' (first | (with_reducible first | exact fit_pure P _ | apply fit_Extern_Rtype_under | apply fitB) | (intro _) | split | (exact trivial) | (dsimp only))
theorem fit_Extern_ReflectliteValue_valueError (P : Program) {x0} (x1) (x2) : Fit P (fun _ => True) 0 (@Go.Extern.ReflectliteValue.valueError x0 x1 x2) := by
  unfold Go.Extern.ReflectliteValue.valueError
  repeat' (first | (with_reducible first | exact fit_pure P _ | apply fit_newVar | apply fit_elemOf | apply fit_cutType | apply fit_goPanic | apply fitB) | (intro _) | split | (exact trivial) | (dsimp only))
theorem fit_Extern_ReflectliteValue_isNil (P : Program) (x0) (x1) (x2) (x3) : Fit P (fun _ => True) 0 (@Go.Extern.ReflectliteValue.isNil x0 x1 x2 x3) := by
  unfold Go.Extern.ReflectliteValue.isNil
  repeat' (first | (with_reducible first | exact fit_pure P _ | apply fit_Extern_ReflectliteValue_valueError | apply fit_loadVar | apply fitB | apply fitIte) | (intro _) | split | (exact trivial) | (dsimp only))
theorem fit_Extern_Rtype_noPack (P : Program) (x0) (x1) : Fit P (fun _ => True) 0 (@Go.Extern.Rtype.noPack x0 x1) := by
  unfold Go.Extern.Rtype.noPack
  repeat' (first | (with_reducible first | exact fit_pure P _ | apply fit_program | apply fit_unsupported | apply fitB | apply fitIte) | (intro _) | split | (exact trivial) | (dsimp only))
theorem fit_Extern_ReflectliteValue_parts (P : Program) (x0) : Fit P (fun _ => True) 0 (@Go.Extern.ReflectliteValue.parts x0) := by
  unfold Go.Extern.ReflectliteValue.parts
  repeat' (first | (with_reducible first | exact fit_pure P _ | apply fit_Extern_ReflectliteValue_partsAny | apply fit_Extern_Rtype_noPack | apply fitB) | (intro _) | split | (exact trivial) | (dsimp only))
theorem fit_Extern_RuntimeError_described (P : Program) (x0) : Fit P (fun _ => True) 0 (@Go.Extern.RuntimeError.described x0) := by
  unfold Go.Extern.RuntimeError.described
  repeat' (first | (with_reducible first | exact fit_pure P _ | apply fit_program | apply fit_typeInfo | apply fit_typeStr | apply fit_stuck | apply fitB) | (intro _) | split | (exact trivial) | (dsimp only))
theorem fit_Extern_Rtype_handle (P : Program) (x0) : Fit P (fun _ => True) 0 (@Go.Extern.Rtype.handle x0) := by
  unfold Go.Extern.Rtype.handle
  repeat' (first | (with_reducible first | exact fit_pure P _ | apply fit_program | apply fitB) | (intro _) | split | (exact trivial) | (dsimp only))
theorem fit_Extern_Rtype_kind (P : Program) (x0) : Fit P (fun _ => True) 0 (@Go.Extern.Rtype.kind x0) := by
  unfold Go.Extern.Rtype.kind
  repeat' (first | (with_reducible first | exact fit_pure P _ | apply fit_Extern_Rtype_under | apply fit_stuck | apply fitB) | (intro _) | split | (exact trivial) | (dsimp only))
theorem fit_Extern_ReflectliteValue_mk (P : Program) (x0) (x1) (x2) : Fit P (fun _ => True) 0 (@Go.Extern.ReflectliteValue.mk x0 x1 x2) := by
  unfold Go.Extern.ReflectliteValue.mk
  repeat' (first | (with_reducible first | exact fit_pure P _ | apply fit_Extern_Rtype_handle | apply fit_Extern_Rtype_kind | apply fitB) | (intro _) | split | (exact trivial) | (dsimp only))
theorem fit_Extern_ReflectliteType_ofRtype (P : Program) (x) : Fit P (fun _ => True) 0 (ReflectliteType.ofRtype x) := by
  cases x with
  | agg cs =>
    rcases cs with ⟨_ | ⟨a, _ | ⟨b, l⟩⟩⟩
    · exact fit_stuck P _
    · exact fitB (s := Rtype.ofHandle a) (fit_Extern_Rtype_ofHandle P _) fun t => fitB (fit_Extern_Rtype_noPack P _ _) fun _ => fit_pure P _
    · exact fit_stuck P _
  | _ => exact fit_stuck P _
theorem fit_Extern_ReflectliteType_method (P : Program) (f : TypeId → Sem Value) (hf : ∀ t, Fit P (fun _ => True) 0 (f t)) (x) : Fit P (fun _ => True) 0 (ReflectliteType.method f x) := by
  rcases x with ⟨_ | ⟨a, _ | ⟨b, l⟩⟩⟩
  · exact fit_stuck P _
  · exact fitB (s := ReflectliteType.ofRtype a) (fit_Extern_ReflectliteType_ofRtype P a) fun t => hf t
  · exact fit_stuck P _
theorem fit_Extern_RuntimeError_text (P : Program) (x0) : Fit P (fun _ => True) 0 (@Go.Extern.RuntimeError.text x0) := by
  unfold Go.Extern.RuntimeError.text
  repeat' (first | (with_reducible first | exact fit_pure P _) | (intro _) | split | (exact trivial) | (dsimp only))
theorem fit_Extern_ReflectliteType_pkgPath (P : Program) (x0) : Fit P (fun _ => True) 0 (@Go.Extern.ReflectliteType.pkgPath x0) := by
  unfold Go.Extern.ReflectliteType.pkgPath
  repeat' (first | (with_reducible first | exact fit_pure P _ | apply fit_typeInfo | apply fitB) | (intro _) | split | (exact trivial) | (dsimp only))
theorem fit_Extern_Rtype_noPackMethods (P : Program) (x0) (x1) : Fit P (fun _ => True) 0 (@Go.Extern.Rtype.noPackMethods x0 x1) := by
  unfold Go.Extern.Rtype.noPackMethods
  repeat' (first | (with_reducible first | exact fit_pure P _ | apply fit_program | apply fit_unsupported | apply fitB | apply fitIte) | (intro _) | split | (exact trivial) | (dsimp only))
theorem fit_Extern_Rtype_implements (P : Program) (x0) (x1) : Fit P (fun _ => True) 0 (@Go.Extern.Rtype.implements x0 x1) := by
  unfold Go.Extern.Rtype.implements
  repeat' (first | (with_reducible first | exact fit_pure P _ | apply fit_Extern_Rtype_noPackMethods | apply fit_Extern_Rtype_under | apply fit_typeInfo | apply fitB) | (intro _) | split | (exact trivial) | (dsimp only))
theorem fit_Extern_ReflectliteType_implements_ (P : Program) (x0) (x1) : Fit P (fun _ => True) 0 (@Go.Extern.ReflectliteType.implements_ x0 x1) := by
  unfold Go.Extern.ReflectliteType.implements_
  repeat' (first | (with_reducible first | exact fit_pure P _ | apply fit_Extern_Rtype_kind | apply fit_Extern_Rtype_noPackMethods | apply fit_Extern_Rtype_noPack | apply fit_Extern_Rtype_implements | apply fit_panicString | apply fitB | apply fitIte) | (intro _) | split | (exact trivial) | (dsimp only))
theorem fit_Extern_RuntimeError_boundsError (P : Program) (x) : Fit P (fun _ => True) 0 (RuntimeError.boundsError x) := by
  rcases x with ⟨_ | ⟨a, _ | ⟨b, l⟩⟩⟩
  · exact fit_stuck P _
  · cases a with
    | agg cs =>
      rcases cs with ⟨_ | ⟨a, _ | ⟨b, _ | ⟨c, _ | ⟨d, _ | ⟨e, l⟩⟩⟩⟩⟩⟩
      · exact fit_stuck P _
      · exact fit_stuck P _
      · exact fit_stuck P _
      · exact fit_stuck P _
      · cases a with
        | int k x =>
          cases b with
          | int k y =>
            cases c with
            | bool s =>
              cases d with
              | int k z =>
                have key : ∀ (o : Option String) (g : String → String), Fit P (fun _ => True) 0 (match o with | some fmt => RuntimeError.text (g fmt) | none => stuck "boundsError: no such code" : Sem Value) := by
                  intro o g
                  cases o with
                  | none => exact fit_stuck P _
                  | some f => exact fit_pure P _
                exact key ((if s && x < 0 then RuntimeError.boundsNegErrorFmts else RuntimeError.boundsErrorFmts)[z.toNat]?) (fun fmt => "runtime error: " ++ (fmt.replace "%x" (toString (if s then x else IntKind.u64.wrap x))).replace "%y" (toString y))
              | _ => exact fit_stuck P _
            | _ => exact fit_stuck P _
          | _ => exact fit_stuck P _
        | _ => exact fit_stuck P _
      · exact fit_stuck P _
    | _ => exact fit_stuck P _
  · exact fit_stuck P _
theorem fit_Extern_Rtype_hasName (P : Program) (x0) : Fit P (fun _ => True) 0 (@Go.Extern.Rtype.hasName x0) := by
  unfold Go.Extern.Rtype.hasName
  repeat' (first | (with_reducible first | exact fit_pure P _ | apply fit_typeInfo | apply fitB) | (intro _) | split | (exact trivial) | (dsimp only))
theorem fit_Extern_Rtype_directlyAssignable (P : Program) (x0) (x1) : Fit P (fun _ => True) 0 (@Go.Extern.Rtype.directlyAssignable x0 x1) := by
  unfold Go.Extern.Rtype.directlyAssignable
  repeat' (first | (with_reducible first | exact fit_pure P _ | apply fit_Extern_Rtype_hasName | apply fit_Extern_Rtype_under | apply fitB | apply fitIte) | (intro _) | split | (exact trivial) | (dsimp only))
theorem fit_Extern_Rtype_noPackNamed (P : Program) (x0) (x1) : Fit P (fun _ => True) 0 (@Go.Extern.Rtype.noPackNamed x0 x1) := by
  unfold Go.Extern.Rtype.noPackNamed
  repeat' (first | (with_reducible first | exact fit_pure P _ | apply fit_program | apply fit_unsupported | apply fitB | apply fitIte) | (intro _) | split | (exact trivial) | (dsimp only))
theorem fit_Extern_Rtype_spelt (P : Program) (x0) : Fit P (fun _ => True) 0 (@Go.Extern.Rtype.spelt x0) := by
  unfold Go.Extern.Rtype.spelt
  repeat' (first | (with_reducible first | exact fit_pure P _ | apply fit_Extern_Rtype_noPackNamed | apply fit_typeStr | apply fitB) | (intro _) | split | (exact trivial) | (dsimp only))
theorem fit_Extern_ReflectliteValue_set (P : Program) (x) : Fit P (fun _ => True) 0 (ReflectliteValue.set x) := by
  rcases x with ⟨_ | ⟨a, _ | ⟨b, _ | ⟨c, l⟩⟩⟩⟩
  · exact fit_stuck P _
  · exact fit_stuck P _
  · refine fitB (s := ReflectliteValue.parts a) (fit_Extern_ReflectliteValue_parts P a) fun o => ?_
    repeat' (first | (with_reducible first | exact fit_pure P _ | apply fit_Extern_ReflectliteValue_parts | apply fit_Extern_Rtype_directlyAssignable | apply fit_Extern_Rtype_implements | apply fit_Extern_Rtype_kind | apply fit_Extern_Rtype_spelt | apply fit_loadVar | apply fit_storeVar | apply fit_unsupported | apply fit_panicString | apply fitB | apply fitIte) | (intro _) | split | (dsimp only))
  · exact fit_stuck P _
theorem fit_Extern_ReflectliteType_abiMethod (P : Program) (f : TypeId → Sem Value) (hf : ∀ t, Fit P (fun _ => True) 0 (f t)) (x) : Fit P (fun _ => True) 0 (ReflectliteType.abiMethod f x) := by
  rcases x with ⟨_ | ⟨a, _ | ⟨b, l⟩⟩⟩
  · exact fit_stuck P _
  · exact fitB (s := Rtype.ofHandle a) (fit_Extern_Rtype_ofHandle P _) fun t => fitB (fit_Extern_Rtype_noPack P _ _) fun _ => hf t
  · exact fit_stuck P _
theorem fit_Extern_RuntimeError_unhashableTypeError (P : Program) (x) : Fit P (fun _ => True) 0 (RuntimeError.unhashableTypeError x) := by
  rcases x with ⟨_ | ⟨a, _ | ⟨b, l⟩⟩⟩
  · exact fit_stuck P _
  · cases a with
    | agg cs =>
      rcases cs with ⟨_ | ⟨a, _ | ⟨b, l⟩⟩⟩
      · exact fit_stuck P _
      · refine fitB (s := RuntimeError.described a) (fit_Extern_RuntimeError_described P a) fun o => ?_
        cases o with
        | none => exact (fit_panics (.nilDeref) : Fit P (fun _ => True) 0 (runtimePanic .nilDeref : Sem Value))
        | some t => exact fit_pure P _
      · exact fit_stuck P _
    | _ => exact fit_stuck P _
  · exact fit_stuck P _
theorem fit_Extern_ReflectliteType_toType (P : Program) (x0) : Fit P (fun _ => True) 0 (@Go.Extern.ReflectliteType.toType x0) := by
  unfold Go.Extern.ReflectliteType.toType
  repeat' (first | (with_reducible first | exact fit_pure P _ | apply fit_Extern_Rtype_handle | apply fit_cutType | apply fitB) | (intro _) | split | (exact trivial) | (dsimp only))
theorem fit_Extern_ReflectliteType_typeOf (P : Program) (x) : Fit P (fun _ => True) 0 (ReflectliteType.typeOf x) := by
  rcases x with ⟨_ | ⟨a, _ | ⟨b, l⟩⟩⟩
  · exact fit_stuck P _
  · cases a with
    | nilIface => exact fit_pure P _
    | iface t v => exact (fit_Extern_ReflectliteType_toType P t : Fit P (fun _ => True) 0 (ReflectliteType.toType t))
    | _ => exact fit_stuck P _
  · exact fit_stuck P _
theorem fit_Extern_ReflectliteValue_unpack (P : Program) (x0) : Fit P (fun _ => True) 0 (@Go.Extern.ReflectliteValue.unpack x0) := by
  unfold Go.Extern.ReflectliteValue.unpack
  repeat' (first | (with_reducible first | exact fit_pure P _ | apply fit_Extern_ReflectliteValue_mk | apply fit_newVar | apply fit_stuck | apply fitB) | (intro _) | split | (exact trivial) | (dsimp only))
theorem fit_Bytes_loadBytes (P : Program) (a n out) : Fit P (fun _ => True) 0 (Bytes.loadBytes a n out) := by
  induction n generalizing a out with
  | zero => exact fit_pure P _
  | succ n ih =>
    unfold Bytes.loadBytes
    repeat' (first | (with_reducible first | exact fit_pure P _ | apply ih | apply fit_stuck | apply fit_load | apply fitB) | (intro _) | split | (dsimp only))
theorem fit_bytesOf (P : Program) (v) : Fit P (fun _ => True) 0 (Bytes.bytesOf v) := by
  unfold Bytes.bytesOf
  repeat' (first | (with_reducible first | exact fit_pure P _ | apply fit_stuck | apply fit_Bytes_loadBytes) | (intro _) | split | (dsimp only))
theorem fit_Extern_BytealgCompare_compare (P : Program) (x) : Fit P (fun _ => True) 0 (BytealgCompare.compare x) := by
  rcases x with ⟨_ | ⟨a, _ | ⟨b, _ | ⟨c, l⟩⟩⟩⟩
  · exact fit_stuck P _
  · exact fit_stuck P _
  · exact fitB (s := Bytes.bytesOf a) (fit_bytesOf P a) fun _ => fitB (fit_bytesOf P b) fun _ => fit_pure P _
  · exact fit_stuck P _
theorem fit_Extern_AbiNoEscape_same (P : Program) (x) : Fit P (fun _ => True) 0 (AbiNoEscape.same x) := by
  rcases x with ⟨_ | ⟨a, _ | ⟨b, l⟩⟩⟩
  · exact fit_stuck P _
  · exact fit_pure P _
  · exact fit_stuck P _
theorem fit_Extern_ReflectliteValue_elem (P : Program) (x0) (x1) (x2) (x3) : Fit P (fun _ => True) 0 (@Go.Extern.ReflectliteValue.elem x0 x1 x2 x3) := by
  unfold Go.Extern.ReflectliteValue.elem
  repeat' (first | (with_reducible first | exact fit_pure P _ | apply fit_Extern_Rtype_elemq | apply fit_Extern_ReflectliteValue_unpack | apply fit_Extern_ReflectliteValue_mk | apply fit_Extern_ReflectliteValue_valueError | apply fit_loadVar | apply fitB | apply fitIte) | (intro _) | split | (exact trivial) | (dsimp only))
theorem fit_Extern_RuntimeError_pkgpathOf (P : Program) (x0) : Fit P (fun _ => True) 0 (@Go.Extern.RuntimeError.pkgpathOf x0) := by
  unfold Go.Extern.RuntimeError.pkgpathOf
  repeat' (first | (with_reducible first | exact fit_pure P _ | apply fit_typeInfo | apply fitB) | (intro _) | split | (exact trivial) | (dsimp only))
theorem fit_Extern_RuntimeError_typeAssertionError (P : Program) (x0) : Fit P (fun _ => True) 0 (@Go.Extern.RuntimeError.typeAssertionError x0) := by
  unfold Go.Extern.RuntimeError.typeAssertionError
  repeat' (first | (with_reducible first | exact fit_pure P _ | apply fit_Extern_RuntimeError_described | apply fit_Extern_RuntimeError_text | apply fit_Extern_RuntimeError_pkgpathOf | apply fit_asString | apply fit_asAddr | apply fit_load | apply fit_unsupported | apply fit_panics | apply fitB | apply fitIte) | (intro _) | split | (exact trivial) | (dsimp only))
theorem fit_Extern_ReflectliteType_relation (P : Program) (s : String) (f : TypeId → TypeId → Sem Bool) (hf : ∀ t u, Fit P (fun _ => True) 0 (f t u)) (x) : Fit P (fun _ => True) 0 (ReflectliteType.relation s f x) := by
  rcases x with ⟨_ | ⟨a, _ | ⟨b, _ | ⟨c, l⟩⟩⟩⟩
  · exact fit_stuck P _
  · exact fit_stuck P _
  · cases b with
    | nilIface => exact (fit_panicString P ("reflect: nil type passed to Type." ++ s) : Fit P (fun _ => True) 0 (panicString ("reflect: nil type passed to Type." ++ s) : Sem Value))
    | iface t u => exact fitB (s := ReflectliteType.ofRtype u) (fit_Extern_ReflectliteType_ofRtype P u) fun _ => fitB (fit_Extern_ReflectliteType_ofRtype P a) fun _ => fitB (hf _ _) fun _ => fit_pure P _
    | _ => exact fit_stuck P _
  · exact fit_stuck P _
theorem fit_Extern_ReflectliteValue_methodAny (P : Program) (z : Sem Value) (f) (hz : Fit P (fun _ => True) 0 z) (hf : ∀ a b c d, Fit P (fun _ => True) 0 (f a b c d)) (x) : Fit P (fun _ => True) 0 (ReflectliteValue.methodAny z f x) := by
  rcases x with ⟨_ | ⟨a, _ | ⟨b, l⟩⟩⟩
  · exact fit_stuck P _
  · refine fitB (s := ReflectliteValue.partsAny a) (fit_Extern_ReflectliteValue_partsAny P a) fun o => ?_
    cases o with
    | none => exact hz
    | some y => exact hf _ _ _ _
  · exact fit_stuck P _
theorem fit_Extern_ReflectliteType_name (P : Program) (x0) : Fit P (fun _ => True) 0 (@Go.Extern.ReflectliteType.name x0) := by
  unfold Go.Extern.ReflectliteType.name
  repeat' (first | (with_reducible first | exact fit_pure P _ | apply fit_Extern_Rtype_hasName | apply fit_Extern_Rtype_spelt | apply fitB | apply fitIte) | (intro _) | split | (exact trivial) | (dsimp only))
theorem fit_Extern_ReflectliteType_assignableTo (P : Program) (x0) (x1) : Fit P (fun _ => True) 0 (@Go.Extern.ReflectliteType.assignableTo x0 x1) := by
  unfold Go.Extern.ReflectliteType.assignableTo
  repeat' (first | (with_reducible first | exact fit_pure P _ | apply fit_Extern_Rtype_directlyAssignable | apply fit_Extern_Rtype_implements | apply fit_Extern_Rtype_noPackMethods | apply fitB | apply fitIte) | (intro _) | split | (exact trivial) | (dsimp only))
theorem fit_Extern_ReflectliteValue_method (P : Program) (z : Sem Value) (f) (hz : Fit P (fun _ => True) 0 z) (hf : ∀ a b c d, Fit P (fun _ => True) 0 (f a b c d)) (x) : Fit P (fun _ => True) 0 (ReflectliteValue.method z f x) := by
  rcases x with ⟨_ | ⟨a, _ | ⟨b, l⟩⟩⟩
  · exact fit_stuck P _
  · refine fitB (s := ReflectliteValue.parts a) (fit_Extern_ReflectliteValue_parts P a) fun o => ?_
    cases o with
    | none => exact hz
    | some y => exact hf _ _ _ _
  · exact fit_stuck P _
theorem fit_Extern_ReflectliteType_elem (P : Program) (x0) : Fit P (fun _ => True) 0 (@Go.Extern.ReflectliteType.elem x0) := by
  unfold Go.Extern.ReflectliteType.elem
  repeat' (first | (with_reducible first | exact fit_pure P _ | apply fit_Extern_Rtype_elemq | apply fit_Extern_ReflectliteType_toType | apply fit_Extern_Rtype_spelt | apply fit_panicString | apply fitB) | (intro _) | split | (exact trivial) | (dsimp only))
theorem fit_Extern_Rtype_noPackHeld (P : Program) (x0) (x1) : Fit P (fun _ => True) 0 (@Go.Extern.Rtype.noPackHeld x0 x1) := by
  unfold Go.Extern.Rtype.noPackHeld
  repeat' (first | (with_reducible first | exact fit_pure P _ | apply fit_program | apply fit_unsupported | apply fitB | apply fitIte) | (intro _) | split | (exact trivial) | (dsimp only))
theorem fit_rtypeRows (P : Program) : ∀ x ∈ ReflectliteType.rows, ∀ args, Fit P (fun _ => True) 0 (x.2 args) := by
  intro x hx args
  simp only [ReflectliteType.rows, List.mem_cons, List.not_mem_nil, or_false] at hx
  rcases hx with rfl | rfl | rfl | rfl | rfl | rfl | rfl | rfl | rfl | rfl | rfl | rfl
  · exact fit_Extern_ReflectliteType_typeOf P _
  · exact fit_Extern_ReflectliteType_method P _ (fit_Extern_ReflectliteType_elem P) _
  · exact fit_Extern_ReflectliteType_method P _ (fun t => fitB (fit_Extern_Rtype_noPackHeld P _ _) fun _ => fitB (fit_typeInfo P _) fun _ => fit_pure P _) _
  · exact fit_Extern_ReflectliteType_method P _ (fun t => fitB (fit_Extern_Rtype_noPackNamed P _ _) fun _ => fitB (fit_Extern_Rtype_spelt P _) fun _ => fit_pure P _) _
  · exact fit_Extern_ReflectliteType_method P _ (fun t => fitB (fit_Extern_Rtype_noPackNamed P _ _) fun _ => fit_Extern_ReflectliteType_name P _) _
  · exact fit_Extern_ReflectliteType_method P _ (fun t => fitB (fit_Extern_Rtype_noPackNamed P _ _) fun _ => fit_Extern_ReflectliteType_pkgPath P _) _
  · exact fit_Extern_ReflectliteType_relation P _ _ (fit_Extern_ReflectliteType_implements_ P) _
  · exact fit_Extern_ReflectliteType_relation P _ _ (fit_Extern_ReflectliteType_assignableTo P) _
  · exact fit_Extern_ReflectliteType_method P _ (fit_Extern_Rtype_handle P) _
  · exact fit_Extern_ReflectliteType_abiMethod P _ (fun t => fitB (fit_Extern_Rtype_kind P _) fun _ => fit_pure P _) _
  · exact fit_Extern_ReflectliteType_abiMethod P _ (fun t => fitB (fit_Extern_Rtype_noPackHeld P _ _) fun _ => fitB (fit_typeInfo P _) fun _ => fit_pure P _) _
  · exact fitB (fit_asInt P _) fun _ => fit_pure P _
theorem fit_errorRows (P : Program) : ∀ x ∈ RuntimeError.rows, ∀ args, Fit P (fun _ => True) 0 (x.2 args) := by
  intro x hx args
  simp only [RuntimeError.rows, List.mem_cons, List.not_mem_nil, or_false] at hx
  rcases hx with rfl | rfl | rfl | rfl | rfl | rfl | rfl | rfl | rfl | rfl | rfl | rfl | rfl | rfl | rfl
  · exact fitB (fit_asString P _) fun _ => fit_pure P _
  · exact fitB (fit_asString P _) fun _ => fit_pure P _
  · exact fitB (fit_asAgg P _) fun _ => fitB (fit_asString P _) fun _ => fit_pure P _
  · exact fitB (fit_asAgg P _) fun _ => fitB (fit_asInt P _) fun _ => fit_pure P _
  · exact fit_Extern_RuntimeError_boundsError P _
  · exact fit_Extern_RuntimeError_typeAssertionError P _
  · exact fit_pure P _
  · exact fit_Extern_RuntimeError_unhashableTypeError P _
  all_goals exact fit_pure P _
theorem fit_valueError {α : Type} {L : α → Prop} (s : String) (k : Nat) : Fit P L 0 (ReflectliteValue.valueError s k : Sem α) := by
  unfold ReflectliteValue.valueError
  exact fitB (fit_cutType P _) fun _ => fitB (fit_elemOf P _) fun _ => fitB (fit_newVar P _ _) fun _ => fit_goPanic P _
theorem fit_ReflectliteValue_len (P : Program) (a b c d) : Fit P (fun _ => True) 0 (ReflectliteValue.len a b c d) := by
  unfold ReflectliteValue.len
  repeat' (first | (with_reducible first | exact fit_pure P _ | apply fit_valueError | apply fit_Extern_Rtype_under | apply fit_loadVar | apply fit_Builtin_len_ | apply fitB | apply fitIte) | (intro _) | split | (dsimp only))
theorem fit_valueRows (P : Program) : ∀ x ∈ ReflectliteValue.rows, ∀ args, Fit P (fun _ => True) 0 (x.2 args) := by
  intro x hx args
  simp only [ReflectliteValue.rows, List.mem_cons, List.not_mem_nil, or_false] at hx
  rcases hx with rfl | rfl | rfl | rfl | rfl | rfl | rfl | rfl | rfl | rfl
  · exact fit_Extern_ReflectliteValue_unpack P _
  · exact fit_Extern_ReflectliteValue_methodAny P _ _ (fit_pure P _) (fun _ _ _ _ => fit_pure P _) _
  · exact fit_Extern_ReflectliteValue_method P _ _ (fit_pure P _) (fun _ _ _ _ => fit_pure P _) _
  · exact fit_Extern_ReflectliteValue_methodAny P _ _ (fit_valueError _ _) (fun _ _ _ _ => fit_Extern_ReflectliteType_toType P _) _
  · exact fit_Extern_ReflectliteValue_methodAny P _ _ (fit_pure P _) (fun _ _ _ _ => fit_pure P _) _
  · exact fit_Extern_ReflectliteValue_method P _ _ (fit_valueError _ _) (fit_Extern_ReflectliteValue_isNil P) _
  · exact fit_Extern_ReflectliteValue_method P _ _ (fit_valueError _ _) (fit_ReflectliteValue_len P) _
  · exact fit_Extern_ReflectliteValue_method P _ _ (fit_valueError _ _) (fit_Extern_ReflectliteValue_elem P) _
  · exact fit_Extern_ReflectliteValue_set P _
  · exact fit_Extern_ReflectliteValue_errorText P _
theorem fit_overlaps (P : Program) (x0 x1 x) : Fit P (fun _ => True) 0 (SlicesOverlaps.overlaps x0 x1 x) := by
  rcases x with ⟨_ | ⟨u, _ | ⟨v, _ | ⟨c, l⟩⟩⟩⟩
  · exact fit_stuck P _
  · exact fit_stuck P _
  · cases u with
    | slice a la ca =>
      cases v with
      | slice b lb cb =>
        have m4 : ∀ (h1 : Option Addr → Nat → Nat → Option Addr → Nat → Nat → Sem Value) (h2 : Array Value → Sem Value), SlicesOverlaps.overlaps.match_4 (fun _ => Sem Value) ⟨[Value.slice a la ca, Value.slice b lb cb]⟩ h1 h2 = h1 a la ca b lb cb := fun _ _ => rfl
        unfold SlicesOverlaps.overlaps
        rw [m4]
        repeat' (first | (with_reducible first | exact fit_pure P _ | apply fit_stuck | apply fit_unsupported | apply fit_underlying | apply fit_sizeOf | apply fit_frozen | apply fit_noView | apply fit_mayBeOne | apply fit_choose | apply fitB | apply fitIte) | (intro _) | split | (dsimp only))
      | _ => exact fit_stuck P _
    | _ => exact fit_stuck P _
  · exact fit_stuck P _
end Go.Proofs.YtpbbmagjhkakgaaGreatDoor.Lf
