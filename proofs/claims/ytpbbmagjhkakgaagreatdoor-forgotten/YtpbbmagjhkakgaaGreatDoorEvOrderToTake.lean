import Derived.Test.YtpbbmagjhkakgaaGreatDoorEvOnceToEvSays
import Derived.Test.YtpbbmagjhkakgaaGreatDoorPureToPureScan
import Derived.OrdersHeld
import Derived.Conc.CompanyMem
import Derived.Test.YtpbbmagjhkakgaaGreatDoorProg
namespace Go.Proofs.YtpbbmagjhkakgaaGreatDoor.Ev
open Go
section
variable {P : Program} {ops : Array Oper} {Q : Exit → Act → World → Prop} {md : Region.Mode} {S : World → Prop} {fin : Nat}
def AnyF (P : Program) (md : Region.Mode) (ops : Array Oper) (Q : Exit → Act → World → Prop) (S : World → Prop) (fin : Nat) : Nat → Array Bool → Act → World → Prop
  | 0, listed, a, w => Region.ready md ops listed = [] ∧ Q .normal a w
  | fuel + 1, listed, a, w => (Region.ready md ops listed = [] → Q .normal a w) ∧
    ∀ i ∈ Region.ready md ops listed, wpOp P ops Q i (fun a' w' => (i ≠ fin → S w') ∧ AnyF P md ops Q S fin fuel (listed.setIfInBounds i true) a' w') a w
theorem AnyF.any : ∀ (fuel : Nat) (listed : Array Bool) (a : Act) (w : World), AnyF P md ops Q S fin fuel listed a w → wpAny P md ops Q fuel listed a w
  | 0, _, _, _, h => h
  | fuel + 1, _, _, _, h => ⟨h.1, fun i hi => wpOp_mono (fun a' w' k => AnyF.any fuel _ a' w' k.2) (h.2 i hi)⟩
theorem AnyF.first {i : Nat} {oi : Oper} {v : Value} (hi : ops[i]? = some oi) (hsel : ∀ (j : Nat) (o : Oper) cs b, ops[j]? = some o → o.op ≠ .select cs b) (hfin : ∀ o, ops[fin]? = some o → ∃ e ∈ o.after, Region.binds md e = true ∧ e.on = i)
    (hQ : ∀ c a w, Q (.panic c) (a.put oi.dst v) w → Q (.panic c) a w) : ∀ (fuel : Nat) (listed : Array Bool) (a : Act) (w : World),
      (∀ j oj, ops[j]? = some oj → j ≠ i → listed.getD j true = false → (∀ e ∈ oj.after, Region.binds md e = true → e.on ≠ i) → oi.apart ops oj = true) →
      i ∈ Region.ready md ops listed → YieldsIf P ops S oi v a → S w → AnyF P md ops Q S fin fuel (listed.setIfInBounds i true) (a.put oi.dst v) w → AnyF P md ops Q S fin (fuel + 1) listed a w := by
  intro fuel
  induction fuel with
  | zero =>
    intro listed a w _ hr hy hS H
    refine ⟨fun h => (by rw [h] at hr; cases hr), fun j hj => ?_⟩
    by_cases hji : j = i
    · subst hji; exact hy.wpOp hi hS ⟨fun _ => hS, H⟩
    · have := ready_mono hj hji
      rw [H.1] at this
      cases this
  | succ fuel ih =>
    intro listed a w hfree hr hy hS H
    refine ⟨fun h => (by rw [h] at hr; cases hr), fun j hj => ?_⟩
    by_cases hji : j = i
    · subst hji; exact hy.wpOp hi hS ⟨fun _ => hS, H⟩
    · obtain ⟨hjun, oj, hoj, hall⟩ := mem_ready.1 hj
      have hnot : ∀ e ∈ oj.after, Region.binds md e = true → e.on ≠ i := fun e he hb heq => by
        have h1 := hall e he hb
        have h0 := (mem_ready.1 hr).1
        rw [heq] at h1
        rcases Nat.lt_or_ge i listed.size with h' | h'
        · simp [h'] at h0 h1; rw [h0] at h1; cases h1
        · simp [Array.getElem?_eq_none h'] at h1
      have hjf : j ≠ fin := by
        rintro rfl
        obtain ⟨e, he, hb, heq⟩ := hfin oj hoj
        exact hnot e he hb heq
      have h2 := wpOp_putIf hoj (hfree j oj hoj hji hjun hnot) (fun cs b => hsel i oi cs b hi) (fun cs b => hsel j oj cs b hoj) hQ hy (H.2 j (ready_mono hj hji))
      refine wpOp_mono (fun a' w' h3 => ⟨h3.2.1, ih (listed.setIfInBounds j true) a' w' (fun k ok hk hki hun hno => hfree k ok hk hki ?_ hno) (ready_mono hr (Ne.symm hji)) h3.1 (h3.2.1 hjf) ?_⟩) h2
      · by_cases hjk : j = k
        · subst hjk; exact hjun
        · rw [getD_set_ne true hjk] at hun; exact hun
      · rw [Array.setIfInBounds_comm _ _ hji]
        exact h3.2.2
theorem AnyF.take (i : Nat) {oi : Oper} {v : Value} {fuel : Nat} {listed : Array Bool} {a : Act} {w : World} (hi : ops[i]? = some oi) (hs : Region.noSelect ops = true) (hf : Region.free md ops listed i = true) (hr : (Region.ready md ops listed).contains i = true)
    (hfin : ((ops[fin]?).map fun o => o.after.any fun e => Region.binds md e && e.on == i).getD true = true) (hQ : ∀ c a w, Q (.panic c) (a.put oi.dst v) w → Q (.panic c) a w)
    (hw : Region.wanted oi (yielded ops a.tmps) = true) (hy : ∀ w, S w → (execOp a.eval oi).run P w = .ok (.value v) w) (hS : S w) (h : AnyF P md ops Q S fin fuel (listed.setIfInBounds i true) (a.put oi.dst v) w) : AnyF P md ops Q S fin (fuel + 1) listed a w :=
  AnyF.first hi (Region.noSelect_spec hs) (fun o ho => by
    rw [ho] at hfin
    simp only [Option.map_some, Option.getD_some] at hfin
    obtain ⟨e, he, hb⟩ := Array.any_eq_true'.1 hfin
    simp only [Bool.and_eq_true, beq_iff_eq] at hb
    exact ⟨e, he, hb.1, hb.2⟩) hQ fuel listed a w (Region.free_spec hi hf) (by simpa using hr) (.inl ⟨hw, hy⟩) hS h
theorem AnyF.one {i : Nat} {o : Oper} {fuel : Nat} {listed : Array Bool} {a : Act} {w : World} (hr : Region.ready md ops listed = [i]) (ho : ops[i]? = some o) (hw : Region.wanted o (yielded ops a.tmps) = true)
    (h : Oper.wp P o a w (fun a' w' => (i ≠ fin → S w') ∧ AnyF P md ops Q S fin fuel (listed.setIfInBounds i true) a' w') Q) : AnyF P md ops Q S fin (fuel + 1) listed a w :=
  ⟨fun h0 => (by rw [hr] at h0; cases h0), fun j hj => by
    rw [hr] at hj; simp at hj; subst hj
    unfold wpOp
    simp only [ho, hw, if_true]
    exact .inl h⟩
theorem AnyF.op {i : Nat} {o : Oper} {fuel : Nat} {listed : Array Bool} {a : Act} {w : World} (hr : Region.ready md ops listed = [i]) (ho : ops[i]? = some o) (hw : Region.wanted o (yielded ops a.tmps) = true)
    (h : ∀ K : Act → World → Prop, (∀ a' w', ((i ≠ fin → S w') ∧ AnyF P md ops Q S fin fuel (listed.setIfInBounds i true) a' w') → K a' w') → Oper.wp P o a w K Q) : AnyF P md ops Q S fin (fuel + 1) listed a w :=
  AnyF.one hr ho hw (h _ fun _ _ x => x)
theorem AnyF.two {i j : Nat} {oi oj : Oper} {fuel : Nat} {listed : Array Bool} {a : Act} {w : World} (hr : Region.ready md ops listed = [i, j]) (hoi : ops[i]? = some oi) (hwi : Region.wanted oi (yielded ops a.tmps) = true) (hoj : ops[j]? = some oj) (hwj : Region.wanted oj (yielded ops a.tmps) = true)
    (h1 : ∀ K : Act → World → Prop, (∀ a' w', ((i ≠ fin → S w') ∧ AnyF P md ops Q S fin fuel (listed.setIfInBounds i true) a' w') → K a' w') → Oper.wp P oi a w K Q)
    (h2 : ∀ K : Act → World → Prop, (∀ a' w', ((j ≠ fin → S w') ∧ AnyF P md ops Q S fin fuel (listed.setIfInBounds j true) a' w') → K a' w') → Oper.wp P oj a w K Q) : AnyF P md ops Q S fin (fuel + 1) listed a w :=
  ⟨fun h0 => (by rw [hr] at h0; cases h0), fun q hq => by
    rw [hr] at hq
    simp at hq
    rcases hq with rfl | rfl
    · unfold wpOp
      simp only [hoi, hwi, if_true]
      exact .inl (h1 _ fun _ _ x => x)
    · unfold wpOp
      simp only [hoj, hwj, if_true]
      exact .inl (h2 _ fun _ _ x => x)⟩
theorem AnyF.done {listed : Array Bool} {a : Act} {w : World} (hr : Region.ready md ops listed = []) (h : Q .normal a w) : ∀ fuel, AnyF P md ops Q S fin fuel listed a w
  | 0 => ⟨hr, h⟩
  | _ + 1 => ⟨fun _ => h, fun i hi => by rw [hr] at hi; cases hi⟩
theorem AnyF.begin {id : Nat} {a : Act} {w : World} (hm : P.follows .mixedOrders = true) (h : AnyF P .any ops Q S fin ops.size (Array.replicate ops.size false) a w.drew) : (Code.region id ops true).wp P Q a w :=
  wp_region_any hm (AnyF.any _ _ _ _ h)
end
end Go.Proofs.YtpbbmagjhkakgaaGreatDoor.Ev
namespace Go.Proofs.YtpbbmagjhkakgaaGreatDoor.Ev
open Go.RowKit Go.Deep
theorem wp_append_own {P : Program} {o : Oper} {a : Act} {w : World} {K : Act → World → Prop} {Q : Exit → Act → World → Prop} (s x : Operand) (t : TypeId) (hop : o.op = Op.call { callee := Callee.builtin Builtin.append, args := #[s, x], argTypes := #[t, t] })
  (base : Nat) (e : TypeId) (i : TypeInfo) (z : Value) (size bytes : Nat) (h1 : P.underlying t = some (.slice e)) (h2 : P.info? e = some i) (h3 : i.zero = some z) (h4 : i.size = size) (h5 : i.bytes = bytes) (h6 : z.cells.size = size) (h7 : 0 < size)
  (v : Value) (n : Nat) (xs : List Value) (hs : a.eval s = v) (hown : w.ownsRow base e size v n xs) (ad : Addr) (m c : Nat) (news : List Value) (hx : a.eval x = .slice (some ad) m c) (hn : news.length = m * size) (hc : ∀ j u, news[j]? = some u → w.cell? (ad.add j) = some u) (h1c : ∀ u ∈ news, u.oneCell' = true)
  (b1 : n + m ≤ maxLen) (b2 : (n + m) * bytes ≤ 140737488355328) (hb : base ≤ w.heap.size)
  (hK : ∀ v' w', w'.ownsRow base e size v' (n + m) (xs ++ news) → w.grownBy w' v.ownBlock → (v'.ownBlock = v.ownBlock ∨ v'.ownBlock = some w.heap.size) → K (a.put o.dst v') w') : Oper.wp P o a w K Q := by
 obtain ⟨v', w', hrun, r1, r2, _, r3⟩ := run_append_own_at (P := P) w base t o.type e i z size bytes h1 h2 h3 h4 h5 h6 h7 v n xs hown ad m c news hn hc h1c b1 b2 hb
 unfold Oper.wp
 simp [execOp, hop, resolve, invoke, builtin, hs, hx, hrun, Result.andThen]
 exact hK v' w' r1 r2 r3
structure EvOff (g : Nat) (c : EvC) : Prop where
 so : ∀ a, c.so = some a → a.block ≠ g
 ao : ∀ a, c.ao = some a → a.block ≠ g
theorem EvIn.only {g : Nat} {w w' : World} {c : EvC} {e : Pe} (h : EvIn w c e) (ho : EvOff g c) (hb : Only g w w') : EvIn w' c e := by
 obtain ⟨sb, s1, s2, s3⟩ := h.so
 have hsb : sb ≠ g := ho.so _ s1
 refine { h with so := ⟨sb, s1, Nat.lt_of_lt_of_le s2 hb.size, fun j b hj => ?_⟩, atoms := fun hne => ?_ }
 ·rw [World.cell?_of_block (hb.block sb s2 hsb)]; exact s3 j b hj
 ·obtain ⟨b, off, h1, h2, h3⟩ := h.atoms hne
  exact ⟨b, off, h1, Nat.lt_of_lt_of_le h2 hb.size, fun j hj => by rw [World.cell?_of_block (hb.block b h2 (ho.ao _ h1))]; exact h3 j hj⟩
def NodesIn (w : World) (no : Option Addr) (K : List Key) : Prop := K ≠ [] → ∃ nb, no = some ⟨nb, 0, none⟩ ∧ nb < w.heap.size ∧ ∀ (i : Nat) (k : Key), K[i]? = some k → w.cell? ⟨nb, i * 6, none⟩ = some (.int .i32 k.op) ∧ w.cell? ⟨nb, i * 6 + 1, none⟩ = some (.string k.name) ∧ w.cell? ⟨nb, i * 6 + 2, none⟩ = some (.int .i64 k.lo) ∧ w.cell? ⟨nb, i * 6 + 3, none⟩ = some (.int .i64 k.hi) ∧ w.cell? ⟨nb, i * 6 + 4, none⟩ = some (.int .i64 k.l) ∧ w.cell? ⟨nb, i * 6 + 5, none⟩ = some (.int .i64 k.r)
theorem infoBool : (Tryz.prog.info? 4).map (fun i => (i.zero, i.size, i.bytes)) = some (some (.bool false), 1, 1) := by kernel_rfl
def bitsV (L : List Bool) : List Value := L.map Value.bool
structure EvPre (w : World) (c : EvC) (e : Pe) : Prop where
 number : c.number = e.number
 time : c.time = e.time
 low : -1000000000000 ≤ e.time ∧ e.time ≤ 1000000000000
 al : c.al = e.atoms.length
 alen : e.atoms.length ≤ 1000000
 atoms : StrsIn w c.ao e.atoms
theorem EvPre.only {g : Nat} {w w' : World} {c : EvC} {e : Pe} (h : EvPre w c e) (ho : ∀ a, c.ao = some a → a.block ≠ g) (hb : Only g w w') : EvPre w' c e :=
 ⟨h.number, h.time, h.low, h.al, h.alen, fun hne => by
  obtain ⟨b, off, h1, h2, h3⟩ := h.atoms hne
  exact ⟨b, off, h1, Nat.lt_of_lt_of_le h2 hb.size, fun j hj => by rw [World.cell?_of_block (hb.block b h2 (ho _ h1))]; exact h3 j hj⟩⟩
def EvC.withSo (c : EvC) (sb sl sc : Nat) : EvC := { c with so := some ⟨sb, 0, none⟩, sl := sl, sc := sc }
theorem bits_cell {w : World} {B sb sc : Nat} {L : List Bool} (h : w.ownsRow B 4 1 (.slice (some ⟨sb, 0, none⟩) L.length sc) L.length (bitsV L)) : ∀ j b, L[j]? = some b → w.cell? ⟨sb, j, none⟩ = some (.bool b) := fun j b hj =>
 row_cell h rfl (by simp [bitsV, hj])
theorem EvPre.with {w : World} {c : EvC} {e : Pe} {B sb sc : Nat} (h : EvPre w c e) {L : List Bool} (hL : L.length ≤ 1000000) (ho : w.ownsRow B 4 1 (.slice (some ⟨sb, 0, none⟩) L.length sc) L.length (bitsV L)) : EvIn w (c.withSo sb L.length sc) { e with so := L } :=
 { number := h.number, time := h.time, low := h.low, sl := rfl, slen := hL, so := ⟨sb, rfl, (ho.lt sb rfl).2, bits_cell ho⟩, al := h.al, alen := h.alen, atoms := h.atoms }
theorem set_heap {w : World} {k i : Nat} {v : Value} {cs : Array Value} {t : TypeId} {m : Nat × Nat} (h : w.heap[k]? = some (.cells cs t m)) : (w.setCell ⟨k, i, none⟩ v).heap[k]? = some (.cells (cs.setIfInBounds i v) t m) := by
 simp [World.setCell, Array.getElem?_modify, h, Array.setIfInBounds_def]
theorem backL_congr {E F : Nat → Pe} {m : Nat} (h : ∀ i, i < m → E i = F i) : backL E m = backL F m := by
 unfold backL
 exact List.map_congr_left fun x _ => h x.1 x.2
structure WorkAt (g m : Nat) (cg : Array Value) (w wr : World) (e : Pe) (sb sc : Nat) : Prop where
 row : wr.heap[g]? = some (.cells (cg.setIfInBounds (m * 4 + 3) (.slice (some ⟨sb, 0, none⟩) e.so.length sc)) 159 (0, 0))
 own : wr.ownsRow (w.heap.size + 1) 4 1 (.slice (some ⟨sb, 0, none⟩) e.so.length sc) e.so.length (bitsV e.so)
 only : Only g w wr
 res : wr.heap[w.heap.size]? = some (.cells #[.int .i64 0, .int .i64 0, .slice none 0 0, .slice none 0 0] 159 (0, 0))
theorem WorkAt.ne {g m : Nat} {cg : Array Value} {w wr : World} {e : Pe} {sb sc : Nat} (h : WorkAt g m cg w wr e sb sc) : sb ≠ g := by
 rintro rfl
 obtain ⟨h1, ⟨h2, _⟩ | ⟨g', cap, cur, e1, _, e2, _⟩⟩ := h.own
 ·cases h2
 ·cases e1; have := h.row; rw [e2] at this; cases this
set_option maxRecDepth 100000 in
set_option maxHeartbeats 8000000 in
theorem workOut_any (no : Option Addr) (ncap : Nat) (K : List Key) (g cap m : Nat) (cg : Array Value) (C : Nat → EvC) (E : Nat → Pe) (w : World) (hm : m + 1 ≤ 1000000) (hcap : m + 1 ≤ cap) (hK : K.length ≤ 1000) (hnc : K.length ≤ ncap)
  (hg : w.heap[g]? = some (.cells cg 159 (0, 0))) (hc : ∀ i k v, i < m + 1 → (evCells (C i))[k]? = some v → cg[i * 4 + k]? = some v) (hN : NodesIn w no K) (hng : ∀ a, no = some a → a.block ≠ g) (hop : ∀ k ∈ K, CoreOp k.op) (hA : Ahead K)
  (hE : ∀ i, i < m → EvIn w (C i) (E i)) (hrow : ∀ i, i < m → (E i).so.length = K.length + 1) (hoff : ∀ i, i < m → EvOff g (C i)) (hM : EvPre w (C m) (E m)) (hMo : ∀ a, (C m).ao = some a → a.block ≠ g) :
  Calls Tryz.prog 132 #[.slice no K.length ncap, .slice (some ⟨g, 0, none⟩) (m + 1) cap] w fun e W' => ∃ sb sc cur, e = .returned (evVal ((C m).withSo sb (K.length + 1) sc)) ∧ w.heap.size ≤ sb ∧ Only g w W' ∧
   W'.heap[g]? = some (.cells (cg.setIfInBounds (m * 4 + 3) (.slice (some ⟨sb, 0, none⟩) (K.length + 1) sc)) 159 (0, 0)) ∧ W'.heap[sb]? = some (.cells cur 4 (0, 0)) ∧ EvIn W' ((C m).withSo sb (K.length + 1) sc) (workF (backL E m) K (E m).bare) := by
 have p3 : w.cell? ⟨g, m * 4 + 3, none⟩ = some (.slice (C m).so (C m).sl (C m).sc) := cell_at hg (hc m 3 _ (by omega) rfl)
 have f3 : w.frozen? ⟨g, m * 4 + 3, none⟩ = false := Lib.frozen_of_heap hg _
 have hgl := heap_lt hg
 obtain ⟨i0, hi, hz0, hz1, hz2⟩ := info_parts infoBool
 have hmk : ∀ w : World, (Instr.makeSlice 157 (.int .i64 1) (.int .i64 (1 + (K.length : Int)))).run Tryz.prog w = .ok (.slice (some ⟨w.heap.size, 0, none⟩) 1 (K.length + 1)) (w.alloc (.cells (madeCells (Value.bool false).cells (K.length + 1)) 4)) := fun w => by
  have := run_makeSlice (P := Tryz.prog) w 157 4 i0 _ Tryz.underlying157 hi hz0 .i64 .i64 1 (1 + (K.length : Int)) (by omega) (by omega) (by rw [hz1]; omega) (by rw [hz2]; omega) (by omega)
  rw [this, hz1]
  have e1 : (1 + (K.length : Int)).toNat = K.length + 1 := by omega
  rw [e1]
  simp
 have hbare : (E m).bare.so.length = 1 := rfl
 generalize hn : K.length = n at *
 have hWst : WorkAt g m cg w (((w.setCell ⟨g, m * 4 + 3, none⟩ (.slice (some ⟨w.heap.size + 1, 0, none⟩) 1 (n + 1))).alloc (.cells #[.int .i64 0, .int .i64 0, .slice none 0 0, .slice none 0 0] 159)).alloc (.cells (madeCells #[.bool false] (n + 1)) 4)) (workF (backL E m) (K.take 0) (E m).bare) (w.heap.size + 1) (n + 1) := by
  have hss : (w.setCell ⟨g, m * 4 + 3, none⟩ (.slice (some ⟨w.heap.size + 1, 0, none⟩) 1 (n + 1))).heap.size = w.heap.size := by simp [World.setCell]
  have e0 : (workF (backL E m) (K.take 0) (E m).bare) = (E m).bare := rfl
  rw [e0]
  refine ⟨?_, ⟨rfl, .inr ⟨w.heap.size + 1, n + 1, _, rfl, Nat.le_refl _, heap_new _ _ _ (by simp [World.setCell]), by simp [Pe.bare], by unfold maxLen; omega, by simp [size_madeCells], ?_⟩⟩, (((Only.refl g w).setCell (p := ⟨g, m * 4 + 3, none⟩) (.inl rfl) _).alloc _).alloc _, ?_⟩
  ·rw [Below.heap_alloc _ _ _ (by simp [World.setCell]; omega), Below.heap_alloc _ _ _ (by simp [World.setCell]; omega)]; exact set_heap hg
  ·rw [toList_madeCells_one]; rfl
  ·rw [Below.heap_alloc _ _ _ (by simp [World.setCell])]; exact heap_new _ _ _ (by simp [World.setCell])
 go_enter Tryz.func132, Tryz.ntmps132
 go_wp2_with fail
 generalize (((w.setCell ⟨g, m * 4 + 3, none⟩ (.slice (some ⟨w.heap.size + 1, 0, none⟩) 1 (n + 1))).alloc (.cells #[.int .i64 0, .int .i64 0, .slice none 0 0, .slice none 0 0] 159)).alloc (.cells (madeCells #[.bool false] (n + 1)) 4)) = Wst at hWst ⊢
 clear hmk p3 f3
 go_loopw [22] (fun iv wr => ∃ (j : Nat) (sb sc : Nat), iv = .int .i64 j ∧ j ≤ n ∧ WorkAt g m cg w wr (workF (backL E m) (K.take j) (E m).bare) sb sc) (fun iv _ => n - (intOf iv).toNat)
 case atStart => exact ⟨0, _, _, rfl, Nat.zero_le _, hWst⟩
 case round =>
  clear hWst
  obtain ⟨j, sb, sc, rfl, hjn, hW⟩ := hrel
  obtain ⟨w1, w2, w3, w4, _⟩ := workF_same (backL E m) (K.take j) (E m).bare
  have hlen : (workF (backL E m) (K.take j) (E m).bare).so.length = j + 1 := by rw [w4, List.length_take, hbare]; omega
  have hEj : (workF (backL E m) (K.take j) (E m).bare) = { E m with so := (workF (backL E m) (K.take j) (E m).bare).so } := by
   have : ∀ a b : Pe, a.number = b.number → a.time = b.time → a.atoms = b.atoms → a = { b with so := a.so } := fun a b h1 h2 h3 => by cases a; cases b; simp at h1 h2 h3; simp [h1, h2, h3]
   exact this _ _ w1 w2 w3
  by_cases hj : j < n
  ·have hjl : j < K.length := by omega
   have hkget : K[j]? = some K[j] := List.getElem?_eq_getElem hjl
   obtain ⟨nb, rfl, hnb, hnk⟩ := hN (by intro h; rw [h] at hjl; simp at hjl)
   have hnbg : nb ≠ g := hng _ rfl
   have hkop := hop _ (List.mem_of_getElem? hkget)
   obtain ⟨a1, a2, a3, a4⟩ := hA j _ hkget
   obtain ⟨c0, c1, c2, c3, c4, c5⟩ := hnk j _ hkget
   have hsnoc : workF (backL E m) (K.take (j + 1)) (E m).bare = (workF (backL E m) (K.take j) (E m).bare).add (saysF K[j] (workF (backL E m) (K.take j) (E m).bare) (backL E m)) := by
    rw [← List.take_append_getElem hjl, workF_snoc]
   generalize K[j] = k at *
   obtain ⟨ln, hln⟩ : ∃ ln : Nat, k.l = (ln : Int) := ⟨k.l.toNat, by omega⟩
   obtain ⟨rn, hrn⟩ : ∃ rn : Nat, k.r = (rn : Int) := ⟨k.r.toNat, by omega⟩
   rw [hln] at c4 a2
   rw [hrn] at c5 a4
   have hkey : k = ⟨k.op, k.name, k.lo, k.hi, (ln : Int), (rn : Int)⟩ := by rw [← hln, ← hrn]
   generalize hej : workF (backL E m) (K.take j) (E m).bare = ej at *
   have hO : ∀ b, b < w.heap.size → b ≠ g → wr.heap[b]? = w.heap[b]? := hW.only.block
   have d0 : wr.cell? ⟨nb, j * 6, none⟩ = some (.int .i32 k.op) := (World.cell?_of_block (hO nb hnb hnbg)).trans c0
   have d1 : wr.cell? ⟨nb, j * 6 + 1, none⟩ = some (.string k.name) := (World.cell?_of_block (hO nb hnb hnbg)).trans c1
   have d2 : wr.cell? ⟨nb, j * 6 + 2, none⟩ = some (.int .i64 k.lo) := (World.cell?_of_block (hO nb hnb hnbg)).trans c2
   have d3 : wr.cell? ⟨nb, j * 6 + 3, none⟩ = some (.int .i64 k.hi) := (World.cell?_of_block (hO nb hnb hnbg)).trans c3
   have d4 : wr.cell? ⟨nb, j * 6 + 4, none⟩ = some (.int .i64 (ln : Int)) := (World.cell?_of_block (hO nb hnb hnbg)).trans c4
   have d5 : wr.cell? ⟨nb, j * 6 + 5, none⟩ = some (.int .i64 (rn : Int)) := (World.cell?_of_block (hO nb hnb hnbg)).trans c5
   have HS : Hid (∀ w', Below wr.heap.size wr w' → Calls Tryz.prog 169 #[.agg #[.int .i32 k.op, .string k.name, .int .i64 k.lo, .int .i64 k.hi, .int .i64 (ln : Int), .int .i64 (rn : Int)], .slice (some ⟨g, 0, none⟩) (m + 1) cap] w' fun e W' => e = .returned (.bool (saysF k ej (backL E m))) ∧ Below w'.heap.size w' W') := fun w' hb => by
    have hrow' := hb.heapOf hW.row
    have hcw : ∀ i q v, i < m + 1 → (evCells (if i = m then (C m).withSo sb (j + 1) sc else C i))[q]? = some v → w'.cell? ⟨g, i * 4 + q, none⟩ = some v := fun i q v hi hv => by
     refine cell_at hrow' ?_
     rw [hlen]
     by_cases him : i = m
     ·subst him
      rw [if_pos rfl] at hv
      have h3 := hc i 3 _ hi (show (evCells (C i))[3]? = some _ from rfl)
      have h3l : i * 4 + 3 < cg.size := (Array.getElem?_eq_some_iff.1 h3).1
      rcases q with _ | _ | _ | _ | q
      ·rw [Array.getElem?_setIfInBounds_ne (by omega)]; exact hc i 0 v hi hv
      ·rw [Array.getElem?_setIfInBounds_ne (by omega)]; exact hc i 1 v hi hv
      ·rw [Array.getElem?_setIfInBounds_ne (by omega)]; exact hc i 2 v hi hv
      ·have hv' : some (.slice (some ⟨sb, 0, none⟩) (j + 1) sc) = some v := hv
       rw [Array.getElem?_setIfInBounds_self_of_lt h3l]; exact hv'
      ·simp [evCells] at hv
     ·rw [if_neg him] at hv
      have hq : q < 4 := by have := (List.getElem?_eq_some_iff.1 hv).1; simpa [evCells] using this
      rw [Array.getElem?_setIfInBounds_ne (by omega)]; exact hc i q v hi hv
    have hEw : ∀ i, i < m + 1 → EvIn w' (if i = m then (C m).withSo sb (j + 1) sc else C i) (if i = m then ej else E i) := fun i hi => by
     by_cases him : i = m
     ·rw [if_pos him, if_pos him]
      have h1 := (hM.only (g := g) hMo (hW.only.trans (Only.of_below hb))).with (L := ej.so) (by rw [hlen]; omega) (own_heap hW.own fun b hbb => hb.block b (hW.own.lt b hbb).2)
      rw [hlen, ← hEj] at h1
      exact h1
     ·rw [if_neg him, if_neg him]
      exact (hE i (by omega)).only (hoff i (by omega)) (hW.only.trans (Only.of_below hb))
    have hlr : ∀ (x : Nat), x ≤ j → ∀ i, i < m + 1 → x < (if i = m then ej else E i).so.length := fun x hx i hi => by
     by_cases him : i = m
     ·rw [if_pos him, hlen]; omega
     ·rw [if_neg him, hrow i (by omega)]; omega
    have := says_any k.op k.name k.lo k.hi ln rn g cap m (fun i => if i = m then (C m).withSo sb (j + 1) sc else C i) (fun i => if i = m then ej else E i) w' hkop hm (Nat.lt_of_lt_of_le (heap_lt hW.row) hb.size) hcap hcw hEw (hlr ln (by omega)) (hlr rn (by omega))
    rw [if_pos rfl, ← hkey, backL_congr (F := E) (fun i hi => by rw [if_neg (by omega)])] at this
    exact this
   have hsb := hW.ne
   have hrow1 := hW.row
   have hown1 := hW.own
   have hon1 := hW.only
   have hres1 := hW.res
   rw [hlen] at hrow1 hown1
   have hgl1 := heap_lt hrow1
   have h3l : m * 4 + 3 < cg.size := (Array.getElem?_eq_some_iff.1 (hc m 3 _ (by omega) rfl)).1
   generalize hbit : saysF k ej (backL E m) = bit at *
   have Hsnoc : Hid _ := hsnoc
   clear hE hrow hoff hM hMo hN hng hop hA hc hW hnk c0 c1 c2 c3 c4 c5 hO hEj hkey hsnoc
   go_wp2_with fail
   have hX : (wr.alloc (.cells #[.int .i32 k.op, .string k.name, .int .i64 k.lo, .int .i64 k.hi, .int .i64 (ln : Int), .int .i64 (rn : Int)] 226)).heap[wr.heap.size]? = some (.cells #[.int .i32 k.op, .string k.name, .int .i64 k.lo, .int .i64 k.hi, .int .i64 (ln : Int), .int .i64 (rn : Int)] 226 (0, 0)) := heap_new _ _ _ rfl
   have hb1 : Below wr.heap.size wr (wr.alloc (.cells #[.int .i32 k.op, .string k.name, .int .i64 k.lo, .int .i64 k.hi, .int .i64 (ln : Int), .int .i64 (rn : Int)] 226)) := (Below.refl _ _).al _
   have hsz1 : (wr.alloc (.cells #[.int .i32 k.op, .string k.name, .int .i64 k.lo, .int .i64 k.hi, .int .i64 (ln : Int), .int .i64 (rn : Int)] 226)).heap.size = wr.heap.size + 1 := by simp
   generalize (wr.alloc (.cells #[.int .i32 k.op, .string k.name, .int .i64 k.lo, .int .i64 k.hi, .int .i64 (ln : Int), .int .i64 (rn : Int)] 226)) = W1 at hX hb1 hsz1 ⊢
   generalize hXe : wr.heap.size = X at *
   have Hst : Hid (∀ w', Below W1.heap.size W1 w' → (fun w' => w'.cell? ⟨g, m * 4 + 3, none⟩ = some (.slice (some ⟨sb, 0, none⟩) (j + 1) sc) ∧ w'.cell? ⟨X, 0, none⟩ = some (.int .i32 k.op) ∧ w'.cell? ⟨X, 1, none⟩ = some (.string k.name) ∧ w'.cell? ⟨X, 2, none⟩ = some (.int .i64 k.lo) ∧ w'.cell? ⟨X, 3, none⟩ = some (.int .i64 k.hi) ∧ w'.cell? ⟨X, 4, none⟩ = some (.int .i64 (ln : Int)) ∧ w'.cell? ⟨X, 5, none⟩ = some (.int .i64 (rn : Int))) w') := fun w' hb => by
    have hx := hb.heapOf hX
    have hr := hb.heapOf ((hb1.block g hgl1).trans hrow1)
    exact ⟨cell_at hr (by rw [Array.getElem?_setIfInBounds_self_of_lt h3l]), cell_at hx rfl, cell_at hx rfl, cell_at hx rfl, cell_at hx rfl, cell_at hx rfl, cell_at hx rfl⟩
   have hS0 := Hst.out _ (Below.refl _ W1).drew
   refine AnyF.begin (S := (fun w' => w'.cell? ⟨g, m * 4 + 3, none⟩ = some (.slice (some ⟨sb, 0, none⟩) (j + 1) sc) ∧ w'.cell? ⟨X, 0, none⟩ = some (.int .i32 k.op) ∧ w'.cell? ⟨X, 1, none⟩ = some (.string k.name) ∧ w'.cell? ⟨X, 2, none⟩ = some (.int .i64 k.lo) ∧ w'.cell? ⟨X, 3, none⟩ = some (.int .i64 k.hi) ∧ w'.cell? ⟨X, 4, none⟩ = some (.int .i64 (ln : Int)) ∧ w'.cell? ⟨X, 5, none⟩ = some (.int .i64 (rn : Int)))) (fin := 12) (by kernel_rfl) ?_
   simp only [List.size_toArray, List.length_cons, List.length_nil, Nat.reduceAdd, Nat.zero_add]
   refine AnyF.take 0 (v := ?v0) rfl (by decide +kernel) (by decide +kernel) (by decide +kernel) (by decide +kernel) (fun _ _ _ h => h) (by rfl) (fun w' hS => Go.Conc.run_eq_of ?r0) hS0 ?_
   case r0 =>
    intro K' hK'
    obtain ⟨y0, y1, y2, y3, y4, y5, y6⟩ := hS
    go_simp
    exact hK'
   try walk_nrm
   refine AnyF.take 1 (v := ?v1) rfl (by decide +kernel) (by decide +kernel) (by decide +kernel) (by decide +kernel) (fun _ _ _ h => h) (by rfl) (fun w' hS => Go.Conc.run_eq_of ?r1) hS0 ?_
   case r1 =>
    intro K' hK'
    obtain ⟨y0, y1, y2, y3, y4, y5, y6⟩ := hS
    go_simp
    exact hK'
   try walk_nrm
   refine AnyF.take 2 (v := ?v2) rfl (by decide +kernel) (by decide +kernel) (by decide +kernel) (by decide +kernel) (fun _ _ _ h => h) (by rfl) (fun w' hS => Go.Conc.run_eq_of ?r2) hS0 ?_
   case r2 =>
    intro K' hK'
    obtain ⟨y0, y1, y2, y3, y4, y5, y6⟩ := hS
    go_simp
    exact hK'
   try walk_nrm
   refine AnyF.take 3 (v := ?v3) rfl (by decide +kernel) (by decide +kernel) (by decide +kernel) (by decide +kernel) (fun _ _ _ h => h) (by rfl) (fun w' hS => Go.Conc.run_eq_of ?r3) hS0 ?_
   case r3 =>
    intro K' hK'
    obtain ⟨y0, y1, y2, y3, y4, y5, y6⟩ := hS
    go_simp
    exact hK'
   try walk_nrm
   refine AnyF.take 4 (v := ?v4) rfl (by decide +kernel) (by decide +kernel) (by decide +kernel) (by decide +kernel) (fun _ _ _ h => h) (by rfl) (fun w' hS => Go.Conc.run_eq_of ?r4) hS0 ?_
   case r4 =>
    intro K' hK'
    obtain ⟨y0, y1, y2, y3, y4, y5, y6⟩ := hS
    go_simp
    exact hK'
   try walk_nrm
   refine AnyF.take 5 (v := ?v5) rfl (by decide +kernel) (by decide +kernel) (by decide +kernel) (by decide +kernel) (fun _ _ _ h => h) (by rfl) (fun w' hS => Go.Conc.run_eq_of ?r5) hS0 ?_
   case r5 =>
    intro K' hK'
    obtain ⟨y0, y1, y2, y3, y4, y5, y6⟩ := hS
    go_simp
    exact hK'
   try walk_nrm
   refine AnyF.take 6 (v := ?v6) rfl (by decide +kernel) (by decide +kernel) (by decide +kernel) (by decide +kernel) (fun _ _ _ h => h) (by rfl) (fun w' hS => Go.Conc.run_eq_of ?r6) hS0 ?_
   case r6 =>
    intro K' hK'
    obtain ⟨y0, y1, y2, y3, y4, y5, y6⟩ := hS
    go_simp
    exact hK'
   try walk_nrm
   refine AnyF.one (i := 7) (by decide +kernel) rfl (by rfl) ?_
   unfold Oper.wp
   rw [Go.Conc.run_call_body (f := 169) (args := #[.tmp 31, .tmp 32]) (ats := #[226, 146]) rfl Tryz.func169 (by decide) rfl]
   simp only [Oper.upon, List.map_toArray, List.map_cons, List.map_nil]
   change Calls Tryz.prog 169 #[.agg #[.int .i32 k.op, .string k.name, .int .i64 k.lo, .int .i64 k.hi, .int .i64 (ln : Int), .int .i64 (rn : Int)], .slice (some ⟨g, 0, none⟩) (m + 1) cap] W1.drew _
   refine (HS.out W1.drew hb1.drew).mono ?_
   rintro e w1 ⟨rfl, hb2⟩
   replace hb2 : Below W1.heap.size W1 w1 := (Below.refl _ W1).drew.trans hb2
   refine ⟨fun _ => Hst.out _ hb2, ?_⟩
   try walk_nrm
   refine AnyF.op (i := 8) (by decide +kernel) rfl (by rfl) (fun K' hK' => ?_)
   unfold Oper.wp
   go_simp
   refine hK' _ _ ⟨fun _ => Hst.out _ (hb2.al _), ?_⟩
   clear hK' K'
   try walk_nrm
   have hown2 : (w1.alloc (.cells #[.bool bit] 4)).ownsRow (w.heap.size + 1) 4 1 (.slice (some ⟨sb, 0, none⟩) (j + 1) sc) (j + 1) (bitsV ej.so) := by
    have o1 := own_heap hown1 (w' := W1) fun b hbb => hb1.block b (by have := (hown1.lt b hbb).2; omega)
    have o2 := own_heap o1 (w' := w1) fun b hbb => hb2.block b (o1.lt b hbb).2
    exact o2.alloc _
   have hww : w.heap.size + 1 ≤ w1.heap.size := by have := (hown1.lt sb rfl); have := hb2.size; omega
   refine AnyF.one (i := 9) (by decide +kernel) rfl (by rfl) (wp_append_own (.tmp 30) (.tmp 34) 157 rfl (w.heap.size + 1) 4 i0 _ 1 1 Tryz.underlying157 hi hz0 hz1 hz2 rfl (by decide) (.slice (some ⟨sb, 0, none⟩) (j + 1) sc) (j + 1) (bitsV ej.so) rfl hown2 ⟨w1.heap.size, 0, none⟩ 1 1 [.bool bit] rfl rfl (cell_one_new w1 _ 4) (by simp [Value.oneCell']) (by unfold maxLen; omega) (by omega) (by simp; omega) ?_)
   intro v' w2 hown' hgrow hor
   obtain ⟨sb2, sc2, rfl⟩ := ownsRow_succ hown'
   have hXsb : X ≠ sb := by have := (hown1.lt sb rfl).2; omega
   have hgg : w2.heap[g]? = some (.cells (cg.setIfInBounds (m * 4 + 3) (.slice (some ⟨sb, 0, none⟩) (j + 1) sc)) 159 (0, 0)) := by
    have h1 := (hb2.al (.cells #[.bool bit] 4)).heapOf ((hb1.block g hgl1).trans hrow1)
    rw [hgrow.block g (heap_lt h1) (fun e => hsb (by cases e; rfl))]; exact h1
   have hxx : w2.heap[X]? = some (.cells #[.int .i32 k.op, .string k.name, .int .i64 k.lo, .int .i64 k.hi, .int .i64 (ln : Int), .int .i64 (rn : Int)] 226 (0, 0)) := by
    have h1 := (hb2.al (.cells #[.bool bit] 4)).heapOf hX
    rw [hgrow.block X (heap_lt h1) (fun e => hXsb (by cases e; rfl))]; exact h1
   have hS2 : (fun w' => w'.cell? ⟨g, m * 4 + 3, none⟩ = some (.slice (some ⟨sb, 0, none⟩) (j + 1) sc) ∧ w'.cell? ⟨X, 0, none⟩ = some (.int .i32 k.op) ∧ w'.cell? ⟨X, 1, none⟩ = some (.string k.name) ∧ w'.cell? ⟨X, 2, none⟩ = some (.int .i64 k.lo) ∧ w'.cell? ⟨X, 3, none⟩ = some (.int .i64 k.hi) ∧ w'.cell? ⟨X, 4, none⟩ = some (.int .i64 (ln : Int)) ∧ w'.cell? ⟨X, 5, none⟩ = some (.int .i64 (rn : Int))) w2 := ⟨cell_at hgg (by rw [Array.getElem?_setIfInBounds_self_of_lt h3l]), cell_at hxx rfl, cell_at hxx rfl, cell_at hxx rfl, cell_at hxx rfl, cell_at hxx rfl, cell_at hxx rfl⟩
   have hsbl := (hown1.lt sb rfl).1
   have hon2 : Only g w w2 := by
    have o1 : Only g w (w1.alloc (.cells #[.bool bit] 4)) := ((hon1.trans (Only.of_below (hXe ▸ hb1))).trans (Only.of_below hb2)).alloc _
    exact ⟨hgrow.os.trans o1.os, hgrow.tape.trans o1.tape, hgrow.output.trans o1.output, Nat.le_trans o1.size hgrow.size, fun b hb hbg => (hgrow.block b (Nat.lt_of_lt_of_le hb o1.size) (fun e => absurd (show b = sb by simpa [Value.ownBlock] using e) (by omega))).trans (o1.block b hb hbg)⟩
   have hres2 : w2.heap[w.heap.size]? = some (.cells #[.int .i64 0, .int .i64 0, .slice none 0 0, .slice none 0 0] 159 (0, 0)) := by
    have h1 := (hb2.al (.cells #[.bool bit] 4)).heapOf ((hb1.block _ (by have := heap_lt hres1; omega)).trans hres1)
    rw [hgrow.block _ (heap_lt h1) (fun e => absurd (show w.heap.size = sb by simpa [Value.ownBlock] using e) (by omega))]; exact h1
   have hsb2 : sb2 ≠ g := by
    rintro rfl
    obtain ⟨_, ⟨h2, _⟩ | ⟨g', cap', cur, e1, _, e2, _⟩⟩ := hown'
    ·cases h2
    ·cases e1; rw [hgg] at e2; cases e2
   refine ⟨fun _ => hS2, ?_⟩
   try walk_nrm
   refine AnyF.op (i := 10) (by decide +kernel) rfl (by rfl) (fun K' hK' => ?_)
   unfold Oper.wp
   go_simp
   refine hK' _ _ ⟨fun _ => hS2, ?_⟩
   clear hK' K'
   try walk_nrm
   refine AnyF.op (i := 11) (by decide +kernel) rfl (by rfl) (fun K' hK' => ?_)
   unfold Oper.wp
   go_simp
   refine hK' _ _ ⟨fun _ => hS2, ?_⟩
   clear hK' K'
   try walk_nrm
   refine AnyF.op (i := 12) (by decide +kernel) rfl (by rfl) (fun K' hK' => ?_)
   unfold Oper.wp
   have hc3 := hS2.1
   have hf3 : w2.frozen? ⟨g, m * 4 + 3, none⟩ = false := Lib.frozen_of_heap hgg _
   go_simp
   refine hK' _ _ ⟨fun x => absurd rfl x, ?_⟩
   clear hK' K'
   refine AnyF.done (by decide +kernel) ?_ _
   try walk_nrm
   have hfin : WorkAt g m cg w (w2.setCell ⟨g, m * 4 + 3, none⟩ (.slice (some ⟨sb2, 0, none⟩) (j + 1 + 1) sc2)) (workF (backL E m) (K.take (j + 1)) (E m).bare) sb2 sc2 := by
    rw [Hsnoc.out]
    have hl2 : (ej.add bit).so.length = j + 1 + 1 := by simp [Pe.add, hlen]
    refine ⟨?_, ?_, hon2.setCell (p := ⟨g, m * 4 + 3, none⟩) (.inl rfl) _, ?_⟩
    ·rw [hl2]
     have := set_heap (i := m * 4 + 3) (v := .slice (some ⟨sb2, 0, none⟩) (j + 1 + 1) sc2) hgg
     rwa [Array.setIfInBounds_setIfInBounds] at this
    ·rw [hl2]
     have e1 : bitsV (ej.add bit).so = bitsV ej.so ++ [.bool bit] := by simp [bitsV, Pe.add]
     rw [e1]
     exact own_heap hown' fun b hbb => Below.heap_setCell _ _ _ _ (by cases hbb; exact fun e => hsb2 e)
    ·rw [Below.heap_setCell _ _ _ _ (by show w.heap.size ≠ g; omega)]; exact hres2
   go_wp2_with fail
   go_roundw
   case rel => exact ⟨j + 1, sb2, sc2, by go_num, by omega, hfin⟩
   case measure => simp only [intOf]; omega
  ·obtain rfl : j = n := by omega
   have hMw := (hM.only (g := g) hMo hW.only).with (L := (workF (backL E m) (K.take j) (E m).bare).so) (by rw [hlen]; omega) hW.own
   rw [hlen, ← hEj, List.take_of_length_le (by omega)] at hMw
   have hrow1 := hW.row
   have hown1 := hW.own
   have hon1 := hW.only
   have hres1 := hW.res
   have hsb := hW.ne
   have hsbl := (hown1.lt sb rfl).1
   rw [hlen] at hrow1 hown1
   have h3 := hc m 3 _ (by omega) (show (evCells (C m))[3]? = some _ from rfl)
   have h3l : m * 4 + 3 < cg.size := (Array.getElem?_eq_some_iff.1 h3).1
   have p0 : wr.cell? ⟨g, m * 4, none⟩ = some (.int .i64 (C m).number) := cell_at hrow1 (by rw [Array.getElem?_setIfInBounds_ne (by omega)]; exact hc m 0 _ (by omega) rfl)
   have p1 : wr.cell? ⟨g, m * 4 + 1, none⟩ = some (.int .i64 (C m).time) := cell_at hrow1 (by rw [Array.getElem?_setIfInBounds_ne (by omega)]; exact hc m 1 _ (by omega) rfl)
   have p2 : wr.cell? ⟨g, m * 4 + 2, none⟩ = some (.slice (C m).ao (C m).al (C m).ac) := cell_at hrow1 (by rw [Array.getElem?_setIfInBounds_ne (by omega)]; exact hc m 2 _ (by omega) rfl)
   have p3 : wr.cell? ⟨g, m * 4 + 3, none⟩ = some (.slice (some ⟨sb, 0, none⟩) (j + 1) sc) := cell_at hrow1 (by rw [Array.getElem?_setIfInBounds_self_of_lt h3l])
   have r0 := cell_at (i := 0) hres1 rfl
   have r1 := cell_at (i := 1) hres1 rfl
   have r2 := cell_at (i := 2) hres1 rfl
   have r3 := cell_at (i := 3) hres1 rfl
   have fz : ∀ q, wr.frozen? ⟨w.heap.size, q, none⟩ = false := fun q => Lib.frozen_of_heap hres1 q
   have HM : Hid (StrsIn w (C m).ao (E m).atoms) := hM.atoms
   have HMo : Hid (∀ a, (C m).ao = some a → a.block ≠ g) := hMo
   clear hE hrow hoff hM hMo hN hng hop hA hc hW hEj
   go_wp2_with fail
   have hR := set_heap (i := 3) (v := .slice (some ⟨sb, 0, none⟩) (j + 1) sc) (set_heap (i := 2) (v := .slice (C m).ao (C m).al (C m).ac) (set_heap (i := 1) (v := .int .i64 (C m).time) (set_heap (i := 0) (v := .int .i64 (C m).number) hres1)))
   simp only [List.setIfInBounds_toArray, List.set_cons_zero, List.set_cons_succ] at hR
   have hoth : ∀ b, b ≠ w.heap.size → (((((wr.setCell ⟨w.heap.size, 0, none⟩ (.int .i64 (C m).number)).setCell ⟨w.heap.size, 1, none⟩ (.int .i64 (C m).time)).setCell ⟨w.heap.size, 2, none⟩ (.slice (C m).ao (C m).al (C m).ac)).setCell ⟨w.heap.size, 3, none⟩ (.slice (some ⟨sb, 0, none⟩) (j + 1) sc))).heap[b]? = wr.heap[b]? := fun b hb => by
    rw [Below.heap_setCell _ _ _ _ hb, Below.heap_setCell _ _ _ _ hb, Below.heap_setCell _ _ _ _ hb, Below.heap_setCell _ _ _ _ hb]
   have hO4 : Only w.heap.size wr (((((wr.setCell ⟨w.heap.size, 0, none⟩ (.int .i64 (C m).number)).setCell ⟨w.heap.size, 1, none⟩ (.int .i64 (C m).time)).setCell ⟨w.heap.size, 2, none⟩ (.slice (C m).ao (C m).al (C m).ac)).setCell ⟨w.heap.size, 3, none⟩ (.slice (some ⟨sb, 0, none⟩) (j + 1) sc))) := ((((Only.refl _ wr).setCell (p := ⟨w.heap.size, 0, none⟩) (.inl rfl) _).setCell (p := ⟨w.heap.size, 1, none⟩) (.inl rfl) _).setCell (p := ⟨w.heap.size, 2, none⟩) (.inl rfl) _).setCell (p := ⟨w.heap.size, 3, none⟩) (.inl rfl) _
   generalize (((((wr.setCell ⟨w.heap.size, 0, none⟩ (.int .i64 (C m).number)).setCell ⟨w.heap.size, 1, none⟩ (.int .i64 (C m).time)).setCell ⟨w.heap.size, 2, none⟩ (.slice (C m).ao (C m).al (C m).ac)).setCell ⟨w.heap.size, 3, none⟩ (.slice (some ⟨sb, 0, none⟩) (j + 1) sc))) = W4 at hR hoth hO4 ⊢
   obtain ⟨_, ⟨h2, _⟩ | ⟨g', cap', cur, e1, _, e2, _⟩⟩ := hown1
   ·cases h2
   cases e1
   have q0 := cell_at (i := 0) hR rfl
   have q1 := cell_at (i := 1) hR rfl
   have q2 := cell_at (i := 2) hR rfl
   have q3 := cell_at (i := 3) hR rfl
   have hgne : g ≠ w.heap.size := by omega
   refine ⟨rfl, evVal ((C m).withSo sb (j + 1) sc), ?_, sb, sc, cur, rfl, by omega, ⟨hO4.os.trans hon1.os, hO4.tape.trans hon1.tape, hO4.output.trans hon1.output, Nat.le_trans hon1.size hO4.size, fun b hb hbg => (hoth b (by omega)).trans (hon1.block b hb hbg)⟩, (hoth g hgne).trans hrow1, (hoth sb (by omega)).trans e2, ?_⟩
   ·simp [results, Tryz.f132, go_sem, loadVar, evVal, EvC.withSo, q0, q1, q2, q3]
   ·obtain ⟨sb', s1, s2, s3⟩ := hMw.so
    have hse : sb' = sb := by have : some (⟨sb, 0, none⟩ : Addr) = some ⟨sb', 0, none⟩ := s1; simp at this; exact this.symm
    subst hse
    have hats : (workF (backL E m) K (E m).bare).atoms = (E m).atoms := (workF_same (backL E m) K (E m).bare).2.2.1
    refine { hMw with so := ⟨sb', s1, Nat.lt_of_lt_of_le s2 hO4.size, fun q b hq => ?_⟩, atoms := ?_ }
    ·rw [World.cell?_of_block (hoth sb' (by omega))]; exact s3 q b hq
    ·rw [hats]
     intro hne
     obtain ⟨b, off, h1, h2, h3⟩ := HM.out hne
     refine ⟨b, off, h1, Nat.lt_of_lt_of_le h2 (Nat.le_trans hon1.size hO4.size), fun q hq => ?_⟩
     rw [World.cell?_of_block (hoth b (by omega)), World.cell?_of_block (hon1.block b h2 (HMo.out _ h1))]; exact h3 q hq
end Go.Proofs.YtpbbmagjhkakgaaGreatDoor.Ev
namespace Go.Proofs.YtpbbmagjhkakgaaGreatDoor
open Go.RowKit
set_option maxHeartbeats 400000 in
theorem takeF_end (rb tb off n cap : Nat) (pl : Int) (wd : ByteArray) (w : World) (hr : w.heap[rb]? = some (.cells #[.slice (some ⟨tb, off, none⟩) (n + 1) cap] 208 (0, 0)))
    (h0 : w.cell? ⟨tb, off, none⟩ = some (.int .i32 (-1))) (h1 : w.cell? ⟨tb, off + 1, none⟩ = some (.int .i64 pl)) (h2 : w.cell? ⟨tb, off + 2, none⟩ = some (.string wd)) :
    Calls Tryz.prog 154 #[.pointer (some ⟨rb, 0, none⟩)] w fun e w' => e = .returned (.agg #[.int .i32 (-1), .int .i64 pl, .string wd]) ∧ Below w.heap.size w w' := by
  have hc : w.cell? ⟨rb, 0, none⟩ = some (.slice (some ⟨tb, off, none⟩) (n + 1) cap) := cell_at hr rfl
  have hrl : rb < w.heap.size := heap_lt hr
  have htl : tb < w.heap.size := cell_lt h0
  go_enter Tryz.func154, Tryz.ntmps154
  go_wp2
  refine bodyPost_ret (v := .agg #[.int .i32 (-1), .int .i64 pl, .string wd]) (by simp [results, Tryz.results154, go_sem]) rfl ⟨rfl, ?_⟩
  exact ((Below.refl _ _).alloc (Nat.le_refl _) _).alloc (by simp) _
set_option maxHeartbeats 400000 in
theorem take_go (rb tb off n cap : Nat) (sg pl : Int) (wd : ByteArray) (w : World) (hr : w.heap[rb]? = some (.cells #[.slice (some ⟨tb, off, none⟩) (n + 1) cap] 208 (0, 0)))
    (h0 : w.cell? ⟨tb, off, none⟩ = some (.int .i32 sg)) (h1 : w.cell? ⟨tb, off + 1, none⟩ = some (.int .i64 pl)) (h2 : w.cell? ⟨tb, off + 2, none⟩ = some (.string wd)) (hsg : (sg != -1) = true) (hcap : n + 1 ≤ cap) (_hmax : cap ≤ maxLen) (hn : 1 ≤ n) :
    Calls Tryz.prog 154 #[.pointer (some ⟨rb, 0, none⟩)] w fun e w' => e = .returned (.agg #[.int .i32 sg, .int .i64 pl, .string wd]) ∧ Only rb w w' ∧ w'.heap[rb]? = some (.cells #[.slice (some ⟨tb, off + 3, none⟩) n (cap - 1)] 208 (0, 0)) := by
  have hc : w.cell? ⟨rb, 0, none⟩ = some (.slice (some ⟨tb, off, none⟩) (n + 1) cap) := cell_at hr rfl
  have hrl : rb < w.heap.size := heap_lt hr
  have htl : tb < w.heap.size := cell_lt h0
  have hfz : w.frozen? ⟨rb, 0, none⟩ = false := Lib.frozen_of_heap hr 0
  unfold maxLen at _hmax
  go_enter Tryz.func154, Tryz.ntmps154
  go_wp2
  refine bodyPost_ret (v := .agg #[.int .i32 sg, .int .i64 pl, .string wd]) (by simp [results, Tryz.results154, go_sem]) rfl ⟨rfl, ?_, ?_⟩
  · exact (((Only.refl rb w).setCell (p := ⟨rb, 0, none⟩) (.inl rfl) _).alloc _).alloc _
  · rw [Lib.alloc_old _ _ _ (by simp [World.setCell]; omega), Lib.alloc_old _ _ _ (by simp [World.setCell]; omega)]
    simp [World.setCell, Array.getElem?_modify, hr]
theorem take_any (rb : Nat) (ts : List Tok) (w : World) (h : RdAt 208 rb w ts) (he : Ends ts) :
    Calls Tryz.prog 154 #[.pointer (some ⟨rb, 0, none⟩)] w fun e w' => e = .returned (.agg #[.int .i32 (takeF ts).1.sign, .int .i64 (takeF ts).1.place, .string (takeF ts).1.word]) ∧ Only rb w w' ∧ RdAt 208 rb w' (takeF ts).2 := by
  have hl := he.take
  obtain ⟨v, hv, ht⟩ := h
  match ts, he, hl, ht with
  | [], ⟨f, e, hfe, _⟩, _, _ => exact absurd hfe (by simp)
  | t :: r, he, hl, ht =>
    obtain ⟨tb, off, cap, rfl, htb, hcap, hmax, h0, h1, h2, hrest⟩ := toks_head ht
    by_cases hs : t.sign = -1
    · rw [hs] at h0
      refine (takeF_end rb tb off r.length cap t.place t.word w hv h0 h1 h2).mono ?_
      rintro e w' ⟨rfl, hb⟩
      have e1 : takeF (t :: r) = (t, t :: r) := by simp [takeF, hs]
      rw [e1, hs]
      exact ⟨rfl, Only.of_below hb, _, Below.heapOf hb hv, ht.only (Only.of_below hb) (Nat.le_refl _)⟩
    · have e1 : takeF (t :: r) = (t, r) := by simp [takeF, hs]
      have hn : 1 ≤ r.length := by
        obtain ⟨f, e, hfe, hes, _⟩ := he
        cases f with
        | nil => simp at hfe; exact absurd (hfe.1 ▸ hes) hs
        | cons a f => simp at hfe; rw [hfe.2]; simp
      refine (take_go rb tb off r.length cap t.sign t.place t.word w hv h0 h1 h2 (by simp [hs]) hcap hmax hn).mono ?_
      rintro e w' ⟨rfl, ho, hr'⟩
      rw [e1]
      exact ⟨rfl, ho, _, hr', hrest rb w' ho (Nat.le_refl _)⟩
end Go.Proofs.YtpbbmagjhkakgaaGreatDoor
