import Derived.Test.YtpbbmagjhkakgaaGreatDoorEdDelToEvTake3
import Derived.Test.YtpbbmagjhkakgaaGreatDoorLfRestToEvCheck
namespace Go.Proofs.YtpbbmagjhkakgaaGreatDoor.Ev
open Go.RowKit Go.Deep Go.Proofs.YtpbbmagjhkakgaaGreatDoor.Lf
structure SpareR (P : Nat → Prop) (w w' : World) : Prop where
  os : w'.os = w.os
  output : w'.output = w.output
  size : w.heap.size ≤ w'.heap.size
  block : ∀ b, b < w.heap.size → ¬ P b → w'.heap[b]? = w.heap[b]?
theorem SpareR.refl (P : Nat → Prop) (w : World) : SpareR P w w := ⟨rfl, rfl, Nat.le_refl _, fun _ _ _ => rfl⟩
theorem SpareR.trans {P : Nat → Prop} {a b c : World} (h : SpareR P a b) (k : SpareR P b c) : SpareR P a c := ⟨k.os.trans h.os, k.output.trans h.output, Nat.le_trans h.size k.size, fun x hx hp => (k.block x (Nat.lt_of_lt_of_le hx h.size) hp).trans (h.block x hx hp)⟩
theorem SpareR.of_below {P : Nat → Prop} {a b : World} (h : Below a.heap.size a b) : SpareR P a b := ⟨h.os, h.output, h.size, fun x hx _ => h.block x hx⟩
theorem SpareR.of_spare {P : Nat → Prop} {a b : World} (h : Spare P a b) : SpareR P a b := ⟨h.os, h.output, h.size, h.block⟩
theorem SpareR.mono {P Q : Nat → Prop} {a b : World} (h : SpareR P a b) (hP : ∀ x, x < a.heap.size → P x → Q x) : SpareR Q a b := ⟨h.os, h.output, h.size, fun x hx hq => h.block x hx fun e => hq (hP x hx e)⟩
theorem SpareR.tapeR {P : Nat → Prop} {a b : World} (h : SpareR P a b) (τ : Tape) (d : Nat) : SpareR P a (re b τ d) := ⟨h.os, h.output, h.size, h.block⟩
theorem SpareR.tape0 {P : Nat → Prop} {a b : World} {τ : Tape} {d : Nat} (h : SpareR P (re a τ d) b) : SpareR P a b := ⟨h.os, h.output, h.size, h.block⟩
structure WatchAt (w : World) (wtb : Nat) (retain room : Int) (no : Option Addr) (ncap : Nat) (K : List Key) (ea : Option Addr) (ecap : Nat) (C : List EvC) (E : List Pe) (pa : Option Addr) (pcap : Nat) (ps : List Pol) (ss : List Strm) : Prop where
  cell : w.heap[wtb]? = some (.cells #[.int .i64 retain, .int .i64 room, .slice no K.length ncap, .slice ea C.length ecap, .slice pa ps.length pcap] 153 (0, 0))
  evs : EvsAt w (.slice ea C.length ecap) C
  len : C.length = E.length
  ins : ∀ (i : Nat) c e, C[i]? = some c → E[i]? = some e → EvIn w c e
  typed : ∀ c ∈ C, EvT w c
  few : C.length ≤ 1000
  ret : 0 ≤ retain ∧ retain ≤ 1000000000
  nums : ∀ c, C.getLast? = some c → 0 ≤ c.number ∧ c.number ≤ 1000000000
  nfew : K.length ≤ 1000
  ncp : K.length ≤ ncap
  nodes : NodesIn w no K
  ntyped : ∀ a, no = some a → ∃ cs m, w.heap[a.block]? = some (.cells cs 226 m)
  core : ∀ k ∈ K, CoreOp k.op
  ahead : Ahead K
  rows : ∀ e ∈ E, e.so.length = K.length + 1
  pols : PolsIn w pa pcap ps
  pfew : ps.length ≤ 1000
  pcp : ps.length ≤ pcap
  plen : ss.length = ps.length
  pstr : ∀ (i : Nat) (s : Strm) (p : Pol), ss[i]? = some s → ps[i]? = some p → p.strm = some ⟨s.stb, 0, none⟩
  sok : ∀ s ∈ ss, StrOK w s
  apart : Apart ss
  pnode : ∀ p ∈ ps, p.node ≤ K.length
theorem EvIn.tapeR {w : World} {c : EvC} {e : Pe} (h : EvIn w c e) (τ : Tape) (d : Nat) : EvIn (re w τ d) c e :=
  ⟨h.number, h.time, h.low, h.sl, h.slen, h.so, h.al, h.alen, h.atoms⟩
theorem WatchAt.tapeR {w : World} {wtb : Nat} {retain room : Int} {no : Option Addr} {ncap : Nat} {K : List Key} {ea : Option Addr} {ecap : Nat} {C : List EvC} {E : List Pe} {pa : Option Addr} {pcap : Nat} {ps : List Pol} {ss : List Strm} (h : WatchAt w wtb retain room no ncap K ea ecap C E pa pcap ps ss) (τ : Tape) (d : Nat) : WatchAt (re w τ d) wtb retain room no ncap K ea ecap C E pa pcap ps ss :=
  ⟨h.cell, h.evs, h.len, fun i c e h1 h2 => (h.ins i c e h1 h2).tapeR τ d, fun c hc => ⟨(h.typed c hc).so, (h.typed c hc).ao⟩, h.few, h.ret, h.nums, h.nfew, h.ncp, h.nodes, h.ntyped, h.core, h.ahead, h.rows, h.pols, h.pfew, h.pcp, h.plen, h.pstr, h.sok, h.apart, h.pnode⟩
def Own46 (wtb : Nat) (ea : Option Addr) (ss : List Strm) (b : Nat) : Prop := b = wtb ∨ (∃ a, ea = some a ∧ a.block = b) ∨ Ms ss b
end Go.Proofs.YtpbbmagjhkakgaaGreatDoor.Ev
namespace Go.Proofs.YtpbbmagjhkakgaaGreatDoor.Ev
open Go.RowKit Go.Deep Go.Proofs.YtpbbmagjhkakgaaGreatDoor.Lf Go.Conc
def Kinds (w : World) (P : Nat → Prop) (ts : List TypeId) : Prop := ∀ b cs t m, w.heap[b]? = some (.cells cs t m) → t ∈ ts → ¬ P b
theorem Kinds.none (w : World) (ts : List TypeId) : Kinds w (fun _ => False) ts := fun _ _ _ _ _ _ h => h
theorem Kinds.less {w : World} {P : Nat → Prop} {ts ts' : List TypeId} (h : Kinds w P ts) (hs : ∀ t ∈ ts', t ∈ ts) : Kinds w P ts' := fun b cs t m h1 h2 => h b cs t m h1 (hs t h2)
section
variable {w w' : World} {P : Nat → Prop}
theorem SpareR.spare (h : SpareR P w w') : Spare P w (re w' w.tape w'.drawn) := ⟨h.os, rfl, h.output, h.size, h.block⟩
theorem EvIn.move {c : EvC} {e : Pe} (h : EvIn w c e) (ht : EvT w c) (hs : SpareR P w w') (hk : Kinds w P [4, 9]) : EvIn w' c e := by
  have := h.spare hs.spare (fun a ha => by obtain ⟨cs, m, k⟩ := ht.so a ha; exact hk _ _ _ _ k (by simp)) (fun a ha => by obtain ⟨cs, m, k⟩ := ht.ao a ha; exact hk _ _ _ _ k (by simp))
  exact ⟨this.number, this.time, this.low, this.sl, this.slen, this.so, this.al, this.alen, this.atoms⟩
theorem EvT.move {c : EvC} (ht : EvT w c) (hs : SpareR P w w') (hk : Kinds w P [4, 9]) : EvT w' c := by
  have := ht.spare hs.spare (fun a ha => by obtain ⟨cs, m, k⟩ := ht.so a ha; exact hk _ _ _ _ k (by simp)) (fun a ha => by obtain ⟨cs, m, k⟩ := ht.ao a ha; exact hk _ _ _ _ k (by simp))
  exact ⟨this.so, this.ao⟩
theorem SpareR.get (hs : SpareR P w w') {b : Nat} {o : Obj} (h : w.heap[b]? = some o) (hp : ¬ P b) : w'.heap[b]? = some o := (hs.block b (heap_lt h) hp).trans h
theorem NodesIn.move {no : Option Addr} {K : List Key} (h : NodesIn w no K) (ht : ∀ a, no = some a → ∃ cs m, w.heap[a.block]? = some (.cells cs 226 m)) (hs : SpareR P w w') (hk : Kinds w P [226]) : NodesIn w' no K := by
  have := h.spare hs.spare (fun a ha => by obtain ⟨cs, m, k⟩ := ht a ha; exact hk _ _ _ _ k (by simp))
  exact this
theorem typed.move {no : Option Addr} {t : TypeId} (ht : ∀ a, no = some a → ∃ cs m, w.heap[a.block]? = some (.cells cs t m)) (hs : SpareR P w w') (hk : Kinds w P [t]) : ∀ a, no = some a → ∃ cs m, w'.heap[a.block]? = some (.cells cs t m) := fun a ha => by
  obtain ⟨cs, m, k⟩ := ht a ha
  exact ⟨cs, m, hs.get k (hk _ _ _ _ k (by simp))⟩
theorem PolsIn.move {pa : Option Addr} {pcap : Nat} {ps : List Pol} (h : PolsIn w pa pcap ps) (hs : SpareR P w w') (hk : Kinds w P [183]) : PolsIn w' pa pcap ps := by
  rcases h with h | ⟨pb, po, parr, mp, h1, h2, h3⟩
  · exact .inl h
  · exact .inr ⟨pb, po, parr, mp, h1, hs.get h2 (hk _ _ _ _ h2 (by simp)), h3⟩
theorem StrOK.move {s : Strm} (h : StrOK w s) (hs : SpareR P w w') (hk : Kinds w P [177, 59]) : StrOK w' s := by
  refine h.heap fun b hb hm => hs.block b hb ?_
  rcases hm with rfl | hm
  · exact hk _ _ _ _ h.1 (by simp)
  · obtain ⟨_, ⟨h2, _⟩ | ⟨g, cp, cur, e1, _, e2, _⟩⟩ := h.2
    · rw [h2] at hm; cases hm
    · rw [e1] at hm; cases hm; exact hk _ _ _ _ e2 (by simp)
theorem EvsAt.move {ev : Value} {C : List EvC} (h : EvsAt w ev C) (hs : SpareR P w w') (hk : Kinds w P [159]) : EvsAt w' ev C :=
  own_heap h fun b hb => hs.block b (h.lt b hb).2 (by obtain ⟨cur, hc⟩ := own_tag h hb; exact hk _ _ _ _ hc (by simp))
theorem StrsIn.move {ao : Option Addr} {A : List ByteArray} (h : StrsIn w ao A) (hs : SpareR (fun _ => False) w w') : StrsIn w' ao A := fun hne => by
  obtain ⟨b, off, h1, h2, h3⟩ := h hne
  exact ⟨b, off, h1, Nat.lt_of_lt_of_le h2 hs.size, fun j hj => by rw [World.cell?_of_block (hs.block b h2 (fun x => x))]; exact h3 j hj⟩
theorem WatchAt.move {wtb : Nat} {retain room : Int} {no : Option Addr} {ncap : Nat} {K : List Key} {ea : Option Addr} {ecap : Nat} {C : List EvC} {E : List Pe} {pa : Option Addr} {pcap : Nat} {ps : List Pol} {ss : List Strm} (h : WatchAt w wtb retain room no ncap K ea ecap C E pa pcap ps ss) (hs : SpareR P w w') (hk : Kinds w P [4, 9, 226, 183, 177, 59, 159, 153]) : WatchAt w' wtb retain room no ncap K ea ecap C E pa pcap ps ss :=
  { h with
    cell := hs.get h.cell (hk _ _ _ _ h.cell (by simp))
    evs := h.evs.move hs (hk.less (by simp))
    ins := fun i c e h1 h2 => (h.ins i c e h1 h2).move (h.typed c (List.mem_of_getElem? h1)) hs (hk.less (by simp))
    typed := fun c hc => (h.typed c hc).move hs (hk.less (by simp))
    nodes := h.nodes.move h.ntyped hs (hk.less (by simp))
    ntyped := typed.move h.ntyped hs (hk.less (by simp))
    pols := PolsIn.move h.pols hs (hk.less (by simp))
    sok := fun s hs' => StrOK.move (h.sok s hs') hs (hk.less (by simp)) }
end
theorem polsAt_says {parr : Array Value} {po : Nat} {ps : List Pol} (f : Pol → Bool) (h : PolsAt parr po ps) : PolsAt parr po (ps.map fun p => { p with v := f p }) := fun j p hp => by
  simp at hp
  obtain ⟨q, hq, rfl⟩ := hp
  exact h j q hq
theorem polsIn_says {w : World} {pa : Option Addr} {pcap : Nat} {ps : List Pol} (f : Pol → Bool) (h : PolsIn w pa pcap ps) : PolsIn w pa pcap (ps.map fun p => { p with v := f p }) := by
  rcases h with ⟨h1, h2, h3⟩ | ⟨pb, po, parr, mp, h1, h2, h3⟩
  · exact .inl ⟨h1, by rw [h2]; rfl, h3⟩
  · exact .inr ⟨pb, po, parr, mp, h1, h2, polsAt_says f h3⟩
end Go.Proofs.YtpbbmagjhkakgaaGreatDoor.Ev
namespace Go.Proofs.YtpbbmagjhkakgaaGreatDoor.Ev
open Go.RowKit Go.Deep
set_option maxRecDepth 100000 in
set_option maxHeartbeats 8000000 in
theorem region5_drop (Q : Exit → Act → World → Prop) (hQ : ∀ c a d v w, Q (.panic c) (Act.put a d v) w → Q (.panic c) a w) (wtb nx : Nat) (retain : Int) (rm nvv : Value) (g : Nat) (ecap : Nat) (pv : Value) (C : List EvC) (num time : Int) (ao2 : Option Addr) (al2 ac2 : Nat) (W : World) (x2 x3 x4 x5 x6 x8 x9 x10 x11 x12 x13 x14 x15 x16 x17 x18 x19 x20 x21 x22 x23 x24 x25 x26 x27 x28 x29 x30 u31 u32 u33 u34 u35 u36 u37 u38 u39 u40 u41 u42 u43 u44 u45 u46 u47 u48 u49 u50 u51 u52 u53 : Value)
    (hw : W.heap[wtb]? = some (.cells #[.int .i64 retain, rm, nvv, .slice (some ⟨g, 0, none⟩) C.length ecap, pv] 153 (0, 0))) (hE : EvsAt W (.slice (some ⟨g, 0, none⟩) C.length ecap) C) (hn : C.length ≤ 1000) (ht : 0 ≤ time ∧ time ≤ 1000000000000) (hr : 0 ≤ retain ∧ retain ≤ 1000000000) (k : Nat) (hold : oldF (time - retain) C = k) (hk0 : 0 < k) (hkn : k ≤ C.length)
    (hnx : W.heap[nx]? = some (.cells #[.int .i64 num, .int .i64 time, .slice ao2 al2 ac2, .slice none 0 0] 159 (0, 0))) (hnxe : (Value.slice (some ⟨g, 0, none⟩) C.length ecap).ownBlock ≠ some nx)
    (hK : ∀ (ev' : Value) (W' : World) (v41 : Value), W'.heap[wtb]? = some (.cells #[.int .i64 retain, rm, nvv, ev', pv] 153 (0, 0)) → EvsAt W' ev' (C.drop k ++ [(⟨num, time, ao2, al2, ac2, none, 0, 0⟩ : EvC)]) → Spare (fun b => b = wtb ∨ (Value.slice (some ⟨g, 0, none⟩) C.length ecap).ownBlock = some b) W W' → (∀ b, ev'.ownBlock = some b → (Value.slice (some ⟨g, 0, none⟩) C.length ecap).ownBlock = some b ∨ W.heap.size ≤ b) →
      Q .normal ⟨#[(.pointer (some ⟨wtb, 0, none⟩)), (.int .i64 time), x2, x3, x4, x5, x6, (.pointer (some ⟨nx, 0, none⟩)), x8, x9, x10, x11, x12, x13, x14, x15, x16, x17, x18, x19, x20, x21, x22, x23, x24, x25, x26, x27, x28, x29, x30, (.pointer (some ⟨wtb, 0, none⟩)), (.pointer (some ⟨wtb, 0, none⟩)), (.pointer (some ⟨wtb, 0, none⟩)), (.pointer (some ⟨wtb, 3, none⟩)), (.slice (some ⟨g, 0, none⟩) C.length ecap), (.pointer (some ⟨wtb, 0, none⟩)), (.int .i64 time), (.int .i64 (k : Int)), (.slice (some ⟨g, 0, none⟩) (C.length - k) ecap), (.agg #[.int .i64 num, .int .i64 time, .slice ao2 al2 ac2, .slice none 0 0]), v41, ev', (.pointer (some ⟨wtb, 0, none⟩)), (.pointer (some ⟨wtb, 3, none⟩)), u45, u46, u47, u48, u49, u50, u51, u52, u53], []⟩ W') :
    (Code.region 5 opsT5 true).wp Tryz.prog Q ⟨#[(.pointer (some ⟨wtb, 0, none⟩)), (.int .i64 time), x2, x3, x4, x5, x6, (.pointer (some ⟨nx, 0, none⟩)), x8, x9, x10, x11, x12, x13, x14, x15, x16, x17, x18, x19, x20, x21, x22, x23, x24, x25, x26, x27, x28, x29, x30, u31, u32, u33, u34, u35, u36, u37, u38, u39, u40, u41, u42, u43, u44, u45, u46, u47, u48, u49, u50, u51, u52, u53], []⟩ W := by
  have hlt := heap_lt hw
  have hnl := heap_lt hnx
  obtain ⟨i0, hi, hz0, hz1, hz2⟩ := info_parts infoEvent
  have HO : Hid (∀ w', Below W.heap.size W w' → Calls Tryz.prog 131 #[.pointer (some ⟨wtb, 0, none⟩), .int .i64 time] w' fun e w'' => e = .returned (.int .i64 (k : Int)) ∧ Below w'.heap.size w' w'') := fun w' hb => by
    have := old_any wtb retain rm nvv (.slice (some ⟨g, 0, none⟩) C.length ecap) pv C time w' (hb.heapOf hw) (hE.below hb) (by omega) ht hr
    rw [hold] at this
    exact this
  have Hst : Hid (∀ w', Below W.heap.size W w' → (fun w' => w'.cell? ⟨wtb, 3, none⟩ = some (.slice (some ⟨g, 0, none⟩) C.length ecap) ∧ w'.cell? ⟨nx, 0, none⟩ = some (.int .i64 num) ∧ w'.cell? ⟨nx, 1, none⟩ = some (.int .i64 time) ∧ w'.cell? ⟨nx, 2, none⟩ = some (.slice ao2 al2 ac2) ∧ w'.cell? ⟨nx, 3, none⟩ = some (.slice none 0 0)) w') := fun w' hb => ⟨cell_at (hb.heapOf hw) rfl, cell_at (hb.heapOf hnx) rfl, cell_at (hb.heapOf hnx) rfl, cell_at (hb.heapOf hnx) rfl, cell_at (hb.heapOf hnx) rfl⟩
  have HstH : Hid (∀ w' : World, w'.heap[wtb]? = some (.cells #[.int .i64 retain, rm, nvv, .slice (some ⟨g, 0, none⟩) C.length ecap, pv] 153 (0, 0)) → w'.heap[nx]? = some (.cells #[.int .i64 num, .int .i64 time, .slice ao2 al2 ac2, .slice none 0 0] 159 (0, 0)) → (fun w' => w'.cell? ⟨wtb, 3, none⟩ = some (.slice (some ⟨g, 0, none⟩) C.length ecap) ∧ w'.cell? ⟨nx, 0, none⟩ = some (.int .i64 num) ∧ w'.cell? ⟨nx, 1, none⟩ = some (.int .i64 time) ∧ w'.cell? ⟨nx, 2, none⟩ = some (.slice ao2 al2 ac2) ∧ w'.cell? ⟨nx, 3, none⟩ = some (.slice none 0 0)) w') := fun w' h1 h2 => ⟨cell_at h1 rfl, cell_at h2 rfl, cell_at h2 rfl, cell_at h2 rfl, cell_at h2 rfl⟩
  have hgl : g < W.heap.size := (hE.lt g rfl).2
  have hwg : wtb ≠ g := by
    intro e
    obtain ⟨cs, h1⟩ := own_tag hE (g := g) rfl
    rw [← e, hw] at h1
    cases h1
  have hng : nx ≠ g := fun e => hnxe (by rw [e]; rfl)
  have after : ∀ (w1 wd : World), Below W.heap.size W w1 → Only g w1 wd → wd.heap[wtb]? = some (.cells #[.int .i64 retain, rm, nvv, .slice (some ⟨g, 0, none⟩) C.length ecap, pv] 153 (0, 0)) ∧ wd.heap[nx]? = some (.cells #[.int .i64 num, .int .i64 time, .slice ao2 al2 ac2, .slice none 0 0] 159 (0, 0)) ∧ Spare (fun b => b = wtb ∨ (Value.slice (some ⟨g, 0, none⟩) C.length ecap).ownBlock = some b) W wd := fun w1 wd hb ho =>
    ⟨(ho.block wtb (heap_lt (hb.heapOf hw)) hwg).trans (hb.heapOf hw), (ho.block nx (heap_lt (hb.heapOf hnx)) hng).trans (hb.heapOf hnx), (Spare.of_below hb).trans (Spare.of_only ho (fun x hx => .inr (by rw [hx]; rfl)))⟩
  replace after : Hid _ := after
  have hS0 := Hst.out _ (Below.refl _ W).drew
  have tail5 : ∀ (V : World) (sl : Nat), V.heap[wtb]? = some (.cells #[.int .i64 retain, rm, nvv, .slice (some ⟨g, 0, none⟩) C.length ecap, pv] 153 (0, 0)) → V.heap[nx]? = some (.cells #[.int .i64 num, .int .i64 time, .slice ao2 al2 ac2, .slice none 0 0] 159 (0, 0)) → EvsAt V (.slice (some ⟨g, 0, none⟩) (C.length - k) ecap) (C.drop k) → Spare (fun b => b = wtb ∨ (Value.slice (some ⟨g, 0, none⟩) C.length ecap).ownBlock = some b) W V → (∀ j u, (evCells (⟨num, time, ao2, al2, ac2, none, 0, 0⟩ : EvC))[j]? = some u → V.cell? ((⟨sl, 0, none⟩ : Addr).add j) = some u) →
      AnyF Tryz.prog .any opsT5 Q (fun w' => w'.cell? ⟨wtb, 3, none⟩ = some (.slice (some ⟨g, 0, none⟩) C.length ecap) ∧ w'.cell? ⟨nx, 0, none⟩ = some (.int .i64 num) ∧ w'.cell? ⟨nx, 1, none⟩ = some (.int .i64 time) ∧ w'.cell? ⟨nx, 2, none⟩ = some (.slice ao2 al2 ac2) ∧ w'.cell? ⟨nx, 3, none⟩ = some (.slice none 0 0)) 14 4 #[true, true, true, true, true, true, true, true, true, true, true, false, false, false, false] ⟨#[(.pointer (some ⟨wtb, 0, none⟩)), (.int .i64 time), x2, x3, x4, x5, x6, (.pointer (some ⟨nx, 0, none⟩)), x8, x9, x10, x11, x12, x13, x14, x15, x16, x17, x18, x19, x20, x21, x22, x23, x24, x25, x26, x27, x28, x29, x30, (.pointer (some ⟨wtb, 0, none⟩)), (.pointer (some ⟨wtb, 0, none⟩)), (.pointer (some ⟨wtb, 0, none⟩)), (.pointer (some ⟨wtb, 3, none⟩)), (.slice (some ⟨g, 0, none⟩) C.length ecap), (.pointer (some ⟨wtb, 0, none⟩)), (.int .i64 time), (.int .i64 (k : Int)), (.slice (some ⟨g, 0, none⟩) (C.length - k) ecap), (.agg #[.int .i64 num, .int .i64 time, .slice ao2 al2 ac2, .slice none 0 0]), (.slice (some ⟨sl, 0, none⟩) 1 1), u42, u43, u44, u45, u46, u47, u48, u49, u50, u51, u52, u53], []⟩ V := by
    intro V sl hwV hnV hEV hspV hcell
    have hEV' : V.ownsRow 0 159 4 (.slice (some ⟨g, 0, none⟩) (C.length - k) ecap) (C.length - k) (flatE (C.drop k)) := by
      have := hEV
      unfold EvsAt at this
      rw [List.length_drop] at this
      exact this
    simp only [opsT5, body87, Tryz.f87, Option.getD_some]
    refine AnyF.one (i := 11) (by decide +kernel) rfl (by rfl) (wp_append_own (.tmp 39) (.tmp 41) 146 rfl 0 159 i0 _ 4 64 Tryz.underlying146 hi hz0 hz1 hz2 rfl (by decide) (.slice (some ⟨g, 0, none⟩) (C.length - k) ecap) (C.length - k) (flatE (C.drop k)) rfl hEV' ⟨sl, 0, none⟩ 1 1 (evCells (⟨num, time, ao2, al2, ac2, none, 0, 0⟩ : EvC)) rfl rfl hcell (evOne _) (by unfold maxLen; omega) (by omega) (Nat.zero_le _) ?_)
    intro v' w2 hown' hgrow hor
    obtain ⟨g2, c2, rfl⟩ := ownsRow_succ hown'
    have hneV : ∀ b, (Value.slice (some ⟨g, 0, none⟩) C.length ecap).ownBlock = some b → ∃ cs, V.heap[b]? = some (.cells cs 159 (0, 0)) := fun b hb => own_tag hEV hb
    have hwt2 : w2.heap[wtb]? = some (.cells #[.int .i64 retain, rm, nvv, .slice (some ⟨g, 0, none⟩) C.length ecap, pv] 153 (0, 0)) := by
      rw [hgrow.block wtb (heap_lt hwV) (fun e => by obtain ⟨cs, h1⟩ := hneV wtb e.symm; rw [hwV] at h1; cases h1)]; exact hwV
    have hc3 : w2.cell? ⟨wtb, 3, none⟩ = some (.slice (some ⟨g, 0, none⟩) C.length ecap) := cell_at hwt2 rfl
    have hf3 : w2.frozen? ⟨wtb, 3, none⟩ = false := Lib.frozen_of_heap hwt2 _
    have hnx2 : w2.heap[nx]? = some (.cells #[.int .i64 num, .int .i64 time, .slice ao2 al2 ac2, .slice none 0 0] 159 (0, 0)) := by
      rw [hgrow.block nx (heap_lt hnV) (fun e => hnxe e.symm)]; exact hnV
    have hS2 : (fun w' => w'.cell? ⟨wtb, 3, none⟩ = some (.slice (some ⟨g, 0, none⟩) C.length ecap) ∧ w'.cell? ⟨nx, 0, none⟩ = some (.int .i64 num) ∧ w'.cell? ⟨nx, 1, none⟩ = some (.int .i64 time) ∧ w'.cell? ⟨nx, 2, none⟩ = some (.slice ao2 al2 ac2) ∧ w'.cell? ⟨nx, 3, none⟩ = some (.slice none 0 0)) w2 := ⟨hc3, cell_at hnx2 rfl, cell_at hnx2 rfl, cell_at hnx2 rfl, cell_at hnx2 rfl⟩
    refine ⟨fun _ => hS2, ?_⟩
    try walk_nrm
    refine AnyF.op (i := 12) (by decide +kernel) rfl (by rfl) (fun K' hK' => ?_)
    unfold Oper.wp
    go_simp
    refine hK' _ _ ⟨fun _ => hS2, ?_⟩
    clear hK' K'
    try walk_nrm
    refine AnyF.op (i := 13) (by decide +kernel) rfl (by rfl) (fun K' hK' => ?_)
    unfold Oper.wp
    go_simp
    refine hK' _ _ ⟨fun _ => hS2, ?_⟩
    clear hK' K'
    try walk_nrm
    refine AnyF.op (i := 14) (by decide +kernel) rfl (by rfl) (fun K' hK' => ?_)
    unfold Oper.wp
    go_simp
    refine hK' _ _ ⟨fun x => absurd rfl x, ?_⟩
    clear hK' K'
    refine AnyF.done (by decide +kernel) ?_ _
    try walk_nrm
    have hg2 : g2 ≠ wtb := by
      rintro rfl
      obtain ⟨_, ⟨h2, _⟩ | ⟨g', cap', cur, e1, _, e2, _⟩⟩ := hown'
      · cases h2
      · cases e1; rw [hwt2] at e2; cases e2
    refine hK (.slice (some ⟨g2, 0, none⟩) (C.length - k + 1) c2) _ _ (set_heap (i := 3) hwt2) ?_ ?_ ?_
    · show World.ownsRow _ 0 159 4 _ _ _
      have el : (C.drop k ++ [(⟨num, time, ao2, al2, ac2, none, 0, 0⟩ : EvC)]).length = C.length - k + 1 := by simp
      rw [el, flatE_snoc]
      exact own_heap hown' fun b hbb => Below.heap_setCell _ _ _ _ (by cases hbb; exact hg2)
    · have s1 : Spare (fun b => b = wtb ∨ (Value.slice (some ⟨g, 0, none⟩) C.length ecap).ownBlock = some b) W w2 := hspV.trans (Spare.of_grown hgrow (fun x hx => .inr hx))
      exact s1.trans (Spare.of_only ((Only.refl wtb w2).setCell (p := ⟨wtb, 3, none⟩) (.inl rfl) _) (fun x hx => .inl hx))
    · intro b hb
      rcases hor with e | e
      · exact .inl (e ▸ hb)
      · rw [e] at hb; cases hb; exact .inr hspV.size
  simp only [opsT5, body87, Tryz.f87, Option.getD_some] at tail5 ⊢
  refine AnyF.begin (S := (fun w' => w'.cell? ⟨wtb, 3, none⟩ = some (.slice (some ⟨g, 0, none⟩) C.length ecap) ∧ w'.cell? ⟨nx, 0, none⟩ = some (.int .i64 num) ∧ w'.cell? ⟨nx, 1, none⟩ = some (.int .i64 time) ∧ w'.cell? ⟨nx, 2, none⟩ = some (.slice ao2 al2 ac2) ∧ w'.cell? ⟨nx, 3, none⟩ = some (.slice none 0 0))) (fin := 14) (by kernel_rfl) ?_
  simp only [List.size_toArray, List.length_cons, List.length_nil, Nat.reduceAdd, Nat.zero_add]
  refine AnyF.take 0 (v := ?vq0) rfl (by decide +kernel) (by decide +kernel) (by decide +kernel) (by decide +kernel) (fun c a w h => hQ c a _ _ w h) (by rfl) (fun w' hS => Go.Conc.run_eq_of ?rq0) hS0 ?_
  case rq0 =>
    intro K' hK'
    obtain ⟨y1, y2, y3, y4, y5⟩ := hS
    go_simp
    exact hK'
  try walk_nrm
  refine AnyF.take 1 (v := ?vq1) rfl (by decide +kernel) (by decide +kernel) (by decide +kernel) (by decide +kernel) (fun c a w h => hQ c a _ _ w h) (by rfl) (fun w' hS => Go.Conc.run_eq_of ?rq1) hS0 ?_
  case rq1 =>
    intro K' hK'
    obtain ⟨y1, y2, y3, y4, y5⟩ := hS
    go_simp
    exact hK'
  try walk_nrm
  refine AnyF.take 2 (v := ?vq2) rfl (by decide +kernel) (by decide +kernel) (by decide +kernel) (by decide +kernel) (fun c a w h => hQ c a _ _ w h) (by rfl) (fun w' hS => Go.Conc.run_eq_of ?rq2) hS0 ?_
  case rq2 =>
    intro K' hK'
    obtain ⟨y1, y2, y3, y4, y5⟩ := hS
    go_simp
    exact hK'
  try walk_nrm
  refine AnyF.take 3 (v := ?vq3) rfl (by decide +kernel) (by decide +kernel) (by decide +kernel) (by decide +kernel) (fun c a w h => hQ c a _ _ w h) (by rfl) (fun w' hS => Go.Conc.run_eq_of ?rq3) hS0 ?_
  case rq3 =>
    intro K' hK'
    obtain ⟨y1, y2, y3, y4, y5⟩ := hS
    go_simp
    exact hK'
  try walk_nrm
  refine AnyF.take 4 (v := ?vq4) rfl (by decide +kernel) (by decide +kernel) (by decide +kernel) (by decide +kernel) (fun c a w h => hQ c a _ _ w h) (by rfl) (fun w' hS => Go.Conc.run_eq_of ?rq4) hS0 ?_
  case rq4 =>
    intro K' hK'
    obtain ⟨y1, y2, y3, y4, y5⟩ := hS
    go_simp
    exact hK'
  try walk_nrm
  refine AnyF.take 5 (v := ?vq5) rfl (by decide +kernel) (by decide +kernel) (by decide +kernel) (by decide +kernel) (fun c a w h => hQ c a _ _ w h) (by rfl) (fun w' hS => Go.Conc.run_eq_of ?rq5) hS0 ?_
  case rq5 =>
    intro K' hK'
    obtain ⟨y1, y2, y3, y4, y5⟩ := hS
    go_simp
    exact hK'
  try walk_nrm
  refine AnyF.take 6 (v := ?vq6) rfl (by decide +kernel) (by decide +kernel) (by decide +kernel) (by decide +kernel) (fun c a w h => hQ c a _ _ w h) (by rfl) (fun w' hS => Go.Conc.run_eq_of ?rq6) hS0 ?_
  case rq6 =>
    intro K' hK'
    obtain ⟨y1, y2, y3, y4, y5⟩ := hS
    go_simp
    exact hK'
  try walk_nrm
  refine AnyF.take 9 (v := ?vq9) rfl (by decide +kernel) (by decide +kernel) (by decide +kernel) (by decide +kernel) (fun c a w h => hQ c a _ _ w h) (by rfl) (fun w' hS => Go.Conc.run_eq_of ?rq9) hS0 ?_
  case rq9 =>
    intro K' hK'
    obtain ⟨y1, y2, y3, y4, y5⟩ := hS
    go_simp
    exact hK'
  try walk_nrm
  refine AnyF.two (i := 7) (j := 10) (by decide +kernel) rfl (by rfl) rfl (by rfl) (fun K' hK' => ?_) (fun K' hK' => ?_)
  · unfold Oper.wp
    rw [Go.Conc.run_call_body (f := 131) (args := #[.tmp 36, .tmp 37]) (ats := #[232, 3]) rfl Tryz.func131 (by decide) rfl]
    simp only [Oper.upon, List.map_toArray, List.map_cons, List.map_nil]
    change Calls Tryz.prog 131 #[.pointer (some ⟨wtb, 0, none⟩), .int .i64 time] W.drew _
    refine (HO.out W.drew (Below.refl W.heap.size W).drew).mono ?_
    rintro e w1 ⟨rfl, hb1⟩
    replace hb1 : Below W.heap.size W w1 := ((Below.refl W.heap.size W).drew).trans (hb1.mono ((Below.refl W.heap.size W).drew).size)
    refine hK' _ _ ⟨fun _ => Hst.out _ hb1, ?_⟩
    clear hK' K'
    try walk_nrm
    refine AnyF.two (i := 8) (j := 10) (by decide +kernel) rfl (by rfl) rfl (by rfl) (fun K' hK' => ?_) (fun K' hK' => ?_)
    · unfold Oper.wp
      rw [Go.Conc.run_call_body (f := 130) (args := #[.tmp 35, .const (.int .i64 0), .tmp 38]) (ats := #[146, 3, 3]) rfl Tryz.func130 (by decide) rfl]
      simp only [Oper.upon, List.map_toArray, List.map_cons, List.map_nil]
      change Calls Tryz.prog 130 #[.slice (some ⟨g, 0, none⟩) C.length ecap, .int .i64 0, .int .i64 (k : Int)] w1 _
      refine (delete_any g ecap k C w1 (hE.below hb1) hk0 hkn hn).mono ?_
      rintro e wd ⟨rfl, hEd, hOd⟩
      obtain ⟨hd1, hd2, hd3⟩ := after.out w1 wd hb1 hOd
      refine hK' _ _ ⟨fun _ => HstH.out _ hd1 hd2, ?_⟩
      clear hK' K'
      try walk_nrm
      refine AnyF.op (i := 10) (by decide +kernel) rfl (by rfl) (fun K' hK' => ?_)
      unfold Oper.wp
      go_simp
      have hba := fun o => (Below.refl wd.heap.size wd).al o
      refine hK' _ _ ⟨fun _ => HstH.out _ ((hba _).heapOf hd1) ((hba _).heapOf hd2), ?_⟩
      clear hK' K'
      try walk_nrm
      exact tail5 _ wd.heap.size ((hba _).heapOf hd1) ((hba _).heapOf hd2) (hEd.below (hba _)) (hd3.trans (Spare.of_below (hba _))) (cells_four_new wd (⟨num, time, ao2, al2, ac2, none, 0, 0⟩ : EvC) 159)
    · unfold Oper.wp
      go_simp
      refine hK' _ _ ⟨fun _ => Hst.out _ ((hb1).al _), ?_⟩
      clear hK' K'
      try walk_nrm
      refine AnyF.op (i := 8) (by decide +kernel) rfl (by rfl) (fun K' hK' => ?_)
      unfold Oper.wp
      rw [Go.Conc.run_call_body (f := 130) (args := #[.tmp 35, .const (.int .i64 0), .tmp 38]) (ats := #[146, 3, 3]) rfl Tryz.func130 (by decide) rfl]
      simp only [Oper.upon, List.map_toArray, List.map_cons, List.map_nil]
      change Calls Tryz.prog 130 #[.slice (some ⟨g, 0, none⟩) C.length ecap, .int .i64 0, .int .i64 (k : Int)] (w1.alloc (.cells #[.int .i64 num, .int .i64 time, .slice ao2 al2 ac2, .slice none 0 0] 159)) _
      refine (delete_any g ecap k C (w1.alloc (.cells #[.int .i64 num, .int .i64 time, .slice ao2 al2 ac2, .slice none 0 0] 159)) (hE.below (hb1.al _)) hk0 hkn hn).mono ?_
      rintro e wd ⟨rfl, hEd, hOd⟩
      obtain ⟨hd1, hd2, hd3⟩ := after.out (w1.alloc (.cells #[.int .i64 num, .int .i64 time, .slice ao2 al2 ac2, .slice none 0 0] 159)) wd (hb1.al _) hOd
      refine hK' _ _ ⟨fun _ => HstH.out _ hd1 hd2, ?_⟩
      clear hK' K'
      try walk_nrm
      refine tail5 _ w1.heap.size hd1 hd2 hEd hd3 (fun j u hj => ?_)
      have h1 := cells_four_new w1 (⟨num, time, ao2, al2, ac2, none, 0, 0⟩ : EvC) 159 j u hj
      have hs1 := hb1.size
      have e1 : (⟨w1.heap.size, 0, none⟩ : Addr).add j = ⟨w1.heap.size, j, none⟩ := by simp [Addr.add]; omega
      rw [e1] at h1 ⊢
      rw [← h1]
      exact World.cell?_of_block (hOd.block w1.heap.size (by simp) (by have := hgl; omega))
  · unfold Oper.wp
    go_simp
    refine hK' _ _ ⟨fun _ => Hst.out _ (((Below.refl W.heap.size W).drew).al _), ?_⟩
    clear hK' K'
    try walk_nrm
    refine AnyF.op (i := 7) (by decide +kernel) rfl (by rfl) (fun K' hK' => ?_)
    have hbA : Below W.heap.size W (W.drew.alloc (.cells #[.int .i64 num, .int .i64 time, .slice ao2 al2 ac2, .slice none 0 0] 159)) := ((Below.refl _ W).drew.al _)
    unfold Oper.wp
    rw [Go.Conc.run_call_body (f := 131) (args := #[.tmp 36, .tmp 37]) (ats := #[232, 3]) rfl Tryz.func131 (by decide) rfl]
    simp only [Oper.upon, List.map_toArray, List.map_cons, List.map_nil]
    change Calls Tryz.prog 131 #[.pointer (some ⟨wtb, 0, none⟩), .int .i64 time] (W.drew.alloc (.cells #[.int .i64 num, .int .i64 time, .slice ao2 al2 ac2, .slice none 0 0] 159)) _
    refine (HO.out (W.drew.alloc (.cells #[.int .i64 num, .int .i64 time, .slice ao2 al2 ac2, .slice none 0 0] 159)) hbA).mono ?_
    rintro e w1 ⟨rfl, hb1⟩
    have hbB := hb1
    replace hb1 : Below W.heap.size W w1 := (hbA).trans (hb1.mono (hbA).size)
    refine hK' _ _ ⟨fun _ => Hst.out _ hb1, ?_⟩
    clear hK' K'
    try walk_nrm
    refine AnyF.op (i := 8) (by decide +kernel) rfl (by rfl) (fun K' hK' => ?_)
    unfold Oper.wp
    rw [Go.Conc.run_call_body (f := 130) (args := #[.tmp 35, .const (.int .i64 0), .tmp 38]) (ats := #[146, 3, 3]) rfl Tryz.func130 (by decide) rfl]
    simp only [Oper.upon, List.map_toArray, List.map_cons, List.map_nil]
    change Calls Tryz.prog 130 #[.slice (some ⟨g, 0, none⟩) C.length ecap, .int .i64 0, .int .i64 (k : Int)] w1 _
    refine (delete_any g ecap k C w1 (hE.below hb1) hk0 hkn hn).mono ?_
    rintro e wd ⟨rfl, hEd, hOd⟩
    obtain ⟨hd1, hd2, hd3⟩ := after.out w1 wd hb1 hOd
    refine hK' _ _ ⟨fun _ => HstH.out _ hd1 hd2, ?_⟩
    clear hK' K'
    try walk_nrm
    have hsl : W.heap.size < (W.drew.alloc (.cells #[.int .i64 num, .int .i64 time, .slice ao2 al2 ac2, .slice none 0 0] 159)).heap.size := heap_lt (heap_new W.drew (.cells #[.int .i64 num, .int .i64 time, .slice ao2 al2 ac2, .slice none 0 0] 159) W.heap.size rfl)
    refine tail5 _ W.heap.size hd1 hd2 hEd hd3 (fun j u hj => ?_)
    have h1 := cells_four_new W.drew (⟨num, time, ao2, al2, ac2, none, 0, 0⟩ : EvC) 159 j u hj
    have e1 : (⟨W.heap.size, 0, none⟩ : Addr).add j = ⟨W.heap.size, j, none⟩ := by simp [Addr.add]; omega
    have e2 : (⟨W.drew.heap.size, 0, none⟩ : Addr).add j = ⟨W.heap.size, j, none⟩ := e1
    rw [e2] at h1
    have hlt1 : W.heap.size < w1.heap.size := Nat.lt_of_lt_of_le hsl hbB.size
    rw [e1, World.cell?_of_block (hOd.block W.heap.size hlt1 (by have := hgl; omega)), hbB.cell (p := ⟨W.heap.size, j, none⟩) hsl]
    exact h1
end Go.Proofs.YtpbbmagjhkakgaaGreatDoor.Ev
