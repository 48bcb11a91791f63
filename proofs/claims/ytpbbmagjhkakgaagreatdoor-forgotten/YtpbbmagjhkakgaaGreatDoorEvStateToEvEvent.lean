/-
  A watch as it lies in memory (WatchAt); what is left alone, whatever the tape (SpareR).
-/
/-
  What lies in blocks that are left alone stays: events, nodes, policies, streams; what watch.Event leaves (EvDone).
-/
/-
  What watch.Event does where the event may be, beside goroutines that are only leaving: the event is kept, its row worked out, and every stream has taken its policy's verdict.
-/
import Derived.Test.YtpbbmagjhkakgaaGreatDoorEdDelToEvTake3
import Derived.Test.YtpbbmagjhkakgaaGreatDoorLfRestToEvCheck
namespace Go.Proofs.YtpbbmagjhkakgaaGreatDoor.Ev
open Go.RowKit Go.Deep Go.Proofs.YtpbbmagjhkakgaaGreatDoor.Lf
structure SpareR (P : Nat → Prop) (w w' : World) : Prop where
  os : w'.os = w.os
  output : w'.output = w.output
  size : w.heap.size ≤ w'.heap.size
  block : ∀ b, b < w.heap.size → ¬ P b → w'.heap[b]? = w.heap[b]?
theorem SpareR.refl (P : Nat → Prop) (w : World) : SpareR P w w := ⟨rfl, rfl, Nat.le_refl _, fun _ _ _ => rfl⟩
theorem SpareR.trans {P : Nat → Prop} {a b c : World} (h : SpareR P a b) (k : SpareR P b c) : SpareR P a c := ⟨k.os.trans h.os, k.output.trans h.output, Nat.le_trans h.size k.size, fun x hx hp => (k.block x (Nat.lt_of_lt_of_le hx h.size) hp).trans (h.block x hx hp)⟩
theorem SpareR.of_below {P : Nat → Prop} {a b : World} (h : Below a.heap.size a b) : SpareR P a b := ⟨h.os, h.output, h.size, fun x hx _ => h.block x hx⟩
theorem SpareR.of_spare {P : Nat → Prop} {a b : World} (h : Spare P a b) : SpareR P a b := ⟨h.os, h.output, h.size, h.block⟩
theorem SpareR.mono {P Q : Nat → Prop} {a b : World} (h : SpareR P a b) (hP : ∀ x, x < a.heap.size → P x → Q x) : SpareR Q a b := ⟨h.os, h.output, h.size, fun x hx hq => h.block x hx fun e => hq (hP x hx e)⟩
theorem SpareR.tapeR {P : Nat → Prop} {a b : World} (h : SpareR P a b) (τ : Tape) (d : Nat) : SpareR P a (re b τ d) := ⟨h.os, h.output, h.size, h.block⟩
theorem SpareR.tape0 {P : Nat → Prop} {a b : World} {τ : Tape} {d : Nat} (h : SpareR P (re a τ d) b) : SpareR P a b := ⟨h.os, h.output, h.size, h.block⟩
structure WatchAt (w : World) (wtb : Nat) (retain room : Int) (no : Option Addr) (ncap : Nat) (K : List Key) (ea : Option Addr) (ecap : Nat) (C : List EvC) (E : List Pe) (pa : Option Addr) (pcap : Nat) (ps : List Pol) (ss : List Strm) : Prop where
  cell : w.heap[wtb]? = some (.cells #[.int .i64 retain, .int .i64 room, .slice no K.length ncap, .slice ea C.length ecap, .slice pa ps.length pcap] 153 (0, 0))
  evs : EvsAt w (.slice ea C.length ecap) C
  len : C.length = E.length
  ins : ∀ (i : Nat) c e, C[i]? = some c → E[i]? = some e → EvIn w c e
  typed : ∀ c ∈ C, EvT w c
  few : C.length ≤ 1000
  ret : 0 ≤ retain ∧ retain ≤ 1000000000
  nums : ∀ c, C.getLast? = some c → 0 ≤ c.number ∧ c.number ≤ 1000000000
  nfew : K.length ≤ 1000
  ncp : K.length ≤ ncap
  nodes : NodesIn w no K
  ntyped : ∀ a, no = some a → ∃ cs m, w.heap[a.block]? = some (.cells cs 226 m)
  core : ∀ k ∈ K, CoreOp k.op
  ahead : Ahead K
  rows : ∀ e ∈ E, e.so.length = K.length + 1
  pols : PolsIn w pa pcap ps
  pfew : ps.length ≤ 1000
  pcp : ps.length ≤ pcap
  plen : ss.length = ps.length
  pstr : ∀ (i : Nat) (s : Strm) (p : Pol), ss[i]? = some s → ps[i]? = some p → p.strm = some ⟨s.stb, 0, none⟩
  sok : ∀ s ∈ ss, StrOK w s
  apart : Apart ss
  pnode : ∀ p ∈ ps, p.node ≤ K.length
theorem EvIn.tapeR {w : World} {c : EvC} {e : Pe} (h : EvIn w c e) (τ : Tape) (d : Nat) : EvIn (re w τ d) c e :=
  ⟨h.number, h.time, h.low, h.sl, h.slen, h.so, h.al, h.alen, h.atoms⟩
theorem WatchAt.tapeR {w : World} {wtb : Nat} {retain room : Int} {no : Option Addr} {ncap : Nat} {K : List Key} {ea : Option Addr} {ecap : Nat} {C : List EvC} {E : List Pe} {pa : Option Addr} {pcap : Nat} {ps : List Pol} {ss : List Strm} (h : WatchAt w wtb retain room no ncap K ea ecap C E pa pcap ps ss) (τ : Tape) (d : Nat) : WatchAt (re w τ d) wtb retain room no ncap K ea ecap C E pa pcap ps ss :=
  ⟨h.cell, h.evs, h.len, fun i c e h1 h2 => (h.ins i c e h1 h2).tapeR τ d, fun c hc => ⟨(h.typed c hc).so, (h.typed c hc).ao⟩, h.few, h.ret, h.nums, h.nfew, h.ncp, h.nodes, h.ntyped, h.core, h.ahead, h.rows, h.pols, h.pfew, h.pcp, h.plen, h.pstr, h.sok, h.apart, h.pnode⟩
def Own46 (wtb : Nat) (ea : Option Addr) (ss : List Strm) (b : Nat) : Prop := b = wtb ∨ (∃ a, ea = some a ∧ a.block = b) ∨ Ms ss b
end Go.Proofs.YtpbbmagjhkakgaaGreatDoor.Ev

namespace Go.Proofs.YtpbbmagjhkakgaaGreatDoor.Ev
open Go.RowKit Go.Deep Go.Proofs.YtpbbmagjhkakgaaGreatDoor.Lf Go.Conc
def Kinds (w : World) (P : Nat → Prop) (ts : List TypeId) : Prop := ∀ b cs t m, w.heap[b]? = some (.cells cs t m) → t ∈ ts → ¬ P b
theorem Kinds.none (w : World) (ts : List TypeId) : Kinds w (fun _ => False) ts := fun _ _ _ _ _ _ h => h
theorem Kinds.less {w : World} {P : Nat → Prop} {ts ts' : List TypeId} (h : Kinds w P ts) (hs : ∀ t ∈ ts', t ∈ ts) : Kinds w P ts' := fun b cs t m h1 h2 => h b cs t m h1 (hs t h2)
section
variable {w w' : World} {P : Nat → Prop}
theorem SpareR.spare (h : SpareR P w w') : Spare P w (re w' w.tape w'.drawn) := ⟨h.os, rfl, h.output, h.size, h.block⟩
theorem EvIn.move {c : EvC} {e : Pe} (h : EvIn w c e) (ht : EvT w c) (hs : SpareR P w w') (hk : Kinds w P [4, 9]) : EvIn w' c e := by
  have := h.spare hs.spare (fun a ha => by obtain ⟨cs, m, k⟩ := ht.so a ha; exact hk _ _ _ _ k (by simp)) (fun a ha => by obtain ⟨cs, m, k⟩ := ht.ao a ha; exact hk _ _ _ _ k (by simp))
  exact ⟨this.number, this.time, this.low, this.sl, this.slen, this.so, this.al, this.alen, this.atoms⟩
theorem EvT.move {c : EvC} (ht : EvT w c) (hs : SpareR P w w') (hk : Kinds w P [4, 9]) : EvT w' c := by
  have := ht.spare hs.spare (fun a ha => by obtain ⟨cs, m, k⟩ := ht.so a ha; exact hk _ _ _ _ k (by simp)) (fun a ha => by obtain ⟨cs, m, k⟩ := ht.ao a ha; exact hk _ _ _ _ k (by simp))
  exact ⟨this.so, this.ao⟩
theorem SpareR.get (hs : SpareR P w w') {b : Nat} {o : Obj} (h : w.heap[b]? = some o) (hp : ¬ P b) : w'.heap[b]? = some o := (hs.block b (heap_lt h) hp).trans h
theorem NodesIn.move {no : Option Addr} {K : List Key} (h : NodesIn w no K) (ht : ∀ a, no = some a → ∃ cs m, w.heap[a.block]? = some (.cells cs 226 m)) (hs : SpareR P w w') (hk : Kinds w P [226]) : NodesIn w' no K := by
  have := h.spare hs.spare (fun a ha => by obtain ⟨cs, m, k⟩ := ht a ha; exact hk _ _ _ _ k (by simp))
  exact this
theorem typed.move {no : Option Addr} {t : TypeId} (ht : ∀ a, no = some a → ∃ cs m, w.heap[a.block]? = some (.cells cs t m)) (hs : SpareR P w w') (hk : Kinds w P [t]) : ∀ a, no = some a → ∃ cs m, w'.heap[a.block]? = some (.cells cs t m) := fun a ha => by
  obtain ⟨cs, m, k⟩ := ht a ha
  exact ⟨cs, m, hs.get k (hk _ _ _ _ k (by simp))⟩
theorem PolsIn.move {pa : Option Addr} {pcap : Nat} {ps : List Pol} (h : PolsIn w pa pcap ps) (hs : SpareR P w w') (hk : Kinds w P [183]) : PolsIn w' pa pcap ps := by
  rcases h with h | ⟨pb, po, parr, mp, h1, h2, h3⟩
  · exact .inl h
  · exact .inr ⟨pb, po, parr, mp, h1, hs.get h2 (hk _ _ _ _ h2 (by simp)), h3⟩
theorem StrOK.move {s : Strm} (h : StrOK w s) (hs : SpareR P w w') (hk : Kinds w P [177, 59]) : StrOK w' s := by
  refine h.heap fun b hb hm => hs.block b hb ?_
  rcases hm with rfl | hm
  · exact hk _ _ _ _ h.1 (by simp)
  · obtain ⟨_, ⟨h2, _⟩ | ⟨g, cp, cur, e1, _, e2, _⟩⟩ := h.2
    · rw [h2] at hm; cases hm
    · rw [e1] at hm; cases hm; exact hk _ _ _ _ e2 (by simp)
theorem EvsAt.move {ev : Value} {C : List EvC} (h : EvsAt w ev C) (hs : SpareR P w w') (hk : Kinds w P [159]) : EvsAt w' ev C :=
  own_heap h fun b hb => hs.block b (h.lt b hb).2 (by obtain ⟨cur, hc⟩ := own_tag h hb; exact hk _ _ _ _ hc (by simp))
theorem StrsIn.move {ao : Option Addr} {A : List ByteArray} (h : StrsIn w ao A) (hs : SpareR (fun _ => False) w w') : StrsIn w' ao A := fun hne => by
  obtain ⟨b, off, h1, h2, h3⟩ := h hne
  exact ⟨b, off, h1, Nat.lt_of_lt_of_le h2 hs.size, fun j hj => by rw [World.cell?_of_block (hs.block b h2 (fun x => x))]; exact h3 j hj⟩
theorem WatchAt.move {wtb : Nat} {retain room : Int} {no : Option Addr} {ncap : Nat} {K : List Key} {ea : Option Addr} {ecap : Nat} {C : List EvC} {E : List Pe} {pa : Option Addr} {pcap : Nat} {ps : List Pol} {ss : List Strm} (h : WatchAt w wtb retain room no ncap K ea ecap C E pa pcap ps ss) (hs : SpareR P w w') (hk : Kinds w P [4, 9, 226, 183, 177, 59, 159, 153]) : WatchAt w' wtb retain room no ncap K ea ecap C E pa pcap ps ss :=
  { h with
    cell := hs.get h.cell (hk _ _ _ _ h.cell (by simp))
    evs := h.evs.move hs (hk.less (by simp))
    ins := fun i c e h1 h2 => (h.ins i c e h1 h2).move (h.typed c (List.mem_of_getElem? h1)) hs (hk.less (by simp))
    typed := fun c hc => (h.typed c hc).move hs (hk.less (by simp))
    nodes := h.nodes.move h.ntyped hs (hk.less (by simp))
    ntyped := typed.move h.ntyped hs (hk.less (by simp))
    pols := PolsIn.move h.pols hs (hk.less (by simp))
    sok := fun s hs' => StrOK.move (h.sok s hs') hs (hk.less (by simp)) }
end
theorem polsAt_says {parr : Array Value} {po : Nat} {ps : List Pol} (f : Pol → Bool) (h : PolsAt parr po ps) : PolsAt parr po (ps.map fun p => { p with v := f p }) := fun j p hp => by
  simp at hp
  obtain ⟨q, hq, rfl⟩ := hp
  exact h j q hq
theorem polsIn_says {w : World} {pa : Option Addr} {pcap : Nat} {ps : List Pol} (f : Pol → Bool) (h : PolsIn w pa pcap ps) : PolsIn w pa pcap (ps.map fun p => { p with v := f p }) := by
  rcases h with ⟨h1, h2, h3⟩ | ⟨pb, po, parr, mp, h1, h2, h3⟩
  · exact .inl ⟨h1, by rw [h2]; rfl, h3⟩
  · exact .inr ⟨pb, po, parr, mp, h1, h2, polsAt_says f h3⟩
end Go.Proofs.YtpbbmagjhkakgaaGreatDoor.Ev

namespace Go.Proofs.YtpbbmagjhkakgaaGreatDoor.Ev
open Go.RowKit Go.Deep Go.Proofs.YtpbbmagjhkakgaaGreatDoor.Lf Go.Conc
def EvDone (w : World) (wtb : Nat) (retain room : Int) (no : Option Addr) (ncap : Nat) (K : List Key) (ea : Option Addr) (C : List EvC) (E : List Pe) (pa : Option Addr) (pcap : Nat) (ps : List Pol) (ss : List Strm) (time : Int) (A : List ByteArray) (W' : World) : Prop :=
  ∃ (c : EvC) (ea' : Option Addr) (ecap' : Nat) (ss' : List Strm), WatchAt W' wtb retain room no ncap K ea' ecap' (C ++ [c]) (E ++ [workF E.reverse K (⟨nextN C, time, A, []⟩ : Pe).bare]) pa pcap ps ss' ∧ c.time = time ∧ c.number = nextN C ∧ SpareR (Own46 wtb ea ss) w W' ∧ (∀ a, ea' = some a → (∃ a0, ea = some a0 ∧ a0.block = a.block) ∨ w.heap.size ≤ a.block) ∧
    (∀ (i : Nat) (s : Strm) (p : Pol), ss[i]? = some s → ps[i]? = some p → ∃ t, ss'[i]? = some t ∧ t.stb = s.stb ∧ t.n = s.n + 1 ∧ t.xs = s.xs ++ verCells (nextN C) time p.ver ((workF E.reverse K (⟨nextN C, time, A, []⟩ : Pe).bare).at (p.node : Int)) ∧ (t.sv.ownBlock = s.sv.ownBlock ∨ ∃ g, t.sv.ownBlock = some g ∧ w.heap.size ≤ g))
def TakeMid (wtb : Nat) (retain room : Int) (no : Option Addr) (ncap : Nat) (K : List Key) (ea : Option Addr) (ecap : Nat) (C : List EvC) (E : List Pe) (pa : Option Addr) (pcap : Nat) (ps : List Pol) (time : Int) (A : List ByteArray) (w1 : World) (c : EvC) (evb : Nat) (w2 : World) : Prop :=
  ∃ (ev' : Value) (sb : Nat) (cur : Array Value), c.so = some ⟨sb, 0, none⟩ ∧ w1.heap.size ≤ sb ∧ w2.heap[sb]? = some (.cells cur 4 (0, 0)) ∧ w2.heap[wtb]? = some (.cells #[.int .i64 retain, .int .i64 room, .slice no K.length ncap, ev', .slice pa ps.length pcap] 153 (0, 0)) ∧ EvsAt w2 ev' (C ++ [c]) ∧
    EvIn w2 c (workF E.reverse K (⟨nextN C, time, A, []⟩ : Pe).bare) ∧ EvT w2 c ∧ SpareR (fun b => b = wtb ∨ (Value.slice ea C.length ecap).ownBlock = some b) w1 w2 ∧ (∀ b, ev'.ownBlock = some b → (Value.slice ea C.length ecap).ownBlock = some b ∨ w1.heap.size ≤ b) ∧ w2.heap[evb]? = some (.cells #[.int .i64 c.number, .int .i64 c.time, c.av, c.sv] 159 (0, 0))
theorem TakeMid.tapeR {wtb : Nat} {retain room : Int} {no : Option Addr} {ncap : Nat} {K : List Key} {ea : Option Addr} {ecap : Nat} {C : List EvC} {E : List Pe} {pa : Option Addr} {pcap : Nat} {ps : List Pol} {time : Int} {A : List ByteArray} {w1 : World} {c : EvC} {evb : Nat} {w2 : World} (h : TakeMid wtb retain room no ncap K ea ecap C E pa pcap ps time A w1 c evb w2) (τ : Tape) (d : Nat) : TakeMid wtb retain room no ncap K ea ecap C E pa pcap ps time A w1 c evb (re w2 τ d) := by
  obtain ⟨ev', sb, cur, t1, t2, t3, t4, t5, t6, t7, t8, t9, t10⟩ := h
  exact ⟨ev', sb, cur, t1, t2, t3, t4, t5, t6.tapeR τ d, ⟨t7.so, t7.ao⟩, t8.tapeR τ d, t9, t10⟩
set_option maxRecDepth 100000 in
set_option maxHeartbeats 4000000 in
theorem event_ok {w : World} {wtb : Nat} {retain room : Int} {no : Option Addr} {ncap : Nat} {K : List Key} {ea : Option Addr} {ecap : Nat} {C : List EvC} {E : List Pe} {pa : Option Addr} {pcap : Nat} {ps : List Pol} {ss : List Strm} (h : WatchAt w wtb retain room no ncap K ea ecap C E pa pcap ps ss) (time : Int) (ao : Option Addr) (A : List ByteArray) (cap : Nat)
    (ht : 0 ≤ time ∧ time ≤ 1000000000000) (hl : ∀ e, C.getLast? = some e → e.time < time) (hold : oldF (time - retain) C = 0) (hroom : (C.length : Int) + 1 ≤ room) (hA : StrsIn w ao A) (hA10 : A.length ≤ 10) (hcap : A.length ≤ cap) (hN : ∀ j, j < A.length → NameOK (A.getD j ByteArray.empty)) (hD : ∀ j, j < A.length → Lib.containsS (A.take j) (A.getD j ByteArray.empty) = false)
    (hfew : C.length + 1 ≤ 1000) (hnx : 0 ≤ nextN C ∧ nextN C ≤ 1000000000) (hfull : ∀ s ∈ ss, s.n < 30) :
    HCalls Tryz.prog 46 #[.pointer (some ⟨wtb, 0, none⟩), .int .i64 time, .slice ao A.length cap] w fun e W' => e = .returned .nilIface ∧ EvDone w wtb retain room no ncap K ea C E pa pcap ps ss time A W' := by
  have hP := plain_prog
  have hi0 : ∀ it ∈ ([] : List Item), okItem it := by simp
  have hi1 : ∀ (c : Code), ∀ it ∈ [Item.code c], okItem it := fun c => okItems_cons trivial (by simp)
  have hi2 : ∀ (c d : Code), ∀ it ∈ [Item.code c, Item.code d], okItem it := fun c d => okItems_cons trivial (okItems_cons trivial (by simp))
  have hroomy : Roomy w ps := fun i p hp => by
    have hi : i < ss.length := by rw [h.plen]; exact (List.getElem?_eq_some_iff.1 hp).1
    have hsm : ss[i] ∈ ss := List.getElem_mem hi
    have hso := h.sok _ hsm
    obtain ⟨o, n, cp, hsv, hn⟩ : ∃ o n cp, ss[i].sv = .slice o n cp ∧ n < 30 := by
      have hf := hfull _ hsm
      rcases hso.2.2 with ⟨e, e2⟩ | ⟨g, cp, cur, e, _⟩
      · exact ⟨_, _, _, e, by omega⟩
      · exact ⟨_, _, _, e, hf⟩
    exact ⟨ss[i].stb, o, n, cp, h.pstr i _ p (List.getElem?_eq_getElem hi) hp, by rw [← hsv]; exact hso.1, hn⟩
  have hsz8 : ∀ j, j < A.length → (A.getD j ByteArray.empty).size ≤ 1000 := fun j hj => by have := (hN j hj).high; omega
  have hCk : Hid (∀ τ d, Calls Tryz.prog 86 #[.pointer (some ⟨wtb, 0, none⟩), .int .i64 time, .slice ao A.length cap] (re w τ d) fun e w' => e = .returned .nilIface ∧ Below (re w τ d).heap.size (re w τ d) w') := fun τ d => by
    have hh := h.tapeR τ d
    have hlo := h.few
    have hp := h.pfew
    exact checkEvent_ok wtb retain room _ _ pa pcap ps C time ao A cap (re w τ d) hh.cell hh.evs (by omega) ht hh.ret hl (by rw [hold]; simpa using hroom) hA hA10 hcap hN hD hh.pols (by omega) hh.pcp hroomy
  refine HCalls.of_lead Tryz.func46 rfl (fun cs hcs => ?_)
  simp only [Tryz.ntmps46, List.size_toArray, List.length_cons, List.length_nil, Nat.reduceAdd, Nat.reduceSub, Array.replicate_succ, Array.replicate_zero, List.push_toArray, List.append_toArray, List.nil_append, List.cons_append]
  refine LeadsR.seq hP hi0 hcs ?_
  refine LeadsR.piece hP (fun a' w' => a' = ⟨#[.pointer (some ⟨wtb, 0, none⟩), .int .i64 time, .slice ao A.length cap, undef, undef, undef, .nilIface, undef, undef, undef, undef, undef, undef, undef, undef, undef, undef, undef, undef, undef, undef, undef, undef, undef, undef, undef, undef, undef, undef, undef, undef, undef, undef, undef, undef, undef, undef, undef, undef, undef, undef], []⟩ ∧ ∃ τ d, w' = re w τ d) (fun a w τ d x => ⟨x.1, by obtain ⟨_, τ', d', rfl⟩ := x; exact ⟨τ, d, rfl⟩⟩) (hi1 _) hcs (fun τ d => ?_) ?_
  · go_wp2_with fail
    exact ⟨τ, d, rfl⟩
  rintro a' w' ⟨rfl, τ, d, rfl⟩
  refine LeadsR.other ?_ τ d
  dsimp only
  refine LeadsR.seq hP hi0 hcs ?_
  refine LeadsR.piece hP (fun a' w' => a' = ⟨#[.pointer (some ⟨wtb, 0, none⟩), .int .i64 time, .slice ao A.length cap, undef, undef, undef, .nilIface, .nilIface, undef, undef, .pointer (some ⟨wtb, 0, none⟩), .int .i64 time, .slice ao A.length cap, .nilIface, .nilIface, .bool false, undef, undef, undef, undef, undef, undef, undef, undef, undef, undef, undef, undef, undef, undef, undef, undef, undef, undef, undef, undef, undef, undef, undef, undef, undef], []⟩ ∧ SpareR (fun _ => False) w w') (fun a w τ d x => ⟨x.1, x.2.tapeR τ d⟩) (hi1 _) hcs (fun τ d => ?_) ?_
  · have hc := hCk.out τ d
    clear hCk
    go_wp2_with fail
    refine hc.mono ?_
    rintro e w1 ⟨rfl, hb1⟩
    go_wp2_with fail
    exact (SpareR.of_below hb1).tape0
  rintro a' w1 ⟨rfl, hs1⟩
  dsimp only
  have h1w := h.move hs1 (Kinds.none _ _)
  have hA1 := hA.move hs1
  have hTk : Hid (∀ τ d, Calls Tryz.prog 87 #[.pointer (some ⟨wtb, 0, none⟩), .int .i64 time, .slice ao A.length cap] (re w1 τ d) (TakePost wtb retain (.int .i64 room) no ncap K ea ecap (.slice pa ps.length pcap) C E time A (re w1 τ d))) := fun τ d => by
    have hh := h1w.tapeR τ d
    exact take_any wtb retain (.int .i64 room) no ncap K ea ecap _ C E time ao A cap (re w1 τ d) hh.cell hh.evs hh.len hh.ins hh.typed hh.few ht hh.ret hold (fun c hc => by have := hh.nums c hc; omega) hA1 (by omega) hcap hsz8 hh.nfew hh.ncp hh.nodes hh.ntyped hh.core hh.ahead hh.rows
  refine LeadsR.seq hP hi0 hcs ?_
  refine LeadsR.piece hP (fun a' w2 => ∃ c evb, a' = ⟨#[.pointer (some ⟨wtb, 0, none⟩), .int .i64 time, .slice ao A.length cap, undef, undef, undef, .nilIface, .nilIface, .pointer (some ⟨evb, 0, none⟩), undef, .pointer (some ⟨wtb, 0, none⟩), .int .i64 time, .slice ao A.length cap, .nilIface, .nilIface, .bool false, undef, undef, undef, undef, undef, .pointer (some ⟨wtb, 0, none⟩), .pointer (some ⟨wtb, 0, none⟩), .pointer (some ⟨wtb, 0, none⟩), .int .i64 time, .slice ao A.length cap, evVal c, undef, undef, undef, undef, undef, undef, undef, undef, undef, undef, undef, undef, undef, undef], []⟩ ∧ TakeMid wtb retain room no ncap K ea ecap C E pa pcap ps time A w1 c evb w2) (fun a w τ d x => by obtain ⟨c, evb, x1, x2⟩ := x; exact ⟨c, evb, x1, x2.tapeR τ d⟩) (hi1 _) hcs (fun τ d => ?_) ?_
  · have hc := hTk.out τ d
    clear hCk hTk
    go_wp2_with fail
    refine hc.mono ?_
    rintro e w2 ⟨c, ev', sb, cur, rfl, t1, t2, t3, t4, t5, t6, t7, t8, t9⟩
    have hmid : TakeMid wtb retain room no ncap K ea ecap C E pa pcap ps time A w1 c w2.heap.size (w2.alloc (.cells #[.int .i64 c.number, .int .i64 c.time, .slice c.ao c.al c.ac, .slice c.so c.sl c.sc] 159)) := by
      have hsp : SpareR (fun _ => False) w2 (w2.alloc (.cells #[.int .i64 c.number, .int .i64 c.time, .slice c.ao c.al c.ac, .slice c.so c.sl c.sc] 159)) := SpareR.of_below ((Below.refl _ _).al _)
      exact ⟨ev', sb, cur, t1, t2, hsp.get t3 (fun x => x), hsp.get t4 (fun x => x), t5.move hsp (Kinds.none _ _), t6.move t7 hsp (Kinds.none _ _), t7.move hsp (Kinds.none _ _), (SpareR.of_spare t8).tape0.trans (hsp.mono fun _ _ x => x.elim), t9, heap_new _ _ _ rfl⟩
    clear t1 t2 t3 t4 t5 t6 t7 t8 t9
    simp only [evVal]
    go_wp2_with fail
    refine ⟨c, w2.heap.size, ?_, hmid⟩
    simp [evVal]
  rintro a' w2 ⟨c, evb, rfl, ev', sb, cur, t1, t2, t3, t4, t5, t6, t7, t8, t9, t10⟩
  clear hCk hTk
  dsimp only
  refine LeadsR.seq hP hi0 hcs ?_
  -- what the row says of each policy
  obtain ⟨q1, q2, q3, q4, _⟩ := workF_same E.reverse K (⟨nextN C, time, A, []⟩ : Pe).bare
  generalize hpe : workF E.reverse K (⟨nextN C, time, A, []⟩ : Pe).bare = pe at *
  have hnum : c.number = nextN C := t6.number.trans q1
  have htime : c.time = time := t6.time.trans q2
  have hpl : pe.so.length = K.length + 1 := by rw [q4]; simp [Pe.bare]; omega
  have hkt : Kinds w1 (fun b => b = wtb ∨ (Value.slice ea C.length ecap).ownBlock = some b) [4, 9, 226, 183, 177, 59] := fun b cs t m hb ht hp => by
    rcases hp with rfl | hp
    · rw [h1w.cell] at hb; injection hb with hb; injection hb with _ hb _; subst hb; simp at ht
    · obtain ⟨cur', hc⟩ := own_tag h1w.evs hp
      rw [hc] at hb; injection hb with hb; injection hb with _ hb _; subst hb; simp at ht
  have hok2 : ∀ s ∈ ss, StrOK w2 s := fun s hs => StrOK.move (h1w.sok s hs) t8 (hkt.less (by simp))
  have hpo2 := PolsIn.move h1w.pols t8 (hkt.less (by simp))
  have hso2 : SoIn w2 c.sv (ps.map fun p => { p with v := pe.at (p.node : Int) }) := by
    obtain ⟨sb', s1, s2, s3⟩ := t6.so
    have hse : sb' = sb := by rw [t1] at s1; simp at s1; exact s1.symm
    subst hse
    refine ⟨sb', 0, c.sl, c.sc, cur, (0, 0), by simp [EvC.sv, t1], t3, fun p hp => ?_⟩
    simp at hp
    obtain ⟨q, hq, rfl⟩ := hp
    have hqn := h.pnode q hq
    have hql : q.node < pe.so.length := by omega
    have hbit := EvIn.bit s3 hql
    refine ⟨?_, by rw [t6.sl]; exact hql⟩
    simp only [Nat.zero_add]
    simpa [World.cell?, t3] using hbit
  refine LeadsR.mono (rest_any (w := w2) wtb evb pa pcap c.number c.time c.av c.sv ss (ps.map fun p => { p with v := pe.at (p.node : Int) }) (polsIn_says _ hpo2) hso2 (fun s hs => by have := hfull s hs; omega) (by have := h.pfew; simp; omega) (by simp [h.plen]) (fun i s p h1 h2 => by simp at h2; obtain ⟨q, hq, rfl⟩ := h2; exact h.pstr i s q h1 hq) hok2 h.apart _ _ _ _ _ _ _ _ _ _ _ _ _ _ _ _ _ _ _ _ _ _ _ _ _ _ _ _ _ _ cs hcs _ _ _ _ _ _ _ _ _ _ _ _ _ (by rw [List.length_map]; exact t4) t10) ?_
  rintro g' W' ⟨e, fr, r1, r2, ⟨rfl, p1, p2, p3, p4, S, now, p5, p6⟩, r4, r5⟩
  refine ⟨_, fr, r1, r2, ⟨rfl, ?_⟩, r4, r5⟩
  subst hpe
  have hsp3 : SpareR (Ms ss) w2 W' := ⟨p1, p2, p3, p4⟩
  have hkm : Kinds w2 (Ms ss) [4, 9, 226, 183, 159, 153] := fun b cs t m hb ht => by
    refine Ms.not hok2 hb ?_ ?_ <;> (rintro rfl; simp at ht)
  have e1 : (C ++ [c]).length = C.length + 1 := by simp
  obtain ⟨ea', ecap', rfl, f1, f2, f3⟩ := t5.form
  have hin2 : ∀ (i : Nat) c' e, C[i]? = some c' → E[i]? = some e → EvIn w2 c' e := fun i c' e h1 h2 => (h1w.ins i c' e h1 h2).move (h1w.typed c' (List.mem_of_getElem? h1)) t8 (hkt.less (by simp))
  have hty2 : ∀ c' ∈ C, EvT w2 c' := fun c' hc' => (h1w.typed c' hc').move t8 (hkt.less (by simp))
  have hap := h.plen
  refine ⟨c, ea', ecap', now, ?_, htime, hnum, ?_, ?_, ?_⟩
  · refine ⟨hsp3.get t4 (hkm _ _ _ _ t4 (by simp)), t5.move hsp3 (hkm.less (by simp)), by simp [h.len], fun i c' e h1 h2 => ?_, fun c' hc' => ?_, by simpa using hfew, h.ret, fun c' hc' => ?_, h.nfew, h.ncp, ?_, ?_, h.core, h.ahead, fun e he => ?_, PolsIn.move hpo2 hsp3 (hkm.less (by simp)), h.pfew, h.pcp, by rw [p6.len]; exact h.plen, fun i s p h1 h2 => ?_, p6.ok, p6.apart, h.pnode⟩
    · rcases Nat.lt_or_ge i C.length with hi | hi
      · rw [List.getElem?_append_left hi] at h1
        rw [List.getElem?_append_left (by rw [← h.len]; exact hi)] at h2
        exact (hin2 i c' e h1 h2).move (hty2 c' (List.mem_of_getElem? h1)) hsp3 (hkm.less (by simp))
      · have hi' : i = C.length := by have := (List.getElem?_eq_some_iff.1 h1).1; simp at this; omega
        subst hi'
        rw [h.len] at h2
        simp at h1 h2
        subst h1; subst h2
        exact t6.move t7 hsp3 (hkm.less (by simp))
    · rcases List.mem_append.1 hc' with hc' | hc'
      · exact (hty2 c' hc').move hsp3 (hkm.less (by simp))
      · simp at hc'; subst hc'; exact t7.move hsp3 (hkm.less (by simp))
    · simp at hc'; subst hc'; rw [hnum]; exact hnx
    · exact (h1w.nodes.move h1w.ntyped t8 (hkt.less (by simp))).move (typed.move h1w.ntyped t8 (hkt.less (by simp))) hsp3 (hkm.less (by simp))
    · exact typed.move (typed.move h1w.ntyped t8 (hkt.less (by simp))) hsp3 (hkm.less (by simp))
    · rcases List.mem_append.1 he with he | he
      · exact h.rows e he
      · simp at he; subst he; exact hpl
    · have hi : i < ss.length := by rw [← p6.len]; exact (List.getElem?_eq_some_iff.1 h1).1
      obtain ⟨t, k1, k2, _⟩ := p6.done i ss[i] _ (by simp; rw [← h.plen]; exact hi) (List.getElem?_eq_getElem hi) (by rw [List.getElem?_map, h2]; rfl)
      rw [h1] at k1; cases k1
      rw [k2]
      exact h.pstr i ss[i] p (List.getElem?_eq_getElem hi) h2
  · have s1 : SpareR (Own46 wtb ea ss) w w1 := hs1.mono fun _ _ x => x.elim
    have s2 : SpareR (Own46 wtb ea ss) w1 w2 := t8.mono fun b _ hb => by
      rcases hb with hb | hb
      · exact .inl hb
      · cases ea with
        | none => cases hb
        | some a => exact .inr (.inl ⟨a, rfl, by cases hb; rfl⟩)
    exact (s1.trans s2).trans (hsp3.mono fun _ _ x => .inr (.inr x))
  · intro a ha
    subst ha
    rcases t9 a.block rfl with hb | hb
    · cases ea with
      | none => cases hb
      | some a0 => exact .inl ⟨a0, rfl, by simpa [Value.ownBlock] using hb⟩
    · exact .inr (by have := hs1.size; omega)
  · intro i s p h1 h2
    obtain ⟨t, k1, k2, k3, k4, k5⟩ := p6.done i s { p with v := (workF E.reverse K (⟨nextN C, time, A, []⟩ : Pe).bare).at (p.node : Int) } (by simp; exact (List.getElem?_eq_some_iff.1 h2).1) h1 (by rw [List.getElem?_map, h2]; rfl)
    refine ⟨t, k1, k2, k3, ?_, k5.imp id fun ⟨g, g1, g2⟩ => ⟨g, g1, by have := p5 g g2; have := t8.size; have := hs1.size; omega⟩⟩
    rw [k4, hnum, htime]
end Go.Proofs.YtpbbmagjhkakgaaGreatDoor.Ev
