/-
  watch.Event from behind past.Take to its end, in the words of the heap alone.
-/
/-
  What watch.checkEvent does where the event may be: nil; for every watch whose streams are not full.
-/
/-
  A watch as it lies in memory (WatchAt); what is left alone, whatever the tape (SpareR).
-/
import Derived.Test.YtpbbmagjhkakgaaGreatDoorLfGoToLfRest
import Derived.Test.YtpbbmagjhkakgaaGreatDoorScanToEvBack
import Derived.Test.YtpbbmagjhkakgaaGreatDoorEvTake2ToLfRely
namespace Go.Proofs.YtpbbmagjhkakgaaGreatDoor.Lf
open Go Go.Conc Go.RowKit
open Go.Proofs (Tryz.f46 Tryz.f88 Tryz.prog)
variable {w : World}
def PolsIn (w : World) (pa : Option Addr) (cap : Nat) (ps : List Pol) : Prop :=
  (pa = none ∧ ps = [] ∧ cap = 0) ∨ ∃ pb po parr mp, pa = some ⟨pb, po, none⟩ ∧ w.heap[pb]? = some (.cells parr 183 mp) ∧ PolsAt parr po ps
def SoIn (w : World) (sv : Value) (ps : List Pol) : Prop := ∃ sb so n cp arr m, sv = .slice (some ⟨sb, so, none⟩) n cp ∧ w.heap[sb]? = some (.cells arr 4 m) ∧ ∀ p ∈ ps, arr[so + p.node]? = some (.bool p.v) ∧ p.node < n
theorem Ms.tag {ss : List Strm} (hok : ∀ s ∈ ss, StrOK w s) {b : Nat} (h : Ms ss b) : ∃ cs t, w.heap[b]? = some (.cells cs t (0, 0)) ∧ (t = 177 ∨ t = 59) := by
  obtain ⟨s, hs, rfl | hb⟩ := h
  · exact ⟨_, _, (hok s hs).1, .inl rfl⟩
  · obtain ⟨h1, h2 | ⟨g, cap, cur, e1, _, e2, _⟩⟩ := (hok s hs).2
    · rw [h2.1] at hb; cases hb
    · rw [e1] at hb; cases hb; exact ⟨_, _, e2, .inr rfl⟩
theorem Ms.not {ss : List Strm} (hok : ∀ s ∈ ss, StrOK w s) {b : Nat} {cs : Array Value} {t : TypeId} {m : Nat × Nat} (hb : w.heap[b]? = some (.cells cs t m)) (h1 : t ≠ 177) (h2 : t ≠ 59) : ¬ Ms ss b := fun h => by
  obtain ⟨cs', t', e, ht⟩ := Ms.tag hok h
  rw [hb] at e
  injection e with e
  injection e with _ e _
  subst e
  exact ht.elim h1 h2
set_option maxRecDepth 100000 in
theorem rest_any (wtb evb : Nat) (pa : Option Addr) (cap : Nat) (num time : Int) (at_ sv : Value) (ss : List Strm) (ps : List Pol) (hP : PolsIn w pa cap ps) (hS : SoIn w sv ps) (hn : ∀ s ∈ ss, s.n ≤ 1000000) (hN : ps.length ≤ 1000000)
    (hlen : ss.length = ps.length) (hps : ∀ (i : Nat) (s : Strm) (p : Pol), ss[i]? = some s → ps[i]? = some p → p.strm = some ⟨s.stb, 0, none⟩) (hok : ∀ s ∈ ss, StrOK w s) (hap : Apart ss) (x1 x2 x3 x4 x5 x6 x7 x10 x11 x12 x13 x14 x15 x16 x17 x18 x19 x20 x21 x22 x23 x24 x25 x26 x27 x28 x29 x30 x31 x32 : Value) (cs : List Frame) (hcs : ∀ fr ∈ cs, okFrame fr) (u9 u33 u34 u35 u36 u37 u38 u39 u40 : Value)
    (r1 r2 r3 r4 : Value) (hwt : w.heap[wtb]? = some (.cells #[r1, r2, r3, r4, .slice pa ps.length cap] 153 (0, 0))) (hev : w.heap[evb]? = some (.cells #[.int .i64 num, .int .i64 time, at_, sv] 159 (0, 0))) :
    LeadsR Tryz.prog (fun g w' => ∃ e fr, g = G fr cs ∧ okFrame fr ∧ (e = .returned .nilIface ∧ EvPost w w' ss num time ps) ∧ fr.fn = 46 ∧ fr.leaving Tryz.prog w' e) (G ((base 46).at ⟨#[(.pointer (some ⟨wtb, 0, none⟩)), x1, x2, x3, x4, x5, x6, x7, (.pointer (some ⟨evb, 0, none⟩)), u9, x10, x11, x12, x13, x14, x15, x16, x17, x18, x19, x20, x21, x22, x23, x24, x25, x26, x27, x28, x29, x30, x31, x32, u33, u34, u35, u36, u37, u38, u39, u40], []⟩ [.code midE, .code tailE]) cs) w := by
  have hMl : ∀ b, Ms ss b → b < w.heap.size := fun b hb => by
    obtain ⟨cs, t, e, _⟩ := Ms.tag hok hb
    exact heap_lt e
  obtain ⟨sb, so, n, cp, arr, m, rfl, hsb, hso⟩ := hS
  rcases hP with ⟨rfl, rfl, rfl⟩ | ⟨pb, po, parr, mp, rfl, hpb, hpat⟩
  · have H : Terr (w.heap.size + 2) (w.heap.size + 4) (Ms ss) (fun b => b = w.heap.size + 3 ∨ b = w.heap.size) := by
      refine ⟨by omega, fun b hb => by have := hMl b hb; omega, fun b hb => ?_⟩
      rcases hb with rfl | rfl
      · exact ⟨by omega, by omega, fun h => by have := hMl _ h; omega⟩
      · exact ⟨by omega, by omega, fun h => by have := hMl _ h; omega⟩
    refine rest_e wtb evb none 0 num time at_ _ ss [] H hn hN hlen hps hok hap x1 x2 x3 x4 x5 x6 x7 x10 x11 x12 x13 x14 x15 x16 x17 x18 x19 x20 x21 x22 x23 x24 x25 x26 x27 x28 x29 x30 x31 x32 cs hcs u9 u33 u34 u35 u36 u37 u38 u39 u40 r1 r2 r3 r4 hwt hev (fun w₁ hw => ?_)
    refine child0_c H _ _ _ _ _ w₁ (by rw [hw, wGo_size]; omega) (fun q hq => ?_)
    simp at hq
    rcases hq with rfl | rfl
    · exact ⟨.inr (.inl rfl), by simp, by rw [hw]; exact wGo_p5 _ _ _ _ _ _ _⟩
    · exact ⟨.inr (.inr rfl), by simp, by rw [hw]; exact wGo_p2 _ _ _ _ _ _ _⟩
  · have l1 := heap_lt hpb
    have l2 := heap_lt hsb
    have H : Terr (w.heap.size + 2) (w.heap.size + 4) (Ms ss) (fun b => b = w.heap.size + 3 ∨ b = w.heap.size ∨ b = w.heap.size + 1 ∨ b = pb ∨ b = sb) := by
      refine ⟨by omega, fun b hb => by have := hMl b hb; omega, fun b hb => ?_⟩
      rcases hb with rfl | rfl | rfl | rfl | rfl
      · exact ⟨by omega, by omega, fun h => by have := hMl _ h; omega⟩
      · exact ⟨by omega, by omega, fun h => by have := hMl _ h; omega⟩
      · exact ⟨by omega, by omega, fun h => by have := hMl _ h; omega⟩
      · exact ⟨by omega, by omega, Ms.not hok hpb (by decide) (by decide)⟩
      · exact ⟨by omega, by omega, Ms.not hok hsb (by decide) (by decide)⟩
    refine rest_e wtb evb (some ⟨pb, po, none⟩) cap num time at_ _ ss ps H hn hN hlen hps hok hap x1 x2 x3 x4 x5 x6 x7 x10 x11 x12 x13 x14 x15 x16 x17 x18 x19 x20 x21 x22 x23 x24 x25 x26 x27 x28 x29 x30 x31 x32 cs hcs u9 u33 u34 u35 u36 u37 u38 u39 u40 r1 r2 r3 r4 hwt hev (fun w₁ hw => ?_)
    refine child_c H _ _ _ pb po cap sb so n cp num time at_ parr mp arr m ps hpat (by omega) hso _ _ w₁ (by rw [hw, wGo_size]; omega) (fun q hq => ?_)
    simp at hq
    rcases hq with rfl | rfl | rfl | rfl | rfl
    · exact ⟨.inr (.inl rfl), by simp, by rw [hw]; exact wGo_p5 _ _ _ _ _ _ _⟩
    · exact ⟨.inr (.inr (.inl rfl)), by simp, by rw [hw]; exact wGo_p2 _ _ _ _ _ _ _⟩
    · exact ⟨.inr (.inr (.inr (.inl rfl))), by simp, by rw [hw]; exact wGo_p3 _ _ _ _ _ _ _⟩
    · exact ⟨.inr (.inr (.inr (.inr (.inl rfl)))), by simp; omega, by rw [hw, wGo_old _ _ _ _ _ _ _ l1]; exact hpb⟩
    · exact ⟨.inr (.inr (.inr (.inr (.inr rfl)))), by simp; omega, by rw [hw, wGo_old _ _ _ _ _ _ _ l2]; exact hsb⟩
end Go.Proofs.YtpbbmagjhkakgaaGreatDoor.Lf

namespace Go.Proofs.YtpbbmagjhkakgaaGreatDoor.Ev
open Go.RowKit Go.Deep Go.Proofs.YtpbbmagjhkakgaaGreatDoor.Lf
def Roomy (w : World) (ps : List Pol) : Prop := ∀ (i : Nat) (p : Pol), ps[i]? = some p → ∃ stb o n cap, p.strm = some ⟨stb, 0, none⟩ ∧ w.heap[stb]? = some (.cells #[.slice o n cap] 177 (0, 0)) ∧ n < 30
set_option maxHeartbeats 1000000 in
theorem checkEvent_ok (wtb : Nat) (retain room : Int) (nv ev : Value) (pa : Option Addr) (pcap : Nat) (ps : List Pol) (E : List EvC) (time : Int) (ao : Option Addr) (A : List ByteArray) (cap : Nat) (w : World) (hw : w.heap[wtb]? = some (.cells #[.int .i64 retain, .int .i64 room, nv, ev, .slice pa ps.length pcap] 153 (0, 0))) (hE : EvsAt w ev E) (hn : E.length ≤ 1000000) (ht : 0 ≤ time ∧ time ≤ 1000000000000) (hr : 0 ≤ retain ∧ retain ≤ 1000000000)
    (hl : ∀ e, E.getLast? = some e → e.time < time) (hroom : (E.length : Int) - oldF (time - retain) E + 1 ≤ room) (h : StrsIn w ao A) (hA : A.length ≤ 10) (hcap : A.length ≤ cap) (hN : ∀ j, j < A.length → NameOK (A.getD j ByteArray.empty)) (hD : ∀ j, j < A.length → Lib.containsS (A.take j) (A.getD j ByteArray.empty) = false)
    (hP : PolsIn w pa pcap ps) (hps : ps.length ≤ 1000000) (hpc : ps.length ≤ pcap) (hS : Roomy w ps) :
    Calls Tryz.prog 86 #[.pointer (some ⟨wtb, 0, none⟩), .int .i64 time, .slice ao A.length cap] w fun e w' => e = .returned .nilIface ∧ Below w.heap.size w w' := by
  have hT := checkTime_ok wtb (.int .i64 retain) (.int .i64 room) nv ev (.slice pa ps.length pcap) E time w hw hE hn ht hl
  have hAt : Hid (∀ w', Below w.heap.size w w' → Calls Tryz.prog 126 #[.slice ao A.length cap] w' fun e w'' => e = .returned .nilIface ∧ Below w'.heap.size w' w'') := fun w' hb => checkAtoms_ok ao A cap w' (h.below hb) hA hcap hN hD
  have hRm : Hid (∀ w', Below w.heap.size w w' → Calls Tryz.prog 128 #[.pointer (some ⟨wtb, 0, none⟩), .int .i64 time] w' fun e w'' => e = .returned .nilIface ∧ Below w'.heap.size w' w'') := fun w' hb => checkRoom_ok wtb retain room nv ev (.slice pa ps.length pcap) E time w' (hb.heapOf hw) (hE.below hb) hn ht hr hroom
  have hlt := heap_lt hw
  have hc4 : Hid (∀ w', Below w.heap.size w w' → w'.cell? ⟨wtb, 4, none⟩ = some (.slice pa ps.length pcap)) := fun w' hb => cell_at (hb.heapOf hw) rfl
  generalize hlen : ps.length = n at *
  clear hw hE hl hroom h hA hcap hN hD hr hn
  go_enter Tryz.func86, Tryz.ntmps86
  go_wp2_with fail
  refine hT.mono ?_
  rintro e w0 ⟨rfl, hw0⟩
  have hw0 := hw0.symm
  subst hw0
  clear hT
  go_wp2_with fail
  refine (hAt.out _ (Below.refl _ _)).mono ?_
  rintro e w1 ⟨rfl, hb1⟩
  have q4 := hc4.out w1 hb1
  go_wp2_with fail
  go_loopw [29] (fun iv wr => ∃ i : Nat, iv = .int .i64 i ∧ i ≤ n ∧ Below w.heap.size w wr) (fun iv _ => n - (intOf iv).toNat)
  case atStart => exact ⟨0, rfl, Nat.zero_le _, hb1⟩
  case round =>
    clear hb1 q4
    obtain ⟨i, rfl, hin, hbw⟩ := hrel
    by_cases hi : i < n
    · have hget : ps[i]? = some ps[i] := List.getElem?_eq_getElem (by omega)
      obtain ⟨stb, o, k, c, hst, hsb, hk⟩ := hS i _ hget
      rcases hP with ⟨_, rfl, _⟩ | ⟨pb, po, parr, mp, rfl, hpb, hpat⟩
      · simp at hlen; omega
      · obtain ⟨p0, p1, p2, p3, p4⟩ := hpat i _ hget
        generalize ps[i] = p at *
        rw [hst] at p4
        have hpb' := hbw.heapOf hpb
        have z0 := cell_at hpb' p0
        have z1 := cell_at hpb' p1
        have z2 := cell_at hpb' p2
        have z3 := cell_at hpb' p3
        have z4 := cell_at hpb' p4
        have hF := isFull_any stb o k c (wr.alloc (.cells #[.string p.name, .pointer p.sent, .int .i64 p.node, .int .i64 p.ver, .pointer (some ⟨stb, 0, none⟩)] 183)) ((hbw.al _).heapOf hsb)
        rw [show decide ((k : Int) ≥ 30) = false from decide_eq_false (by omega)] at hF
        have hb2 : Below w.heap.size w (wr.alloc (.cells #[.string p.name, .pointer p.sent, .int .i64 p.node, .int .i64 p.ver, .pointer (some ⟨stb, 0, none⟩)] 183)) := hbw.al _
        clear hS hpat hpb hpb' p0 p1 p2 p3 p4 hget
        go_wp2_with fail
        refine hF.mono ?_
        rintro e w2 ⟨rfl, rfl⟩
        go_wp2_with fail
        go_roundw
        case rel => exact ⟨i + 1, by go_num, by omega, hb2⟩
        case measure => simp only [intOf]; omega
    · obtain rfl : i = n := by omega
      go_wp2_with fail
      refine (hRm.out _ hbw).mono ?_
      rintro e w2 ⟨rfl, hb2⟩
      go_wp2_with fail
      go_ret
      exact ⟨rfl, hbw.tr hb2⟩
end Go.Proofs.YtpbbmagjhkakgaaGreatDoor.Ev

namespace Go.Proofs.YtpbbmagjhkakgaaGreatDoor.Ev
open Go.RowKit Go.Deep Go.Proofs.YtpbbmagjhkakgaaGreatDoor.Lf
structure SpareR (P : Nat → Prop) (w w' : World) : Prop where
  os : w'.os = w.os
  output : w'.output = w.output
  size : w.heap.size ≤ w'.heap.size
  block : ∀ b, b < w.heap.size → ¬ P b → w'.heap[b]? = w.heap[b]?
theorem SpareR.refl (P : Nat → Prop) (w : World) : SpareR P w w := ⟨rfl, rfl, Nat.le_refl _, fun _ _ _ => rfl⟩
theorem SpareR.trans {P : Nat → Prop} {a b c : World} (h : SpareR P a b) (k : SpareR P b c) : SpareR P a c := ⟨k.os.trans h.os, k.output.trans h.output, Nat.le_trans h.size k.size, fun x hx hp => (k.block x (Nat.lt_of_lt_of_le hx h.size) hp).trans (h.block x hx hp)⟩
theorem SpareR.of_below {P : Nat → Prop} {a b : World} (h : Below a.heap.size a b) : SpareR P a b := ⟨h.os, h.output, h.size, fun x hx _ => h.block x hx⟩
theorem SpareR.of_spare {P : Nat → Prop} {a b : World} (h : Spare P a b) : SpareR P a b := ⟨h.os, h.output, h.size, h.block⟩
theorem SpareR.mono {P Q : Nat → Prop} {a b : World} (h : SpareR P a b) (hP : ∀ x, x < a.heap.size → P x → Q x) : SpareR Q a b := ⟨h.os, h.output, h.size, fun x hx hq => h.block x hx fun e => hq (hP x hx e)⟩
theorem SpareR.tapeR {P : Nat → Prop} {a b : World} (h : SpareR P a b) (τ : Tape) (d : Nat) : SpareR P a (re b τ d) := ⟨h.os, h.output, h.size, h.block⟩
theorem SpareR.tape0 {P : Nat → Prop} {a b : World} {τ : Tape} {d : Nat} (h : SpareR P (re a τ d) b) : SpareR P a b := ⟨h.os, h.output, h.size, h.block⟩
structure WatchAt (w : World) (wtb : Nat) (retain room : Int) (no : Option Addr) (ncap : Nat) (K : List Key) (ea : Option Addr) (ecap : Nat) (C : List EvC) (E : List Pe) (pa : Option Addr) (pcap : Nat) (ps : List Pol) (ss : List Strm) : Prop where
  cell : w.heap[wtb]? = some (.cells #[.int .i64 retain, .int .i64 room, .slice no K.length ncap, .slice ea C.length ecap, .slice pa ps.length pcap] 153 (0, 0))
  evs : EvsAt w (.slice ea C.length ecap) C
  len : C.length = E.length
  ins : ∀ (i : Nat) c e, C[i]? = some c → E[i]? = some e → EvIn w c e
  typed : ∀ c ∈ C, EvT w c
  few : C.length ≤ 1000
  ret : 0 ≤ retain ∧ retain ≤ 1000000000
  nums : ∀ c, C.getLast? = some c → 0 ≤ c.number ∧ c.number ≤ 1000000000
  nfew : K.length ≤ 1000
  ncp : K.length ≤ ncap
  nodes : NodesIn w no K
  ntyped : ∀ a, no = some a → ∃ cs m, w.heap[a.block]? = some (.cells cs 226 m)
  core : ∀ k ∈ K, CoreOp k.op
  ahead : Ahead K
  rows : ∀ e ∈ E, e.so.length = K.length + 1
  pols : PolsIn w pa pcap ps
  pfew : ps.length ≤ 1000
  pcp : ps.length ≤ pcap
  plen : ss.length = ps.length
  pstr : ∀ (i : Nat) (s : Strm) (p : Pol), ss[i]? = some s → ps[i]? = some p → p.strm = some ⟨s.stb, 0, none⟩
  sok : ∀ s ∈ ss, StrOK w s
  apart : Apart ss
  pnode : ∀ p ∈ ps, p.node ≤ K.length
theorem EvIn.tapeR {w : World} {c : EvC} {e : Pe} (h : EvIn w c e) (τ : Tape) (d : Nat) : EvIn (re w τ d) c e :=
  ⟨h.number, h.time, h.low, h.sl, h.slen, h.so, h.al, h.alen, h.atoms⟩
theorem WatchAt.tapeR {w : World} {wtb : Nat} {retain room : Int} {no : Option Addr} {ncap : Nat} {K : List Key} {ea : Option Addr} {ecap : Nat} {C : List EvC} {E : List Pe} {pa : Option Addr} {pcap : Nat} {ps : List Pol} {ss : List Strm} (h : WatchAt w wtb retain room no ncap K ea ecap C E pa pcap ps ss) (τ : Tape) (d : Nat) : WatchAt (re w τ d) wtb retain room no ncap K ea ecap C E pa pcap ps ss :=
  ⟨h.cell, h.evs, h.len, fun i c e h1 h2 => (h.ins i c e h1 h2).tapeR τ d, fun c hc => ⟨(h.typed c hc).so, (h.typed c hc).ao⟩, h.few, h.ret, h.nums, h.nfew, h.ncp, h.nodes, h.ntyped, h.core, h.ahead, h.rows, h.pols, h.pfew, h.pcp, h.plen, h.pstr, h.sok, h.apart, h.pnode⟩
def Own46 (wtb : Nat) (ea : Option Addr) (ss : List Strm) (b : Nat) : Prop := b = wtb ∨ (∃ a, ea = some a ∧ a.block = b) ∨ Ms ss b
end Go.Proofs.YtpbbmagjhkakgaaGreatDoor.Ev
