/-
  What (*Sentence).writeOp, write, writePair and String do: a sentence that lies in memory is written as its plain function says; for every sentence that is made as it should be, in a world whose package-level variables are as the program's text lays them.
-/
/-
  What (*Sentence).write, writePair and String do: a sentence that lies in memory is written as its plain function says; for every sentence that is made as it should be, and whose text is no longer than 100,000,000 bytes, in a world whose package-level variables are as the program's text lays them.
-/
import Derived.Test.YtpbbmagjhkakgaaGreatDoorBuildToRune
import Derived.Test.YtpbbmagjhkakgaaGreatDoorFaceToPurePrint
namespace Go.Proofs.YtpbbmagjhkakgaaGreatDoor
open Go.RowKit Go.Deep

/-- A builder that holds these bytes. -/
def BB (B b : Nat) (l : List UInt8) (w : World) : Prop := BldAt B b (Lib.byteCells l) w

/-- What writing leaves. -/
def BBPost (B b : Nat) (l : List UInt8) (w w' : World) : Prop := BB B b l w' ∧ Below B w w' ∧ Lib.OthersKept 5 (some b) w w'

theorem BBPost.trans {B b : Nat} {l l' : List UInt8} {w w1 w2 : World} (h : BBPost B b l w w1) (k : BBPost B b l' w1 w2) : BBPost B b l' w w2 :=
  ⟨k.1, h.2.1.trans k.2.1, h.2.2.trans k.2.2⟩

theorem BB.at {B b : Nat} {l : List UInt8} {w : World} (h : BB B b l w) : B ≤ b ∧ ∃ cs, w.heap[b]? = some (.cells cs 137 (0, 0)) := by
  rcases h with ⟨hB, v, hb, _⟩ | ⟨hB, v, hb, _⟩
  · exact ⟨hB, _, hb⟩
  · exact ⟨hB, _, hb⟩

theorem kept_below {w w' : World} (hb : Below w.heap.size w w') (e : TypeId) (b : Option Nat) : Lib.OthersKept e b w w' := fun _ _ hk _ _ => hb.heapOf hk

theorem BldAt.below {B b : Nat} {bs : List Value} {w w' : World} (h : BldAt B b bs w) (hb : Below w.heap.size w w') : BldAt B b bs w' := by
  have hg : w.grownBy w' none := ⟨hb.os, hb.tape, hb.output, hb.size, fun k hk _ => hb.block k hk⟩
  have one : ∀ p, Lib.BuilderAtF 137 5 B b p bs w → Lib.BuilderAtF 137 5 B b p bs w' := by
    rintro p ⟨hB, v, hbk, hown, hne⟩
    refine ⟨hB, v, hb.heapOf hbk, hown.kept hg ?_, hne⟩
    cases hv : v.ownBlock with
    | none => exact .inl rfl
    | some k => exact .inr (by simp)
  rcases h with h | h
  · exact .inl (one _ h)
  · exact .inr (one _ h)

theorem BBPost.below {B b : Nat} {l : List UInt8} {w w1 w2 : World} (h : BBPost B b l w w1) (hb : Below w1.heap.size w1 w2) (hB : B ≤ w1.heap.size) : BBPost B b l w w2 :=
  ⟨h.1.below hb, h.2.1.trans (hb.mono hB), h.2.2.trans (kept_below hb _ _)⟩

theorem node_kept {b sb : Nat} {w w' : World} {cs cb : Array Value} {m mb : Nat × Nat} (hs : w.heap[sb]? = some (.cells cs 143 m)) (hb : w.heap[b]? = some (.cells cb 137 mb)) (hk : Lib.OthersKept 5 (some b) w w') : w'.heap[sb]? = some (.cells cs 143 m) := by
  refine hk sb _ hs ?_ ?_
  · intro h
    injection h with h
    subst h
    rw [hs] at hb
    simp at hb
  · intro c fz h
    injection h with _ h
    exact absurd h (by decide)

theorem SentAt.others {b Bt : Nat} {w w' : World} {cb : Array Value} {mb : Nat × Nat} (hb : w.heap[b]? = some (.cells cb 137 mb)) (hk : Lib.OthersKept 5 (some b) w w') : ∀ {x : BT Pay} {v : Value}, SentAt 143 Bt w x v → SentAt 143 Bt w' x v
  | .nil, _, h => h
  | .node _ _ _ l r, _, ⟨sb, vl, vr, e, hB, hc, hl, hr⟩ => ⟨sb, vl, vr, e, hB, node_kept hc hb hk, SentAt.others hb hk (x := l) hl, SentAt.others hb hk (x := r) hr⟩

theorem Glob.belowB {B : Nat} {w w' : World} (h : Glob w) (hb : Below B w w') (hB : 14 ≤ B) : Glob w' := by
  obtain ⟨⟨⟨t1, p1, c1⟩, ⟨t2, p2, c2⟩⟩, ⟨eb, eo, h2⟩, h3, ⟨e, m, h4⟩⟩ := h
  have c : ∀ k, k < 14 → w'.cell? ⟨k, 0, none⟩ = w.cell? ⟨k, 0, none⟩ := fun k hk => World.cell?_of_block (w := w) (a := ⟨k, 0, none⟩) (hb.block k (by omega))
  exact ⟨⟨⟨t1, p1, by rw [c _ (by decide)]; exact c1⟩, ⟨t2, p2, by rw [c _ (by decide)]; exact c2⟩⟩, ⟨eb, eo, by rw [c _ (by decide)]; exact h2⟩, by rw [c _ (by decide)]; exact h3, ⟨e, m, by rw [hb.block _ (by omega)]; exact h4⟩⟩

theorem tab_of {P : Program} {name : String} {g : Nat} {w : World} {k : IntKind} {zs : List Int} {e : TypeId} {m : Nat × Nat} (hn : P.globalNamed name = some g) (h : w.heap[g]? = some (.cells (zs.map fun z => Value.int k z).toArray e m)) : Lib.TabIs P w name k zs := by
  unfold Lib.TabIs World.var?
  rw [hn]
  simp only [Option.bind_some, h]

theorem itoa_any (n : Int) (h0 : -9223372036854775808 ≤ n) (h1 : n ≤ 9223372036854775807) (w : World) (hg : Glob w) :
    Calls Tryz.prog 166 #[.int .i64 n] w fun e w' => e = .returned (.string ⟨(Lib.itoa n).toArray⟩) ∧ Below w.heap.size w w' := by
  obtain ⟨_, _, _, ⟨e, m, h4⟩⟩ := hg
  refine (Tryz.strconv_Itoa n h0 h1 w ?_).mono ?_
  · exact tab_of (by kernel_rfl) h4
  · rintro e w' ⟨rfl, k, os, rfl⟩
    refine ⟨rfl, rfl, rfl, rfl, ?_, ?_⟩
    · simp [Sort.grow]
    · intro i hi
      show (w.heap ++ os)[i]? = w.heap[i]?
      rw [Array.getElem?_append_left hi]

theorem bytes_cat (l m : List UInt8) : Lib.byteCells l ++ Lib.byteCells m = Lib.byteCells (l ++ m) := by simp [Lib.byteCells]

theorem str_bytes (l : List UInt8) : Lib.strCells ⟨l.toArray⟩ = Lib.byteCells l := by simp [Lib.strCells, Lib.byteCells]

theorem wByte (B b : Nat) (l : List UInt8) (c : UInt8) (w : World) (h : BB B b l w) (hlen : l.length + 1 ≤ 140737488355328) (hBw : B ≤ w.heap.size) :
    Calls Tryz.prog 163 #[.pointer (some ⟨b, 0, none⟩), .int .u8 c.toNat] w fun e w' => e = .returned .nilIface ∧ BBPost B b (l ++ [c]) w w' := by
  refine (writeByte_any B b _ c.toNat w h (by rw [Lib.byteCells_length]; exact hlen) hBw).mono ?_
  rintro e w' ⟨rfl, h1, h2, h3⟩
  exact ⟨rfl, by unfold BB; rw [← bytes_cat]; exact h1, h2, h3⟩

theorem wStr (B b : Nat) (l m : List UInt8) (w : World) (h : BB B b l w) (hlen : l.length + m.length ≤ 140737488355328) (hBw : B ≤ w.heap.size) :
    Calls Tryz.prog 120 #[.pointer (some ⟨b, 0, none⟩), .string ⟨m.toArray⟩] w fun e w' => (∃ n : Int, e = .returned (.tuple #[.int .i64 n, .nilIface])) ∧ BBPost B b (l ++ m) w w' := by
  refine (writeString_any B b _ ⟨m.toArray⟩ w h (by rw [Lib.byteCells_length]; simpa [ByteArray.size] using hlen) hBw).mono ?_
  rintro e w' ⟨rfl, h1, h2, h3⟩
  exact ⟨⟨_, rfl⟩, by unfold BB; rw [← bytes_cat, ← str_bytes m]; exact h1, h2, h3⟩

theorem wRune (r : Int) (hr : isSign r) (B b : Nat) (l : List UInt8) (w : World) (h : BB B b l w) (hlen : l.length + 4 ≤ 140737488355328) (hBw : B ≤ w.heap.size) :
    Calls Tryz.prog 164 #[.pointer (some ⟨b, 0, none⟩), .int .i32 r] w fun e w' => (∃ n : Int, e = .returned (.tuple #[.int .i64 n, .nilIface])) ∧ BBPost B b (l ++ opBytes r) w w' := by
  refine (writeRune_any r hr B b _ w h (by rw [Lib.byteCells_length]; exact hlen) hBw).mono ?_
  rintro e w' ⟨⟨n, rfl⟩, h1, h2, h3⟩
  exact ⟨⟨n, rfl⟩, by unfold BB; rw [← bytes_cat]; exact h1, h2, h3⟩

/-- A node of a sentence beside a builder: it stays while the builder is written. -/
theorem step_kept {B b sb : Nat} {l l' : List UInt8} {w w' : World} {cs : Array Value} {m : Nat × Nat} (hs : w.heap[sb]? = some (.cells cs 143 m)) (hb : BB B b l w) (hp : BBPost B b l' w w') : w'.heap[sb]? = some (.cells cs 143 m) := by
  obtain ⟨_, cb, hc⟩ := hb.at
  exact node_kept hs hc hp.2.2

set_option maxHeartbeats 2000000 in
theorem writeOp_any (a : Pay) (hop : isSign a.op) (hlo : 0 ≤ a.lo ∧ a.lo ≤ 1000000) (hhi : 0 ≤ a.hi ∧ a.hi ≤ 1000000) (B b sb : Nat) (l : List UInt8) (vl vr : Value) (w : World)
    (hs : w.heap[sb]? = some (.cells #[.int .i32 a.op, .string a.name, .int .i64 a.lo, .int .i64 a.hi, vl, vr] 143 (0, 0))) (hb : BB B b l w) (hg : Glob w) (hB7 : 14 ≤ B) (hBw : B ≤ w.heap.size) (hlen : l.length ≤ 100000000) (hln : (opW a).length ≤ 100000000) :
    Calls Tryz.prog 122 #[.pointer (some ⟨sb, 0, none⟩), .pointer (some ⟨b, 0, none⟩)] w fun e w' => e = .returned (.tuple #[]) ∧ BBPost B b (l ++ opW a) w w' := by
  have c0 := cell_at (i := 0) hs rfl
  go_enter Tryz.func122, Tryz.ntmps122
  go_wp2_with fail
  refine (wRune a.op hop B b l w hb (by omega) hBw).mono ?_
  rintro e w1 ⟨⟨n1, rfl⟩, p1⟩
  have s1 := step_kept hs hb p1
  have z1 := p1.2.1.size
  have g1 := hg.belowB p1.2.1 hB7
  have hob := opBytes_le a.op
  clear hs c0
  have c0 := cell_at (i := 0) s1 rfl
  go_wp2_with fail
  refine (hasWindow_any a.op _).mono ?_
  rintro e w' ⟨rfl, rfl⟩
  cases hw : winB a.op with
  | false =>
    have hO : Hid (opW a = opBytes a.op) := by show _ = _; unfold opW; rw [hw]; rfl
    go_wp2_with fail
    go_end0
    exact ⟨rfl, by rw [hO.out]; exact p1⟩
  | true =>
    have hO : Hid (opW a = opBytes a.op ++ [91] ++ Lib.itoa a.lo ++ [44] ++ Lib.itoa a.hi ++ [93]) := by show _ = _; unfold opW; rw [hw]; rfl
    have hlen2 : (opBytes a.op).length + (Lib.itoa a.lo).length + (Lib.itoa a.hi).length ≤ 100000000 := by have := hO.out; rw [this] at hln; simp at hln; omega
    go_wp2_with fail
    refine (wByte B b _ 91 _ p1.1 (by simp; omega) (by omega)).mono ?_
    rintro e w2 ⟨rfl, p2⟩
    have s2 := step_kept s1 p1.1 p2
    have z2 := p2.2.1.size
    have g2 := g1.belowB p2.2.1 hB7
    have q2 := p1.trans p2
    clear s1 c0 g1
    have c2 := cell_at (i := 2) s2 rfl
    go_wp2_with fail
    refine (itoa_any a.lo (by omega) (by omega) _ g2).mono ?_
    rintro e w3 ⟨rfl, b3⟩
    have s3 := b3.heapOf s2
    have z3 := b3.size
    have g3 := g2.below b3
    have q3 := q2.below b3 (by omega)
    clear s2 c2 g2
    go_wp2_with fail
    refine (wStr B b _ (Lib.itoa a.lo) _ q3.1 (by simp; omega) (by omega)).mono ?_
    rintro e w4 ⟨⟨n4, rfl⟩, p4⟩
    have s4 := step_kept s3 q3.1 p4
    have z4 := p4.2.1.size
    have g4 := g3.belowB p4.2.1 hB7
    have q4 := q3.trans p4
    clear s3 g3
    go_wp2_with fail
    refine (wByte B b _ 44 _ q4.1 (by simp; omega) (by omega)).mono ?_
    rintro e w5 ⟨rfl, p5⟩
    have s5 := step_kept s4 q4.1 p5
    have z5 := p5.2.1.size
    have g5 := g4.belowB p5.2.1 hB7
    have q5 := q4.trans p5
    clear s4 g4
    have c3 := cell_at (i := 3) s5 rfl
    go_wp2_with fail
    refine (itoa_any a.hi (by omega) (by omega) _ g5).mono ?_
    rintro e w6 ⟨rfl, b6⟩
    have z6 := b6.size
    have q6 := q5.below b6 (by omega)
    clear s5 c3 g5
    go_wp2_with fail
    refine (wStr B b _ (Lib.itoa a.hi) _ q6.1 (by simp; omega) (by omega)).mono ?_
    rintro e w7 ⟨⟨n7, rfl⟩, p7⟩
    have z7 := p7.2.1.size
    have q7 := q6.trans p7
    go_wp2_with fail
    refine (wByte B b _ 93 _ q7.1 (by simp; omega) (by omega)).mono ?_
    rintro e w8 ⟨rfl, p8⟩
    have q8 := q7.trans p8
    go_wp2_with fail
    go_end0
    exact ⟨rfl, by rw [hO.out]; simpa using q8⟩

end Go.Proofs.YtpbbmagjhkakgaaGreatDoor

namespace Go.Proofs.YtpbbmagjhkakgaaGreatDoor
open Go.RowKit Go.Deep

/-- write does as printB says at this sentence. -/
def WriteOK (x : BT Pay) : Prop := ∀ (v : Value) (Bt B b : Nat) (l : List UInt8) (w : World), SentAt 143 Bt w x v → Good x → BB B b l w → Glob w → 14 ≤ B → B ≤ w.heap.size → l.length + (printB x).length ≤ 100000000 →
  Calls Tryz.prog 81 #[v, .pointer (some ⟨b, 0, none⟩)] w fun e w' => e = .returned (.tuple #[]) ∧ BBPost B b (l ++ printB x) w w'

theorem sent_kept {B b Bt : Nat} {l l' : List UInt8} {w w' : World} {x : BT Pay} {v : Value} (hs : SentAt 143 Bt w x v) (hb : BB B b l w) (hp : BBPost B b l' w w') : SentAt 143 Bt w' x v := by
  obtain ⟨_, cb, hc⟩ := hb.at
  exact SentAt.others hc hp.2.2 hs

set_option maxHeartbeats 2000000 in
theorem writePair_any (a : Pay) (x y : BT Pay) (hop : a.op = 8743 ∨ a.op = 8744 ∨ a.op = 83) (hlo : 0 ≤ a.lo ∧ a.lo ≤ 1000000) (hhi : 0 ≤ a.hi ∧ a.hi ≤ 1000000) (hx : WriteOK x) (hy : WriteOK y) (gx : Good x) (gy : Good y)
    (Bt B b sb : Nat) (l : List UInt8) (vl vr : Value) (w : World)
    (hs : w.heap[sb]? = some (.cells #[.int .i32 a.op, .string a.name, .int .i64 a.lo, .int .i64 a.hi, vl, vr] 143 (0, 0))) (hl : SentAt 143 Bt w x vl) (hr : SentAt 143 Bt w y vr)
    (hb : BB B b l w) (hg : Glob w) (hB7 : 14 ≤ B) (hBw : B ≤ w.heap.size) (hlen : l.length + ([40] ++ printB x ++ [32] ++ opW a ++ [32] ++ printB y ++ [41]).length ≤ 100000000) :
    Calls Tryz.prog 121 #[.pointer (some ⟨sb, 0, none⟩), .pointer (some ⟨b, 0, none⟩)] w fun e w' => e = .returned (.tuple #[]) ∧ BBPost B b (l ++ ([40] ++ printB x ++ [32] ++ opW a ++ [32] ++ printB y ++ [41])) w w' := by
  simp only [List.length_append, List.length_cons, List.length_nil] at hlen
  go_enter Tryz.func121, Tryz.ntmps121
  go_wp2_with fail
  refine (wByte B b l 40 _ hb (by omega) hBw).mono ?_
  rintro e w1 ⟨rfl, p1⟩
  have s1 := step_kept hs hb p1
  have l1 := sent_kept hl hb p1
  have r1 := sent_kept hr hb p1
  have z1 := p1.2.1.size
  have g1 := hg.belowB p1.2.1 hB7
  clear hs hl hr hg
  have c4 := cell_at (i := 4) s1 rfl
  go_wp2_with fail
  refine (hx vl Bt B b _ _ l1 gx p1.1 g1 hB7 (by omega) (by simp; omega)).mono ?_
  rintro e w2 ⟨rfl, p2⟩
  have s2 := step_kept s1 p1.1 p2
  have r2 := sent_kept r1 p1.1 p2
  have z2 := p2.2.1.size
  have g2 := g1.belowB p2.2.1 hB7
  have q2 := p1.trans p2
  clear s1 l1 r1 g1 c4
  go_wp2_with fail
  refine (wByte B b _ 32 _ q2.1 (by simp; omega) (by omega)).mono ?_
  rintro e w3 ⟨rfl, p3⟩
  have s3 := step_kept s2 q2.1 p3
  have r3 := sent_kept r2 q2.1 p3
  have z3 := p3.2.1.size
  have g3 := g2.belowB p3.2.1 hB7
  have q3 := q2.trans p3
  clear s2 r2 g2
  go_wp2_with fail
  refine (writeOp_any a (by unfold isSign; omega) hlo hhi B b sb _ vl vr _ s3 q3.1 g3 hB7 (by omega) (by simp; omega) (by omega)).mono ?_
  rintro e w4 ⟨rfl, p4⟩
  have s4 := step_kept s3 q3.1 p4
  have r4 := sent_kept r3 q3.1 p4
  have z4 := p4.2.1.size
  have g4 := g3.belowB p4.2.1 hB7
  have q4 := q3.trans p4
  clear s3 r3 g3
  go_wp2_with fail
  refine (wByte B b _ 32 _ q4.1 (by simp; omega) (by omega)).mono ?_
  rintro e w5 ⟨rfl, p5⟩
  have s5 := step_kept s4 q4.1 p5
  have r5 := sent_kept r4 q4.1 p5
  have z5 := p5.2.1.size
  have g5 := g4.belowB p5.2.1 hB7
  have q5 := q4.trans p5
  clear s4 r4 g4
  have c5 := cell_at (i := 5) s5 rfl
  go_wp2_with fail
  refine (hy vr Bt B b _ _ r5 gy q5.1 g5 hB7 (by omega) (by simp; omega)).mono ?_
  rintro e w6 ⟨rfl, p6⟩
  have z6 := p6.2.1.size
  have q6 := q5.trans p6
  clear s5 r5 g5 c5
  go_wp2_with fail
  refine (wByte B b _ 41 _ q6.1 (by simp; omega) (by omega)).mono ?_
  rintro e w7 ⟨rfl, p7⟩
  have q7 := q6.trans p7
  go_wp2_with fail
  go_end0
  exact ⟨rfl, by simpa using q7⟩

set_option maxHeartbeats 2000000 in
theorem write_any : ∀ x : BT Pay, WriteOK x := by
  intro x
  induction x with
  | nil => intro _ _ _ _ _ _ _ h; exact h.elim
  | node b0 o0 a x y ihx ihy =>
    intro v Bt B b l w hs hgd hb hg hB7 hBw hlen
    obtain ⟨sb, vl, vr, rfl, hBt, hs, hl, hr⟩ := hs
    have c0 := cell_at (i := 0) hs rfl
    have hP : Hid (printB (.node b0 o0 a x y) = if a.op = 116 then [116, 114, 117, 101]
      else if a.op = 97 then a.name.data.toList
      else if a.op = 8743 ∨ a.op = 8744 ∨ a.op = 83 then [40] ++ printB x ++ [32] ++ opW a ++ [32] ++ printB y ++ [41]
      else opW a ++ printB x) := rfl
    generalize printB (.node b0 o0 a x y) = out at *
    rcases hgd with ⟨h1, _⟩ | ⟨h1, _⟩ | ⟨h1, _, h3, _, gx, gy⟩ | ⟨h1, _, h3, _, gx, h4⟩
    · have hO : Hid (out = [116, 114, 117, 101]) := by show _ = _; rw [hP.out, if_pos h1]
      have hO2 : out.length = 4 := by rw [hO.out]; rfl
      rw [h1] at c0
      clear hP h1 ihx ihy
      go_enter Tryz.func81, Tryz.ntmps81
      go_wp2_with fail
      refine (wStr B b l [116, 114, 117, 101] _ hb (by simp; omega) hBw).mono ?_
      rintro e w1 ⟨⟨n1, rfl⟩, p1⟩
      go_wp2_with fail
      go_end0
      exact ⟨rfl, by rw [hO.out]; exact p1⟩
    · have hO : Hid (out = a.name.data.toList) := by show _ = _; rw [hP.out, if_neg (by omega), if_pos h1]
      have hO2 : out.length = a.name.data.toList.length := by rw [hO.out]
      have c1 := cell_at (i := 1) hs rfl
      rw [h1] at c0
      clear hP h1 ihx ihy
      go_enter Tryz.func81, Tryz.ntmps81
      go_wp2_with fail
      refine (wStr B b l a.name.data.toList _ hb (by omega) hBw).mono ?_
      rintro e w1 ⟨⟨n1, rfl⟩, p1⟩
      go_wp2_with fail
      go_end0
      exact ⟨rfl, by rw [hO.out]; exact p1⟩
    · have hO : Hid (out = [40] ++ printB x ++ [32] ++ opW a ++ [32] ++ printB y ++ [41]) := by show _ = _; rw [hP.out, if_neg (by omega), if_neg (by omega), if_pos h1]
      have hW := writePair_any a x y h1 (by omega) (by omega) ihx ihy gx gy Bt B b sb l vl vr w hs hl hr hb hg hB7 hBw (by rw [← hO.out]; exact hlen)
      rw [← hO.out] at hW
      have hq : (a.op == 116) = false ∧ (a.op == 97) = false ∧ ((a.op == 8743) = true ∨ ((a.op == 8743) = false ∧ (a.op == 8744) = true) ∨ ((a.op == 8743) = false ∧ (a.op == 8744) = false ∧ (a.op == 83) = true)) := by
        rcases h1 with h1 | h1 | h1 <;> rw [h1] <;> decide
      obtain ⟨q1, q2, hq⟩ := hq
      clear hP h1 ihx ihy hO hlen
      rcases hq with q3 | ⟨q3, q4⟩ | ⟨q3, q4, q5⟩
      all_goals
        go_enter Tryz.func81, Tryz.ntmps81
        go_wp2_with fail
        refine hW.mono ?_
        rintro e w1 ⟨rfl, p1⟩
        go_wp2_with fail
        go_end0
        exact ⟨rfl, p1⟩
    · have hO : Hid (out = opW a ++ printB x) := by show _ = _; rw [hP.out, if_neg (by omega), if_neg (by omega), if_neg (by omega)]
      have hO2 : out.length = (opW a).length + (printB x).length := by rw [hO.out]; simp
      have hW := writeOp_any a (by unfold isSign; omega) (by omega) (by omega) B b sb l vl vr w hs hb hg hB7 hBw (by omega) (by omega)
      have hq : (a.op == 116) = false ∧ (a.op == 97) = false ∧ (a.op == 8743) = false ∧ (a.op == 8744) = false ∧ (a.op == 83) = false := by
        rcases h1 with h1 | h1 | h1 | h1 <;> rw [h1] <;> decide
      obtain ⟨q1, q2, q3, q4, q5⟩ := hq
      have Ix : Hid (WriteOK x) := ihx
      clear hP h1 ihx ihy
      go_enter Tryz.func81, Tryz.ntmps81
      go_wp2_with fail
      refine hW.mono ?_
      rintro e w1 ⟨rfl, p1⟩
      have s1 := step_kept hs hb p1
      have l1 := sent_kept hl hb p1
      have z1 := p1.2.1.size
      have g1 := hg.belowB p1.2.1 hB7
      clear hs hl hg c0
      have c4 := cell_at (i := 4) s1 rfl
      go_wp2_with fail
      refine (Ix.out vl Bt B b _ _ l1 gx p1.1 g1 hB7 (by omega) (by simp; omega)).mono ?_
      rintro e w2 ⟨rfl, p2⟩
      have q2 := p1.trans p2
      go_wp2_with fail
      go_end0
      exact ⟨rfl, by rw [hO.out]; simpa using q2⟩

set_option maxHeartbeats 1000000 in
theorem string_any (x : BT Pay) (v : Value) (Bt : Nat) (w : World) (hs : SentAt 143 Bt w x v) (hgd : Good x) (hg : Glob w) (hw7 : 14 ≤ w.heap.size) (hlen : (printB x).length ≤ 100000000) :
    Calls Tryz.prog 41 #[v] w fun e w' => e = .returned (.string ⟨(printB x).toArray⟩) ∧ Below w.heap.size w w' := by
  have h0 : BB w.heap.size w.heap.size [] (w.alloc (.cells #[.pointer none, .slice none 0 0] 137)) := Lib.IsBuilderF.of (Lib.fresh_isBuilder 137 5 w)
  have hb := (Below.refl w.heap.size w).al (.cells #[.pointer none, .slice none 0 0] 137 (0, 0))
  have hW := write_any x v Bt w.heap.size w.heap.size [] _ (hs.below hb) hgd h0 (hg.below hb) hw7 (by simp) (by simpa using hlen)
  obtain ⟨vv, rfl⟩ : ∃ vv, v = Value.pointer vv := sent_ptr hs
  go_enter Tryz.func41, Tryz.ntmps41
  go_wp2_with fail
  refine hW.mono ?_
  rintro e w1 ⟨rfl, p1⟩
  have z1 := p1.2.1.size
  go_wp2_with fail
  refine (Tryz.Builder_String_any_k w.heap.size w.heap.size (printB x) _ (by have h := p1.1; rw [List.nil_append] at h; exact h) (by simp at z1; omega)).mono ?_
  rintro e w2 ⟨rfl, _, b2, _⟩
  go_wp2_with fail
  go_ret
  exact ⟨rfl, (hb.trans p1.2.1).trans b2⟩

end Go.Proofs.YtpbbmagjhkakgaaGreatDoor
