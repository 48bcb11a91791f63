/-
  Small laws on worlds for this seat's walks: a world in which every old block but one stands as it stood; no program is named; no condition but those that stand in each theorem.
-/
/-
  What the small functions of the reader do: signOf, joins, hasWindow: each answers as its plain function and leaves the world as it was; for every number.
-/
import Derived.Test.YtpbbmagjhkakgaaGreatDoorShelfToPure
import Derived.WalkKit
import Derived.WalkSpells
import Derived.WalkLawsBesides
import Derived.Lib.OthersKept
import Derived.Test.YtpbbmagjhkakgaaGreatDoorProg
namespace Go.Proofs.YtpbbmagjhkakgaaGreatDoor
open Go.RowKit Go.Deep

theorem ret_int {k : IntKind} {a b : Int} (h : a = b) : Ending.returned (.int k a) = .returned (.int k b) := by rw [h]

/-- Every block of w but block s stands in w' as it stood; the streams are as they were. -/
structure Only (s : Nat) (w w' : World) : Prop where
  os : w'.os = w.os
  tape : w'.tape = w.tape
  output : w'.output = w.output
  size : w.heap.size ≤ w'.heap.size
  block : ∀ k, k < w.heap.size → k ≠ s → w'.heap[k]? = w.heap[k]?

theorem Only.refl (s : Nat) (w : World) : Only s w w := ⟨rfl, rfl, rfl, Nat.le_refl _, fun _ _ _ => rfl⟩

theorem Only.trans {s : Nat} {a b c : World} (h : Only s a b) (k : Only s b c) : Only s a c :=
  ⟨k.os.trans h.os, k.tape.trans h.tape, k.output.trans h.output, Nat.le_trans h.size k.size, fun i hi hs => (k.block i (Nat.lt_of_lt_of_le hi h.size) hs).trans (h.block i hi hs)⟩

theorem Only.of_below {s : Nat} {a b : World} (h : Below a.heap.size a b) : Only s a b :=
  ⟨h.os, h.tape, h.output, h.size, fun k hk _ => h.block k hk⟩

theorem Only.below {s B : Nat} {a b : World} (h : Only s a b) (hB : B ≤ s) (hs : B ≤ a.heap.size) : Below B a b :=
  ⟨h.os, h.tape, h.output, h.size, fun k hk => h.block k (by omega) (by omega)⟩

theorem Only.drew {s : Nat} {a w : World} (h : Only s a w) : Only s a w.drew := ⟨h.os, h.tape, h.output, h.size, h.block⟩

theorem Only.alloc {s : Nat} {a w : World} (h : Only s a w) (o : Obj) : Only s a (w.alloc o) :=
  h.trans ⟨rfl, rfl, rfl, by simp, fun k hk _ => Below.heap_alloc _ _ _ hk⟩

theorem Only.setCell {s : Nat} {a w : World} (h : Only s a w) {p : Addr} (hp : p.block = s ∨ a.heap.size ≤ p.block) (u : Value) : Only s a (w.setCell p u) :=
  ⟨h.os, h.tape, h.output, by simpa [World.setCell] using h.size, fun k hk hs => (Below.heap_setCell _ _ _ _ (by omega)).trans (h.block k hk hs)⟩

theorem Only.heap {s : Nat} {a w : World} (h : Only s a w) {k : Nat} {o : Obj} (hk : a.heap[k]? = some o) (hs : k ≠ s) : w.heap[k]? = some o := by
  rw [h.block k (Array.getElem?_eq_some_iff.1 hk).1 hs]; exact hk

theorem _root_.Go.RowKit.Below.heapOf {a w : World} (h : Below a.heap.size a w) {k : Nat} {o : Obj} (hk : a.heap[k]? = some o) : w.heap[k]? = some o := by
  rw [h.block k (Array.getElem?_eq_some_iff.1 hk).1]; exact hk

theorem _root_.Go.RowKit.Below.al {a w : World} (h : Below a.heap.size a w) (o : Obj) : Below a.heap.size a (w.alloc o) := h.alloc h.size o

theorem _root_.Go.RowKit.Below.tr {a b c : World} (h : Below a.heap.size a b) (k : Below b.heap.size b c) : Below a.heap.size a c := h.trans (k.mono h.size)

theorem Only.tb {s : Nat} {a b c : World} (h : Only s a b) (k : Below b.heap.size b c) : Only s a c := h.trans (Only.of_below k)

theorem heap_lt {w : World} {k : Nat} {o : Obj} (h : w.heap[k]? = some o) : k < w.heap.size := (Array.getElem?_eq_some_iff.1 h).1

theorem cell_at {w : World} {k i : Nat} {c : Array Value} {e : TypeId} {m : Nat × Nat} {v : Value} (h : w.heap[k]? = some (.cells c e m)) (hc : c[i]? = some v) : w.cell? ⟨k, i, none⟩ = some v := by
  simp [World.cell?, h, hc]

theorem cell_lt {w : World} {p : Addr} {v : Value} (h : w.cell? p = some v) : p.block < w.heap.size := by
  rcases Nat.lt_or_ge p.block w.heap.size with h' | h'
  · exact h'
  · simp [World.cell?, Array.getElem?_eq_none h'] at h

/-- The three cells of a token. -/
def tokCells (t : Tok) : List Value := [.int .i32 t.sign, .int .i64 t.place, .string t.word]

/-- The slice v reads in w as the tokens ts, and lies below block B. -/
def ToksAt (B : Nat) (w : World) (v : Value) (ts : List Tok) : Prop :=
  ∃ tb off cap cs e m tail, v = .slice (some ⟨tb, off, none⟩) ts.length cap ∧ tb < B ∧ w.heap[tb]? = some (.cells cs e m) ∧ ts.length ≤ cap ∧ cap ≤ maxLen ∧ cs.toList.drop off = (ts.map tokCells).flatten ++ tail

theorem ToksAt.only {B s : Nat} {w w' : World} {v : Value} {ts : List Tok} (h : ToksAt B w v ts) (ho : Only s w w') (hs : B ≤ s) : ToksAt B w' v ts := by
  obtain ⟨tb, off, cap, cs, e, m, tail, rfl, htb, hh, r⟩ := h
  exact ⟨tb, off, cap, cs, e, m, tail, rfl, htb, ho.heap hh (by omega), r⟩

/-- Block rb is a reader's, whose tokens are ts; they lie below it. -/
def RdAt (T : TypeId) (rb : Nat) (w : World) (ts : List Tok) : Prop := ∃ v, w.heap[rb]? = some (.cells #[v] T (0, 0)) ∧ ToksAt rb w v ts

theorem RdAt.lt {T : TypeId} {rb : Nat} {w : World} {ts : List Tok} (h : RdAt T rb w ts) : rb < w.heap.size := by
  obtain ⟨v, hv, _⟩ := h; exact heap_lt hv

theorem RdAt.below {T : TypeId} {rb : Nat} {w w' : World} {ts : List Tok} (h : RdAt T rb w ts) (hb : Below w.heap.size w w') : RdAt T rb w' ts := by
  obtain ⟨v, hv, ht⟩ := h
  exact ⟨v, Below.heapOf hb hv, ht.only (s := rb) (Only.of_below hb) (Nat.le_refl _)⟩

theorem RdAt.alloc {T : TypeId} {rb : Nat} {w : World} {ts : List Tok} (h : RdAt T rb w ts) (o : Obj) : RdAt T rb (w.alloc o) ts :=
  h.below ((Below.refl _ _).alloc (Nat.le_refl _) o)

theorem RdAt.drew {T : TypeId} {rb : Nat} {w : World} {ts : List Tok} (h : RdAt T rb w ts) : RdAt T rb w.drew ts :=
  h.below (Below.refl _ _).drew

theorem RdAt.setCell {T : TypeId} {rb : Nat} {w : World} {ts : List Tok} (h : RdAt T rb w ts) {p : Addr} (hp : rb < p.block) (u : Value) : RdAt T rb (w.setCell p u) ts := by
  obtain ⟨v, hv, ht⟩ := h
  exact ⟨v, by rw [Below.heap_setCell _ _ _ _ (by omega)]; exact hv, ht.only (s := p.block) ((Only.refl _ _).setCell (.inl rfl) _) (by omega)⟩

/-- The value v points to the sentence T in w; its blocks lie from B on. (S: the sentence's type.) -/
def SentAt (S : TypeId) (B : Nat) (w : World) : BT Pay → Value → Prop
  | .nil, v => v = .pointer none
  | .node _ _ a l r, v => ∃ b vl vr, v = .pointer (some ⟨b, 0, none⟩) ∧ B ≤ b ∧ w.heap[b]? = some (.cells #[.int .i32 a.op, .string a.name, .int .i64 a.lo, .int .i64 a.hi, vl, vr] S (0, 0)) ∧ SentAt S B w l vl ∧ SentAt S B w r vr

theorem SentAt.heap {S : TypeId} {B : Nat} {w w' : World} (hh : ∀ k o, B ≤ k → w.heap[k]? = some o → w'.heap[k]? = some o) : ∀ {x : BT Pay} {v : Value}, SentAt S B w x v → SentAt S B w' x v
  | .nil, _, h => h
  | .node _ _ _ l r, _, ⟨b, vl, vr, e, hb, hc, hl, hr⟩ => ⟨b, vl, vr, e, hb, hh b _ hb hc, SentAt.heap hh (x := l) hl, SentAt.heap hh (x := r) hr⟩

theorem SentAt.only {S : TypeId} {B s : Nat} {w w' : World} {x : BT Pay} {v : Value} (h : SentAt S B w x v) (ho : Only s w w') (hs : s < B) : SentAt S B w' x v :=
  SentAt.heap (fun k o hk hc => ho.heap hc (by omega)) h

theorem SentAt.below {S : TypeId} {B : Nat} {w w' : World} {x : BT Pay} {v : Value} (h : SentAt S B w x v) (hb : Below w.heap.size w w') : SentAt S B w' x v :=
  SentAt.heap (fun _ _ _ hc => Below.heapOf hb hc) h

theorem SentAt.low {S : TypeId} {B B' : Nat} {w : World} (hB : B' ≤ B) : ∀ {x : BT Pay} {v : Value}, SentAt S B w x v → SentAt S B' w x v
  | .nil, _, h => h
  | .node _ _ _ l r, _, ⟨b, vl, vr, e, hb, hc, hl, hr⟩ => ⟨b, vl, vr, e, Nat.le_trans hB hb, hc, SentAt.low hB (x := l) hl, SentAt.low hB (x := r) hr⟩

theorem heap_new (w : World) (o : Obj) (k : Nat) (h : k = w.heap.size) : (w.alloc o).heap[k]? = some o := by
  subst h; show (w.heap.push o)[w.heap.size]? = some o; simp

theorem sent_mk {S : TypeId} {B b : Nat} {w : World} {op lo hi : Int} {name : ByteArray} {l r : BT Pay} {vl vr : Value} (hB : B ≤ b) (hh : w.heap[b]? = some (.cells #[.int .i32 op, .string name, .int .i64 lo, .int .i64 hi, vl, vr] S (0, 0)))
    (hl : SentAt S B w l vl) (hr : SentAt S B w r vr) : SentAt S B w (mk op name lo hi l r) (.pointer (some ⟨b, 0, none⟩)) := ⟨b, vl, vr, rfl, hB, hh, hl, hr⟩

theorem sent_ptr {S : TypeId} {B : Nat} {w : World} {x : BT Pay} {v : Value} (h : SentAt S B w x v) : ∃ vv, v = Value.pointer vv := by
  cases x with
  | nil => exact ⟨_, h⟩
  | node _ _ _ _ _ => obtain ⟨b, _, _, hb, _⟩ := h; exact ⟨_, hb⟩

theorem head_get (s : ByteArray) (h : 0 < s.size) : s.data.toList.headD 0 = s[0] := by
  obtain ⟨⟨l⟩⟩ := s
  cases l with
  | nil => simp [ByteArray.size] at h
  | cons a l => rfl

theorem toks_head {B : Nat} {w : World} {v : Value} {t : Tok} {ts : List Tok} (h : ToksAt B w v (t :: ts)) :
    ∃ tb off cap, v = .slice (some ⟨tb, off, none⟩) (ts.length + 1) cap ∧ tb < B ∧ ts.length + 1 ≤ cap ∧ cap ≤ maxLen ∧ w.cell? ⟨tb, off, none⟩ = some (.int .i32 t.sign) ∧ w.cell? ⟨tb, off + 1, none⟩ = some (.int .i64 t.place) ∧ w.cell? ⟨tb, off + 2, none⟩ = some (.string t.word) ∧
      ∀ s w', Only s w w' → B ≤ s → ToksAt B w' (.slice (some ⟨tb, off + 3, none⟩) ts.length (cap - 1)) ts := by
  obtain ⟨tb, off, cap, cs, e, m, tail, rfl, htb, hh, hc, hm, hd⟩ := h
  have g : ∀ i v, i < 3 → (tokCells t)[i]? = some v → cs[off + i]? = some v := by
    intro i v hi hv
    have h1 : (cs.toList.drop off)[i]? = some v := by
      rw [hd]
      simp only [List.map_cons, List.flatten_cons, List.append_assoc]
      rw [List.getElem?_append_left (by simp [tokCells]; omega)]
      exact hv
    rw [List.getElem?_drop] at h1
    simpa using h1
  refine ⟨tb, off, cap, by simp, htb, by simpa using hc, hm, cell_at hh (g 0 _ (by omega) rfl), cell_at hh (g 1 _ (by omega) rfl), cell_at hh (g 2 _ (by omega) rfl), ?_⟩
  intro s w' ho hs
  refine ⟨tb, off + 3, cap - 1, cs, e, m, tail, rfl, htb, ho.heap hh (by omega), by simp at hc; omega, by omega, ?_⟩
  rw [← List.drop_drop, hd]
  simp [tokCells]

end Go.Proofs.YtpbbmagjhkakgaaGreatDoor

namespace Go.Proofs.YtpbbmagjhkakgaaGreatDoor
open Go.RowKit



set_option maxHeartbeats 400000 in
theorem joins_any (s : Int) (w : World) :
    Calls Tryz.prog 153 #[.int .i32 s] w fun e w' => e = .returned (.bool (joinsB s)) ∧ w' = w := by
  go_enter Tryz.func153, Tryz.ntmps153
  go_wp2
  all_goals go_ret
  all_goals exact ⟨by simp_all [joinsB], rfl⟩

set_option maxHeartbeats 400000 in
theorem hasWindow_any (s : Int) (w : World) :
    Calls Tryz.prog 165 #[.int .i32 s] w fun e w' => e = .returned (.bool (winB s)) ∧ w' = w := by
  go_enter Tryz.func165, Tryz.ntmps165
  go_wp2
  all_goals go_ret
  all_goals exact ⟨by simp_all [winB], rfl⟩

set_option maxHeartbeats 1000000 in
theorem signOf_any (r : Int) (w : World) :
    Calls Tryz.prog 151 #[.int .i32 r] w fun e w' => e = .returned (.int .i32 (signF r)) ∧ w' = w := by
  go_enter Tryz.func151, Tryz.ntmps151
  go_wp2
  all_goals go_ret
  all_goals refine ⟨ret_int ?_, rfl⟩
  all_goals (try simp_all [signF])
  all_goals ((repeat' split) <;> intros <;> omega)

end Go.Proofs.YtpbbmagjhkakgaaGreatDoor
