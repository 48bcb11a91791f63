/-
  The plain functions of the program's reader, writer and counter of nodes, over lists of bytes, numbers and trees: definitions alone, with no condition; nothing of the program is named here.
-/
import Derived.Deep.Trees
import Derived.Lib.AtoiAll
namespace Go.Proofs.YtpbbmagjhkakgaaGreatDoor
open Go.Deep (BT)

/-- The sign that stands for a rune: -2 for none. -/
def signF (r : Int) : Int :=
  if r = 33 then 172 else if r = 38 then 8743 else if r = 124 then 8744
  else if r = 172 ∨ r = 8743 ∨ r = 8744 ∨ r = 89 ∨ r = 79 ∨ r = 72 ∨ r = 83 ∨ r = 40 ∨ r = 41 ∨ r = 91 ∨ r = 93 ∨ r = 44 ∨ r = 32 then r
  else if 97 ≤ r ∧ r ≤ 122 then 97 else if 48 ≤ r ∧ r ≤ 57 then 48 else -2

/-- Do two of a kind that stand together join? -/
def joinsB (s : Int) : Bool := s == 97 || s == 48

/-- Has a sign a window? -/
def winB (o : Int) : Bool := o == 89 || o == 79 || o == 72 || o == 83

/-- A token: its sign, its place, its word. -/
structure Tok where
  sign : Int
  place : Int
  word : ByteArray

/-- Two strings with the same bytes are one. -/
theorem bytes_ext {a b : ByteArray} (h : a.data.toList = b.data.toList) : a = b := by
  obtain ⟨⟨la⟩⟩ := a
  obtain ⟨⟨lb⟩⟩ := b
  simp at h
  subst h
  rfl

/-- What a node of a sentence bears: its sign, its name, its window. -/
structure Pay where
  op : Int
  name : ByteArray
  lo : Int
  hi : Int

/-- A node without an address. -/
def mk (op : Int) (name : ByteArray) (lo hi : Int) (l r : BT Pay) : BT Pay := .node 0 0 ⟨op, name, lo, hi⟩ l r

/-- The next token, and what is left. -/
def takeF : List Tok → Tok × List Tok
  | [] => (⟨-1, 0, ByteArray.empty⟩, [])
  | t :: ts => if t.sign = -1 then (t, t :: ts) else (t, ts)

/-- The next token must bear this sign. -/
def expectF (s : Int) (ts : List Tok) : Option (List Tok) := if (takeF ts).1.sign = s then some (takeF ts).2 else none

/-- A number that a sentence may hold. -/
def okNum : Lib.NumEnd Int → Option Int
  | .ok v => if 1000000 < v then none else some v
  | _ => none

theorem okNum_none {x : Lib.NumEnd Int} (h : ∀ v, x ≠ .ok v) : okNum x = none := by
  cases x with
  | ok v => exact absurd rfl (h v)
  | _ => rfl

/-- The number that a word spells, if a sentence may hold it. -/
def numB (w : ByteArray) : Option Int :=
  if 1 < w.size ∧ w.data.toList.headD 0 = 48 then none
  else okNum (Lib.atoiAll w.data.toList)

def numF (ts : List Tok) : Option (Int × List Tok) :=
  if (takeF ts).1.sign = 48 then (numB (takeF ts).1.word).map fun v => (v, (takeF ts).2) else none

def windowF (op : Int) (ts : List Tok) : Option ((Int × Int) × List Tok) :=
  if winB op then
    match expectF 91 ts with
    | none => none
    | some t1 => match numF t1 with
      | none => none
      | some (a, t2) => match expectF 44 t2 with
        | none => none
        | some t3 => match numF t3 with
          | none => none
          | some (b, t4) => match expectF 93 t4 with
            | none => none
            | some t5 => if b < a then none else some ((a, b), t5)
  else some ((0, 0), ts)

def trueB : ByteArray := ⟨#[116, 114, 117, 101]⟩

def wordF (t : Tok) : Option (BT Pay) :=
  if t.word = trueB then some (mk 116 ByteArray.empty 0 0 .nil .nil)
  else if 8 < t.word.size then none
  else some (mk 97 t.word 0 0 .nil .nil)

/-- Behind the sign of a sentence with one part. -/
def singleF (f : List Tok → Option (BT Pay × List Tok)) (op : Int) (ts : List Tok) : Option (BT Pay × List Tok) :=
  match windowF op ts with
  | none => none
  | some ((a, b), t1) => match f t1 with
    | none => none
    | some (p, t2) => some (mk op ByteArray.empty a b p .nil, t2)

/-- Behind the bracket of a sentence with two parts. -/
def pairF (f : List Tok → Option (BT Pay × List Tok)) (ts : List Tok) : Option (BT Pay × List Tok) :=
  match f ts with
  | none => none
  | some (p, t1) =>
    if (takeF t1).1.sign = 8743 ∨ (takeF t1).1.sign = 8744 ∨ (takeF t1).1.sign = 83 then
      match windowF (takeF t1).1.sign (takeF t1).2 with
      | none => none
      | some ((a, b), t2) => match f t2 with
        | none => none
        | some (q, t3) => match expectF 41 t3 with
          | none => none
          | some t4 => some (mk (takeF t1).1.sign ByteArray.empty a b p q, t4)
    else none

def stepF (f : List Tok → Option (BT Pay × List Tok)) (ts : List Tok) : Option (BT Pay × List Tok) :=
  if (takeF ts).1.sign = 97 then (wordF (takeF ts).1).map fun x => (x, (takeF ts).2)
  else if (takeF ts).1.sign = 40 then pairF f (takeF ts).2
  else if (takeF ts).1.sign = 172 ∨ (takeF ts).1.sign = 89 ∨ (takeF ts).1.sign = 79 ∨ (takeF ts).1.sign = 72 then singleF f (takeF ts).1.sign (takeF ts).2
  else none

/-- A sentence off the front of the tokens; n: how deep it may go. -/
def parseF : Nat → List Tok → Option (BT Pay × List Tok)
  | 0 => fun _ => none
  | n + 1 => stepF (parseF n)

/-- The tokens end in the one for the end, and there alone. -/
def Ends (ts : List Tok) : Prop := ∃ front e, ts = front ++ [e] ∧ e.sign = -1 ∧ e.word.size ≤ 300 ∧ ∀ t, t ∈ front → t.sign ≠ -1 ∧ t.word.size ≤ 300

theorem Ends.take {ts : List Tok} (h : Ends ts) : Ends (takeF ts).2 ∧ (takeF ts).2.length ≤ ts.length ∧ ((takeF ts).1.sign ≠ -1 → (takeF ts).2.length + 1 = ts.length) := by
  obtain ⟨front, e, rfl, he, hs, hf⟩ := h
  match front, hf with
  | [], _ => simp [takeF, he]; exact ⟨[], e, rfl, he, hs, by simp⟩
  | t :: f, hf =>
    have ht := (hf t (by simp)).1
    simp [takeF, ht]
    exact ⟨f, e, rfl, he, hs, fun x hx => hf x (by simp [hx])⟩

theorem Ends.word {ts : List Tok} (h : Ends ts) : (takeF ts).1.word.size ≤ 300 := by
  obtain ⟨front, e, rfl, he, hs, hf⟩ := h
  match front, hf with
  | [], _ => simp [takeF, he]; exact hs
  | t :: f, hf =>
    have ht := hf t (by simp)
    simp [takeF, ht.1]; exact ht.2

theorem Ends.cons {ts : List Tok} (h : Ends ts) : ∃ t r, ts = t :: r := by
  obtain ⟨front, e, rfl, _⟩ := h
  cases front with
  | nil => exact ⟨_, _, rfl⟩
  | cons a l => exact ⟨_, _, rfl⟩

theorem Ends.expect {ts r : List Tok} {s : Int} (h : Ends ts) (he : expectF s ts = some r) : Ends r ∧ r.length ≤ ts.length := by
  unfold expectF at he
  split at he
  · injection he with he; subst he; exact ⟨h.take.1, h.take.2.1⟩
  · cases he

theorem Ends.num {ts r : List Tok} {v : Int} (h : Ends ts) (he : numF ts = some (v, r)) : Ends r ∧ r.length ≤ ts.length := by
  unfold numF at he
  split at he
  · cases hb : numB (takeF ts).1.word with
    | none => simp [hb] at he
    | some x => simp [hb] at he; obtain ⟨_, rfl⟩ := he; exact ⟨h.take.1, h.take.2.1⟩
  · cases he

theorem Ends.window {ts r : List Tok} {op : Int} {ab : Int × Int} (h : Ends ts) (he : windowF op ts = some (ab, r)) : Ends r ∧ r.length ≤ ts.length := by
  unfold windowF at he
  split at he
  · cases h1 : expectF 91 ts with
    | none => simp [h1] at he
    | some t1 =>
      obtain ⟨e1, l1⟩ := h.expect h1
      simp only [h1] at he
      cases h2 : numF t1 with
      | none => simp [h2] at he
      | some x =>
        obtain ⟨a, t2⟩ := x
        obtain ⟨e2, l2⟩ := e1.num h2
        simp only [h2] at he
        cases h3 : expectF 44 t2 with
        | none => simp [h3] at he
        | some t3 =>
          obtain ⟨e3, l3⟩ := e2.expect h3
          simp only [h3] at he
          cases h4 : numF t3 with
          | none => simp [h4] at he
          | some y =>
            obtain ⟨b, t4⟩ := y
            obtain ⟨e4, l4⟩ := e3.num h4
            simp only [h4] at he
            cases h5 : expectF 93 t4 with
            | none => simp [h5] at he
            | some t5 =>
              obtain ⟨e5, l5⟩ := e4.expect h5
              simp only [h5] at he
              split at he
              · cases he
              · injection he with he; injection he with _ he; subst he; exact ⟨e5, by omega⟩
  · injection he with he; injection he with _ he; subst he; exact ⟨h, Nat.le_refl _⟩

/-- A reader of sentences that keeps the end. -/
def Keeps (f : List Tok → Option (BT Pay × List Tok)) : Prop := ∀ ts T r, Ends ts → f ts = some (T, r) → Ends r ∧ r.length ≤ ts.length

theorem keeps_single {f : List Tok → Option (BT Pay × List Tok)} (hf : Keeps f) (op : Int) : Keeps (singleF f op) := by
  intro ts T r h he
  unfold singleF at he
  cases h1 : windowF op ts with
  | none => simp [h1] at he
  | some x =>
    obtain ⟨⟨a, b⟩, t1⟩ := x
    obtain ⟨e1, l1⟩ := h.window h1
    simp only [h1] at he
    cases h2 : f t1 with
    | none => simp [h2] at he
    | some y =>
      obtain ⟨p, t2⟩ := y
      obtain ⟨e2, l2⟩ := hf _ _ _ e1 h2
      simp only [h2] at he
      injection he with he; injection he with _ he; subst he; exact ⟨e2, by omega⟩

theorem keeps_pair {f : List Tok → Option (BT Pay × List Tok)} (hf : Keeps f) : Keeps (pairF f) := by
  intro ts T r h he
  unfold pairF at he
  cases h1 : f ts with
  | none => simp [h1] at he
  | some x =>
    obtain ⟨p, t1⟩ := x
    obtain ⟨e1, l1⟩ := hf _ _ _ h h1
    simp only [h1] at he
    split at he
    · cases h2 : windowF (takeF t1).1.sign (takeF t1).2 with
      | none => simp [h2] at he
      | some y =>
        obtain ⟨⟨a, b⟩, t2⟩ := y
        obtain ⟨e2, l2⟩ := e1.take.1.window h2
        have l1' := e1.take.2.1
        simp only [h2] at he
        cases h3 : f t2 with
        | none => simp [h3] at he
        | some z =>
          obtain ⟨q, t3⟩ := z
          obtain ⟨e3, l3⟩ := hf _ _ _ e2 h3
          simp only [h3] at he
          cases h4 : expectF 41 t3 with
          | none => simp [h4] at he
          | some t4 =>
            obtain ⟨e4, l4⟩ := e3.expect h4
            simp only [h4] at he
            injection he with he; injection he with _ he; subst he; exact ⟨e4, by omega⟩
    · cases he

theorem keeps_step {f : List Tok → Option (BT Pay × List Tok)} (hf : Keeps f) : Keeps (stepF f) := by
  intro ts T r h he
  have ht := h.take
  unfold stepF at he
  split at he
  · cases hb : wordF (takeF ts).1 with
    | none => simp [hb] at he
    | some x => simp [hb] at he; obtain ⟨_, rfl⟩ := he; exact ⟨ht.1, ht.2.1⟩
  · split at he
    · have := keeps_pair hf _ _ _ ht.1 he; exact ⟨this.1, by omega⟩
    · split at he
      · have := keeps_single hf _ _ _ _ ht.1 he; exact ⟨this.1, by omega⟩
      · cases he

theorem keeps_parse : ∀ n, Keeps (parseF n)
  | 0 => fun _ _ _ _ he => by cases he
  | n + 1 => keeps_step (keeps_parse n)

end Go.Proofs.YtpbbmagjhkakgaaGreatDoor
