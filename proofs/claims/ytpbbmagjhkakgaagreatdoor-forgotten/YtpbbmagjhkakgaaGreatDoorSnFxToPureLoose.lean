import Derived.Test.YtpbbmagjhkakgaaGreatDoorEdWatchToSnOps
import Derived.Test.YtpbbmagjhkakgaaGreatDoorSnHelpToSnInv
import Derived.Test.YtpbbmagjhkakgaaGreatDoorPureSizeToPureSem
namespace Go.Proofs.YtpbbmagjhkakgaaGreatDoor.Ev
open Go.RowKit Go.Deep Go.Maps Go.Proofs.YtpbbmagjhkakgaaGreatDoor.Lf Go.Conc
def look : List (Nat × Value) → Nat → Option Value
  | [], _ => none
  | p :: l, j => if j = p.1 then some p.2 else look l j
structure Fx (N : Nat) (l : List (Nat × Value)) (A : Act) : Prop where
  size : A.tmps.size = N
  defers : A.defers = []
  get : ∀ j v, look l j = some v → A.tmps[j]? = some v
def evl (l : List (Nat × Value)) : Operand → Option Value
  | .tmp j => look l j
  | .const v => some v
  | _ => none
def evls (l : List (Nat × Value)) : List Operand → Option (List Value)
  | [] => some []
  | x :: xs => match evl l x, evls l xs with
    | some v, some vs => some (v :: vs)
    | _, _ => none
theorem Fx.put {N : Nat} {l : List (Nat × Value)} {A : Act} (h : Fx N l A) {d : Nat} (hd : d < N) (v : Value) : Fx N ((d, v) :: l) (A.put (some d) v) := by
  have p := put_facts A d v (by rw [h.size]; exact hd)
  refine ⟨p.1.trans h.size, p.2.1.trans h.defers, fun j u hj => ?_⟩
  unfold look at hj
  by_cases e : j = d
  · subst e
    rw [if_pos rfl] at hj
    cases hj
    exact p.2.2.1
  · rw [if_neg e] at hj
    rw [p.2.2.2 j e]
    exact h.get j u hj
theorem Fx.ev {N : Nat} {l : List (Nat × Value)} {A : Act} (h : Fx N l A) {x : Operand} {v : Value} (hx : evl l x = some v) : A.eval x = v := by
  cases x with
  | tmp j => exact eval_tmp (h.get j v hx)
  | const u => cases hx; rfl
  | global g => cases hx
  | func f => cases hx
theorem Fx.evs {N : Nat} {l : List (Nat × Value)} {A : Act} (h : Fx N l A) : ∀ {xs : List Operand} {vs : List Value}, evls l xs = some vs → xs.map A.eval = vs
  | [], _, e => by cases e; rfl
  | x :: xs, vs, e => by
    unfold evls at e
    cases hx : evl l x with
    | none => rw [hx] at e; cases e
    | some v =>
      rw [hx] at e
      cases hxs : evls l xs with
      | none => rw [hxs] at e; cases e
      | some us =>
        rw [hxs] at e
        cases e
        rw [List.map_cons, h.ev hx, h.evs hxs]
theorem look_mem {j : Nat} {v : Value} : ∀ {m : List (Nat × Value)}, look m j = some v → ∃ p ∈ m, p = (j, v)
  | [], h => by cases h
  | p :: m, h => by
    unfold look at h
    by_cases e : j = p.1
    · rw [if_pos e] at h
      cases h
      exact ⟨p, List.mem_cons_self .., by rw [e]⟩
    · rw [if_neg e] at h
      obtain ⟨q, h1, h2⟩ := look_mem h
      exact ⟨q, List.mem_cons_of_mem _ h1, h2⟩
theorem Fx.less {N : Nat} {l m : List (Nat × Value)} {A : Act} (h : Fx N l A) (hm : ∀ p ∈ m, look l p.1 = some p.2) : Fx N m A := by
  refine ⟨h.size, h.defers, fun j v hj => ?_⟩
  obtain ⟨p, h1, rfl⟩ := look_mem hj
  exact h.get j v (hm _ h1)
theorem Fx.adds {N : Nat} {l m : List (Nat × Value)} {A : Act} (h : Fx N l A) (hm : ∀ p ∈ m, A.tmps[p.1]? = some p.2) : Fx N m A :=
  ⟨h.size, h.defers, fun j v hj => by
    obtain ⟨p, h1, rfl⟩ := look_mem hj
    exact hm _ h1⟩
section
variable {K : Goroutine → World → Prop} {b : Frame} {k : List Item} {cs : List Frame} {A : Act} {w : World} {ops : Array Oper} {i d N : Nat} {rest : List Nat} {v : Value} {l : List (Nat × Value)}
theorem mvF {x : Operand} (h : IsOp ops i d (.move x)) (hA : Fx N l A) (hx : evl l x = some v) (hd : d < N) (hi : ∀ it ∈ k, okItem it) (hc : ∀ fr ∈ cs, okFrame fr)
    (hk : ∀ A', Fx N ((d, v) :: l) A' → LeadsR Tryz.prog K (G (b.at A' (.inRegion ops rest :: k)) cs) w) : LeadsR Tryz.prog K (G (b.at A (.inRegion ops (i :: rest) :: k)) cs) w :=
  LeadsR.mv plain_prog h (hA.ev hx) hi hc (hk _ (hA.put hd v))
theorem asgF {x : Operand} (h : IsOp ops i d (.assign x)) (hA : Fx N l A) (hx : evl l x = some v) (hd : d < N) (hi : ∀ it ∈ k, okItem it) (hc : ∀ fr ∈ cs, okFrame fr)
    (hk : ∀ A', Fx N ((d, v) :: l) A' → LeadsR Tryz.prog K (G (b.at A' (.inRegion ops rest :: k)) cs) w) : LeadsR Tryz.prog K (G (b.at A (.inRegion ops (i :: rest) :: k)) cs) w :=
  LeadsR.asg plain_prog h (hA.ev hx) hi hc (hk _ (hA.put hd v))
theorem extF {x : Operand} {n : Nat} {vs : Array Value} (h : IsOp ops i d (.extract x n)) (hA : Fx N l A) (hx : evl l x = some (.tuple vs)) (hv : vs[n]? = some v) (hd : d < N) (hi : ∀ it ∈ k, okItem it) (hc : ∀ fr ∈ cs, okFrame fr)
    (hk : ∀ A', Fx N ((d, v) :: l) A' → LeadsR Tryz.prog K (G (b.at A' (.inRegion ops rest :: k)) cs) w) : LeadsR Tryz.prog K (G (b.at A (.inRegion ops (i :: rest) :: k)) cs) w :=
  LeadsR.ext plain_prog h (hA.ev hx) hv hi hc (hk _ (hA.put hd v))
theorem callFx {f : FuncId} {fn : Func} {args : Array Operand} {ats : Array TypeId} {vs : List Value} {R : Ending → World → Prop} (h : IsOp ops i d (.call { callee := .value (.func f), args, argTypes := ats }))
    (hf : Tryz.prog.funcs[f]? = some fn) (hname : (fn.name == "runtime.NumGoroutine") = false) (hb : fn.body.isNone = false) (hA : Fx N l A) (hargs : evls l args.toList = some vs) (hd : d < N) (hi : ∀ it ∈ k, okItem it) (hc : ∀ fr ∈ cs, okFrame fr) (hC : HCalls Tryz.prog f vs.toArray w R) (hR : ∀ e w', R e w' → ∃ v, e = .returned v)
    (hk : ∀ v w' A', R (.returned v) w' → Fx N ((d, v) :: l) A' → LeadsR Tryz.prog K (G (b.at A' (.inRegion ops rest :: k)) cs) w') : LeadsR Tryz.prog K (G (b.at A (.inRegion ops (i :: rest) :: k)) cs) w :=
  LeadsR.callF plain_prog h hf hname hb (by rw [← hA.evs hargs, ← Array.toList_map, Array.toArray_toList]) hi hc hC hR fun v w' hv => hk v w' _ hv (hA.put hd v)
theorem watchF {x y z : Operand} {text : ByteArray} {retain : Int} {eo : Option Addr} {L : List (Int × Int)} {cap : Nat} {X : BT Pay} {i0 i1 i2 i3 i4 i5 d0 d1 d2 d3 dA dB : Nat}
    (c0 : IsOp ops i0 d0 (.call { callee := .value (.func 21), args := #[x, y, z], argTypes := #[9, 3, 34] })) (c1 : IsOp ops i1 d1 (.move (.tmp d0))) (c2 : IsOp ops i2 d2 (.extract (.tmp d1) 0)) (c3 : IsOp ops i3 d3 (.extract (.tmp d1) 1)) (c4 : IsOp ops i4 dA (.assign (.tmp d2))) (c5 : IsOp ops i5 dB (.assign (.tmp d3)))
    (hz : d0 < N ∧ d1 < N ∧ d2 < N ∧ d3 < N ∧ dA < N ∧ dB < N) (hne : d1 ≠ d2 ∧ d2 ≠ d3 ∧ dA ≠ d3 ∧ dA ≠ dB) (hA : Fx N l A)
    (hx : evl l x = some (.string text)) (hy : evl l y = some (.int .i64 retain)) (hzz : evl l z = some (.slice eo L.length cap)) (hi : ∀ it ∈ k, okItem it) (hc : ∀ fr ∈ cs, okFrame fr)
    (hC : HCalls Tryz.prog 21 #[.string text, .int .i64 retain, .slice eo L.length cap] w (WatchedPost X L w)) (m : List (Nat × Value)) (hm : ∀ p ∈ m, look l p.1 = some p.2 ∧ p.1 ≠ d0 ∧ p.1 ≠ d1 ∧ p.1 ≠ d2 ∧ p.1 ≠ d3 ∧ p.1 ≠ dA ∧ p.1 ≠ dB)
    (hk : ∀ A' w', Fx N ((dB, .bool true) :: (dA, .string (verS X L (min L.length 25))) :: m) A' → SpareR (fun _ => False) w w' → LeadsR Tryz.prog K (G (b.at A' k) cs) w') :
    LeadsR Tryz.prog K (G (b.at A (.inRegion ops [i0, i1, i2, i3, i4, i5] :: k)) cs) w := by
  have hs := hA.size
  refine watch_tail c0 c1 c2 c3 c4 c5 (by omega) hne (hA.ev hx) (hA.ev hy) (hA.ev hzz) hi hc hC fun A' w' z d gA gB go hsp => hk A' w' ?_ hsp
  have hbase : Fx N m A' := by
    have h1 := hA.less (m := m) (fun p hp => (hm p hp).1)
    refine ⟨z.trans hs, d.trans hA.defers, fun j v hj => ?_⟩
    have hold := h1.get j v hj
    obtain ⟨p, hp, e⟩ := look_mem hj
    have hj1 : j = p.1 := by rw [e]
    subst hj1
    obtain ⟨_, q0, q1, q2, q3, qA, qB⟩ := hm p hp
    exact (go p.1 q0 q1 q2 q3 qA qB).trans hold
  refine ⟨hbase.size, hbase.defers, fun j v hj => ?_⟩
  unfold look at hj
  by_cases e : j = dB
  · subst e
    rw [if_pos rfl] at hj
    cases hj
    exact gB
  · rw [if_neg e] at hj
    unfold look at hj
    by_cases e2 : j = dA
    · subst e2
      rw [if_pos rfl] at hj
      cases hj
      exact gA
    · rw [if_neg e2] at hj
      exact hbase.get j v hj
end
end Go.Proofs.YtpbbmagjhkakgaaGreatDoor.Ev
namespace Go.Proofs.YtpbbmagjhkakgaaGreatDoor.Ev
open Go.Deep (BT)
def atomT (c : UInt8) : BT Pay := mk 97 ⟨#[c]⟩ 0 0 .nil .nil
theorem good_atom (c : UInt8) (h : 97 ≤ c.toNat ∧ c.toNat ≤ 122) : Good (atomT c) := by
  refine .inr (.inl ⟨rfl, ⟨by show 1 ≤ 1; omega, by show 1 ≤ 8; omega, ?_, ?_⟩, rfl, rfl, rfl, rfl⟩)
  · intro e
    have := congrArg ByteArray.size e
    exact absurd this (show (1 : Nat) ≠ 4 by decide)
  · intro d hd
    have : d = c := by simpa using hd
    subst this
    exact h
theorem read_atom : readF ⟨#[97]⟩ = (some (atomT 97), 0) :=
  read_print (atomT 97) (good_atom 97 (by decide)) ⟨rfl, rfl, trivial, trivial⟩ (by decide) (by decide)
theorem few_nodes {x : BT Pay} {n : Nat} (h : nodesT (coreT x) ≤ n) : (KAt (fun _ => x) 1).length ≤ n := by
  have := (putK_len (coreT x) []).2.1
  simp at this
  exact Nat.le_trans this h
theorem nodes_atom : nodesT (coreT (atomT 97)) ≤ 4 := nodes_core _
section
variable (L : List (Int × Int)) (i : Nat) (a b : Int)
end
section
variable {L : List (Int × Int)} {i : Nat} {a b : Int}
end
end Go.Proofs.YtpbbmagjhkakgaaGreatDoor.Ev
namespace Go.Proofs.YtpbbmagjhkakgaaGreatDoor
open Go.Deep (BT)
def Par (T : List (Int × List UInt8)) (x : BT Pay) : Prop := depthT x ≤ T.length ∧ ∀ n, depthT x ≤ n → ∀ A rest : List Tok, A.map strip = T → parseF n (A ++ rest) = some (x, rest)
def Reads (l : List UInt8) (x : BT Pay) : Prop := (Good x ∧ ZeroT x) ∧ ∀ (s : ByteArray) (pos : Nat) (last : Int) (rest : List UInt8), s.data.toList.drop pos = l ++ rest → last ≠ 97 → ∃ n last' T, n ≤ l.length ∧ Eats s pos last l n last' T ∧ Par T x
theorem par_word {name : ByteArray} (h : 1 ≤ name.size ∧ name.size ≤ 8 ∧ name ≠ trueB ∧ ∀ c, c ∈ name.data.toList → 97 ≤ c.toNat ∧ c.toNat ≤ 122) : Par [(97, name.data.toList)] (mk 97 name 0 0 .nil .nil) := by
  have hg : Good (mk 97 name 0 0 .nil .nil) := .inr (.inl ⟨rfl, h, rfl, rfl, rfl, rfl⟩)
  refine ⟨Nat.le_refl 1, fun n hn A rest hA => parse_tok _ hg ⟨rfl, rfl, trivial, trivial⟩ n hn A rest ?_⟩
  rw [hA]
  rfl
theorem par_one {op lo hi : Int} {wd : List UInt8} {T : List (Int × List UInt8)} {x : BT Pay} (h1 : op = 172 ∨ op = 89 ∨ op = 79 ∨ op = 72) (h3 : 0 ≤ lo ∧ lo ≤ hi ∧ hi ≤ 1000000) (h4 : winB op = false → lo = 0 ∧ hi = 0) (hx : Par T x) :
    Par ((op, wd) :: (tkW ⟨op, ByteArray.empty, lo, hi⟩ ++ T)) (mk op ByteArray.empty lo hi x .nil) := by
  obtain ⟨hd, hp⟩ := hx
  refine ⟨?_, fun n hn A rest hA => ?_⟩
  · have : depthT (mk op ByteArray.empty lo hi x .nil) = 1 + max (depthT x) 0 := rfl
    rw [this]
    simp
    omega
  · have hn' : 1 + max (depthT x) 0 ≤ n := hn
    obtain ⟨m, rfl⟩ : ∃ m, n = m + 1 := ⟨n - 1, by omega⟩
    have dl : depthT x ≤ m := by omega
    show stepF (parseF m) (A ++ rest) = _
    unfold stepF
    obtain ⟨t0, r0, rfl, s0, _, hA⟩ := map_cons hA
    obtain ⟨Aw, Al, rfl, hAw, hAl⟩ := List.map_eq_append_iff.1 hA
    simp only [List.cons_append, List.append_assoc]
    have s0' : t0.sign = op := s0
    rw [take_tok (sg := op) s0' (by omega)]
    simp only
    rw [s0', if_neg (by omega), if_neg (by omega), if_pos h1]
    unfold singleF
    have hw := window_tok (a := ⟨op, ByteArray.empty, lo, hi⟩) (rest := Al ++ rest) hAw h3 h4
    simp only at hw
    rw [hw]
    simp only
    rw [hp m dl Al _ hAl]
theorem par_two {op lo hi : Int} {wd : List UInt8} {T U : List (Int × List UInt8)} {x y : BT Pay} (h1 : op = 8743 ∨ op = 8744 ∨ op = 83) (h3 : 0 ≤ lo ∧ lo ≤ hi ∧ hi ≤ 1000000) (h4 : winB op = false → lo = 0 ∧ hi = 0) (hx : Par T x) (hy : Par U y) :
    Par ((40, [40]) :: (T ++ ((op, wd) :: (tkW ⟨op, ByteArray.empty, lo, hi⟩ ++ (U ++ [(41, [41])]))))) (mk op ByteArray.empty lo hi x y) := by
  obtain ⟨hd, hp⟩ := hx
  obtain ⟨hd2, hq⟩ := hy
  have hdep : depthT (mk op ByteArray.empty lo hi x y) = 1 + max (depthT x) (depthT y) := rfl
  refine ⟨?_, fun n hn A rest hA => ?_⟩
  · rw [hdep]
    simp
    omega
  · rw [hdep] at hn
    obtain ⟨m, rfl⟩ : ∃ m, n = m + 1 := ⟨n - 1, by omega⟩
    have dl : depthT x ≤ m := by omega
    have dr : depthT y ≤ m := by omega
    show stepF (parseF m) (A ++ rest) = _
    unfold stepF
    obtain ⟨t0, r0, rfl, s0, _, hA⟩ := map_cons hA
    obtain ⟨Al, r1, rfl, hAl, hA⟩ := List.map_eq_append_iff.1 hA
    obtain ⟨t2, r2, rfl, s2, _, hA⟩ := map_cons hA
    obtain ⟨Aw, r3, rfl, hAw, hA⟩ := List.map_eq_append_iff.1 hA
    obtain ⟨Ar, r4, rfl, hAr, hA⟩ := List.map_eq_append_iff.1 hA
    obtain ⟨t5, r5, rfl, s5, _, hA⟩ := map_cons hA
    have : r5 = [] := by simpa using hA
    subst this
    simp only [List.cons_append, List.append_assoc, List.nil_append]
    have s2' : t2.sign = op := s2
    rw [take_tok s0 (by decide)]
    simp only
    have s0' : t0.sign = 40 := s0
    rw [s0', if_neg (by decide), if_pos rfl]
    unfold pairF
    rw [hp m dl Al _ hAl]
    simp only
    rw [take_tok (sg := op) s2' (by omega)]
    simp only
    have hw := window_tok (a := ⟨op, ByteArray.empty, lo, hi⟩) (rest := Ar ++ t5 :: rest) hAw h3 h4
    simp only at hw
    rw [s2', if_pos h1, hw]
    simp only
    rw [hq m dr Ar _ hAr]
    simp only
    rw [expect_tok s5 (by decide)]
theorem eats_ascii {s : ByteArray} {pos : Nat} (c : UInt8) (sg : Int) (last : Int) {l : List UInt8} (hc : (c = 33 ∧ sg = 172) ∨ (c = 38 ∧ sg = 8743) ∨ (c = 124 ∧ sg = 8744)) (h : s.data.toList.drop pos = c :: l) : Eats s pos last [c] 1 sg [(sg, [c])] := by
  obtain ⟨hp, hd⟩ := dec_ascii h (by rcases hc with ⟨rfl, _⟩ | ⟨rfl, _⟩ | ⟨rfl, _⟩ <;> decide)
  have hs : signF (c.toNat : Nat) = sg := by rcases hc with ⟨rfl, rfl⟩ | ⟨rfl, rfl⟩ | ⟨rfl, rfl⟩ <;> decide
  have := eats_sign (s := s) (pos := pos) (r := c.toNat) last (m := [c]) hp hd (by rw [hs]; rcases hc with ⟨_, rfl⟩ | ⟨_, rfl⟩ | ⟨_, rfl⟩ <;> decide) (by rw [hs]; rcases hc with ⟨_, rfl⟩ | ⟨_, rfl⟩ | ⟨_, rfl⟩ <;> decide) (by rw [hs]; rcases hc with ⟨_, rfl⟩ | ⟨_, rfl⟩ | ⟨_, rfl⟩ <;> decide) (by rw [encode_small _ (by omega) (by rcases hc with ⟨rfl, _⟩ | ⟨rfl, _⟩ | ⟨rfl, _⟩ <;> decide)]; rcases hc with ⟨rfl, _⟩ | ⟨rfl, _⟩ | ⟨rfl, _⟩ <;> decide)
  rw [hs] at this
  exact this
theorem Reads.word {name : ByteArray} (h : 1 ≤ name.size ∧ name.size ≤ 8 ∧ name ≠ trueB ∧ ∀ c, c ∈ name.data.toList → 97 ≤ c.toNat ∧ c.toNat ≤ 122) : Reads name.data.toList (mk 97 name 0 0 .nil .nil) := by
  refine ⟨⟨.inr (.inl ⟨rfl, h, rfl, rfl, rfl, rfl⟩), rfl, rfl, trivial, trivial⟩, fun s pos last rest hs hl => ⟨_, 97, _, Nat.le_refl _, eats_run (by decide) ?_ hs (fun c hc => signF_let (h.2.2.2 c hc)) hl, par_word h⟩⟩
  intro e
  have : name.data.toList.length = name.size := by rw [Array.length_toList]; rfl
  rw [e] at this
  simp at this
  omega
theorem Reads.not {l : List UInt8} {x : BT Pay} (h : Reads l x) : Reads ([33] ++ l) (mk 172 ByteArray.empty 0 0 x .nil) := by
  obtain ⟨⟨hg, hz⟩, hr⟩ := h
  refine ⟨⟨.inr (.inr (.inr ⟨.inl rfl, rfl, by decide, fun _ => ⟨rfl, rfl⟩, hg, rfl⟩)), rfl, rfl, hz, trivial⟩, fun s pos last rest hs hl => ?_⟩
  rw [List.append_assoc] at hs
  have k1 := eats_ascii 33 172 last (.inl ⟨rfl, rfl⟩) (show s.data.toList.drop pos = 33 :: _ from hs)
  have d1 := at_next (m := [33]) hs
  obtain ⟨n, l2, T, hn, k2, hp⟩ := hr s _ 172 rest d1 (by decide)
  refine ⟨_, _, _, ?_, k1.trans k2, ?_⟩
  · simp; omega
  · have := par_one (op := 172) (lo := 0) (hi := 0) (wd := [33]) (.inl rfl) (by decide) (fun _ => ⟨rfl, rfl⟩) hp
    exact this
def winW (a b : Int) : List UInt8 := [91] ++ (Lib.itoa a ++ ([44] ++ (Lib.itoa b ++ [93])))
theorem eats_win {s : ByteArray} {pos : Nat} {op a b : Int} (last : Int) {rest : List UInt8} (hw : winB op = true) (h : 0 ≤ a ∧ a ≤ b) (hs : s.data.toList.drop pos = winW a b ++ rest) : ∃ n, n ≤ (winW a b).length ∧ Eats s pos last (winW a b) n 93 (tkW ⟨op, ByteArray.empty, a, b⟩) := by
  have e2 : tkW ⟨op, ByteArray.empty, a, b⟩ = [(91, [91]), (48, Lib.itoa a), (44, [44]), (48, Lib.itoa b), (93, [93])] := by unfold tkW; simp only; rw [hw]; rfl
  rw [e2]
  unfold winW at hs ⊢
  simp only [List.append_assoc] at hs
  have k2 := eats_char 91 last (by simp) (show s.data.toList.drop _ = 91 :: _ from hs)
  have d2 := at_next (m := [91]) hs
  have k3 := eats_num (last := ((91 : UInt8).toNat : Int)) h.1 d2 (by decide)
  have d3 := at_next d2
  have k4 := eats_char 44 48 (by simp) (show s.data.toList.drop _ = 44 :: _ from d3)
  have d4 := at_next (m := [44]) d3
  have k5 := eats_num (last := ((44 : UInt8).toNat : Int)) (by omega : 0 ≤ b) d4 (by decide)
  have d5 := at_next d4
  have k6 := eats_char 93 48 (by simp) (show s.data.toList.drop _ = 93 :: _ from d5)
  refine ⟨_, ?_, k2.trans (k3.trans (k4.trans (k5.trans k6)))⟩
  simp; omega
theorem Reads.win {op a b : Int} {l : List UInt8} {x : BT Pay} (ho : op = 89 ∨ op = 79 ∨ op = 72) (hab : 0 ≤ a ∧ a ≤ b ∧ b ≤ 1000000) (h : Reads l x) : Reads ([UInt8.ofNat op.toNat] ++ (winW a b ++ l)) (mk op ByteArray.empty a b x .nil) := by
  obtain ⟨⟨hg, hz⟩, hr⟩ := h
  have hwB : winB op = true := by rcases ho with rfl | rfl | rfl <;> decide
  have hnw : winB op = false → a = 0 ∧ b = 0 := fun h => by rw [hwB] at h; cases h
  have hob : opBytes op = [UInt8.ofNat op.toNat] := by rcases ho with rfl | rfl | rfl <;> rfl
  refine ⟨⟨.inr (.inr (.inr ⟨.inr ho, rfl, hab, hnw, hg, rfl⟩)), rfl, rfl, hz, trivial⟩, fun s pos last rest hs hl => ?_⟩
  rw [List.append_assoc, ← hob] at hs
  rw [← hob]
  have k1 := eats_op last (op := op) (by unfold isSign; omega) hs
  have d1 := at_next hs
  rw [List.append_assoc] at d1
  obtain ⟨n2, hn2, k2⟩ := eats_win (op := op) op hwB ⟨hab.1, hab.2.1⟩ d1
  have d2 := at_next d1
  obtain ⟨n, l2, T, hn, k3, hp⟩ := hr s _ 93 rest d2 (by decide)
  refine ⟨_, _, _, ?_, k1.trans (k2.trans k3), ?_⟩
  · have : 1 ≤ (opBytes op).length := by rw [hob]; simp
    simp; omega
  · exact par_one (op := op) (wd := opBytes op) (.inr ho) hab hnw hp
theorem Reads.two {c : UInt8} {op : Int} {l r : List UInt8} {x y : BT Pay} (hc : (c = 38 ∧ op = 8743) ∨ (c = 124 ∧ op = 8744)) (h : Reads l x) (h' : Reads r y) : Reads ([40] ++ (l ++ ([32] ++ ([c] ++ ([32] ++ (r ++ [41])))))) (mk op ByteArray.empty 0 0 x y) := by
  obtain ⟨⟨hg, hz⟩, hr⟩ := h
  obtain ⟨⟨hg2, hz2⟩, hr2⟩ := h'
  have hop : op = 8743 ∨ op = 8744 ∨ op = 83 := by omega
  have hwB : winB op = false := by rcases hc with ⟨_, rfl⟩ | ⟨_, rfl⟩ <;> decide
  refine ⟨⟨.inr (.inr (.inl ⟨hop, rfl, show (0 : Int) ≤ 0 ∧ (0 : Int) ≤ 0 ∧ (0 : Int) ≤ 1000000 by decide, fun _ => ⟨rfl, rfl⟩, hg, hg2⟩)), rfl, rfl, hz, hz2⟩, fun s pos last rest hs hl => ?_⟩
  simp only [List.append_assoc] at hs
  have k1 := eats_char 40 last (by simp) (show s.data.toList.drop _ = 40 :: _ from hs)
  have d1 := at_next (m := [40]) hs
  obtain ⟨n2, l2, T, hn2, k2, hp⟩ := hr s _ ((40 : UInt8).toNat : Int) _ d1 (by decide)
  have d2 := at_next d1
  have k3 := eats_blank l2 (show s.data.toList.drop _ = 32 :: _ from d2)
  have d3 := at_next (m := [32]) d2
  have k4 := eats_ascii c op 32 (.inr hc) (show s.data.toList.drop _ = c :: _ from d3)
  have d4 := at_next (m := [c]) d3
  have k5 := eats_blank op (show s.data.toList.drop _ = 32 :: _ from d4)
  have d5 := at_next (m := [32]) d4
  obtain ⟨n6, l6, U, hn6, k6, hq⟩ := hr2 s _ 32 _ d5 (by decide)
  have d6 := at_next d5
  have k7 := eats_char 41 l6 (by simp) (show s.data.toList.drop _ = 41 :: _ from d6)
  refine ⟨_, _, _, ?_, k1.trans (k2.trans (k3.trans (k4.trans (k5.trans (k6.trans k7))))), ?_⟩
  · simp; omega
  · have := par_two (op := op) (lo := 0) (hi := 0) (wd := [c]) hop (by decide) (fun _ => ⟨rfl, rfl⟩) hp hq
    have e2 : tkW ⟨op, ByteArray.empty, 0, 0⟩ = [] := by unfold tkW; simp only; rw [hwB]; rfl
    rw [e2] at this
    simpa using this
theorem Reads.since {a b : Int} {l r : List UInt8} {x y : BT Pay} (hab : 0 ≤ a ∧ a ≤ b ∧ b ≤ 1000000) (h : Reads l x) (h' : Reads r y) : Reads ([40] ++ (l ++ ([32] ++ ([83] ++ (winW a b ++ (r ++ [41])))))) (mk 83 ByteArray.empty a b x y) := by
  obtain ⟨⟨hg, hz⟩, hr⟩ := h
  obtain ⟨⟨hg2, hz2⟩, hr2⟩ := h'
  have hnw : winB 83 = false → a = 0 ∧ b = 0 := fun h => absurd h (by decide)
  refine ⟨⟨.inr (.inr (.inl ⟨.inr (.inr rfl), rfl, hab, hnw, hg, hg2⟩)), rfl, rfl, hz, hz2⟩, fun s pos last rest hs hl => ?_⟩
  simp only [List.append_assoc] at hs
  have k1 := eats_char 40 last (by simp) (show s.data.toList.drop _ = 40 :: _ from hs)
  have d1 := at_next (m := [40]) hs
  obtain ⟨n2, l2, T, hn2, k2, hp⟩ := hr s _ ((40 : UInt8).toNat : Int) _ d1 (by decide)
  have d2 := at_next d1
  have k3 := eats_blank l2 (show s.data.toList.drop _ = 32 :: _ from d2)
  have d3 := at_next (m := [32]) d2
  have k4 := eats_op (op := 83) 32 (by unfold isSign; omega) (show s.data.toList.drop _ = opBytes 83 ++ _ from d3)
  have d4 := at_next (m := [83]) d3
  obtain ⟨n5, hn5, k5⟩ := eats_win (op := 83) 83 (by decide) ⟨hab.1, hab.2.1⟩ d4
  have d5 := at_next d4
  obtain ⟨n6, l6, U, hn6, k6, hq⟩ := hr2 s _ 93 _ d5 (by decide)
  have d6 := at_next d5
  have k7 := eats_char 41 l6 (by simp) (show s.data.toList.drop _ = 41 :: _ from d6)
  refine ⟨_, _, _, ?_, k1.trans (k2.trans (k3.trans (Eats.trans (l := [83]) k4 (k5.trans (k6.trans k7))))), ?_⟩
  · simp; omega
  · have := par_two (op := 83) (lo := a) (hi := b) (wd := opBytes 83) (.inr (.inr rfl)) hab hnw hp hq
    simpa using this
theorem Reads.read {l : List UInt8} {x : BT Pay} (h : Reads l x) (hd : depthT x ≤ 12) (hl : l.length ≤ 300) {s : ByteArray} (hs : s.data.toList = l) : readF s = (some x, 0) := by
  obtain ⟨⟨hg, hz⟩, hr⟩ := h
  have hsz : s.size = l.length := by rw [← hs, Array.length_toList]; rfl
  obtain ⟨n, last', T, hn, hE, hp⟩ := hr s 0 32 [] (by simpa using hs) (by decide)
  obtain ⟨A, hA, e⟩ := hE (l.length - n) []
  have e0 : l.length - n + n = l.length := by omega
  rw [e0] at e
  have e' : scanF s l.length 0 32 [] = some (A ++ [endTok s]) := by
    refine e.trans ?_
    rw [scanF_end _ _ _ _ _ (by rw [hsz]; omega), List.nil_append]
  unfold readF
  rw [if_neg (by omega), hsz, e']
  simp only
  have hlen : depthT x ≤ (A ++ [endTok s]).length := by
    have h1 := hp.1
    rw [← hA, List.length_map] at h1
    simp; omega
  rw [hp.2 _ hlen A _ hA]
  simp only
  have e1 : expectF (-1) [endTok s] = some [endTok s] := by
    unfold expectF takeF
    rfl
  rw [e1]
  simp only
  rw [if_neg (by omega)]
end Go.Proofs.YtpbbmagjhkakgaaGreatDoor
