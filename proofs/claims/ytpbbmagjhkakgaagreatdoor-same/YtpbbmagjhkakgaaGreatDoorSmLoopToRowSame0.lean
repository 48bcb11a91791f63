/-
  What Same does: its loop over the six pairs of texts, beside goroutines that are only leaving.
-/
/-
  What Same does, from its call to its return, beside goroutines that are only leaving: it answers true.
-/
/-
  Same: one good run from every start that the row speaks of.
-/
import Derived.Test.YtpbbmagjhkakgaaGreatDoorSnSeen0ToSmOps
import Derived.Test.YtpbbmagjhkakgaaGreatDoorSmSentToRowRaw
namespace Go.Proofs.YtpbbmagjhkakgaaGreatDoor.Ev
open Go.RowKit Go.Deep Go.Maps Go.Proofs.YtpbbmagjhkakgaaGreatDoor.Lf Go.Conc
noncomputable def seqC : Code → Nat → Code
  | .seq x _, 0 => x
  | .seq _ y, n + 1 => seqC y n
  | c, _ => c
noncomputable def opsR : Code → Array Oper
  | .region _ o _ => o
  | _ => #[]
noncomputable def body6 : Code := Tryz.f6.body.getD .skip
noncomputable def reg6 (k : Nat) : Code := seqC body6 k
noncomputable def ops6 (k : Nat) : Array Oper := opsR (reg6 k)
noncomputable def rest6 : Code := match body6 with
  | .seq _ (.seq _ (.seq _ (.seq _ (.seq _ (.seq _ (.seq _ (.seq _ (.seq _ x)))))))) => x
  | _ => .skip
noncomputable def zero6 : Code := match rest6 with
  | .seq (.seq x _) _ => x
  | _ => .skip
noncomputable def loop6 : Code := match rest6 with
  | .seq (.seq _ (.block _ (.loop x))) _ => x
  | _ => .skip
noncomputable def fin6 : Code := match rest6 with
  | .seq _ x => x
  | _ => .skip
noncomputable def head6 : Code := match loop6 with
  | .seq x _ => x
  | _ => .skip
noncomputable def in6 : Code := match loop6 with
  | .seq _ (.seq (.block _ x) _) => x
  | _ => .skip
noncomputable def next6 : Code := match loop6 with
  | .seq _ (.seq _ x) => x
  | _ => .skip
noncomputable def wat6 (k : Nat) : Code := seqC in6 k
noncomputable def opw6 (k : Nat) : Array Oper := opsR (wat6 k)
noncomputable def chk6 : Code := match in6 with
  | .seq _ (.seq _ x) => x
  | _ => .skip
set_option maxRecDepth 100000 in
theorem open168 {A : Act} (hsz : A.tmps.size = 168) (hd : A.defers = []) : ∃ u : Nat → Value, (∀ j v, A.tmps[j]? = some v → u j = v) ∧ A = ⟨#[u 0, u 1, u 2, u 3, u 4, u 5, u 6, u 7, u 8, u 9, u 10, u 11, u 12, u 13, u 14, u 15, u 16, u 17, u 18, u 19, u 20, u 21, u 22, u 23, u 24, u 25, u 26, u 27, u 28, u 29, u 30, u 31, u 32, u 33, u 34, u 35, u 36, u 37, u 38, u 39, u 40, u 41, u 42, u 43, u 44, u 45, u 46, u 47, u 48, u 49, u 50, u 51, u 52, u 53, u 54, u 55, u 56, u 57, u 58, u 59, u 60, u 61, u 62, u 63, u 64, u 65, u 66, u 67, u 68, u 69, u 70, u 71, u 72, u 73, u 74, u 75, u 76, u 77, u 78, u 79, u 80, u 81, u 82, u 83, u 84, u 85, u 86, u 87, u 88, u 89, u 90, u 91, u 92, u 93, u 94, u 95, u 96, u 97, u 98, u 99, u 100, u 101, u 102, u 103, u 104, u 105, u 106, u 107, u 108, u 109, u 110, u 111, u 112, u 113, u 114, u 115, u 116, u 117, u 118, u 119, u 120, u 121, u 122, u 123, u 124, u 125, u 126, u 127, u 128, u 129, u 130, u 131, u 132, u 133, u 134, u 135, u 136, u 137, u 138, u 139, u 140, u 141, u 142, u 143, u 144, u 145, u 146, u 147, u 148, u 149, u 150, u 151, u 152, u 153, u 154, u 155, u 156, u 157, u 158, u 159, u 160, u 161, u 162, u 163, u 164, u 165, u 166, u 167], []⟩ := by
  refine ⟨fun j => A.tmps.getD j undef, fun j v h => by show A.tmps.getD j undef = v; rw [Array.getD_eq_getD_getElem?, h]; rfl, ?_⟩
  have e : A.tmps = ((List.range 168).map (fun j => A.tmps.getD j undef)).toArray := arr_get A.tmps 168 hsz
  obtain ⟨t, d⟩ := A
  simp only at *
  subst hd
  rw [Act.mk.injEq]
  exact ⟨e.trans rfl, rfl⟩
theorem Fx.of {N : Nat} {l : List (Nat × Value)} {A : Act} (h1 : A.tmps.size = N) (h2 : A.defers = []) (h3 : ∀ p ∈ l, A.tmps[p.1]? = some p.2) : Fx N l A := (Fx.mk (l := []) h1 h2 (fun _ _ h => by cases h)).adds h3
def F6 (eo : Option Addr) (ln cap gL gR : Nat) (i : Int) : List (Nat × Value) := [(2, .slice eo ln cap), (11, .bool true), (17, .slice (some ⟨gL, 0, none⟩) 6 6), (18, .slice (some ⟨gR, 0, none⟩) 6 6), (19, .int .i64 i)]
def G6 (eo : Option Addr) (ln cap gL gR : Nat) (i : Int) (s : ByteArray) : List (Nat × Value) := [(2, .slice eo ln cap), (11, .bool true), (17, .slice (some ⟨gL, 0, none⟩) 6 6), (18, .slice (some ⟨gR, 0, none⟩) 6 6), (19, .int .i64 i), (20, .string s), (21, .bool true), (22, .string s), (23, .bool true)]
def St6 (eo : Option Addr) (ln cap gL gR : Nat) (w1 : World) (i : Int) (A : Act) (w : World) : Prop := Fx 168 (F6 eo ln cap gL gR i) A ∧ SpareR (fun _ => False) w1 w
theorem St6.tapeR {eo : Option Addr} {ln cap gL gR : Nat} {w1 : World} {i : Int} {A : Act} {w : World} (h : St6 eo ln cap gL gR w1 i A w) (τ : Tape) (d : Nat) : St6 eo ln cap gL gR w1 i A (re w τ d) := ⟨h.1, h.2.tapeR τ d⟩
set_option maxRecDepth 100000 in
set_option maxHeartbeats 16000000 in
theorem zero6_go (eo : Option Addr) (ln cap gL gR : Nat) (w1 : World) (A : Act) (w : World) (hA : Fx 168 [(2, .slice eo ln cap), (11, .bool true), (17, .slice (some ⟨gL, 0, none⟩) 6 6), (18, .slice (some ⟨gR, 0, none⟩) 6 6)] A) (hs : SpareR (fun _ => False) w1 w) : zero6.wp Tryz.prog (fun e A' w' => e = .normal ∧ St6 eo ln cap gL gR w1 0 A' w') A w := by
  have hP : ∀ A', Fx 168 (F6 eo ln cap gL gR 0) A' → St6 eo ln cap gL gR w1 0 A' w := fun A' h => ⟨h, hs⟩
  replace hP : Hid _ := hP
  clear hs
  obtain ⟨u, hu, rfl⟩ := open168 hA.size hA.defers
  have k2 := hu 2 _ (hA.get 2 _ rfl)
  have k11 := hu 11 _ (hA.get 11 _ rfl)
  have k17 := hu 17 _ (hA.get 17 _ rfl)
  have k18 := hu 18 _ (hA.get 18 _ rfl)
  clear hu hA
  simp only [k2, k11, k17, k18]
  clear k2 k11 k17 k18
  generalize St6 eo ln cap gL gR w1 0 = Q at *
  simp only [zero6, rest6, body6, Tryz.f6, Option.getD_some]
  go_wp2_with fail
  first | refine hP.out _ ?_ | refine ⟨rfl, hP.out _ ?_⟩
  refine Fx.of rfl rfl ?_
  unfold F6
  simp only [List.forall_mem_cons, List.not_mem_nil, false_implies, implies_true, and_true]
  exact ⟨rfl, rfl, rfl, rfl, rfl⟩
set_option maxRecDepth 100000 in
set_option maxHeartbeats 16000000 in
theorem head6_go (i : Nat) (eo : Option Addr) (ln cap gL gR : Nat) (w1 : World) (A : Act) (w : World) (hi : i < 6) (hA : Fx 168 (F6 eo ln cap gL gR i) A) (hs : SpareR (fun _ => False) w1 w) : head6.wp Tryz.prog (fun e A' w' => e = .normal ∧ St6 eo ln cap gL gR w1 i A' w') A w := by
  have hP : ∀ A', Fx 168 (F6 eo ln cap gL gR i) A' → St6 eo ln cap gL gR w1 i A' w := fun A' h => ⟨h, hs⟩
  replace hP : Hid _ := hP
  clear hs
  obtain ⟨u, hu, rfl⟩ := open168 hA.size hA.defers
  have k2 := hu 2 _ (hA.get 2 _ rfl)
  have k11 := hu 11 _ (hA.get 11 _ rfl)
  have k17 := hu 17 _ (hA.get 17 _ rfl)
  have k18 := hu 18 _ (hA.get 18 _ rfl)
  have k19 := hu 19 _ (hA.get 19 _ rfl)
  clear hu hA
  simp only [k2, k11, k17, k18, k19]
  clear k2 k11 k17 k18 k19
  generalize St6 eo ln cap gL gR w1 i = Q at *
  simp only [head6, loop6, rest6, body6, Tryz.f6, Option.getD_some]
  go_wp2_with fail
  first | refine hP.out _ ?_ | refine ⟨rfl, hP.out _ ?_⟩
  refine Fx.of rfl rfl ?_
  unfold F6
  simp only [List.forall_mem_cons, List.not_mem_nil, false_implies, implies_true, and_true]
  exact ⟨rfl, rfl, rfl, rfl, rfl⟩
set_option maxRecDepth 100000 in
set_option maxHeartbeats 16000000 in
theorem head6_end (eo : Option Addr) (ln cap gL gR : Nat) (w1 : World) (A : Act) (w : World) (hA : Fx 168 (F6 eo ln cap gL gR 6) A) (hs : SpareR (fun _ => False) w1 w) : head6.wp Tryz.prog (fun e A' w' => e = .exit 0 ∧ St6 eo ln cap gL gR w1 6 A' w') A w := by
  have hP : ∀ A', Fx 168 (F6 eo ln cap gL gR 6) A' → St6 eo ln cap gL gR w1 6 A' w := fun A' h => ⟨h, hs⟩
  replace hP : Hid _ := hP
  clear hs
  obtain ⟨u, hu, rfl⟩ := open168 hA.size hA.defers
  have k2 := hu 2 _ (hA.get 2 _ rfl)
  have k11 := hu 11 _ (hA.get 11 _ rfl)
  have k17 := hu 17 _ (hA.get 17 _ rfl)
  have k18 := hu 18 _ (hA.get 18 _ rfl)
  have k19 := hu 19 _ (hA.get 19 _ rfl)
  clear hu hA
  simp only [k2, k11, k17, k18, k19]
  clear k2 k11 k17 k18 k19
  generalize St6 eo ln cap gL gR w1 6 = Q at *
  simp only [head6, loop6, rest6, body6, Tryz.f6, Option.getD_some]
  go_wp2_with fail
  first | refine hP.out _ ?_ | refine ⟨rfl, hP.out _ ?_⟩
  refine Fx.of rfl rfl ?_
  unfold F6
  simp only [List.forall_mem_cons, List.not_mem_nil, false_implies, implies_true, and_true]
  exact ⟨rfl, rfl, rfl, rfl, rfl⟩
set_option maxRecDepth 100000 in
set_option maxHeartbeats 16000000 in
theorem next6_go (i : Nat) (eo : Option Addr) (ln cap gL gR : Nat) (w1 : World) (A : Act) (w : World) (hi : i < 6) (hA : Fx 168 (F6 eo ln cap gL gR i) A) (hs : SpareR (fun _ => False) w1 w) : next6.wp Tryz.prog (fun e A' w' => e = .normal ∧ St6 eo ln cap gL gR w1 ((i : Int) + 1) A' w') A w := by
  have hP : ∀ A', Fx 168 (F6 eo ln cap gL gR ((i : Int) + 1)) A' → St6 eo ln cap gL gR w1 ((i : Int) + 1) A' w := fun A' h => ⟨h, hs⟩
  replace hP : Hid _ := hP
  clear hs
  obtain ⟨u, hu, rfl⟩ := open168 hA.size hA.defers
  have k2 := hu 2 _ (hA.get 2 _ rfl)
  have k11 := hu 11 _ (hA.get 11 _ rfl)
  have k17 := hu 17 _ (hA.get 17 _ rfl)
  have k18 := hu 18 _ (hA.get 18 _ rfl)
  have k19 := hu 19 _ (hA.get 19 _ rfl)
  clear hu hA
  simp only [k2, k11, k17, k18, k19]
  clear k2 k11 k17 k18 k19
  generalize St6 eo ln cap gL gR w1 ((i : Int) + 1) = Q at *
  simp only [next6, loop6, rest6, body6, Tryz.f6, Option.getD_some]
  go_wp2_with fail
  first | refine hP.out _ ?_ | refine ⟨rfl, hP.out _ ?_⟩
  refine Fx.of rfl rfl ?_
  unfold F6
  simp only [List.forall_mem_cons, List.not_mem_nil, false_implies, implies_true, and_true]
  exact ⟨rfl, rfl, rfl, rfl, rfl⟩
set_option maxRecDepth 100000 in
set_option maxHeartbeats 16000000 in
theorem chk6_go (i : Int) (s : ByteArray) (eo : Option Addr) (ln cap gL gR : Nat) (w1 : World) (A : Act) (w : World) (hlm : ln ≤ 9223372036854775807) (hz : s.size = min ln 25) (hA : Fx 168 (G6 eo ln cap gL gR i s) A) (hs : SpareR (fun _ => False) w1 w) : chk6.wp Tryz.prog (fun e A' w' => e = .normal ∧ St6 eo ln cap gL gR w1 i A' w') A w := by
  have hP : ∀ A', Fx 168 (F6 eo ln cap gL gR i) A' → St6 eo ln cap gL gR w1 i A' w := fun A' h => ⟨h, hs⟩
  replace hP : Hid _ := hP
  clear hs
  obtain ⟨u, hu, rfl⟩ := open168 hA.size hA.defers
  have k2 := hu 2 _ (hA.get 2 _ rfl)
  have k11 := hu 11 _ (hA.get 11 _ rfl)
  have k17 := hu 17 _ (hA.get 17 _ rfl)
  have k18 := hu 18 _ (hA.get 18 _ rfl)
  have k19 := hu 19 _ (hA.get 19 _ rfl)
  have k20 := hu 20 _ (hA.get 20 _ rfl)
  have k21 := hu 21 _ (hA.get 21 _ rfl)
  have k22 := hu 22 _ (hA.get 22 _ rfl)
  have k23 := hu 23 _ (hA.get 23 _ rfl)
  clear hu hA
  simp only [k2, k11, k17, k18, k19, k20, k21, k22, k23]
  clear k2 k11 k17 k18 k19 k20 k21 k22 k23
  generalize St6 eo ln cap gL gR w1 i = Q at *
  simp only [chk6, in6, loop6, rest6, body6, Tryz.f6, Option.getD_some]
  have hlm1 := hlm
  by_cases hl : ln ≤ 25
  · have hz1 : s.size = ln := by omega
    clear hz hlm
    go_wp2_with fail
    first | refine hP.out _ ?_ | refine ⟨rfl, hP.out _ ?_⟩
    refine Fx.of rfl rfl ?_
    unfold F6
    simp only [List.forall_mem_cons, List.not_mem_nil, false_implies, implies_true, and_true]
    exact ⟨rfl, rfl, rfl, rfl, rfl⟩
  have hz1 : s.size = 25 := by omega
  clear hz hlm
  go_wp2_with fail
  first | refine hP.out _ ?_ | refine ⟨rfl, hP.out _ ?_⟩
  refine Fx.of rfl rfl ?_
  unfold F6
  simp only [List.forall_mem_cons, List.not_mem_nil, false_implies, implies_true, and_true]
  exact ⟨rfl, rfl, rfl, rfl, rfl⟩
set_option maxRecDepth 100000 in
set_option maxHeartbeats 16000000 in
theorem fin6_go (i : Int) (eo : Option Addr) (ln cap gL gR : Nat) (w0 : World) (A : Act) (w : World) (hA : Fx 168 (F6 eo ln cap gL gR i) A) (hs : SpareR (fun _ => False) w0 w) : fin6.wp Tryz.prog (bodyPost Tryz.prog Tryz.f6 (LawPost w0)) A w := by
  have hQ0 : LawPost w0 (.returned (.bool true)) w := ⟨rfl, hs⟩
  replace hQ0 : Hid _ := hQ0
  clear hs
  obtain ⟨u, hu, rfl⟩ := open168 hA.size hA.defers
  have k2 := hu 2 _ (hA.get 2 _ rfl)
  have k11 := hu 11 _ (hA.get 11 _ rfl)
  have k17 := hu 17 _ (hA.get 17 _ rfl)
  have k18 := hu 18 _ (hA.get 18 _ rfl)
  have k19 := hu 19 _ (hA.get 19 _ rfl)
  clear hu hA
  simp only [k2, k11, k17, k18, k19]
  clear k2 k11 k17 k18 k19
  generalize hQ : bodyPost Tryz.prog Tryz.f6 (LawPost w0) = Q
  simp only [fin6, rest6, body6, Tryz.f6, Option.getD_some]
  go_wp2_with fail
  rw [← hQ]
  go_ret
  exact ⟨rfl, hQ0.out.2⟩
theorem iw6_0_0 : IsOp (opw6 0) 0 128 (Op.move (Operand.tmp 17)) := ⟨_, rfl, rfl, rfl, rfl⟩
theorem iw6_0_1 : IsOp (opw6 0) 1 129 (Op.move (Operand.tmp 19)) := ⟨_, rfl, rfl, rfl, rfl⟩
theorem iw6_0_2 : IsOp (opw6 0) 2 130 (Op.indexAddr 31 (Operand.tmp 128) (Operand.tmp 129)) := ⟨_, rfl, rfl, rfl, rfl⟩
theorem iw6_0_3 : IsOp (opw6 0) 3 131 (Op.load 9 (Operand.tmp 130)) := ⟨_, rfl, rfl, rfl, rfl⟩
theorem iw6_0_4 : IsOp (opw6 0) 4 132 (Op.move (Operand.tmp 2)) := ⟨_, rfl, rfl, rfl, rfl⟩
theorem iw6_0_5 : IsOp (opw6 0) 5 133 (Op.call { callee := Callee.value (Operand.func 21), args := #[Operand.tmp 131, Operand.const (Value.int IntKind.i64 1000), Operand.tmp 132], argTypes := #[9, 3, 34] }) := ⟨_, rfl, rfl, rfl, rfl⟩
theorem iw6_0_6 : IsOp (opw6 0) 6 127 (Op.move (Operand.tmp 133)) := ⟨_, rfl, rfl, rfl, rfl⟩
theorem iw6_0_7 : IsOp (opw6 0) 7 134 (Op.extract (Operand.tmp 127) 0) := ⟨_, rfl, rfl, rfl, rfl⟩
theorem iw6_0_8 : IsOp (opw6 0) 8 135 (Op.extract (Operand.tmp 127) 1) := ⟨_, rfl, rfl, rfl, rfl⟩
theorem iw6_0_9 : IsOp (opw6 0) 9 20 (Op.assign (Operand.tmp 134)) := ⟨_, rfl, rfl, rfl, rfl⟩
theorem iw6_0_10 : IsOp (opw6 0) 10 21 (Op.assign (Operand.tmp 135)) := ⟨_, rfl, rfl, rfl, rfl⟩
theorem rw6_0 : wat6 0 = .region 12 (opw6 0) false := rfl
theorem zw6_0 : (opw6 0).size = 11 := rfl
theorem iw6_1_0 : IsOp (opw6 1) 0 137 (Op.move (Operand.tmp 18)) := ⟨_, rfl, rfl, rfl, rfl⟩
theorem iw6_1_1 : IsOp (opw6 1) 1 138 (Op.move (Operand.tmp 19)) := ⟨_, rfl, rfl, rfl, rfl⟩
theorem iw6_1_2 : IsOp (opw6 1) 2 139 (Op.indexAddr 31 (Operand.tmp 137) (Operand.tmp 138)) := ⟨_, rfl, rfl, rfl, rfl⟩
theorem iw6_1_3 : IsOp (opw6 1) 3 140 (Op.load 9 (Operand.tmp 139)) := ⟨_, rfl, rfl, rfl, rfl⟩
theorem iw6_1_4 : IsOp (opw6 1) 4 141 (Op.move (Operand.tmp 2)) := ⟨_, rfl, rfl, rfl, rfl⟩
theorem iw6_1_5 : IsOp (opw6 1) 5 142 (Op.call { callee := Callee.value (Operand.func 21), args := #[Operand.tmp 140, Operand.const (Value.int IntKind.i64 1000), Operand.tmp 141], argTypes := #[9, 3, 34] }) := ⟨_, rfl, rfl, rfl, rfl⟩
theorem iw6_1_6 : IsOp (opw6 1) 6 136 (Op.move (Operand.tmp 142)) := ⟨_, rfl, rfl, rfl, rfl⟩
theorem iw6_1_7 : IsOp (opw6 1) 7 143 (Op.extract (Operand.tmp 136) 0) := ⟨_, rfl, rfl, rfl, rfl⟩
theorem iw6_1_8 : IsOp (opw6 1) 8 144 (Op.extract (Operand.tmp 136) 1) := ⟨_, rfl, rfl, rfl, rfl⟩
theorem iw6_1_9 : IsOp (opw6 1) 9 22 (Op.assign (Operand.tmp 143)) := ⟨_, rfl, rfl, rfl, rfl⟩
theorem iw6_1_10 : IsOp (opw6 1) 10 23 (Op.assign (Operand.tmp 144)) := ⟨_, rfl, rfl, rfl, rfl⟩
theorem rw6_1 : wat6 1 = .region 13 (opw6 1) false := rfl
theorem zw6_1 : (opw6 1).size = 11 := rfl
theorem wat6_0_go (L : List (Int × Int)) (eo : Option Addr) (cap gL gR : Nat) (i : Nat) (hi : i < 6) (w : World) (A : Act) (hg : Glob w) (hw7 : 14 ≤ w.heap.size) (hLm : L.length ≤ 9223372036854775807) (hL : ∀ p ∈ L, I64 p.1 ∧ I64 p.2) (hC : ComesAt w eo L) (s : ByteArray) (x : BT Pay) (hx : TextOK s x) (hcell : w.cell? ⟨gL, i, none⟩ = some (.string s)) (hA : Fx 168 ([(2, .slice eo L.length cap), (11, .bool true), (17, .slice (some ⟨gL, 0, none⟩) 6 6), (18, .slice (some ⟨gR, 0, none⟩) 6 6), (19, .int .i64 (i : Int))]) A) :
    HWp Tryz.prog (wat6 0) (fun e A' w' => e = .normal ∧ (Fx 168 (((21, .bool true) : Nat × Value) :: (20, .string (verS x L (min L.length 25))) :: [(2, .slice eo L.length cap), (11, .bool true), (17, .slice (some ⟨gL, 0, none⟩) 6 6), (18, .slice (some ⟨gR, 0, none⟩) 6 6), (19, .int .i64 (i : Int))]) A' ∧ SpareR (fun _ => False) w w')) A w := by
  have hP := plain_prog
  refine HWp.of_lead fun b k cs hi0 hcs => ?_
  rw [rw6_0]
  refine LeadsR.region hP hi0 hcs ?_
  rw [zw6_0]
  simp only [List.range, List.range.loop]
  refine mvF iw6_0_0 hA rfl (by decide) hi0 hcs fun A hA => ?_
  refine mvF iw6_0_1 hA rfl (by decide) hi0 hcs fun A hA => ?_
  refine idxF iw6_0_2 hA rfl rfl hi (by decide) (by decide) hi0 hcs fun A hA => ?_
  refine loadF iw6_0_3 hA rfl hcell (by decide) hi0 hcs fun A hA => ?_
  refine mvF iw6_0_4 hA rfl (by decide) hi0 hcs fun A hA => ?_
  refine watchF (X := x) (L := L) iw6_0_5 iw6_0_6 iw6_0_7 iw6_0_8 iw6_0_9 iw6_0_10 (by decide) (by decide) hA rfl rfl rfl hi0 hcs (hx.watched L eo cap w hg hw7 hLm hL hC) ([(2, .slice eo L.length cap), (11, .bool true), (17, .slice (some ⟨gL, 0, none⟩) 6 6), (18, .slice (some ⟨gR, 0, none⟩) 6 6), (19, .int .i64 (i : Int))]) (by simp only [List.forall_mem_cons, List.not_mem_nil, false_implies, implies_true, and_true]; exact ⟨⟨rfl, by decide, by decide, by decide, by decide, by decide, by decide⟩, ⟨rfl, by decide, by decide, by decide, by decide, by decide, by decide⟩, ⟨rfl, by decide, by decide, by decide, by decide, by decide, by decide⟩, ⟨rfl, by decide, by decide, by decide, by decide, by decide, by decide⟩, ⟨rfl, by decide, by decide, by decide, by decide, by decide, by decide⟩⟩) fun A w' hA hs => ?_
  exact LeadsR.here fun τ d => ⟨A, ⟨hA, hs.tapeR τ d⟩, rfl⟩
theorem wat6_1_go (L : List (Int × Int)) (eo : Option Addr) (cap gL gR : Nat) (i : Nat) (hi : i < 6) (s1 : ByteArray) (w : World) (A : Act) (hg : Glob w) (hw7 : 14 ≤ w.heap.size) (hLm : L.length ≤ 9223372036854775807) (hL : ∀ p ∈ L, I64 p.1 ∧ I64 p.2) (hC : ComesAt w eo L) (s : ByteArray) (x : BT Pay) (hx : TextOK s x) (hcell : w.cell? ⟨gR, i, none⟩ = some (.string s)) (hA : Fx 168 ([(20, .string s1), (21, .bool true), (2, .slice eo L.length cap), (11, .bool true), (17, .slice (some ⟨gL, 0, none⟩) 6 6), (18, .slice (some ⟨gR, 0, none⟩) 6 6), (19, .int .i64 (i : Int))]) A) :
    HWp Tryz.prog (wat6 1) (fun e A' w' => e = .normal ∧ (Fx 168 (((23, .bool true) : Nat × Value) :: (22, .string (verS x L (min L.length 25))) :: [(20, .string s1), (21, .bool true), (2, .slice eo L.length cap), (11, .bool true), (17, .slice (some ⟨gL, 0, none⟩) 6 6), (18, .slice (some ⟨gR, 0, none⟩) 6 6), (19, .int .i64 (i : Int))]) A' ∧ SpareR (fun _ => False) w w')) A w := by
  have hP := plain_prog
  refine HWp.of_lead fun b k cs hi0 hcs => ?_
  rw [rw6_1]
  refine LeadsR.region hP hi0 hcs ?_
  rw [zw6_1]
  simp only [List.range, List.range.loop]
  refine mvF iw6_1_0 hA rfl (by decide) hi0 hcs fun A hA => ?_
  refine mvF iw6_1_1 hA rfl (by decide) hi0 hcs fun A hA => ?_
  refine idxF iw6_1_2 hA rfl rfl hi (by decide) (by decide) hi0 hcs fun A hA => ?_
  refine loadF iw6_1_3 hA rfl hcell (by decide) hi0 hcs fun A hA => ?_
  refine mvF iw6_1_4 hA rfl (by decide) hi0 hcs fun A hA => ?_
  refine watchF (X := x) (L := L) iw6_1_5 iw6_1_6 iw6_1_7 iw6_1_8 iw6_1_9 iw6_1_10 (by decide) (by decide) hA rfl rfl rfl hi0 hcs (hx.watched L eo cap w hg hw7 hLm hL hC) ([(20, .string s1), (21, .bool true), (2, .slice eo L.length cap), (11, .bool true), (17, .slice (some ⟨gL, 0, none⟩) 6 6), (18, .slice (some ⟨gR, 0, none⟩) 6 6), (19, .int .i64 (i : Int))]) (by simp only [List.forall_mem_cons, List.not_mem_nil, false_implies, implies_true, and_true]; exact ⟨⟨rfl, by decide, by decide, by decide, by decide, by decide, by decide⟩, ⟨rfl, by decide, by decide, by decide, by decide, by decide, by decide⟩, ⟨rfl, by decide, by decide, by decide, by decide, by decide, by decide⟩, ⟨rfl, by decide, by decide, by decide, by decide, by decide, by decide⟩, ⟨rfl, by decide, by decide, by decide, by decide, by decide, by decide⟩, ⟨rfl, by decide, by decide, by decide, by decide, by decide, by decide⟩, ⟨rfl, by decide, by decide, by decide, by decide, by decide, by decide⟩⟩) fun A w' hA hs => ?_
  exact LeadsR.here fun τ d => ⟨A, ⟨hA, hs.tapeR τ d⟩, rfl⟩
theorem round6 (L : List (Int × Int)) (eo : Option Addr) (cap gL gR : Nat) (w1 : World) (i : Nat) (A : Act) (w : World) (hg : Glob w1) (hw7 : 14 ≤ w1.heap.size) (hLm : L.length ≤ 9223372036854775807) (hL : ∀ p ∈ L, I64 p.1 ∧ I64 p.2) (hC : ComesAt w1 eo L)
    (hPair : ∀ j, j < 6 → ∃ s t x y, w1.cell? ⟨gL, j, none⟩ = some (.string s) ∧ w1.cell? ⟨gR, j, none⟩ = some (.string t) ∧ TextOK s x ∧ TextOK t y ∧ ∀ n, verS x L n = verS y L n) (hgg : gL < w1.heap.size ∧ gR < w1.heap.size) (hi : i ≤ 6) (h : St6 eo L.length cap gL gR w1 i A w) :
    HWp Tryz.prog loop6 (fun e A' w' => (e = .normal ∧ i < 6 ∧ St6 eo L.length cap gL gR w1 ((i + 1 : Nat) : Int) A' w') ∨ (e = .exit 0 ∧ i = 6 ∧ St6 eo L.length cap gL gR w1 6 A' w')) A w := by
  have hP := plain_prog
  have e0 : loop6 = .seq head6 (.seq (.block 1 (.seq (wat6 0) (.seq (wat6 1) chk6))) next6) := rfl
  rw [e0]
  by_cases h6 : i < 6
  · obtain ⟨s, t, x, y, cs, ct, hx, hy, hxy⟩ := hPair i h6
    refine HWp.seqL hP (St6 eo L.length cap gL gR w1 i) (fun _ _ τ d x => x.tapeR τ d) (fun τ d => head6_go i eo L.length cap gL gR w1 A _ h6 h.1 (h.2.tapeR τ d)) fun A w h => ?_
    refine HWp.seqH hP (St6 eo L.length cap gL gR w1 i) (HWp.blockN hP (fun _ _ τ d x => x.tapeR τ d) ?_) fun A w h => ?_
    · have cell : ∀ (w' : World) (g : Nat) v, SpareR (fun _ => False) w1 w' → g < w1.heap.size → w1.cell? ⟨g, i, none⟩ = some v → w'.cell? ⟨g, i, none⟩ = some v := fun w' g v hs hl hc => (World.cell?_of_block (hs.block g hl id)).trans hc
      refine HWp.seqH hP _ (wat6_0_go L eo cap gL gR i h6 w A (glob_spare hg h.2) (Nat.le_trans hw7 h.2.size) hLm hL (hC.move h.2) s x hx (cell w gL _ h.2 hgg.1 cs) h.1) fun A w2 h2 => ?_
      have hs2 := h.2.trans h2.2
      have hA2 : Fx 168 ([(20, .string (verS x L (min L.length 25))), (21, .bool true), (2, .slice eo L.length cap), (11, .bool true), (17, .slice (some ⟨gL, 0, none⟩) 6 6), (18, .slice (some ⟨gR, 0, none⟩) 6 6), (19, .int .i64 (i : Int))]) A := h2.1.less (by simp only [List.forall_mem_cons, List.not_mem_nil, false_implies, implies_true, and_true]; exact ⟨rfl, rfl, rfl, rfl, rfl, rfl, rfl⟩)
      refine HWp.seqH hP _ (wat6_1_go L eo cap gL gR i h6 (verS x L (min L.length 25)) w2 A (glob_spare hg hs2) (Nat.le_trans hw7 hs2.size) hLm hL (hC.move hs2) t y hy (cell w2 gR _ hs2 hgg.2 ct) hA2) fun A w3 h3 => ?_
      have hs3 := hs2.trans h3.2
      have h31 := h3.1
      rw [← hxy] at h31
      have hA3 : Fx 168 (G6 eo L.length cap gL gR i (verS x L (min L.length 25))) A := h31.less (by unfold G6; simp only [List.forall_mem_cons, List.not_mem_nil, false_implies, implies_true, and_true]; exact ⟨rfl, rfl, rfl, rfl, rfl, rfl, rfl, rfl, rfl⟩)
      exact HWp.loneN hP (fun _ _ τ d x => x.tapeR τ d) fun τ d => chk6_go i (verS x L (min L.length 25)) eo L.length cap gL gR w1 A _ hLm (verS_size _ _ _) hA3 (hs3.tapeR τ d)
    · refine (HWp.loneN hP (J := St6 eo L.length cap gL gR w1 ((i : Int) + 1)) (fun _ _ τ d x => x.tapeR τ d) fun τ d => next6_go i eo L.length cap gL gR w1 A _ h6 h.1 (h.2.tapeR τ d)).mono ?_
      rintro e a w ⟨rfl, h⟩
      exact .inl ⟨rfl, h6, h⟩
  · obtain rfl : i = 6 := by omega
    refine HWp.seq hP ((HWp.of_wp hP (Q := fun e A' w' => e = .exit 0 ∧ St6 eo L.length cap gL gR w1 6 A' w') (fun _ _ _ τ d x => ⟨x.1, x.2.tapeR τ d⟩) (fun _ _ x => by cases x.1) (fun τ d => head6_end eo L.length cap gL gR w1 A _ h.1 (h.2.tapeR τ d))).mono ?_)
    rintro e a w ⟨rfl, h⟩
    exact .inr ⟨rfl, rfl, h⟩
theorem loop6_lead (L : List (Int × Int)) (eo : Option Addr) (cap gL gR : Nat) (w0 w1 : World) (A : Act) (hg : Glob w0) (hw7 : 14 ≤ w0.heap.size) (hLm : L.length ≤ 9223372036854775807) (hL : ∀ p ∈ L, I64 p.1 ∧ I64 p.2) (hC : ComesAt w0 eo L)
    (hPair : ∀ j, j < 6 → ∃ s t x y, w1.cell? ⟨gL, j, none⟩ = some (.string s) ∧ w1.cell? ⟨gR, j, none⟩ = some (.string t) ∧ TextOK s x ∧ TextOK t y ∧ ∀ n, verS x L n = verS y L n) (hgg : gL < w1.heap.size ∧ gR < w1.heap.size) (hA : Fx 168 [(2, .slice eo L.length cap), (11, .bool true), (17, .slice (some ⟨gL, 0, none⟩) 6 6), (18, .slice (some ⟨gR, 0, none⟩) 6 6)] A) (hs : SpareR (fun _ => False) w0 w1) (cs : List Frame) (hcs : ∀ fr ∈ cs, okFrame fr) :
    LeadsR Tryz.prog (fun g w' => ∃ e fr, g = G fr cs ∧ okFrame fr ∧ LawPost w0 e w' ∧ fr.fn = 6 ∧ fr.leaving Tryz.prog w' e) (G ((base 6).at A [.code rest6]) cs) w1 := by
  have hP := plain_prog
  have hi0 : ∀ it ∈ ([] : List Item), okItem it := by simp
  have hi1 : ∀ (c : Code), ∀ it ∈ [Item.code c], okItem it := fun c => okItems_cons trivial (by simp)
  have hi2 : ∀ (c d : Code), ∀ it ∈ [Item.code c, Item.code d], okItem it := fun c d => okItems_cons trivial (hi1 d)
  have e0 : rest6 = .seq (.seq zero6 (.block 0 (.loop loop6))) fin6 := rfl
  rw [e0]
  refine LeadsR.seq hP hi0 hcs (LeadsR.seq hP (hi1 _) hcs ?_)
  refine LeadsR.piece hP (St6 eo L.length cap gL gR w1 0) (fun _ _ τ d x => x.tapeR τ d) (hi2 _ _) hcs (fun τ d => zero6_go eo L.length cap gL gR w1 A _ hA ((SpareR.refl _ w1).tapeR τ d)) fun A w h0 => ?_
  refine LeadsR.hpiece (St6 eo L.length cap gL gR w1 6) (hi1 _) hcs (HWp.blockLoop hP (fun n A w' => ∃ i : Nat, n = 6 - i ∧ i ≤ 6 ∧ St6 eo L.length cap gL gR w1 i A w') _ (fun _ _ τ d x => x.tapeR τ d) 6 ⟨0, rfl, by omega, h0⟩ ?_) fun A w h2 => ?_
  · rintro n A w2 ⟨i, rfl, h1, h3⟩
    refine (round6 L eo cap gL gR w1 i A w2 (glob_spare hg hs) (Nat.le_trans hw7 hs.size) hLm hL (hC.move hs) hPair hgg h1 h3).mono ?_
    rintro e A w3 (⟨rfl, h4, h6⟩ | ⟨rfl, h4, h6⟩)
    · exact .inl ⟨rfl, 6 - (i + 1), by omega, i + 1, rfl, by omega, h6⟩
    · exact .inr ⟨rfl, h6⟩
  · refine LeadsR.last hP hcs Tryz.func6 LawPost.tapeR LawPost.out fun τ d => ?_
    exact fin6_go 6 eo L.length cap gL gR w0 A _ h2.1 ((hs.trans h2.2).tapeR τ d)
end Go.Proofs.YtpbbmagjhkakgaaGreatDoor.Ev

namespace Go.Proofs.YtpbbmagjhkakgaaGreatDoor.Ev
open Go.RowKit Go.Deep Go.Maps Go.Proofs.YtpbbmagjhkakgaaGreatDoor.Lf Go.Conc
theorem rg6_0 : reg6 0 = .region 0 (ops6 0) false := rfl
theorem sz6_0 : (ops6 0).size = 1 := rfl
theorem rg6_1 : reg6 1 = .region 1 (ops6 1) false := rfl
theorem sz6_1 : (ops6 1).size = 2 := rfl
theorem rg6_2 : reg6 2 = .region 2 (ops6 2) false := rfl
theorem sz6_2 : (ops6 2).size = 7 := rfl
theorem rg6_3 : reg6 3 = .region 3 (ops6 3) false := rfl
theorem sz6_3 : (ops6 3).size = 7 := rfl
theorem rg6_4 : reg6 4 = .region 4 (ops6 4) false := rfl
theorem sz6_4 : (ops6 4).size = 3 := rfl
theorem rg6_5 : reg6 5 = .region 5 (ops6 5) false := rfl
theorem sz6_5 : (ops6 5).size = 5 := rfl
theorem rg6_6 : reg6 6 = .region 6 (ops6 6) false := rfl
theorem sz6_6 : (ops6 6).size = 9 := rfl
theorem rg6_7 : reg6 7 = .region 7 (ops6 7) false := rfl
theorem sz6_7 : (ops6 7).size = 35 := rfl
theorem rg6_8 : reg6 8 = .region 8 (ops6 8) false := rfl
theorem sz6_8 : (ops6 8).size = 38 := rfl
set_option maxRecDepth 100000 in
set_option maxHeartbeats 16000000 in
theorem same_H (R S : List Int) (o1 o2 : Option Addr) (cpR cpS : Nat) (L : List (Int × Int)) (eo : Option Addr) (cap : Nat) (a0 b0 : Int) (w : World) (hg : Glob w) (hw7 : 14 ≤ w.heap.size) (ha64 : I64 a0) (hb64 : I64 b0) (hlR : R.length ≤ 4611686018427387904) (hlS : S.length ≤ 4611686018427387904) (hIR : ∀ r ∈ R, I64 r) (hIS : ∀ r ∈ S, I64 r) (hR : RawAt w o1 R) (hSw : RawAt w o2 S) (hLm : L.length ≤ 9223372036854775807) (hL : ∀ p ∈ L, I64 p.1 ∧ I64 p.2) (hC : ComesAt w eo L) :
    HCalls Tryz.prog 6 #[.slice o1 R.length cpR, .slice o2 S.length cpS, .slice eo L.length cap, .int .i64 a0, .int .i64 b0] w (LawPost w) := by
  have hP := plain_prog
  have hi0 : ∀ it ∈ ([] : List Item), okItem it := by simp
  have hi1 : ∀ (c : Code), ∀ it ∈ [Item.code c], okItem it := fun c => okItems_cons trivial (by simp)
  have hb : Tryz.f6.body = some body6 := rfl
  refine HCalls.of_lead Tryz.func6 hb fun cs hcs => ?_
  rw [Tryz.ntmps6]
  obtain ⟨A, eA⟩ : ∃ A : Act, A = { tmps := #[.slice o1 R.length cpR, .slice o2 S.length cpS, .slice eo L.length cap, .int .i64 a0, .int .i64 b0] ++ Array.replicate (168 - (#[.slice o1 R.length cpR, .slice o2 S.length cpS, .slice eo L.length cap, .int .i64 a0, .int .i64 b0] : Array Value).size) undef, defers := [] } := ⟨_, rfl⟩
  have hA : Fx 168 [(0, .slice o1 R.length cpR), (1, .slice o2 S.length cpS), (2, .slice eo L.length cap), (3, .int .i64 a0), (4, .int .i64 b0)] A := (Fx.mk (l := []) (by rw [eA]; simp) (by rw [eA]) (fun _ _ h => by cases h)).adds (by rw [eA]; simp)
  rw [← eA]
  clear eA
  have er : body6 = .seq (reg6 0) (.seq (reg6 1) (.seq (reg6 2) (.seq (reg6 3) (.seq (reg6 4) (.seq (reg6 5) (.seq (reg6 6) (.seq (reg6 7) (.seq (reg6 8) rest6)))))))) := rfl
  rw [er]
  have hS0 := SpareR.refl (fun _ => False) w
  refine LeadsR.seq hP hi0 hcs ?_
  rw [rg6_0]
  refine LeadsR.region hP (hi1 _) hcs ?_
  rw [sz6_0]
  simp only [List.range, List.range.loop]
  refine asgF ⟨_, rfl, rfl, rfl, rfl⟩ hA rfl (by decide) (hi1 _) hcs fun A hA => ?_
  refine LeadsR.nil hP (hi1 _) hcs ?_
  replace hA := hA.less (m := [(0, .slice o1 R.length cpR), (1, .slice o2 S.length cpS), (2, .slice eo L.length cap), (3, .int .i64 a0), (4, .int .i64 b0)]) (by simp only [List.forall_mem_cons, List.not_mem_nil, false_implies, implies_true, and_true]; exact ⟨rfl, rfl, rfl, rfl, rfl⟩)
  refine LeadsR.seq hP hi0 hcs ?_
  rw [rg6_1]
  refine LeadsR.region hP (hi1 _) hcs ?_
  rw [sz6_1]
  simp only [List.range, List.range.loop]
  refine callFx ⟨_, rfl, rfl, rfl, rfl⟩ Tryz.func17 (by decide) rfl hA rfl (by decide) (hi1 _) hcs (works_H w (glob_spare hg hS0) (Nat.le_trans hw7 hS0.size)) (fun e w' x => ⟨_, x.1⟩) ?_
  rintro v w1 A ⟨hv, ht1⟩ hA
  cases hv
  have hS1 := hS0.trans ht1
  refine asgF ⟨_, rfl, rfl, rfl, rfl⟩ hA rfl (by decide) (hi1 _) hcs fun A hA => ?_
  refine LeadsR.nil hP (hi1 _) hcs ?_
  replace hA := hA.less (m := [(0, .slice o1 R.length cpR), (1, .slice o2 S.length cpS), (2, .slice eo L.length cap), (3, .int .i64 a0), (4, .int .i64 b0), (11, .bool true)]) (by simp only [List.forall_mem_cons, List.not_mem_nil, false_implies, implies_true, and_true]; exact ⟨rfl, rfl, rfl, rfl, rfl, rfl⟩)
  refine LeadsR.seq hP hi0 hcs ?_
  rw [rg6_2]
  refine LeadsR.region hP (hi1 _) hcs ?_
  rw [sz6_2]
  simp only [List.range, List.range.loop]
  refine mvF ⟨_, rfl, rfl, rfl, rfl⟩ hA rfl (by decide) (hi1 _) hcs fun A hA => ?_
  refine callFx ⟨_, rfl, rfl, rfl, rfl⟩ Tryz.func18 (by decide) rfl hA rfl (by decide) (hi1 _) hcs (sent_H R o1 cpR 2 w1 hlR hIR (by decide) (hR.move hS1) 0 (by decide)) (fun e w' x => by obtain ⟨⟨q, hq, _⟩, _⟩ := x; exact ⟨_, hq⟩) ?_
  rintro v w2 A ⟨⟨sp, hv, hsp⟩, ht2⟩ hA
  cases hv
  have lsp : sp.size ≤ 31 := by rw [str_len hsp]; exact (sent_made R 2 0).1.len
  have hS2 := hS1.trans ht2
  refine mvF ⟨_, rfl, rfl, rfl, rfl⟩ hA rfl (by decide) (hi1 _) hcs fun A hA => ?_
  refine extF ⟨_, rfl, rfl, rfl, rfl⟩ hA rfl (v := .string sp) rfl (by decide) (hi1 _) hcs fun A hA => ?_
  refine extF ⟨_, rfl, rfl, rfl, rfl⟩ hA rfl (v := .int .i64 ((sentF R 2 0).next : Int)) rfl (by decide) (hi1 _) hcs fun A hA => ?_
  refine asgF ⟨_, rfl, rfl, rfl, rfl⟩ hA rfl (by decide) (hi1 _) hcs fun A hA => ?_
  refine asgF ⟨_, rfl, rfl, rfl, rfl⟩ hA rfl (by decide) (hi1 _) hcs fun A hA => ?_
  refine LeadsR.nil hP (hi1 _) hcs ?_
  replace hA := hA.less (m := [(0, .slice o1 R.length cpR), (1, .slice o2 S.length cpS), (2, .slice eo L.length cap), (3, .int .i64 a0), (4, .int .i64 b0), (11, .bool true), (12, .string sp)]) (by simp only [List.forall_mem_cons, List.not_mem_nil, false_implies, implies_true, and_true]; exact ⟨rfl, rfl, rfl, rfl, rfl, rfl, rfl⟩)
  refine LeadsR.seq hP hi0 hcs ?_
  rw [rg6_3]
  refine LeadsR.region hP (hi1 _) hcs ?_
  rw [sz6_3]
  simp only [List.range, List.range.loop]
  refine mvF ⟨_, rfl, rfl, rfl, rfl⟩ hA rfl (by decide) (hi1 _) hcs fun A hA => ?_
  refine callFx ⟨_, rfl, rfl, rfl, rfl⟩ Tryz.func18 (by decide) rfl hA rfl (by decide) (hi1 _) hcs (sent_H S o2 cpS 2 w2 hlS hIS (by decide) (hSw.move hS2) 0 (by decide)) (fun e w' x => by obtain ⟨⟨q, hq, _⟩, _⟩ := x; exact ⟨_, hq⟩) ?_
  rintro v w3 A ⟨⟨sq, hv, hsq⟩, ht3⟩ hA
  cases hv
  have lsq : sq.size ≤ 31 := by rw [str_len hsq]; exact (sent_made S 2 0).1.len
  have hS3 := hS2.trans ht3
  refine mvF ⟨_, rfl, rfl, rfl, rfl⟩ hA rfl (by decide) (hi1 _) hcs fun A hA => ?_
  refine extF ⟨_, rfl, rfl, rfl, rfl⟩ hA rfl (v := .string sq) rfl (by decide) (hi1 _) hcs fun A hA => ?_
  refine extF ⟨_, rfl, rfl, rfl, rfl⟩ hA rfl (v := .int .i64 ((sentF S 2 0).next : Int)) rfl (by decide) (hi1 _) hcs fun A hA => ?_
  refine asgF ⟨_, rfl, rfl, rfl, rfl⟩ hA rfl (by decide) (hi1 _) hcs fun A hA => ?_
  refine asgF ⟨_, rfl, rfl, rfl, rfl⟩ hA rfl (by decide) (hi1 _) hcs fun A hA => ?_
  refine LeadsR.nil hP (hi1 _) hcs ?_
  replace hA := hA.less (m := [(0, .slice o1 R.length cpR), (1, .slice o2 S.length cpS), (2, .slice eo L.length cap), (3, .int .i64 a0), (4, .int .i64 b0), (11, .bool true), (12, .string sp), (14, .string sq)]) (by simp only [List.forall_mem_cons, List.not_mem_nil, false_implies, implies_true, and_true]; exact ⟨rfl, rfl, rfl, rfl, rfl, rfl, rfl, rfl⟩)
  refine LeadsR.seq hP hi0 hcs ?_
  rw [rg6_4]
  refine LeadsR.region hP (hi1 _) hcs ?_
  rw [sz6_4]
  simp only [List.range, List.range.loop]
  refine mvF ⟨_, rfl, rfl, rfl, rfl⟩ hA rfl (by decide) (hi1 _) hcs fun A hA => ?_
  refine callFx ⟨_, rfl, rfl, rfl, rfl⟩ Tryz.func19 (by decide) rfl hA rfl (by decide) (hi1 _) hcs (pick_H (a0) 9 w3 ha64 (by decide)) (fun e w' x => ⟨_, x.1⟩) ?_
  rintro v w4 A ⟨hv, ht4⟩ hA
  cases hv
  have hpr4 := pickZ_range a0 9 (by decide)
  have hS4 := hS3.trans ht4
  refine asgF ⟨_, rfl, rfl, rfl, rfl⟩ hA rfl (by decide) (hi1 _) hcs fun A hA => ?_
  refine LeadsR.nil hP (hi1 _) hcs ?_
  replace hA := hA.less (m := [(0, .slice o1 R.length cpR), (1, .slice o2 S.length cpS), (2, .slice eo L.length cap), (3, .int .i64 (pickZ a0 9)), (4, .int .i64 b0), (11, .bool true), (12, .string sp), (14, .string sq)]) (by simp only [List.forall_mem_cons, List.not_mem_nil, false_implies, implies_true, and_true]; exact ⟨rfl, rfl, rfl, rfl, rfl, rfl, rfl, rfl⟩)
  obtain ⟨a, hae⟩ : ∃ a : Nat, pickZ a0 9 = a := ⟨(pickZ a0 9).toNat, by omega⟩
  rw [hae] at hA hpr4
  refine LeadsR.seq hP hi0 hcs ?_
  rw [rg6_5]
  refine LeadsR.region hP (hi1 _) hcs ?_
  rw [sz6_5]
  simp only [List.range, List.range.loop]
  refine mvF ⟨_, rfl, rfl, rfl, rfl⟩ hA rfl (by decide) (hi1 _) hcs fun A hA => ?_
  refine mvF ⟨_, rfl, rfl, rfl, rfl⟩ hA rfl (by decide) (hi1 _) hcs fun A hA => ?_
  refine callFx ⟨_, rfl, rfl, rfl, rfl⟩ Tryz.func19 (by decide) rfl hA rfl (by decide) (hi1 _) hcs (pick_H (b0) 9 w4 hb64 (by decide)) (fun e w' x => ⟨_, x.1⟩) ?_
  rintro v w5 A ⟨hv, ht5⟩ hA
  cases hv
  have hpr5 := pickZ_range b0 9 (by decide)
  have hS5 := hS4.trans ht5
  refine addF ⟨_, rfl, rfl, rfl, rfl⟩ hA rfl rfl (by omega) (by decide) (hi1 _) hcs fun A hA => ?_
  refine asgF ⟨_, rfl, rfl, rfl, rfl⟩ hA rfl (by decide) (hi1 _) hcs fun A hA => ?_
  refine LeadsR.nil hP (hi1 _) hcs ?_
  replace hA := hA.less (m := [(0, .slice o1 R.length cpR), (1, .slice o2 S.length cpS), (2, .slice eo L.length cap), (3, .int .i64 (a : Int)), (4, .int .i64 ((a : Int) + (pickZ b0 9))), (11, .bool true), (12, .string sp), (14, .string sq)]) (by simp only [List.forall_mem_cons, List.not_mem_nil, false_implies, implies_true, and_true]; exact ⟨rfl, rfl, rfl, rfl, rfl, rfl, rfl, rfl⟩)
  obtain ⟨b, hbe⟩ : ∃ b : Nat, (a : Int) + pickZ b0 9 = b := ⟨((a : Int) + pickZ b0 9).toNat, by omega⟩
  have hbr : a ≤ b ∧ b ≤ 16 := by omega
  rw [hbe] at hA
  refine LeadsR.seq hP hi0 hcs ?_
  rw [rg6_6]
  refine LeadsR.region hP (hi1 _) hcs ?_
  rw [sz6_6]
  simp only [List.range, List.range.loop]
  refine mvF ⟨_, rfl, rfl, rfl, rfl⟩ hA rfl (by decide) (hi1 _) hcs fun A hA => ?_
  refine callFx ⟨_, rfl, rfl, rfl, rfl⟩ Tryz.func20 (by decide) rfl hA rfl (by decide) (hi1 _) hcs (digits_H a w5 (by omega)) (fun e w' x => by obtain ⟨⟨q, hq, _⟩, _⟩ := x; exact ⟨_, hq⟩) ?_
  rintro v w6 A ⟨⟨ta, hv, hta⟩, ht6⟩ hA
  cases hv
  have lta : ta.size ≤ 2 := by have : ta.data.toList.length = ta.size := (by rw [Array.length_toList]; rfl); rw [← this, hta]; exact dec_len 1 a (by omega)
  have hS6 := hS5.trans ht6
  have q1 : ({ data := #[91] } : ByteArray).size ≤ 1 := by decide
  refine catN ⟨_, rfl, rfl, rfl, rfl⟩ hA rfl rfl q1 lta (by decide) (by decide) (hi1 _) hcs fun A c2 hc2 q2 hA => ?_
  have q3 : ({ data := #[44] } : ByteArray).size ≤ 1 := by decide
  refine catN ⟨_, rfl, rfl, rfl, rfl⟩ hA rfl rfl q2 q3 (by decide) (by decide) (hi1 _) hcs fun A c4 hc4 q4 hA => ?_
  refine mvF ⟨_, rfl, rfl, rfl, rfl⟩ hA rfl (by decide) (hi1 _) hcs fun A hA => ?_
  refine callFx ⟨_, rfl, rfl, rfl, rfl⟩ Tryz.func20 (by decide) rfl hA rfl (by decide) (hi1 _) hcs (digits_H b w6 (by omega)) (fun e w' x => by obtain ⟨⟨q, hq, _⟩, _⟩ := x; exact ⟨_, hq⟩) ?_
  rintro v w7 A ⟨⟨tb, hv, htb⟩, ht7⟩ hA
  cases hv
  have ltb : tb.size ≤ 2 := by have : tb.data.toList.length = tb.size := (by rw [Array.length_toList]; rfl); rw [← this, htb]; exact dec_len 1 b (by omega)
  have hS7 := hS6.trans ht7
  refine catN ⟨_, rfl, rfl, rfl, rfl⟩ hA rfl rfl q4 ltb (by decide) (by decide) (hi1 _) hcs fun A c5 hc5 q5 hA => ?_
  have q6 : ({ data := #[93] } : ByteArray).size ≤ 1 := by decide
  refine catN ⟨_, rfl, rfl, rfl, rfl⟩ hA rfl rfl q5 q6 (by decide) (by decide) (hi1 _) hcs fun A c7 hc7 q7 hA => ?_
  refine asgF ⟨_, rfl, rfl, rfl, rfl⟩ hA rfl (by decide) (hi1 _) hcs fun A hA => ?_
  refine LeadsR.nil hP (hi1 _) hcs ?_
  have dw : c7.data.toList = winW a b := by rw [hc7, hc5, hc4, hc2]; simp only [ByteArray.data_append, Array.toList_append, hta, htb]; unfold winW; rw [itoa_eq _ (by omega), itoa_eq _ (by omega)]; simp
  replace hA := hA.less (m := [(0, .slice o1 R.length cpR), (1, .slice o2 S.length cpS), (2, .slice eo L.length cap), (3, .int .i64 (a : Int)), (4, .int .i64 (b : Int)), (11, .bool true), (12, .string sp), (14, .string sq), (16, .string c7)]) (by simp only [List.forall_mem_cons, List.not_mem_nil, false_implies, implies_true, and_true]; exact ⟨rfl, rfl, rfl, rfl, rfl, rfl, rfl, rfl, rfl⟩)
  refine LeadsR.seq hP hi0 hcs ?_
  rw [rg6_7]
  refine LeadsR.region hP (hi1 _) hcs ?_
  rw [sz6_7]
  simp only [List.range, List.range.loop]
  refine mvF ⟨_, rfl, rfl, rfl, rfl⟩ hA rfl (by decide) (hi1 _) hcs fun A hA => ?_
  have q8 : ({ data := #[72] } : ByteArray).size ≤ 1 := by decide
  refine catN ⟨_, rfl, rfl, rfl, rfl⟩ hA rfl rfl q8 q7 (by decide) (by decide) (hi1 _) hcs fun A c9 hc9 q9 hA => ?_
  refine mvF ⟨_, rfl, rfl, rfl, rfl⟩ hA rfl (by decide) (hi1 _) hcs fun A hA => ?_
  refine catN ⟨_, rfl, rfl, rfl, rfl⟩ hA rfl rfl q9 lsp (by decide) (by decide) (hi1 _) hcs fun A c10 hc10 q10 hA => ?_
  refine mvF ⟨_, rfl, rfl, rfl, rfl⟩ hA rfl (by decide) (hi1 _) hcs fun A hA => ?_
  have q11 : ({ data := #[40] } : ByteArray).size ≤ 1 := by decide
  refine catN ⟨_, rfl, rfl, rfl, rfl⟩ hA rfl rfl q11 lsp (by decide) (by decide) (hi1 _) hcs fun A c12 hc12 q12 hA => ?_
  have q13 : ({ data := #[32, 124, 32] } : ByteArray).size ≤ 3 := by decide
  refine catN ⟨_, rfl, rfl, rfl, rfl⟩ hA rfl rfl q12 q13 (by decide) (by decide) (hi1 _) hcs fun A c14 hc14 q14 hA => ?_
  refine mvF ⟨_, rfl, rfl, rfl, rfl⟩ hA rfl (by decide) (hi1 _) hcs fun A hA => ?_
  refine catN ⟨_, rfl, rfl, rfl, rfl⟩ hA rfl rfl q14 lsq (by decide) (by decide) (hi1 _) hcs fun A c15 hc15 q15 hA => ?_
  have q16 : ({ data := #[41] } : ByteArray).size ≤ 1 := by decide
  refine catN ⟨_, rfl, rfl, rfl, rfl⟩ hA rfl rfl q15 q16 (by decide) (by decide) (hi1 _) hcs fun A c17 hc17 q17 hA => ?_
  refine mvF ⟨_, rfl, rfl, rfl, rfl⟩ hA rfl (by decide) (hi1 _) hcs fun A hA => ?_
  have q18 : ({ data := #[33, 33] } : ByteArray).size ≤ 2 := by decide
  refine catN ⟨_, rfl, rfl, rfl, rfl⟩ hA rfl rfl q18 lsp (by decide) (by decide) (hi1 _) hcs fun A c19 hc19 q19 hA => ?_
  refine mvF ⟨_, rfl, rfl, rfl, rfl⟩ hA rfl (by decide) (hi1 _) hcs fun A hA => ?_
  have q20 : ({ data := #[79] } : ByteArray).size ≤ 1 := by decide
  refine catN ⟨_, rfl, rfl, rfl, rfl⟩ hA rfl rfl q20 q7 (by decide) (by decide) (hi1 _) hcs fun A c21 hc21 q21 hA => ?_
  refine mvF ⟨_, rfl, rfl, rfl, rfl⟩ hA rfl (by decide) (hi1 _) hcs fun A hA => ?_
  refine catN ⟨_, rfl, rfl, rfl, rfl⟩ hA rfl rfl q21 lsp (by decide) (by decide) (hi1 _) hcs fun A c22 hc22 q22 hA => ?_
  refine mvF ⟨_, rfl, rfl, rfl, rfl⟩ hA rfl (by decide) (hi1 _) hcs fun A hA => ?_
  refine catN ⟨_, rfl, rfl, rfl, rfl⟩ hA rfl rfl q11 lsp (by decide) (by decide) (hi1 _) hcs fun A c23 hc23 q23 hA => ?_
  have q24 : ({ data := #[32, 83] } : ByteArray).size ≤ 2 := by decide
  refine catN ⟨_, rfl, rfl, rfl, rfl⟩ hA rfl rfl q23 q24 (by decide) (by decide) (hi1 _) hcs fun A c25 hc25 q25 hA => ?_
  refine mvF ⟨_, rfl, rfl, rfl, rfl⟩ hA rfl (by decide) (hi1 _) hcs fun A hA => ?_
  refine catN ⟨_, rfl, rfl, rfl, rfl⟩ hA rfl rfl q25 q7 (by decide) (by decide) (hi1 _) hcs fun A c26 hc26 q26 hA => ?_
  refine mvF ⟨_, rfl, rfl, rfl, rfl⟩ hA rfl (by decide) (hi1 _) hcs fun A hA => ?_
  refine catN ⟨_, rfl, rfl, rfl, rfl⟩ hA rfl rfl q26 lsq (by decide) (by decide) (hi1 _) hcs fun A c27 hc27 q27 hA => ?_
  refine catN ⟨_, rfl, rfl, rfl, rfl⟩ hA rfl rfl q27 q16 (by decide) (by decide) (hi1 _) hcs fun A c28 hc28 q28 hA => ?_
  refine mvF ⟨_, rfl, rfl, rfl, rfl⟩ hA rfl (by decide) (hi1 _) hcs fun A hA => ?_
  have q29 : ({ data := #[89] } : ByteArray).size ≤ 1 := by decide
  refine catN ⟨_, rfl, rfl, rfl, rfl⟩ hA rfl rfl q29 q7 (by decide) (by decide) (hi1 _) hcs fun A c30 hc30 q30 hA => ?_
  refine catN ⟨_, rfl, rfl, rfl, rfl⟩ hA rfl rfl q30 q11 (by decide) (by decide) (hi1 _) hcs fun A c31 hc31 q31 hA => ?_
  refine mvF ⟨_, rfl, rfl, rfl, rfl⟩ hA rfl (by decide) (hi1 _) hcs fun A hA => ?_
  refine catN ⟨_, rfl, rfl, rfl, rfl⟩ hA rfl rfl q31 lsp (by decide) (by decide) (hi1 _) hcs fun A c32 hc32 q32 hA => ?_
  have q33 : ({ data := #[32, 38, 32] } : ByteArray).size ≤ 3 := by decide
  refine catN ⟨_, rfl, rfl, rfl, rfl⟩ hA rfl rfl q32 q33 (by decide) (by decide) (hi1 _) hcs fun A c34 hc34 q34 hA => ?_
  refine mvF ⟨_, rfl, rfl, rfl, rfl⟩ hA rfl (by decide) (hi1 _) hcs fun A hA => ?_
  refine catN ⟨_, rfl, rfl, rfl, rfl⟩ hA rfl rfl q34 lsq (by decide) (by decide) (hi1 _) hcs fun A c35 hc35 q35 hA => ?_
  refine catN ⟨_, rfl, rfl, rfl, rfl⟩ hA rfl rfl q35 q16 (by decide) (by decide) (hi1 _) hcs fun A c36 hc36 q36 hA => ?_
  refine bs6F ⟨_, rfl, rfl, rfl, rfl⟩ hA rfl rfl rfl rfl rfl rfl (by decide) (hi1 _) hcs fun A w8 hA ht8 hzL hcL => ?_
  obtain ⟨gL, hgL⟩ : ∃ g, g = w7.heap.size := ⟨_, rfl⟩
  rw [← hgL] at hA hzL hcL
  have hS8 := hS7.trans ht8
  refine asgF ⟨_, rfl, rfl, rfl, rfl⟩ hA rfl (by decide) (hi1 _) hcs fun A hA => ?_
  refine LeadsR.nil hP (hi1 _) hcs ?_
  replace hA := hA.less (m := [(0, .slice o1 R.length cpR), (1, .slice o2 S.length cpS), (2, .slice eo L.length cap), (3, .int .i64 (a : Int)), (4, .int .i64 (b : Int)), (11, .bool true), (12, .string sp), (14, .string sq), (16, .string c7), (17, .slice (some ⟨gL, 0, none⟩) 6 6)]) (by simp only [List.forall_mem_cons, List.not_mem_nil, false_implies, implies_true, and_true]; exact ⟨rfl, rfl, rfl, rfl, rfl, rfl, rfl, rfl, rfl, rfl⟩)
  refine LeadsR.seq hP hi0 hcs ?_
  rw [rg6_8]
  refine LeadsR.region hP (hi1 _) hcs ?_
  rw [sz6_8]
  simp only [List.range, List.range.loop]
  refine mvF ⟨_, rfl, rfl, rfl, rfl⟩ hA rfl (by decide) (hi1 _) hcs fun A hA => ?_
  have q37 : ({ data := #[33, 79] } : ByteArray).size ≤ 2 := by decide
  refine catN ⟨_, rfl, rfl, rfl, rfl⟩ hA rfl rfl q37 q7 (by decide) (by decide) (hi1 _) hcs fun A c38 hc38 q38 hA => ?_
  have q39 : ({ data := #[33] } : ByteArray).size ≤ 1 := by decide
  refine catN ⟨_, rfl, rfl, rfl, rfl⟩ hA rfl rfl q38 q39 (by decide) (by decide) (hi1 _) hcs fun A c40 hc40 q40 hA => ?_
  refine mvF ⟨_, rfl, rfl, rfl, rfl⟩ hA rfl (by decide) (hi1 _) hcs fun A hA => ?_
  refine catN ⟨_, rfl, rfl, rfl, rfl⟩ hA rfl rfl q40 lsp (by decide) (by decide) (hi1 _) hcs fun A c41 hc41 q41 hA => ?_
  refine mvF ⟨_, rfl, rfl, rfl, rfl⟩ hA rfl (by decide) (hi1 _) hcs fun A hA => ?_
  have q42 : ({ data := #[33, 40, 33] } : ByteArray).size ≤ 3 := by decide
  refine catN ⟨_, rfl, rfl, rfl, rfl⟩ hA rfl rfl q42 lsp (by decide) (by decide) (hi1 _) hcs fun A c43 hc43 q43 hA => ?_
  have q44 : ({ data := #[32, 38, 32, 33] } : ByteArray).size ≤ 4 := by decide
  refine catN ⟨_, rfl, rfl, rfl, rfl⟩ hA rfl rfl q43 q44 (by decide) (by decide) (hi1 _) hcs fun A c45 hc45 q45 hA => ?_
  refine mvF ⟨_, rfl, rfl, rfl, rfl⟩ hA rfl (by decide) (hi1 _) hcs fun A hA => ?_
  refine catN ⟨_, rfl, rfl, rfl, rfl⟩ hA rfl rfl q45 lsq (by decide) (by decide) (hi1 _) hcs fun A c46 hc46 q46 hA => ?_
  refine catN ⟨_, rfl, rfl, rfl, rfl⟩ hA rfl rfl q46 q16 (by decide) (by decide) (hi1 _) hcs fun A c47 hc47 q47 hA => ?_
  refine mvF ⟨_, rfl, rfl, rfl, rfl⟩ hA rfl (by decide) (hi1 _) hcs fun A hA => ?_
  refine mvF ⟨_, rfl, rfl, rfl, rfl⟩ hA rfl (by decide) (hi1 _) hcs fun A hA => ?_
  have q48 : ({ data := #[40, 116, 114, 117, 101, 32, 83] } : ByteArray).size ≤ 7 := by decide
  refine catN ⟨_, rfl, rfl, rfl, rfl⟩ hA rfl rfl q48 q7 (by decide) (by decide) (hi1 _) hcs fun A c49 hc49 q49 hA => ?_
  refine mvF ⟨_, rfl, rfl, rfl, rfl⟩ hA rfl (by decide) (hi1 _) hcs fun A hA => ?_
  refine catN ⟨_, rfl, rfl, rfl, rfl⟩ hA rfl rfl q49 lsp (by decide) (by decide) (hi1 _) hcs fun A c50 hc50 q50 hA => ?_
  refine catN ⟨_, rfl, rfl, rfl, rfl⟩ hA rfl rfl q50 q16 (by decide) (by decide) (hi1 _) hcs fun A c51 hc51 q51 hA => ?_
  refine mvF ⟨_, rfl, rfl, rfl, rfl⟩ hA rfl (by decide) (hi1 _) hcs fun A hA => ?_
  have q52 : ({ data := #[33, 33, 40, 33, 33] } : ByteArray).size ≤ 5 := by decide
  refine catN ⟨_, rfl, rfl, rfl, rfl⟩ hA rfl rfl q52 lsp (by decide) (by decide) (hi1 _) hcs fun A c53 hc53 q53 hA => ?_
  refine catN ⟨_, rfl, rfl, rfl, rfl⟩ hA rfl rfl q53 q24 (by decide) (by decide) (hi1 _) hcs fun A c54 hc54 q54 hA => ?_
  refine mvF ⟨_, rfl, rfl, rfl, rfl⟩ hA rfl (by decide) (hi1 _) hcs fun A hA => ?_
  refine catN ⟨_, rfl, rfl, rfl, rfl⟩ hA rfl rfl q54 q7 (by decide) (by decide) (hi1 _) hcs fun A c55 hc55 q55 hA => ?_
  refine catN ⟨_, rfl, rfl, rfl, rfl⟩ hA rfl rfl q55 q18 (by decide) (by decide) (hi1 _) hcs fun A c56 hc56 q56 hA => ?_
  refine mvF ⟨_, rfl, rfl, rfl, rfl⟩ hA rfl (by decide) (hi1 _) hcs fun A hA => ?_
  refine catN ⟨_, rfl, rfl, rfl, rfl⟩ hA rfl rfl q56 lsq (by decide) (by decide) (hi1 _) hcs fun A c57 hc57 q57 hA => ?_
  refine catN ⟨_, rfl, rfl, rfl, rfl⟩ hA rfl rfl q57 q16 (by decide) (by decide) (hi1 _) hcs fun A c58 hc58 q58 hA => ?_
  refine mvF ⟨_, rfl, rfl, rfl, rfl⟩ hA rfl (by decide) (hi1 _) hcs fun A hA => ?_
  have q59 : ({ data := #[40, 89] } : ByteArray).size ≤ 2 := by decide
  refine catN ⟨_, rfl, rfl, rfl, rfl⟩ hA rfl rfl q59 q7 (by decide) (by decide) (hi1 _) hcs fun A c60 hc60 q60 hA => ?_
  refine mvF ⟨_, rfl, rfl, rfl, rfl⟩ hA rfl (by decide) (hi1 _) hcs fun A hA => ?_
  refine catN ⟨_, rfl, rfl, rfl, rfl⟩ hA rfl rfl q60 lsp (by decide) (by decide) (hi1 _) hcs fun A c61 hc61 q61 hA => ?_
  have q62 : ({ data := #[32, 38, 32, 89] } : ByteArray).size ≤ 4 := by decide
  refine catN ⟨_, rfl, rfl, rfl, rfl⟩ hA rfl rfl q61 q62 (by decide) (by decide) (hi1 _) hcs fun A c63 hc63 q63 hA => ?_
  refine mvF ⟨_, rfl, rfl, rfl, rfl⟩ hA rfl (by decide) (hi1 _) hcs fun A hA => ?_
  refine catN ⟨_, rfl, rfl, rfl, rfl⟩ hA rfl rfl q63 q7 (by decide) (by decide) (hi1 _) hcs fun A c64 hc64 q64 hA => ?_
  refine mvF ⟨_, rfl, rfl, rfl, rfl⟩ hA rfl (by decide) (hi1 _) hcs fun A hA => ?_
  refine catN ⟨_, rfl, rfl, rfl, rfl⟩ hA rfl rfl q64 lsq (by decide) (by decide) (hi1 _) hcs fun A c65 hc65 q65 hA => ?_
  refine catN ⟨_, rfl, rfl, rfl, rfl⟩ hA rfl rfl q65 q16 (by decide) (by decide) (hi1 _) hcs fun A c66 hc66 q66 hA => ?_
  refine bs6F ⟨_, rfl, rfl, rfl, rfl⟩ hA rfl rfl rfl rfl rfl rfl (by decide) (hi1 _) hcs fun A w9 hA ht9 hzR hcR => ?_
  obtain ⟨gR, hgR⟩ : ∃ g, g = w8.heap.size := ⟨_, rfl⟩
  rw [← hgR] at hA hzR hcR
  have hS9 := hS8.trans ht9
  refine asgF ⟨_, rfl, rfl, rfl, rfl⟩ hA rfl (by decide) (hi1 _) hcs fun A hA => ?_
  refine LeadsR.nil hP (hi1 _) hcs ?_
  have hp := (sent_made R 2 0).1
  have hq := (sent_made S 2 0).1
  have hab : 0 ≤ (a : Int) ∧ (a : Int) ≤ (b : Int) ∧ (b : Int) ≤ 1000000 := by omega
  have hb2 : (b : Int) < (10 : Nat) ^ (1 + 1) := by omega
  have dL0 : c10.data.toList = opL 72 a b (sentF R 2 0).txt := by rw [hc10, hc9]; simp only [ByteArray.data_append, Array.toList_append, dw, hsp, opL]; simp
  have kL0 : TextOK c10 (opX 72 a b (sentF R 2 0).x) := (hp.op (n := 1) (.inr (.inr ⟨rfl, rfl⟩)) hab hb2).text (by decide) (by decide) (by decide) (by omega) dL0
  have dL1 : c17.data.toList = twoL 124 (sentF R 2 0).txt (sentF S 2 0).txt := by rw [hc17, hc15, hc14, hc12]; simp only [ByteArray.data_append, Array.toList_append, hsp, hsq, twoL]; simp
  have kL1 : TextOK c17 (orX (sentF R 2 0).x (sentF S 2 0).x) := (hp.two hq (.inr ⟨rfl, rfl⟩)).text (by decide) (by decide) (by decide) (by omega) dL1
  have dL2 : c19.data.toList = notL (notL (sentF R 2 0).txt) := by rw [hc19]; simp only [ByteArray.data_append, Array.toList_append, hsp, notL]; simp
  have kL2 : TextOK c19 (notX (notX (sentF R 2 0).x)) := (hp.not.not).text (by decide) (by decide) (by decide) (by omega) dL2
  have dL3 : c22.data.toList = opL 79 a b (sentF R 2 0).txt := by rw [hc22, hc21]; simp only [ByteArray.data_append, Array.toList_append, dw, hsp, opL]; simp
  have kL3 : TextOK c22 (opX 79 a b (sentF R 2 0).x) := (hp.op (n := 1) (.inr (.inl ⟨rfl, rfl⟩)) hab hb2).text (by decide) (by decide) (by decide) (by omega) dL3
  have dL4 : c28.data.toList = sinceL a b (sentF R 2 0).txt (sentF S 2 0).txt := by rw [hc28, hc27, hc26, hc25, hc23]; simp only [ByteArray.data_append, Array.toList_append, dw, hsp, hsq, sinceL]; simp
  have kL4 : TextOK c28 (sinceX a b (sentF R 2 0).x (sentF S 2 0).x) := (hp.since (n := 1) hq hab hb2).text (by decide) (by decide) (by decide) (by omega) dL4
  have dL5 : c36.data.toList = opL 89 a b (twoL 38 (sentF R 2 0).txt (sentF S 2 0).txt) := by rw [hc36, hc35, hc34, hc32, hc31, hc30]; simp only [ByteArray.data_append, Array.toList_append, dw, hsp, hsq, opL, twoL]; simp
  have kL5 : TextOK c36 (opX 89 a b (andX (sentF R 2 0).x (sentF S 2 0).x)) := ((hp.and hq).op (n := 1) (.inl ⟨rfl, rfl⟩) hab hb2).text (by decide) (by decide) (by decide) (by omega) dL5
  have dR0 : c41.data.toList = notL (opL 79 a b (notL (sentF R 2 0).txt)) := by rw [hc41, hc40, hc38]; simp only [ByteArray.data_append, Array.toList_append, dw, hsp, notL, opL]; simp
  have kR0 : TextOK c41 (notX (opX 79 a b (notX (sentF R 2 0).x))) := ((hp.not.op (n := 1) (.inr (.inl ⟨rfl, rfl⟩)) hab hb2).not).text (by decide) (by decide) (by decide) (by omega) dR0
  have dR1 : c47.data.toList = notL (twoL 38 (notL (sentF R 2 0).txt) (notL (sentF S 2 0).txt)) := by rw [hc47, hc46, hc45, hc43]; simp only [ByteArray.data_append, Array.toList_append, hsp, hsq, notL, twoL]; simp
  have kR1 : TextOK c47 (notX (andX (notX (sentF R 2 0).x) (notX (sentF S 2 0).x))) := ((hp.not.and hq.not).not).text (by decide) (by decide) (by decide) (by omega) dR1
  have dR2 : sp.data.toList = (sentF R 2 0).txt := hsp
  have kR2 : TextOK sp ((sentF R 2 0).x) := (hp).text (by decide) (by decide) (by decide) (by omega) dR2
  have dR3 : c51.data.toList = sinceL a b [116, 114, 117, 101] (sentF R 2 0).txt := by rw [hc51, hc50, hc49]; simp only [ByteArray.data_append, Array.toList_append, dw, hsp, sinceL]; simp
  have kR3 : TextOK c51 (sinceX a b trueX (sentF R 2 0).x) := (MadeOK.top.since (n := 1) hp hab hb2).text (by decide) (by decide) (by decide) (by omega) dR3
  have dR4 : c58.data.toList = notL (notL (sinceL a b (notL (notL (sentF R 2 0).txt)) (notL (notL (sentF S 2 0).txt)))) := by rw [hc58, hc57, hc56, hc55, hc54, hc53]; simp only [ByteArray.data_append, Array.toList_append, dw, hsp, hsq, notL, sinceL]; simp
  have kR4 : TextOK c58 (notX (notX (sinceX a b (notX (notX (sentF R 2 0).x)) (notX (notX (sentF S 2 0).x))))) := ((hp.not.not.since (n := 1) hq.not.not hab hb2).not.not).text (by decide) (by decide) (by decide) (by omega) dR4
  have dR5 : c66.data.toList = twoL 38 (opL 89 a b (sentF R 2 0).txt) (opL 89 a b (sentF S 2 0).txt) := by rw [hc66, hc65, hc64, hc63, hc61, hc60]; simp only [ByteArray.data_append, Array.toList_append, dw, hsp, hsq, opL, twoL]; simp
  have kR5 : TextOK c66 (andX (opX 89 a b (sentF R 2 0).x) (opX 89 a b (sentF S 2 0).x)) := ((hp.op (n := 1) (.inl ⟨rfl, rfl⟩) hab hb2).and (hq.op (n := 1) (.inl ⟨rfl, rfl⟩) hab hb2)).text (by decide) (by decide) (by decide) (by omega) dR5
  have hPair : ∀ j, j < 6 → ∃ s t x y, w9.cell? ⟨gL, j, none⟩ = some (.string s) ∧ w9.cell? ⟨gR, j, none⟩ = some (.string t) ∧ TextOK s x ∧ TextOK t y ∧ ∀ n, verS x L n = verS y L n := by
    intro j hj
    have hjj : j = 0 ∨ j = 1 ∨ j = 2 ∨ j = 3 ∨ j = 4 ∨ j = 5 := by omega
    have hcL2 : ∀ (j : Nat) v, w8.cell? ⟨gL, j, none⟩ = some v → w9.cell? ⟨gL, j, none⟩ = some v := fun j v h => (World.cell?_of_block (ht9.block gL hzL id)).trans h
    rcases hjj with rfl | rfl | rfl | rfl | rfl | rfl
    · exact ⟨_, _, _, _, hcL2 _ _ (hcL 0 _ rfl), hcR 0 _ rfl, kL0, kR0, verS_same (fun e es => same0 a b (sentF R 2 0).x e es) L⟩
    · exact ⟨_, _, _, _, hcL2 _ _ (hcL 1 _ rfl), hcR 1 _ rfl, kL1, kR1, verS_same (fun e es => same1 (sentF R 2 0).x (sentF S 2 0).x e es) L⟩
    · exact ⟨_, _, _, _, hcL2 _ _ (hcL 2 _ rfl), hcR 2 _ rfl, kL2, kR2, verS_same (fun e es => same2 (sentF R 2 0).x e es) L⟩
    · exact ⟨_, _, _, _, hcL2 _ _ (hcL 3 _ rfl), hcR 3 _ rfl, kL3, kR3, verS_same (fun e es => same3 a b (sentF R 2 0).x e es) L⟩
    · exact ⟨_, _, _, _, hcL2 _ _ (hcL 4 _ rfl), hcR 4 _ rfl, kL4, kR4, verS_same (fun e es => same4 a b (sentF R 2 0).x (sentF S 2 0).x e es) L⟩
    · exact ⟨_, _, _, _, hcL2 _ _ (hcL 5 _ rfl), hcR 5 _ rfl, kL5, kR5, verS_same (fun e es => same5 a b (sentF R 2 0).x (sentF S 2 0).x e es) L⟩
  replace hA := hA.less (m := [(2, .slice eo L.length cap), (11, .bool true), (17, .slice (some ⟨gL, 0, none⟩) 6 6), (18, .slice (some ⟨gR, 0, none⟩) 6 6)]) (by simp only [List.forall_mem_cons, List.not_mem_nil, false_implies, implies_true, and_true]; exact ⟨rfl, rfl, rfl, rfl⟩)
  exact loop6_lead L eo cap gL gR w w9 A hg hw7 hLm hL hC hPair (by omega) hA hS9 cs hcs
end Go.Proofs.YtpbbmagjhkakgaaGreatDoor.Ev

namespace Go.Proofs.YtpbbmagjhkakgaaGreatDoor
open Go.ChangeShapes Go.WideShapes Go.ChangeAt Go.RowKit Go.Deep Go.Conc Go.Proofs.YtpbbmagjhkakgaaGreatDoor.Ev Go.Proofs.YtpbbmagjhkakgaaGreatDoor.Lf
theorem trodAll_more {H : Type} {enc : TypeId × Value → H} {P : Program} {w : World} {base : Nat} {spare : Nat → Bool} {held : Bool} {t : TypeId} {ts : List TypeId} {v : Value} {vs : List Value} {d : DataW H} {ds : List (DataW H)} {p p' : List MemPlace}
    (h : DataW.Trod enc P w base spare held t v d p) (hs : DataW.TrodAll enc P w base spare held ts vs ds p') : DataW.TrodAll enc P w base spare held (t :: ts) (v :: vs) (d :: ds) (p ++ p') := ⟨p, p', h, hs, rfl⟩
set_option maxRecDepth 100000 in
theorem same_runs {H : Type} {enc : TypeId × Value → H} (W : World) (base : Nat) (args : Array Value) (ds gs : List (DataW H)) (before : List MemPlace)
    (hval0 : ∀ (j : Nat) t v, Tryz.f6.params[j]? = some t → args[j]? = some v → Value.okWide Tryz.prog W .any base t v)
    (hW : DataW.Whole enc Tryz.prog Tryz.f6.params.toList Rows.sameSpec.vars false W args.toList ds gs before)
    (hz : (DataW.weightsEach Tryz.prog (Tryz.f6.params.toList ++ Rows.sameSpec.plain.varTypes Tryz.prog) (ds ++ gs)).all (· ≤ reachBytes) = true) (hL : laidMetH Tryz.prog Rows.printedRow.laid W) :
    ∃ M last o w' t', runNT Tryz.prog (M + 1) (solo (G (Frame.enter Tryz.prog 6 args .normal) []) W) #[] = (.ended o w', t') ∧ runN Tryz.prog M (solo (G (Frame.enter Tryz.prog 6 args .normal) []) W) = .next last ∧
      step Tryz.prog last = .ended o w' ∧ Conc.Good Tryz.prog (fun v W' => Rows.sameSpec.post enc Tryz.prog Tryz.f6 false true false false W args v W') last o w' t' := by
  have hval : ∀ (j : Nat) t v, Tryz.f6.params[j]? = some t → args[j]? = some v → Value.okWide Tryz.prog W .any base t v := hval0
  have hW' := hW
  obtain ⟨p, q, hA0, hV, rfl, hfz, hnd⟩ := hW
  have hA : DataW.TrodAll enc Tryz.prog W 0 (fun _ => true) true Tryz.f6.params.toList args.toList ds p := hA0
  rw [Tryz.params6] at hA hval hz
  obtain ⟨al⟩ := args
  obtain ⟨v0, vs0, d0, ds0, p0, q0, ha0, rfl, rfl, h0, hA⟩ := trodAll_cons hA
  obtain ⟨v1, vs1, d1, ds1, p1, q1, rfl, rfl, rfl, h1, hA⟩ := trodAll_cons hA
  obtain ⟨v2, vs2, d2, ds2, p2, q2, rfl, rfl, rfl, h2, hA⟩ := trodAll_cons hA
  obtain ⟨v3, vs3, d3, ds3, p3, q3, rfl, rfl, rfl, h3, hA⟩ := trodAll_cons hA
  obtain ⟨v4, vs4, d4, ds4, p4, q4, rfl, rfl, rfl, h4, hA⟩ := trodAll_cons hA
  obtain ⟨rfl, rfl, rfl⟩ := trodAll_nil hA
  have ha0 : al = [v0, v1, v2, v3, v4] := ha0
  subst ha0
  obtain ⟨rfl, rfl⟩ := trodVars_none hV
  have hz0 : (d0.weights Tryz.prog 33).all (· ≤ reachBytes) = true ∧ (d1.weights Tryz.prog 33).all (· ≤ reachBytes) = true := by
    simp only [List.cons_append, List.nil_append, DataW.weightsEach, List.all_append, Bool.and_eq_true] at hz
    exact ⟨hz.1, hz.2.1⟩
  obtain ⟨oR, R, cR, rfl, hlR, hIR, hR⟩ := raw_open (hval 0 33 v0 rfl rfl) h0 hz0.1
  obtain ⟨oS, S, cS, rfl, hlS, hIS, hS⟩ := raw_open (hval 1 33 v1 rfl rfl) h1 hz0.2
  obtain ⟨eo, L, cap, rfl, hLm, hL64, hC⟩ := comes_open (hval 2 34 v2 rfl rfl) h2
  obtain ⟨a, rfl, rfl, rfl, wa⟩ := open_int Tryz.underlying3 (hval 3 3 v3 rfl rfl) h3
  obtain ⟨b, rfl, rfl, rfl, wb⟩ := open_int Tryz.underlying3 (hval 4 3 v4 rfl rfl) h4
  obtain ⟨hg, h7⟩ := glob_of_laid hL
  clear hA0 hval0 hA hz
  have hlt : ∀ x ∈ p0 ++ (p1 ++ (p2 ++ ([] ++ ([] ++ [])))) ++ [], x.block < W.heap.size := hW'.lt
  have e1 : Rows.sameSpec.fn H ([d0, d1, d2, .lit (.int .i64 a), .lit (.int .i64 b)] ++ []) = { results := [.lit (.bool true)], args := [d0, d1, d2, .lit (.int .i64 a), .lit (.int .i64 b)] } := by simp [Rows.sameSpec]
  obtain ⟨M, last, o, w', t', r1, r2, r3, r4⟩ := (same_H R S oR oS cR cS L eo cap a b W hg h7 (i64_of_wf wa) (i64_of_wf wb) hlR hlS hIR hIS hR hS hLm hL64 hC).good Tryz.func6 (t := 10) rfl (by kernel_rfl) LawPost.tapeR (fun e w h => ⟨_, h.1⟩)
  refine ⟨M, last, o, w', t', r1, r2, r3, r4.mono fun v hp => ?_⟩
  obtain ⟨he, hs⟩ := hp
  cases he
  refine ⟨_, _, _, [], p0 ++ (p1 ++ (p2 ++ ([] ++ ([] ++ [])))), [], hW', ?_, ?_, ?_, spare_frame hs _, fun h => by cases h⟩
  · rw [e1]; exact trodAll_mk1 (shut_bool Tryz.underlying4 true)
  · rw [e1]
    exact trodAll_more (spare_trod laidOutK readRaw rowRaw h0 hs fun x hx => hlt x (by simp [hx])) (trodAll_more (spare_trod laidOutK readRaw rowRaw h1 hs fun x hx => hlt x (by simp [hx])) (trodAll_more (spare_trod laidOutK readComes rowComes h2 hs fun x hx => hlt x (by simp [hx])) (trodAll_more (shut_int Tryz.underlying3 wa) (trodAll_more (shut_int Tryz.underlying3 wb) trodAll_mk0))))
  · rw [e1]; rfl
end Go.Proofs.YtpbbmagjhkakgaaGreatDoor
