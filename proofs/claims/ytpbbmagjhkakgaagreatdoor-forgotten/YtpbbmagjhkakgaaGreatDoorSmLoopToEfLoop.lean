import Derived.Test.YtpbbmagjhkakgaaGreatDoorSnSeen0ToSmOps
import Derived.Test.YtpbbmagjhkakgaaGreatDoorEdWatchToSnOps
namespace Go.Proofs.YtpbbmagjhkakgaaGreatDoor.Ev
open Go.RowKit Go.Deep Go.Maps Go.Proofs.YtpbbmagjhkakgaaGreatDoor.Lf Go.Conc
noncomputable def seqC : Code → Nat → Code
  | .seq x _, 0 => x
  | .seq _ y, n + 1 => seqC y n
  | c, _ => c
noncomputable def opsR : Code → Array Oper
  | .region _ o _ => o
  | _ => #[]
theorem Fx.of {N : Nat} {l : List (Nat × Value)} {A : Act} (h1 : A.tmps.size = N) (h2 : A.defers = []) (h3 : ∀ p ∈ l, A.tmps[p.1]? = some p.2) : Fx N l A := (Fx.mk (l := []) h1 h2 (fun _ _ h => by cases h)).adds h3
theorem ownsRow_re {w : World} {B : Nat} {t : TypeId} {s : Nat} {v : Value} {n : Nat} {xs : List Value} (h : w.ownsRow B t s v n xs) (τ : Tape) (d : Nat) : (re w τ d).ownsRow B t s v n xs := h
noncomputable def body8 : Code := Tryz.f8.body.getD .skip
noncomputable def reg8 (k : Nat) : Code := seqC body8 k
noncomputable def ops8 (k : Nat) : Array Oper := opsR (reg8 k)
noncomputable def rest8 : Code := match body8 with
  | .seq _ (.seq _ (.seq _ (.seq _ (.seq _ (.seq _ (.seq _ (.seq _ (.seq _ (.seq _ (.seq _ x)))))))))) => x
  | _ => .skip
noncomputable def zero8 : Code := match rest8 with
  | .seq (.seq x _) _ => x
  | _ => .skip
noncomputable def loop8 : Code := match rest8 with
  | .seq (.seq _ (.block _ (.loop x))) _ => x
  | _ => .skip
noncomputable def fin8 : Code := match rest8 with
  | .seq _ x => x
  | _ => .skip
noncomputable def head8 : Code := match loop8 with
  | .seq x _ => x
  | _ => .skip
noncomputable def in8 : Code := match loop8 with
  | .seq _ (.seq (.block _ x) _) => x
  | _ => .skip
noncomputable def next8 : Code := match loop8 with
  | .seq _ (.seq _ x) => x
  | _ => .skip
noncomputable def part8 (k : Nat) : Code := seqC in8 k
noncomputable def opp8 (k : Nat) : Array Oper := opsR (part8 k)
noncomputable def chk8 : Code := match in8 with
  | .seq _ (.seq _ (.seq _ (.seq _ (.seq _ (.seq _ x))))) => x
  | _ => .skip
set_option maxRecDepth 100000 in
theorem open133 {A : Act} (hsz : A.tmps.size = 133) (hd : A.defers = []) : ∃ u : Nat → Value, (∀ j v, A.tmps[j]? = some v → u j = v) ∧ A = ⟨#[u 0, u 1, u 2, u 3, u 4, u 5, u 6, u 7, u 8, u 9, u 10, u 11, u 12, u 13, u 14, u 15, u 16, u 17, u 18, u 19, u 20, u 21, u 22, u 23, u 24, u 25, u 26, u 27, u 28, u 29, u 30, u 31, u 32, u 33, u 34, u 35, u 36, u 37, u 38, u 39, u 40, u 41, u 42, u 43, u 44, u 45, u 46, u 47, u 48, u 49, u 50, u 51, u 52, u 53, u 54, u 55, u 56, u 57, u 58, u 59, u 60, u 61, u 62, u 63, u 64, u 65, u 66, u 67, u 68, u 69, u 70, u 71, u 72, u 73, u 74, u 75, u 76, u 77, u 78, u 79, u 80, u 81, u 82, u 83, u 84, u 85, u 86, u 87, u 88, u 89, u 90, u 91, u 92, u 93, u 94, u 95, u 96, u 97, u 98, u 99, u 100, u 101, u 102, u 103, u 104, u 105, u 106, u 107, u 108, u 109, u 110, u 111, u 112, u 113, u 114, u 115, u 116, u 117, u 118, u 119, u 120, u 121, u 122, u 123, u 124, u 125, u 126, u 127, u 128, u 129, u 130, u 131, u 132], []⟩ := by
  refine ⟨fun j => A.tmps.getD j undef, fun j v h => by show A.tmps.getD j undef = v; rw [Array.getD_eq_getD_getElem?, h]; rfl, ?_⟩
  have e : A.tmps = ((List.range 133).map (fun j => A.tmps.getD j undef)).toArray := arr_get A.tmps 133 hsz
  obtain ⟨t, d⟩ := A
  simp only at *
  subst hd
  rw [Act.mk.injEq]
  exact ⟨e.trans rfl, rfl⟩
def F8 (eo : Option Addr) (ln cap : Nat) (n : Int) (mb : Nat) (now : Int) (tv : Value) (i : Int) : List (Nat × Value) := [(1, .slice eo ln cap), (8, .int .i64 n), (14, .pointer (some ⟨mb, 0, none⟩)), (16, .int .i64 now), (17, tv), (18, .int .i64 i)]
def G8 (eo : Option Addr) (ln cap : Nat) (n : Int) (mb : Nat) (now : Int) (tv : Value) (i : Int) : List (Nat × Value) := [(1, .slice eo ln cap), (8, .int .i64 n), (14, .pointer (some ⟨mb, 0, none⟩)), (16, .int .i64 now), (17, tv), (18, .int .i64 i), (19, .int .i64 0)]
def H8 (eo : Option Addr) (ln cap : Nat) (n : Int) (mb : Nat) (now : Int) (tv : Value) (i : Int) (q : Int) : List (Nat × Value) := [(1, .slice eo ln cap), (8, .int .i64 n), (14, .pointer (some ⟨mb, 0, none⟩)), (16, .int .i64 now), (17, tv), (18, .int .i64 i), (19, .int .i64 0), (20, .int .i64 q)]
def J8 (eo : Option Addr) (ln cap : Nat) (n : Int) (mb : Nat) (now : Int) (tv : Value) (i : Int) (q r : Int) : List (Nat × Value) := [(1, .slice eo ln cap), (8, .int .i64 n), (14, .pointer (some ⟨mb, 0, none⟩)), (16, .int .i64 now), (17, tv), (18, .int .i64 i), (19, .int .i64 0), (20, .int .i64 q), (22, .int .i64 r)]
def Mem8 (L : List (Int × Int)) (n : Int) (mb wtb : Nat) (w0 : World) (tv : Value) (tn zi : Nat) (w : World) : Prop := w.ownsRow w0.heap.size 3 1 tv tn (timesV L tn) ∧ ZInv L w0.heap.size mb wtb n zi w ∧ SpareR (fun _ => False) w0 w
theorem Mem8.tapeR {L : List (Int × Int)} {n : Int} {mb wtb : Nat} {w0 : World} {tv : Value} {tn zi : Nat} {w : World} (h : Mem8 L n mb wtb w0 tv tn zi w) (τ : Tape) (d : Nat) : Mem8 L n mb wtb w0 tv tn zi (re w τ d) := ⟨ownsRow_re h.1 τ d, h.2.1.tapeR τ d, h.2.2.tapeR τ d⟩
def St8 (L : List (Int × Int)) (eo : Option Addr) (cap : Nat) (n : Int) (mb wtb : Nat) (w0 : World) (now : Int) (i tn zi : Nat) (A : Act) (w : World) : Prop := ∃ tv, Fx 133 (F8 eo L.length cap n mb now tv i) A ∧ Mem8 L n mb wtb w0 tv tn zi w
def Sg8 (L : List (Int × Int)) (eo : Option Addr) (cap : Nat) (n : Int) (mb wtb : Nat) (w0 : World) (now : Int) (i tn zi : Nat) (A : Act) (w : World) : Prop := ∃ tv, Fx 133 (G8 eo L.length cap n mb now tv i) A ∧ Mem8 L n mb wtb w0 tv tn zi w
theorem St8.tapeR {L : List (Int × Int)} {eo : Option Addr} {cap : Nat} {n : Int} {mb wtb : Nat} {w0 : World} {now : Int} {i tn zi : Nat} {A : Act} {w : World} (h : St8 L eo cap n mb wtb w0 now i tn zi A w) (τ : Tape) (d : Nat) : St8 L eo cap n mb wtb w0 now i tn zi A (re w τ d) := by
  obtain ⟨tv, h1, h2⟩ := h
  exact ⟨tv, h1, h2.tapeR τ d⟩
theorem Sg8.tapeR {L : List (Int × Int)} {eo : Option Addr} {cap : Nat} {n : Int} {mb wtb : Nat} {w0 : World} {now : Int} {i tn zi : Nat} {A : Act} {w : World} (h : Sg8 L eo cap n mb wtb w0 now i tn zi A w) (τ : Tape) (d : Nat) : Sg8 L eo cap n mb wtb w0 now i tn zi A (re w τ d) := by
  obtain ⟨tv, h1, h2⟩ := h
  exact ⟨tv, h1, h2.tapeR τ d⟩
set_option maxRecDepth 100000 in
set_option maxHeartbeats 16000000 in
theorem zero8_go (L : List (Int × Int)) (eo : Option Addr) (cap : Nat) (n : Int) (mb wtb : Nat) (w0 : World) (tv : Value) (A : Act) (w : World) (hA : Fx 133 [(1, .slice eo L.length cap), (8, .int .i64 n), (14, .pointer (some ⟨mb, 0, none⟩)), (16, .int .i64 0), (17, tv)] A) (hM : Mem8 L n mb wtb w0 tv 0 0 w) : zero8.wp Tryz.prog (fun e A' w' => e = .normal ∧ St8 L eo cap n mb wtb w0 (timeZ L 0) 0 0 0 A' w') A w := by
  have hP : ∀ A', Fx 133 (F8 eo L.length cap n mb 0 tv 0) A' → St8 L eo cap n mb wtb w0 (timeZ L 0) 0 0 0 A' w := fun A' h => ⟨tv, h, hM⟩
  replace hP : Hid _ := hP
  clear hM
  obtain ⟨u, hu, rfl⟩ := open133 hA.size hA.defers
  have k1 := hu 1 _ (hA.get 1 _ rfl)
  have k8 := hu 8 _ (hA.get 8 _ rfl)
  have k14 := hu 14 _ (hA.get 14 _ rfl)
  have k16 := hu 16 _ (hA.get 16 _ rfl)
  have k17 := hu 17 _ (hA.get 17 _ rfl)
  clear hu hA
  simp only [k1, k8, k14, k16, k17]
  clear k1 k8 k14 k16 k17
  generalize St8 L eo cap n mb wtb w0 (timeZ L 0) 0 0 0 = Q at *
  generalize L.length = ln at *
  simp only [zero8, rest8, body8, Tryz.f8, Option.getD_some]
  go_wp2_with fail
  first | refine hP.out _ ?_ | refine ⟨rfl, hP.out _ ?_⟩
  refine Fx.of rfl rfl ?_
  unfold F8
  simp only [List.forall_mem_cons, List.not_mem_nil, false_implies, implies_true, and_true]
  exact ⟨rfl, rfl, rfl, rfl, rfl, rfl⟩
set_option maxRecDepth 100000 in
set_option maxHeartbeats 16000000 in
theorem head8_go (L : List (Int × Int)) (eo : Option Addr) (cap : Nat) (n : Int) (mb wtb : Nat) (w0 : World) (i : Nat) (A : Act) (w : World) (hLm : L.length ≤ 9223372036854775807) (h1 : i < 25) (h2 : i < L.length) (h : St8 L eo cap n mb wtb w0 (timeZ L i) i i i A w) : head8.wp Tryz.prog (fun e A' w' => e = .normal ∧ St8 L eo cap n mb wtb w0 (timeZ L i) i i i A' w') A w := by
  obtain ⟨tv, hA, hM⟩ := h
  have hP : ∀ A', Fx 133 (F8 eo L.length cap n mb (timeZ L i) tv i) A' → St8 L eo cap n mb wtb w0 (timeZ L i) i i i A' w := fun A' h => ⟨tv, h, hM⟩
  replace hP : Hid _ := hP
  clear hM
  obtain ⟨u, hu, rfl⟩ := open133 hA.size hA.defers
  have k1 := hu 1 _ (hA.get 1 _ rfl)
  have k8 := hu 8 _ (hA.get 8 _ rfl)
  have k14 := hu 14 _ (hA.get 14 _ rfl)
  have k16 := hu 16 _ (hA.get 16 _ rfl)
  have k17 := hu 17 _ (hA.get 17 _ rfl)
  have k18 := hu 18 _ (hA.get 18 _ rfl)
  clear hu hA
  simp only [k1, k8, k14, k16, k17, k18]
  clear k1 k8 k14 k16 k17 k18
  generalize St8 L eo cap n mb wtb w0 (timeZ L i) i i i = Q at *
  generalize L.length = ln at *
  simp only [head8, loop8, rest8, body8, Tryz.f8, Option.getD_some]
  have hLm' := hLm
  clear hLm
  generalize timeZ L i = tz at *
  go_wp2_with fail
  first | refine hP.out _ ?_ | refine ⟨rfl, hP.out _ ?_⟩
  refine Fx.of rfl rfl ?_
  unfold F8
  simp only [List.forall_mem_cons, List.not_mem_nil, false_implies, implies_true, and_true]
  exact ⟨rfl, rfl, rfl, rfl, rfl, rfl⟩
set_option maxRecDepth 100000 in
set_option maxHeartbeats 16000000 in
theorem head8_end (L : List (Int × Int)) (eo : Option Addr) (cap : Nat) (n : Int) (mb wtb : Nat) (w0 : World) (i : Nat) (A : Act) (w : World) (hLm : L.length ≤ 9223372036854775807) (h1 : i ≤ 25) (h2 : i ≤ L.length) (h3 : i = 25 ∨ i = L.length) (h : St8 L eo cap n mb wtb w0 (timeZ L i) i i i A w) : head8.wp Tryz.prog (fun e A' w' => e = .exit 0 ∧ St8 L eo cap n mb wtb w0 (timeZ L i) i i i A' w') A w := by
  obtain ⟨tv, hA, hM⟩ := h
  have hP : ∀ A', Fx 133 (F8 eo L.length cap n mb (timeZ L i) tv i) A' → St8 L eo cap n mb wtb w0 (timeZ L i) i i i A' w := fun A' h => ⟨tv, h, hM⟩
  replace hP : Hid _ := hP
  clear hM
  obtain ⟨u, hu, rfl⟩ := open133 hA.size hA.defers
  have k1 := hu 1 _ (hA.get 1 _ rfl)
  have k8 := hu 8 _ (hA.get 8 _ rfl)
  have k14 := hu 14 _ (hA.get 14 _ rfl)
  have k16 := hu 16 _ (hA.get 16 _ rfl)
  have k17 := hu 17 _ (hA.get 17 _ rfl)
  have k18 := hu 18 _ (hA.get 18 _ rfl)
  clear hu hA
  simp only [k1, k8, k14, k16, k17, k18]
  clear k1 k8 k14 k16 k17 k18
  generalize St8 L eo cap n mb wtb w0 (timeZ L i) i i i = Q at *
  generalize L.length = ln at *
  generalize timeZ L i = tz at *
  simp only [head8, loop8, rest8, body8, Tryz.f8, Option.getD_some]
  by_cases hlt : i < ln
  · obtain rfl : i = 25 := by omega
    go_wp2_with fail
    first | refine hP.out _ ?_ | refine ⟨rfl, hP.out _ ?_⟩
    refine Fx.of rfl rfl ?_
    unfold F8
    simp only [List.forall_mem_cons, List.not_mem_nil, false_implies, implies_true, and_true]
    exact ⟨rfl, rfl, rfl, rfl, rfl, rfl⟩
  · obtain rfl : i = ln := by omega
    go_wp2_with fail
    first | refine hP.out _ ?_ | refine ⟨rfl, hP.out _ ?_⟩
    refine Fx.of rfl rfl ?_
    unfold F8
    simp only [List.forall_mem_cons, List.not_mem_nil, false_implies, implies_true, and_true]
    exact ⟨rfl, rfl, rfl, rfl, rfl, rfl⟩
set_option maxRecDepth 100000 in
set_option maxHeartbeats 16000000 in
theorem next8_go (L : List (Int × Int)) (eo : Option Addr) (cap : Nat) (n : Int) (mb wtb : Nat) (w0 : World) (i : Nat) (A : Act) (w : World) (h1 : i < 25) (h : St8 L eo cap n mb wtb w0 (timeZ L (i + 1)) i (i + 1) (i + 1) A w) : next8.wp Tryz.prog (fun e A' w' => e = .normal ∧ St8 L eo cap n mb wtb w0 (timeZ L (i + 1)) (i + 1) (i + 1) (i + 1) A' w') A w := by
  obtain ⟨tv, hA, hM⟩ := h
  have hP : ∀ A', Fx 133 (F8 eo L.length cap n mb (timeZ L (i + 1)) tv ((i : Int) + 1)) A' → St8 L eo cap n mb wtb w0 (timeZ L (i + 1)) (i + 1) (i + 1) (i + 1) A' w := fun A' h => ⟨tv, h, hM⟩
  replace hP : Hid _ := hP
  clear hM
  obtain ⟨u, hu, rfl⟩ := open133 hA.size hA.defers
  have k1 := hu 1 _ (hA.get 1 _ rfl)
  have k8 := hu 8 _ (hA.get 8 _ rfl)
  have k14 := hu 14 _ (hA.get 14 _ rfl)
  have k16 := hu 16 _ (hA.get 16 _ rfl)
  have k17 := hu 17 _ (hA.get 17 _ rfl)
  have k18 := hu 18 _ (hA.get 18 _ rfl)
  clear hu hA
  simp only [k1, k8, k14, k16, k17, k18]
  clear k1 k8 k14 k16 k17 k18
  generalize St8 L eo cap n mb wtb w0 (timeZ L (i + 1)) (i + 1) (i + 1) (i + 1) = Q at *
  generalize L.length = ln at *
  simp only [next8, loop8, rest8, body8, Tryz.f8, Option.getD_some]
  generalize timeZ L (i + 1) = tz at *
  go_wp2_with fail
  first | refine hP.out _ ?_ | refine ⟨rfl, hP.out _ ?_⟩
  refine Fx.of rfl rfl ?_
  unfold F8
  simp only [List.forall_mem_cons, List.not_mem_nil, false_implies, implies_true, and_true]
  exact ⟨rfl, rfl, rfl, rfl, rfl, rfl⟩
set_option maxRecDepth 100000 in
set_option maxHeartbeats 16000000 in
theorem now8_go (L : List (Int × Int)) (eo : Option Addr) (cap : Nat) (n : Int) (mb wtb : Nat) (w0 : World) (i : Nat) (A : Act) (w : World) (hLm : L.length ≤ 9223372036854775807) (hL : ∀ p ∈ L, I64 p.1 ∧ I64 p.2) (hC : ComesAt w0 eo L) (h1 : i < 25) (h2 : i < L.length) (h : St8 L eo cap n mb wtb w0 (timeZ L i) i i i A w) : (part8 0).wp Tryz.prog (fun e A' w' => e = .normal ∧ St8 L eo cap n mb wtb w0 (timeZ L (i + 1)) i i i A' w') A w := by
  have hLm' := hLm
  clear hLm
  obtain ⟨tv, hA, hM⟩ := h
  obtain ⟨bb, off, rfl, hbl, hcells⟩ := (hC.move hM.2.2) (by intro e; rw [e] at h2; simp at h2)
  have c1 := (hcells i h2).1
  have hmem : L.getD i (0, 0) ∈ L := by rw [List.getD_eq_getElem?_getD, List.getElem?_eq_getElem h2]; exact List.getElem_mem h2
  have hlt := later_any (L.getD i (0, 0)).1 w (hL _ hmem).1
  have hTr := timeZ_range L i
  have hlr := laterZ_range (L.getD i (0, 0)).1
  have hTe : timeZ L i + laterZ (L.getD i (0, 0)).1 = timeZ L (i + 1) := rfl
  have hP : ∀ A', Fx 133 (F8 (some ⟨bb, off, none⟩) L.length cap n mb (timeZ L i + laterZ (L.getD i (0, 0)).1) tv i) A' → St8 L (some ⟨bb, off, none⟩) cap n mb wtb w0 (timeZ L (i + 1)) i i i A' w := fun A' h => ⟨tv, by rw [← hTe]; exact h, hM⟩
  replace hP : Hid _ := hP
  clear hM hcells hC hL hmem hTe
  obtain ⟨u, hu, rfl⟩ := open133 hA.size hA.defers
  have k1 := hu 1 _ (hA.get 1 _ rfl)
  have k8 := hu 8 _ (hA.get 8 _ rfl)
  have k14 := hu 14 _ (hA.get 14 _ rfl)
  have k16 := hu 16 _ (hA.get 16 _ rfl)
  have k17 := hu 17 _ (hA.get 17 _ rfl)
  have k18 := hu 18 _ (hA.get 18 _ rfl)
  clear hu hA
  simp only [k1, k8, k14, k16, k17, k18]
  clear k1 k8 k14 k16 k17 k18
  generalize St8 L (some ⟨bb, off, none⟩) cap n mb wtb w0 (timeZ L (i + 1)) i i i = Q at *
  generalize (L.getD i (0, 0)).1 = lc at *
  generalize laterZ lc = lz at *
  generalize timeZ L i = tz at *
  generalize L.length = ln at *
  simp only [part8, seqC, in8, loop8, rest8, body8, Tryz.f8, Option.getD_some]
  go_wp2_with fail
  refine hlt.mono ?_
  rintro e w2 ⟨rfl, hw2⟩
  have hw2 := hw2.symm
  subst hw2
  go_wp2_with fail
  first | refine hP.out _ ?_ | refine ⟨rfl, hP.out _ ?_⟩
  refine Fx.of rfl rfl ?_
  unfold F8
  simp only [List.forall_mem_cons, List.not_mem_nil, false_implies, implies_true, and_true]
  exact ⟨rfl, rfl, rfl, rfl, rfl, rfl⟩
set_option maxRecDepth 100000 in
set_option maxHeartbeats 16000000 in
theorem times8_go (L : List (Int × Int)) (eo : Option Addr) (cap : Nat) (n : Int) (mb wtb : Nat) (w0 : World) (i : Nat) (A : Act) (w : World) (h1 : i < 25) (h : St8 L eo cap n mb wtb w0 (timeZ L (i + 1)) i i i A w) : (part8 1).wp Tryz.prog (fun e A' w' => e = .normal ∧ St8 L eo cap n mb wtb w0 (timeZ L (i + 1)) i (i + 1) i A' w') A w := by
  obtain ⟨tv, hA, hr1, hZ, hs⟩ := h
  have hws := hs.size
  obtain ⟨i0, hi, hz0, hz1, hz2⟩ := info_parts infoInt
  have hP : ∀ A' w' tv', Fx 133 (F8 eo L.length cap n mb (timeZ L (i + 1)) tv' i) A' → w'.ownsRow w0.heap.size 3 1 tv' (i + 1) (timesV L i ++ [.int .i64 (timeZ L (i + 1))]) → (w.alloc (.cells #[.int .i64 (timeZ L (i + 1))] 3)).grownBy w' tv.ownBlock → St8 L eo cap n mb wtb w0 (timeZ L (i + 1)) i (i + 1) i A' w' := by
    intro A' w' tv' hA hr hg
    have hb : SpareR (fun x => tv.ownBlock = some x) w w' := ⟨hg.os, hg.output, Nat.le_trans (by simp) hg.size, fun x hx hp => (hg.block x (by simp; omega) (fun e => hp e.symm)).trans (((Below.refl w.heap.size w).al _).block x hx)⟩
    have hk : Kinds w (fun x => tv.ownBlock = some x) [4, 9, 226, 183, 177, 59, 159, 153, 104] := fun b cs t m hb ht hp => by
      obtain ⟨cur, hc⟩ := own_tag hr1 hp
      rw [hc] at hb; injection hb with hb; injection hb with _ hb _; subst hb; simp at ht
    obtain ⟨⟨ea, ecap, C, E, dr, z1, z2⟩, z3, z4⟩ := hZ
    refine ⟨tv', hA, by rw [timesV_snoc]; exact hr, ⟨⟨ea, ecap, C, E, dr, z1.move hb (hk.less (by simp)), z2⟩, hb.get z3 (hk _ _ _ _ z3 (by simp)), z4⟩, ?_⟩
    exact ⟨hb.os.trans hs.os, hb.output.trans hs.output, Nat.le_trans hs.size hb.size, fun x hx _ => (hb.block x (by omega) (fun e => by have := (hr1.lt x e).1; omega)).trans (hs.block x hx id)⟩
  replace hP : Hid _ := hP
  clear hZ hs
  obtain ⟨u, hu, rfl⟩ := open133 hA.size hA.defers
  have k1 := hu 1 _ (hA.get 1 _ rfl)
  have k8 := hu 8 _ (hA.get 8 _ rfl)
  have k14 := hu 14 _ (hA.get 14 _ rfl)
  have k16 := hu 16 _ (hA.get 16 _ rfl)
  have k17 := hu 17 _ (hA.get 17 _ rfl)
  have k18 := hu 18 _ (hA.get 18 _ rfl)
  clear hu hA
  simp only [k1, k8, k14, k16, k17, k18]
  clear k1 k8 k14 k16 k17 k18
  simp only [part8, seqC, in8, loop8, rest8, body8, Tryz.f8, Option.getD_some]
  generalize St8 L eo cap n mb wtb w0 (timeZ L (i + 1)) i (i + 1) i = Q at *
  generalize timesV L i = xs at *
  generalize timeZ L (i + 1) = tz at *
  generalize L.length = ln at *
  generalize w0.heap.size = B at *
  go_wp2_with (at_builtin; refine wpList_append_own_at _ rfl _ _ 33 rfl B 3 i0 _ 1 8 Tryz.underlying33 hi hz0 hz1 hz2 rfl (by decide) _ _ _ rfl (hr1.alloc _) ⟨w.heap.size, 0, none⟩ 1 1 [.int .i64 tz] rfl rfl ?c1 ?c2 ?c3 ?c4 ?c5 ?_)
  case c1 => exact cell_one_new w _ _
  case c2 => simp [Value.oneCell']
  case c3 => unfold maxLen; omega
  case c4 => omega
  case c5 => simp; omega
  intro v' w2 hown' hgrow _ _
  go_wp2_with fail
  first | refine hP.out _ _ v' ?_ hown' hgrow | refine ⟨rfl, hP.out _ _ v' ?_ hown' hgrow⟩
  refine Fx.of rfl rfl ?_
  unfold F8
  simp only [List.forall_mem_cons, List.not_mem_nil, false_implies, implies_true, and_true]
  exact ⟨rfl, rfl, rfl, rfl, rfl, rfl⟩
end Go.Proofs.YtpbbmagjhkakgaaGreatDoor.Ev
