import Derived.Test.YtpbbmagjhkakgaaGreatDoorPureSizeToPureSem
import Derived.Test.YtpbbmagjhkakgaaGreatDoorPut
import Derived.Test.YtpbbmagjhkakgaaGreatDoorPureToPureScan
import Derived.RegionTactic
import Derived.Deep.RegionHeld
import Derived.ChangeAlike
import Derived.Test.YtpbbmagjhkakgaaGreatDoorProg
import Derived.Shelf.Strings.Builder1
import Derived.Shelf.Small.Strs
import Derived.Shelf.Strings.BuilderF
import Derived.Shelf.Strings.BuilderK
import Derived.Shelf.Strings.BuilderRune
import Derived.Shelf.Strconv.Atoi
import Derived.Shelf.Strconv.Itoa0
import Derived.Shelf.Strconv.Itoa1
import Derived.Shelf.LaysM
import Derived.Shelf.Strconv.Itoa2
import Derived.Shelf.Strconv.Itoa3
import Derived.Shelf.Strconv.AtoiErrFast
import Derived.Shelf.Strconv.ParseIntEmpty
import Derived.Shelf.Strconv.AtoiFail
import Derived.Shelf.Strconv.Clone
import Derived.Shelf.Strconv.SyntaxError
import Derived.Shelf.LaysC
import Derived.Shelf.Strconv.ToError
import Derived.Shelf.Strconv.Lower
import Derived.Shelf.Strconv.ParseUint10
import Derived.Shelf.Strconv.ParseUint10Empty
import Derived.Shelf.Strconv.ParseUint10Any
import Derived.Shelf.Strconv.ParseInt10
import Derived.Shelf.Strconv.AtoiLong
import Derived.Shelf.Strconv.AtoiInnerAll
import Derived.Shelf.Strconv.RangeError
import Derived.Shelf.Strconv.ToErrorRange
import Derived.Shelf.Strconv.AtoiAll
import Derived.Shelf.Strconv.ErrVarAll
import Derived.Shelf.Strings.Prefix
import Derived.Shelf.Slices.Turned
namespace Go.Proofs.YtpbbmagjhkakgaaGreatDoor.Ev
open Go.RowKit Go.Deep Go.Maps
structure EvC where
  number : Int
  time : Int
  ao : Option Addr
  al : Nat
  ac : Nat
  so : Option Addr
  sl : Nat
  sc : Nat
def EvC.av (e : EvC) : Value := .slice e.ao e.al e.ac
def EvC.sv (e : EvC) : Value := .slice e.so e.sl e.sc
def evCells (e : EvC) : List Value := [.int .i64 e.number, .int .i64 e.time, e.av, e.sv]
def flatE (E : List EvC) : List Value := (E.map evCells).flatten
def EvsAt (w : World) (ev : Value) (E : List EvC) : Prop := w.ownsRow 0 159 4 ev E.length (flatE E)
theorem flat_get {α : Type} (f : α → List Value) (n : Nat) (hf : ∀ a, (f a).length = n) : ∀ (L : List α) (i k : Nat) (a : α) (v : Value), L[i]? = some a → (f a)[k]? = some v → (L.map f).flatten[i * n + k]? = some v
  | [], i, _, _, _, h, _ => by simp at h
  | x :: L, 0, k, a, v, h, hv => by
    simp at h; subst h
    have hk := (List.getElem?_eq_some_iff.1 hv).1
    simp only [List.map_cons, List.flatten_cons, Nat.zero_mul, Nat.zero_add]
    rw [List.getElem?_append_left hk]; exact hv
  | x :: L, i + 1, k, a, v, h, hv => by
    simp at h
    have ih := flat_get f n hf L i k a v h hv
    simp only [List.map_cons, List.flatten_cons]
    rw [List.getElem?_append_right (by rw [hf, Nat.succ_mul]; omega), hf]
    have : (i + 1) * n + k - n = i * n + k := by rw [Nat.succ_mul]; omega
    rw [this]; exact ih
theorem flat_len {α : Type} (f : α → List Value) (n : Nat) (hf : ∀ a, (f a).length = n) : ∀ (L : List α), (L.map f).flatten.length = L.length * n
  | [] => by simp
  | x :: L => by simp only [List.map_cons, List.flatten_cons, List.length_append, hf, flat_len f n hf L, List.length_cons, Nat.succ_mul]; omega
theorem row_cell {w : World} {base size n : Nat} {e : TypeId} {v : Value} {xs : List Value} (h : w.ownsRow base e size v n xs) {g cap : Nat} (hv : v = .slice (some ⟨g, 0, none⟩) n cap) {j : Nat} {x : Value} (hx : xs[j]? = some x) : w.cell? ⟨g, j, none⟩ = some x := by
  obtain ⟨h1, ⟨rfl, h2⟩ | ⟨g', cap', cur, e1, h3, h4, h5, h6, h7, h8⟩⟩ := h
  · cases hv
  · rw [hv] at e1
    cases e1
    have hj : j < n * size := by have := (List.getElem?_eq_some_iff.1 hx).1; omega
    rw [← h8, List.getElem?_take, if_pos hj] at hx
    exact cell_at h4 (by rw [← Array.getElem?_toList]; exact hx)
theorem EvsAt.cases {w : World} {ev : Value} {E : List EvC} (h : EvsAt w ev E) : (ev = .slice none 0 0 ∧ E = []) ∨ ∃ g cap, ev = .slice (some ⟨g, 0, none⟩) E.length cap ∧ E.length ≤ cap ∧ cap ≤ maxLen ∧ g < w.heap.size := by
  have hl := h.lt
  obtain ⟨h1, ⟨rfl, h2⟩ | ⟨g, cap, cur, rfl, h3, h4, h5, h6, _⟩⟩ := h
  · exact .inl ⟨rfl, List.length_eq_zero_iff.1 h2⟩
  · exact .inr ⟨g, cap, rfl, h5, h6, (hl g rfl).2⟩
theorem EvsAt.cell {w : World} {E : List EvC} {g cap : Nat} (h : EvsAt w (.slice (some ⟨g, 0, none⟩) E.length cap) E) {i k : Nat} {e : EvC} {v : Value} (he : E[i]? = some e) (hv : (evCells e)[k]? = some v) : w.cell? ⟨g, i * 4 + k, none⟩ = some v :=
  row_cell h rfl (flat_get evCells 4 (fun _ => rfl) E i k e v he hv)
theorem EvsAt.below {w w' : World} {ev : Value} {E : List EvC} (h : EvsAt w ev E) (hb : Below w.heap.size w w') : EvsAt w' ev E := own_heap h fun k hk => hb.block k (h.lt k hk).2
def oldF (t : Int) : List EvC → Nat
  | [] => 0
  | e :: E => if e.time ≥ t then 0 else oldF t E + 1
theorem oldF_at (t : Int) (E : List EvC) (i : Nat) (e : EvC) (h : E[i]? = some e) : oldF t (E.drop i) = if e.time ≥ t then 0 else oldF t (E.drop (i + 1)) + 1 := by
  obtain ⟨hi, rfl⟩ := List.getElem?_eq_some_iff.1 h
  rw [List.drop_eq_getElem_cons hi]
  rfl
theorem oldF_le (t : Int) : ∀ E : List EvC, oldF t E ≤ E.length
  | [] => Nat.le_refl _
  | e :: E => by have := oldF_le t E; simp only [oldF]; split <;> simp <;> omega
theorem EvsAt.form {w : World} {ev : Value} {E : List EvC} (h : EvsAt w ev E) : ∃ ea cap, ev = .slice ea E.length cap ∧ E.length ≤ cap ∧ cap ≤ maxLen ∧ (E ≠ [] → ∃ g, ea = some ⟨g, 0, none⟩ ∧ g < w.heap.size) := by
  rcases h.cases with ⟨rfl, rfl⟩ | ⟨g, cap, rfl, h1, h2, h3⟩
  · exact ⟨none, 0, rfl, Nat.le_refl _, by simp [maxLen], fun h => absurd rfl h⟩
  · exact ⟨_, cap, rfl, h1, h2, fun _ => ⟨g, rfl, h3⟩⟩
set_option maxHeartbeats 1000000 in
theorem old_any (wtb : Nat) (retain : Int) (rm nv ev pv : Value) (E : List EvC) (time : Int) (w : World) (hw : w.heap[wtb]? = some (.cells #[.int .i64 retain, rm, nv, ev, pv] 153 (0, 0))) (hE : EvsAt w ev E) (hn : E.length ≤ 1000000) (ht : 0 ≤ time ∧ time ≤ 1000000000000) (hr : 0 ≤ retain ∧ retain ≤ 1000000000) :
    Calls Tryz.prog 131 #[.pointer (some ⟨wtb, 0, none⟩), .int .i64 time] w fun e w' => e = .returned (.int .i64 (oldF (time - retain) E)) ∧ Below w.heap.size w w' := by
  have hlt := heap_lt hw
  have hc0 : w.cell? ⟨wtb, 0, none⟩ = some (.int .i64 retain) := cell_at hw rfl
  have hc3 : w.cell? ⟨wtb, 3, none⟩ = some ev := cell_at hw rfl
  generalize hres : oldF (time - retain) E = res
  obtain ⟨ea, cap, rfl, hcap, hcm, hea⟩ := hE.form
  generalize hlen : E.length = n at *
  go_enter Tryz.func131, Tryz.ntmps131
  go_wp2_with fail
  go_loopw [12] (fun iv wr => ∃ i : Nat, iv = .int .i64 i ∧ i ≤ n ∧ Below w.heap.size w wr ∧ Hid (i + oldF (time - retain) (E.drop i) = res)) (fun iv _ => n - (intOf iv).toNat)
  case atStart => exact ⟨0, rfl, Nat.zero_le _, Below.refl _ _, show _ = _ by simpa using hres⟩
  case round =>
    clear hres
    obtain ⟨i, rfl, hin, hbw, hR⟩ := hrel
    have hd0 : wr.cell? ⟨wtb, 0, none⟩ = some (.int .i64 retain) := by rw [hbw.cell (p := ⟨wtb, 0, none⟩) hlt]; exact hc0
    have hd3 : wr.cell? ⟨wtb, 3, none⟩ = some (.slice ea n cap) := by rw [hbw.cell (p := ⟨wtb, 3, none⟩) hlt]; exact hc3
    by_cases hi : i < n
    · have hie : i < E.length := by omega
      have hget : E[i]? = some E[i] := List.getElem?_eq_getElem hie
      obtain ⟨g, rfl, hg⟩ := hea (by intro h; rw [h] at hie; simp at hie)
      have hE' : EvsAt w (.slice (some ⟨g, 0, none⟩) E.length cap) E := by rw [hlen]; exact hE
      have hR2 := oldF_at (time - retain) E i _ hget
      generalize E[i] = x at *
      have q0 : wr.cell? ⟨g, i * 4, none⟩ = some (.int .i64 x.number) := by rw [hbw.cell (p := ⟨g, i * 4, none⟩) hg]; exact hE'.cell (k := 0) hget rfl
      have q1 : wr.cell? ⟨g, i * 4 + 1, none⟩ = some (.int .i64 x.time) := by rw [hbw.cell (p := ⟨g, i * 4 + 1, none⟩) hg]; exact hE'.cell (k := 1) hget rfl
      have q2 : wr.cell? ⟨g, i * 4 + 2, none⟩ = some (.slice x.ao x.al x.ac) := by rw [hbw.cell (p := ⟨g, i * 4 + 2, none⟩) hg]; exact hE'.cell (k := 2) hget rfl
      have q3 : wr.cell? ⟨g, i * 4 + 3, none⟩ = some (.slice x.so x.sl x.sc) := by rw [hbw.cell (p := ⟨g, i * 4 + 3, none⟩) hg]; exact hE'.cell (k := 3) hget rfl
      have HR2 : Hid (res = i + if x.time ≥ time - retain then 0 else oldF (time - retain) (E.drop (i + 1)) + 1) := by rw [← hR2]; exact hR.out.symm
      clear hR2 hR hE hE' hget
      go_wp2_with fail
      have hb2 : Below w.heap.size w (wr.alloc (.cells #[.int .i64 x.number, .int .i64 x.time, .slice x.ao x.al x.ac, .slice x.so x.sl x.sc] 159)) := hbw.al _
      have z0 : (wr.alloc (.cells #[.int .i64 x.number, .int .i64 x.time, .slice x.ao x.al x.ac, .slice x.so x.sl x.sc] 159)).cell? ⟨wtb, 0, none⟩ = some (.int .i64 retain) := by rw [hb2.cell (p := ⟨wtb, 0, none⟩) hlt]; exact hc0
      have z1 : (wr.alloc (.cells #[.int .i64 x.number, .int .i64 x.time, .slice x.ao x.al x.ac, .slice x.so x.sl x.sc] 159)).cell? ⟨wr.heap.size, 1, none⟩ = some (.int .i64 x.time) := cell_at (heap_new _ _ _ rfl) rfl
      generalize (wr.alloc (.cells #[.int .i64 x.number, .int .i64 x.time, .slice x.ao x.al x.ac, .slice x.so x.sl x.sc] 159)) = w2 at hb2 z0 z1 ⊢
      go_region
      by_cases hx : x.time ≥ time - retain
      · go_wp2_with fail
        go_ret
        exact ⟨by rw [HR2.out, if_pos hx]; rfl, by first | exact hb2 | exact hb2.drew⟩
      · go_wp2_with fail
        go_roundw
        case rel => exact ⟨i + 1, by go_num, by omega, by first | exact hb2 | exact hb2.drew, show _ = _ by rw [HR2.out, if_neg hx]; omega⟩
        case measure => simp only [intOf]; omega
    · obtain rfl : i = n := by omega
      have HR3 : Hid (res = i) := by show _ = _; rw [← hR.out, List.drop_of_length_le (by omega)]; rfl
      clear hR
      go_wp2_with fail
      go_ret
      exact ⟨by rw [HR3.out]; rfl, hbw⟩
theorem isFull_any (stb : Nat) (o : Option Addr) (n cap : Nat) (w : World) (h : w.heap[stb]? = some (.cells #[.slice o n cap] 177 (0, 0))) :
    Calls Tryz.prog 127 #[.pointer (some ⟨stb, 0, none⟩)] w fun e w' => e = .returned (.bool (decide ((n : Int) ≥ 30))) ∧ w' = w := by
  have hc : w.cell? ⟨stb, 0, none⟩ = some (.slice o n cap) := cell_at h rfl
  go_enter Tryz.func127, Tryz.ntmps127
  go_wp2_with fail
  go_ret
  exact ⟨rfl, rfl⟩
theorem checkTime_ok (wtb : Nat) (rt rm nv ev pv : Value) (E : List EvC) (time : Int) (w : World) (hw : w.heap[wtb]? = some (.cells #[rt, rm, nv, ev, pv] 153 (0, 0))) (hE : EvsAt w ev E) (hn : E.length ≤ 1000000) (ht : 0 ≤ time ∧ time ≤ 1000000000000) (hl : ∀ e, E.getLast? = some e → e.time < time) :
    Calls Tryz.prog 125 #[.pointer (some ⟨wtb, 0, none⟩), .int .i64 time] w fun e w' => e = .returned .nilIface ∧ w' = w := by
  have hlt := heap_lt hw
  have hc3 : w.cell? ⟨wtb, 3, none⟩ = some ev := cell_at hw rfl
  rcases hE.cases with ⟨rfl, rfl⟩ | ⟨g, cap, rfl, hcap, hcm, hg⟩
  · go_enter Tryz.func125, Tryz.ntmps125
    go_wp2_with fail
    go_ret
    exact ⟨rfl, rfl⟩
  · cases hlen : E.length with
    | zero =>
      rw [hlen] at hc3
      go_enter Tryz.func125, Tryz.ntmps125
      go_wp2_with fail
      go_ret
      exact ⟨rfl, rfl⟩
    | succ m =>
      have hget : E[m]? = some E[m] := List.getElem?_eq_getElem (by omega)
      have hlast : E[m].time < time := hl _ (by rw [List.getLast?_eq_getElem?, show E.length - 1 = m by omega]; exact hget)
      have q1 : w.cell? ⟨g, m * 4 + 1, none⟩ = some (.int .i64 E[m].time) := hE.cell (k := 1) hget rfl
      rw [hlen] at hc3 hcap
      generalize E[m].time = t1 at *
      go_enter Tryz.func125, Tryz.ntmps125
      go_wp2_with fail
      go_ret
      exact ⟨rfl, rfl⟩
theorem checkRoom_ok (wtb : Nat) (retain room : Int) (nv ev pv : Value) (E : List EvC) (time : Int) (w : World) (hw : w.heap[wtb]? = some (.cells #[.int .i64 retain, .int .i64 room, nv, ev, pv] 153 (0, 0))) (hE : EvsAt w ev E) (hn : E.length ≤ 1000000) (ht : 0 ≤ time ∧ time ≤ 1000000000000) (hr : 0 ≤ retain ∧ retain ≤ 1000000000)
    (hroom : (E.length : Int) - oldF (time - retain) E + 1 ≤ room) :
    Calls Tryz.prog 128 #[.pointer (some ⟨wtb, 0, none⟩), .int .i64 time] w fun e w' => e = .returned .nilIface ∧ Below w.heap.size w w' := by
  have hO : ∀ w', Below w.heap.size w w' → Calls Tryz.prog 131 #[.pointer (some ⟨wtb, 0, none⟩), .int .i64 time] w' fun e w'' => e = .returned (.int .i64 (oldF (time - retain) E)) ∧ Below w'.heap.size w' w'' := fun w' hb => old_any wtb retain (.int .i64 room) nv ev pv E time w' (hb.heapOf hw) (hE.below hb) hn ht hr
  have hle := oldF_le (time - retain) E
  generalize oldF (time - retain) E = k at *
  obtain ⟨ea, cap, rfl, hcap, hcm, hea⟩ := hE.form
  generalize hlen : E.length = n at *
  have hc1 : w.cell? ⟨wtb, 1, none⟩ = some (.int .i64 room) := cell_at hw rfl
  have hc3 : w.cell? ⟨wtb, 3, none⟩ = some (.slice ea n cap) := cell_at hw rfl
  have hst : ∀ w', Below w.heap.size w w' → w'.cell? ⟨wtb, 1, none⟩ = some (.int .i64 room) ∧ w'.cell? ⟨wtb, 3, none⟩ = some (.slice ea n cap) := fun w' h => ⟨cell_at (h.heapOf hw) rfl, cell_at (h.heapOf hw) rfl⟩
  have Hst : Hid (∀ w', Below w.heap.size w w' → w'.cell? ⟨wtb, 1, none⟩ = some (.int .i64 room) ∧ w'.cell? ⟨wtb, 3, none⟩ = some (.slice ea n cap)) := hst
  have HO : Hid (∀ w', Below w.heap.size w w' → Calls Tryz.prog 131 #[.pointer (some ⟨wtb, 0, none⟩), .int .i64 time] w' fun e w'' => e = .returned (.int .i64 k) ∧ Below w'.heap.size w' w'') := hO
  clear hst hO hw hE hea
  go_enter Tryz.func128, Tryz.ntmps128
  go_wp2_with fail
  go_region_held (fun w' => w'.cell? ⟨wtb, 1, none⟩ = some (.int .i64 room) ∧ w'.cell? ⟨wtb, 3, none⟩ = some (.slice ea n cap))
    ((refine Hst.out _ ?_; first | exact (Below.refl _ _).drew | exact (Below.refl w.heap.size w).drew.trans hb1))
    ((go_at_call 131; refine (HO.out _ ?_).mono ?_; exact (Below.refl _ _).drew; rintro e w1 ⟨rfl, hb1⟩))
  all_goals (obtain ⟨z1, z3⟩ := Hst.out w1 ((Below.refl w.heap.size w).drew.trans hb1))
  all_goals go_wp2_with fail
  all_goals go_ret
  all_goals exact ⟨rfl, (Below.refl w.heap.size w).drew.trans hb1⟩
end Go.Proofs.YtpbbmagjhkakgaaGreatDoor.Ev
namespace Go.Proofs.YtpbbmagjhkakgaaGreatDoor
open Go.RowKit
set_option maxHeartbeats 400000 in
theorem joins_any (s : Int) (w : World) :
    Calls Tryz.prog 153 #[.int .i32 s] w fun e w' => e = .returned (.bool (joinsB s)) ∧ w' = w := by
  go_enter Tryz.func153, Tryz.ntmps153
  go_wp2
  all_goals go_ret
  all_goals exact ⟨by simp_all [joinsB], rfl⟩
set_option maxHeartbeats 400000 in
theorem hasWindow_any (s : Int) (w : World) :
    Calls Tryz.prog 165 #[.int .i32 s] w fun e w' => e = .returned (.bool (winB s)) ∧ w' = w := by
  go_enter Tryz.func165, Tryz.ntmps165
  go_wp2
  all_goals go_ret
  all_goals exact ⟨by simp_all [winB], rfl⟩
set_option maxHeartbeats 1000000 in
theorem signOf_any (r : Int) (w : World) :
    Calls Tryz.prog 151 #[.int .i32 r] w fun e w' => e = .returned (.int .i32 (signF r)) ∧ w' = w := by
  go_enter Tryz.func151, Tryz.ntmps151
  go_wp2
  all_goals go_ret
  all_goals refine ⟨ret_int ?_, rfl⟩
  all_goals (try simp_all [signF])
  all_goals ((repeat' split) <;> intros <;> omega)
end Go.Proofs.YtpbbmagjhkakgaaGreatDoor
namespace Go.Proofs
open Go.Shelf
def Tryz.lays213_ren : Go.Shelf.Ren := ⟨fun | 213 => 176 | 265 => 197 | n => n, fun | 9 => 9 | 3 => 3 | n => n, fun | n => n⟩
def Tryz.lays106_ren : Go.Shelf.Ren := ⟨fun | 106 => 141 | 213 => 176 | 265 => 197 | n => n, fun | 9 => 9 | 3 => 3 | n => n, fun | n => n⟩
theorem Tryz.lays106 : Go.Proofs.Lays.n106 Tryz.prog Tryz.lays106_ren := {
  mixed := by kernel_rfl
  f106 := Tryz.func141.trans (congrArg some (by kernel_rfl))
  f213 := Tryz.func176.trans (congrArg some (by kernel_rfl))
  f265 := Tryz.func197.trans (congrArg some (by kernel_rfl))
  t3 := Tryz.underlying3
  a3 := Tryz.isAgg3
  z3 := Tryz.sizeOf3
  v3 := Tryz.zeroValue3
  t9 := Tryz.underlying9
  a9 := Tryz.isAgg9
  z9 := Tryz.sizeOf9
  v9 := Tryz.zeroValue9 }
open Go.RowKit in
theorem Tryz.strings_Compare (a b : ByteArray) (w : World) :
    Calls Tryz.prog 141 #[.string a, .string b] w fun e w' => e = .returned (.int .i64 (Lib.compareBytes a.data.toList b.data.toList)) ∧ w' = w := Any.strings_Compare Tryz.lays106 a b w
def Tryz.lays172_ren : Go.Shelf.Ren := ⟨fun | 172 => 210 | 244 => 216 | 245 => 217 | 247 => 223 | 279 => 224 | 280 => 225 | 281 => 226 | 282 => 227 | 287 => 230 | 316 => 172 | 171 => 166 | 205 => 231 | 321 => 232 | 322 => 233 | 243 => 191 | 246 => 206 | 283 => 211 | 284 => 212 | 285 => 213 | 286 => 214 | 129 => 219 | 317 => 218 | 318 => 220 | 319 => 221 | 320 => 222 | 337 => 228 | 338 => 229 | n => n, fun | 9 => 9 | 3 => 3 | 75 => 89 | 76 => 167 | 4 => 4 | 5 => 5 | 167 => 343 | 37 => 99 | 0 => 0 | 85 => 344 | 2 => 2 | 168 => 346 | 53 => 332 | 175 => 350 | 46 => 200 | 210 => 353 | 127 => 224 | 145 => 359 | 143 => 357 | 21 => 21 | 171 => 331 | 173 => 335 | 212 => 340 | 51 => 325 | 20 => 20 | 213 => 341 | 232 => 354 | 233 => 355 | 80 => 93 | n => n, fun | 15 => 10 | 16 => 11 | 17 => 9 | 18 => 12 | 19 => 13 | n => n⟩
def Tryz.laysM316_ren : Go.Shelf.Ren := ⟨fun | 316 => 172 | n => n, fun | 9 => 9 | 3 => 3 | 4 => 4 | 37 => 99 | 0 => 0 | 127 => 224 | 5 => 5 | n => n, fun | n => n⟩
theorem Tryz.laysM316 : Go.Proofs.LaysM.n316 Tryz.prog Tryz.laysM316_ren := {
  mixed := by kernel_rfl
  f316 := Tryz.func172.trans (congrArg some (by kernel_rfl))
  t0 := Tryz.underlying0
  a0 := Tryz.isAgg0
  z0 := Tryz.sizeOf0
  v0 := Tryz.zeroValue0
  t3 := Tryz.underlying3
  a3 := Tryz.isAgg3
  z3 := Tryz.sizeOf3
  v3 := Tryz.zeroValue3
  t4 := Tryz.underlying4
  a4 := Tryz.isAgg4
  z4 := Tryz.sizeOf4
  v4 := Tryz.zeroValue4
  t9 := Tryz.underlying9
  a9 := Tryz.isAgg9
  z9 := Tryz.sizeOf9
  v9 := Tryz.zeroValue9
  t37 := Tryz.underlying99
  a37 := Tryz.isAgg99
  z37 := Tryz.sizeOf99
  v37 := Tryz.zeroValue99
  t127 := Tryz.underlying224
  a127 := Tryz.isAgg224
  z127 := Tryz.sizeOf224
  v127 := Tryz.zeroValue224
  t5 := Tryz.underlying5
  a5 := Tryz.isAgg5
  z5 := Tryz.sizeOf5
  v5 := Tryz.zeroValue5
  i0 := by kernel_rfl
  i3 := by kernel_rfl
  i4 := by kernel_rfl
  i5 := by kernel_rfl
  i9 := by kernel_rfl
  i37 := by kernel_rfl
  i127 := by kernel_rfl }
open Go.RowKit in
theorem Tryz.stringslite_Clone (s : ByteArray) (w : World) (hlim : s.size ≤ 281474976710656) :
    Calls Tryz.prog 172 #[.string s] w fun e w' => e = .returned (.string s) ∧ Below w.heap.size w w' := Any.stringslite_Clone Tryz.laysM316 s w hlim
def Tryz.laysC172_ren : Go.Shelf.Ren := ⟨fun | 172 => 210 | 244 => 216 | 245 => 217 | 247 => 223 | 279 => 224 | 280 => 225 | 281 => 226 | 282 => 227 | 287 => 230 | 316 => 172 | 171 => 166 | 205 => 231 | 321 => 232 | 322 => 233 | 243 => 191 | 246 => 206 | 283 => 211 | 284 => 212 | 285 => 213 | 286 => 214 | 129 => 219 | 317 => 218 | 318 => 220 | 319 => 221 | 320 => 222 | 337 => 228 | 338 => 229 | n => n, fun | 9 => 9 | 3 => 3 | 75 => 89 | 76 => 167 | 4 => 4 | 5 => 5 | 167 => 343 | 37 => 99 | 0 => 0 | 85 => 344 | 2 => 2 | 168 => 346 | 53 => 332 | 175 => 350 | 46 => 200 | 210 => 353 | 127 => 224 | 145 => 359 | 143 => 357 | 21 => 21 | 171 => 331 | 173 => 335 | 212 => 340 | 51 => 325 | 20 => 20 | 213 => 341 | 232 => 354 | 233 => 355 | 80 => 93 | n => n, fun | 15 => 10 | 16 => 11 | 17 => 9 | 18 => 12 | 19 => 13 | n => n⟩
theorem Tryz.laysC172 : Go.Proofs.LaysC.n172 Tryz.prog Tryz.laysC172_ren := {
  mixed := by kernel_rfl
  f129 := Tryz.func219.trans (congrArg some (by kernel_rfl))
  f171 := Tryz.func166.trans (congrArg some (by kernel_rfl))
  f172 := Tryz.func210.trans (congrArg some (by kernel_rfl))
  f205 := Tryz.func231.trans (congrArg some (by kernel_rfl))
  f243 := Tryz.func191.trans (congrArg some (by kernel_rfl))
  f244 := Tryz.func216.trans (congrArg some (by kernel_rfl))
  f245 := Tryz.func217.trans (congrArg some (by kernel_rfl))
  f246 := Tryz.func206.trans (congrArg some (by kernel_rfl))
  f247 := Tryz.func223.trans (congrArg some (by kernel_rfl))
  f279 := Tryz.func224.trans (congrArg some (by kernel_rfl))
  f280 := Tryz.func225.trans (congrArg some (by kernel_rfl))
  f281 := Tryz.func226.trans (congrArg some (by kernel_rfl))
  f282 := Tryz.func227.trans (congrArg some (by kernel_rfl))
  f283 := Tryz.func211.trans (congrArg some (by kernel_rfl))
  f284 := Tryz.func212.trans (congrArg some (by kernel_rfl))
  f285 := Tryz.func213.trans (congrArg some (by kernel_rfl))
  f286 := Tryz.func214.trans (congrArg some (by kernel_rfl))
  f287 := Tryz.func230.trans (congrArg some (by kernel_rfl))
  f316 := Tryz.func172.trans (congrArg some (by kernel_rfl))
  f317 := Tryz.func218.trans (congrArg some (by kernel_rfl))
  f318 := Tryz.func220.trans (congrArg some (by kernel_rfl))
  f319 := Tryz.func221.trans (congrArg some (by kernel_rfl))
  f320 := Tryz.func222.trans (congrArg some (by kernel_rfl))
  f321 := Tryz.func232.trans (congrArg some (by kernel_rfl))
  f322 := Tryz.func233.trans (congrArg some (by kernel_rfl))
  f337 := Tryz.func228.trans (congrArg some (by kernel_rfl))
  f338 := Tryz.func229.trans (congrArg some (by kernel_rfl))
  t0 := Tryz.underlying0
  a0 := Tryz.isAgg0
  z0 := Tryz.sizeOf0
  v0 := Tryz.zeroValue0
  t2 := Tryz.underlying2
  a2 := Tryz.isAgg2
  z2 := Tryz.sizeOf2
  v2 := Tryz.zeroValue2
  t3 := Tryz.underlying3
  a3 := Tryz.isAgg3
  z3 := Tryz.sizeOf3
  v3 := Tryz.zeroValue3
  t4 := Tryz.underlying4
  a4 := Tryz.isAgg4
  z4 := Tryz.sizeOf4
  v4 := Tryz.zeroValue4
  t5 := Tryz.underlying5
  a5 := Tryz.isAgg5
  z5 := Tryz.sizeOf5
  v5 := Tryz.zeroValue5
  t9 := Tryz.underlying9
  a9 := Tryz.isAgg9
  z9 := Tryz.sizeOf9
  v9 := Tryz.zeroValue9
  t20 := Tryz.underlying20
  a20 := Tryz.isAgg20
  z20 := Tryz.sizeOf20
  v20 := Tryz.zeroValue20
  t21 := Tryz.underlying21
  a21 := Tryz.isAgg21
  z21 := Tryz.sizeOf21
  v21 := Tryz.zeroValue21
  t37 := Tryz.underlying99
  a37 := Tryz.isAgg99
  z37 := Tryz.sizeOf99
  v37 := Tryz.zeroValue99
  t46 := Tryz.underlying200
  a46 := Tryz.isAgg200
  z46 := Tryz.sizeOf200
  v46 := Tryz.zeroValue200
  t51 := Tryz.underlying325
  a51 := Tryz.isAgg325
  z51 := Tryz.sizeOf325
  v51 := Tryz.zeroValue325
  t53 := Tryz.underlying332
  a53 := Tryz.isAgg332
  z53 := Tryz.sizeOf332
  v53 := Tryz.zeroValue332
  t75 := Tryz.underlying89
  a75 := Tryz.isAgg89
  z75 := Tryz.sizeOf89
  v75 := Tryz.zeroValue89
  t76 := Tryz.underlying167
  a76 := Tryz.isAgg167
  z76 := Tryz.sizeOf167
  v76 := Tryz.zeroValue167
  t85 := Tryz.underlying344
  a85 := Tryz.isAgg344
  z85 := Tryz.sizeOf344
  v85 := Tryz.zeroValue344
  t127 := Tryz.underlying224
  a127 := Tryz.isAgg224
  z127 := Tryz.sizeOf224
  v127 := Tryz.zeroValue224
  t143 := Tryz.underlying357
  a143 := Tryz.isAgg357
  z143 := Tryz.sizeOf357
  v143 := Tryz.zeroValue357
  t145 := Tryz.underlying359
  a145 := Tryz.isAgg359
  z145 := Tryz.sizeOf359
  v145 := Tryz.zeroValue359
  t167 := Tryz.underlying343
  a167 := Tryz.isAgg343
  z167 := Tryz.sizeOf343
  v167 := Tryz.zeroValue343
  t168 := Tryz.underlying346
  a168 := Tryz.isAgg346
  z168 := Tryz.sizeOf346
  v168 := Tryz.zeroValue346
  t171 := Tryz.underlying331
  a171 := Tryz.isAgg331
  z171 := Tryz.sizeOf331
  v171 := Tryz.zeroValue331
  t173 := Tryz.underlying335
  a173 := Tryz.isAgg335
  z173 := Tryz.sizeOf335
  v173 := Tryz.zeroValue335
  t175 := Tryz.underlying350
  a175 := Tryz.isAgg350
  z175 := Tryz.sizeOf350
  v175 := Tryz.zeroValue350
  t210 := Tryz.underlying353
  a210 := Tryz.isAgg353
  z210 := Tryz.sizeOf353
  v210 := Tryz.zeroValue353
  t212 := Tryz.underlying340
  a212 := Tryz.isAgg340
  z212 := Tryz.sizeOf340
  v212 := Tryz.zeroValue340
  t213 := Tryz.underlying341
  a213 := Tryz.isAgg341
  z213 := Tryz.sizeOf341
  t232 := Tryz.underlying354
  a232 := Tryz.isAgg354
  z232 := Tryz.sizeOf354
  v232 := Tryz.zeroValue354
  t233 := Tryz.underlying355
  a233 := Tryz.isAgg355
  z233 := Tryz.sizeOf355
  v233 := Tryz.zeroValue355
  g15 := by kernel_rfl
  g16 := by kernel_rfl
  g17 := by kernel_rfl
  g18 := by kernel_rfl
  g19 := by kernel_rfl
  t80 := Tryz.underlying93
  a80 := Tryz.isAgg93
  z80 := Tryz.sizeOf93
  v80 := Tryz.zeroValue93
  i0 := by kernel_rfl
  i2 := by kernel_rfl
  i3 := by kernel_rfl
  i4 := by kernel_rfl
  i5 := by kernel_rfl
  i9 := by kernel_rfl
  i20 := by kernel_rfl
  i21 := by kernel_rfl
  i37 := by kernel_rfl
  i46 := by kernel_rfl
  i51 := by kernel_rfl
  i53 := by kernel_rfl
  i75 := by kernel_rfl
  i76 := by kernel_rfl
  i80 := by kernel_rfl
  i85 := by kernel_rfl
  i127 := by kernel_rfl
  i143 := by kernel_rfl
  i145 := by kernel_rfl
  i167 := by kernel_rfl
  i168 := by kernel_rfl
  i171 := by kernel_rfl
  i173 := by kernel_rfl
  i175 := by kernel_rfl
  i210 := by kernel_rfl
  i212 := by kernel_rfl
  i232 := by kernel_rfl
  i233 := by kernel_rfl
  m15 := by kernel_rfl
  m16 := by kernel_rfl
  m17 := by kernel_rfl
  m18 := by kernel_rfl
  m19 := by kernel_rfl
  c0 := by kernel_rfl
  c2 := by kernel_rfl
  c3 := by kernel_rfl
  c4 := by kernel_rfl
  c5 := by kernel_rfl
  c9 := by kernel_rfl
  c20 := by kernel_rfl
  c21 := by kernel_rfl
  c37 := by kernel_rfl
  c46 := by kernel_rfl
  c51 := by kernel_rfl
  c53 := by kernel_rfl
  c75 := by kernel_rfl
  c76 := by kernel_rfl
  c80 := by kernel_rfl
  c85 := by kernel_rfl
  c127 := by kernel_rfl
  c143 := by kernel_rfl
  c145 := by kernel_rfl
  c167 := by kernel_rfl
  c168 := by kernel_rfl
  c171 := by kernel_rfl
  c173 := by kernel_rfl
  c175 := by kernel_rfl
  c210 := by kernel_rfl
  c212 := by kernel_rfl
  c213 := by kernel_rfl
  c232 := by kernel_rfl
  c233 := by kernel_rfl }
open Go.RowKit in
theorem Tryz.strconv_Atoi_ok (s : ByteArray) (hmax : s.size ≤ 9223372036854775806) (v : Int) (h : Lib.atoiAll s.data.toList = .ok v) (w : World) :
    Calls Tryz.prog 210 #[.string s] w fun e w' => e = .returned (.tuple #[.int .i64 v, .nilIface]) ∧ (w' = w ∨ ∃ t, w' = Lib.bytesWorld w 5 t) := Any.strconv_Atoi_ok Tryz.laysC172 s hmax v h w
open Go.RowKit in
theorem Tryz.strconv_Atoi_syntax (s : ByteArray) (hlim : s.size ≤ 281474976710656) (h : Lib.atoiAll s.data.toList = .«syntax») (ev : Value) (w : World) (hv : w.cell? ⟨10, 0, none⟩ = some ev) (hev : ev = .nilIface ∨ ∃ te pe, ev = .iface te pe) :
    Calls Tryz.prog 210 #[.string s] w fun e w' => ∃ N, e = .returned (.tuple #[.int .i64 (0), .iface 346 (.pointer (some ⟨N, 0, none⟩))]) ∧ w.heap.size ≤ N ∧ w'.heap[N]? = some (.cells #[.string ⟨#[65, 116, 111, 105]⟩, .string s, ev] 353 (0, 0)) ∧ Below w.heap.size w w' := Any.strconv_Atoi_syntax Tryz.laysC172 s hlim h ev w hv hev
open Go.RowKit in
theorem Tryz.strconv_Atoi_range (s : ByteArray) (hlim : s.size ≤ 281474976710656) (h : Lib.atoiAll s.data.toList = .range) (ev : Value) (w : World) (hv : w.cell? ⟨11, 0, none⟩ = some ev) (hev : ev = .nilIface ∨ ∃ te pe, ev = .iface te pe) :
    Calls Tryz.prog 210 #[.string s] w fun e w' => ∃ N, e = .returned (.tuple #[.int .i64 (Lib.atoiSat s.data.toList), .iface 346 (.pointer (some ⟨N, 0, none⟩))]) ∧ w.heap.size ≤ N ∧ w'.heap[N]? = some (.cells #[.string ⟨#[65, 116, 111, 105]⟩, .string s, ev] 353 (0, 0)) ∧ Below w.heap.size w w' := Any.strconv_Atoi_range Tryz.laysC172 s hlim h ev w hv hev
def Tryz.lays206_ren : Go.Shelf.Ren := ⟨fun | 206 => 203 | n => n, fun | 9 => 9 | 4 => 4 | 3 => 3 | n => n, fun | n => n⟩
def Tryz.lays99_ren : Go.Shelf.Ren := ⟨fun | 99 => 185 | 206 => 203 | n => n, fun | 9 => 9 | 4 => 4 | 3 => 3 | n => n, fun | n => n⟩
theorem Tryz.lays99 : Go.Proofs.Lays.n99 Tryz.prog Tryz.lays99_ren := {
  mixed := by kernel_rfl
  f99 := Tryz.func185.trans (congrArg some (by kernel_rfl))
  f206 := Tryz.func203.trans (congrArg some (by kernel_rfl))
  t3 := Tryz.underlying3
  a3 := Tryz.isAgg3
  z3 := Tryz.sizeOf3
  v3 := Tryz.zeroValue3
  t4 := Tryz.underlying4
  a4 := Tryz.isAgg4
  z4 := Tryz.sizeOf4
  v4 := Tryz.zeroValue4
  t9 := Tryz.underlying9
  a9 := Tryz.isAgg9
  z9 := Tryz.sizeOf9
  v9 := Tryz.zeroValue9 }
open Go.RowKit Go.Lib in
theorem Tryz.strings_HasPrefix (s p : ByteArray) (w : World) :
    Calls Tryz.prog 185 #[.string s, .string p] w fun e w' => e = .returned (.bool (Lib.hasPrefix s.data.toList p.data.toList)) ∧ w' = w := Any.strings_HasPrefix Tryz.lays99 s p w
def Tryz.lays110_ren : Go.Shelf.Ren := ⟨fun | 110 => 168 | 109 => 192 | n => n, fun | 31 => 31 | 9 => 9 | 4 => 4 | 3 => 3 | 0 => 0 | n => n, fun | n => n⟩
theorem Tryz.lays110 : Go.Proofs.Lays.n110 Tryz.prog Tryz.lays110_ren := {
  mixed := by kernel_rfl
  f109 := Tryz.func192.trans (congrArg some (by kernel_rfl))
  f110 := Tryz.func168.trans (congrArg some (by kernel_rfl))
  t0 := Tryz.underlying0
  a0 := Tryz.isAgg0
  z0 := Tryz.sizeOf0
  v0 := Tryz.zeroValue0
  t3 := Tryz.underlying3
  a3 := Tryz.isAgg3
  z3 := Tryz.sizeOf3
  v3 := Tryz.zeroValue3
  t4 := Tryz.underlying4
  a4 := Tryz.isAgg4
  z4 := Tryz.sizeOf4
  v4 := Tryz.zeroValue4
  t9 := Tryz.underlying9
  a9 := Tryz.isAgg9
  z9 := Tryz.sizeOf9
  v9 := Tryz.zeroValue9
  t31 := Tryz.underlying31
  a31 := Tryz.isAgg31
  z31 := Tryz.sizeOf31
  v31 := Tryz.zeroValue31 }
open Go.Lib in
theorem Tryz.slices_Contains_string (b off n c : Nat) (zs : List ByteArray) (x : ByteArray) (w : World) (hz : n ≤ zs.length) (hbig : n ≤ 9223372036854775807) (hc : ∀ j, j < zs.length → w.cell? ⟨b, off + j, none⟩ = some (.string (zs.getD j ByteArray.empty))) :
    Calls Tryz.prog 168 #[.slice (some ⟨b, off, none⟩) n c, .string x] w fun e w' => e = .returned (.bool (Lib.containsS (zs.take n) x)) ∧ w' = w := Any.slices_Contains_string Tryz.lays110 b off n c zs x w hz hbig hc
open Go.Lib in
theorem Tryz.slices_Contains_string_empty (a : Option Addr) (c : Nat) (x : ByteArray) (w : World) :
    Calls Tryz.prog 168 #[.slice a 0 c, .string x] w fun e w' => e = .returned (.bool false) ∧ w' = w := Any.slices_Contains_string_empty Tryz.lays110 a c x w
end Go.Proofs
