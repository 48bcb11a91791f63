/-
  What Seen does: the pieces of its loop over the events, beside the look back.
-/
/-
  What Seen does: its loop over the events, and what it answers behind it.
-/
/-
  The walk beside goroutines that are only leaving, an operation at a time, over what is known of the temporaries; a call of watched and what is done with its answers.
-/
import Derived.Test.YtpbbmagjhkakgaaGreatDoorSnSeen0ToSnSeen2
import Derived.Test.YtpbbmagjhkakgaaGreatDoorSnRoundToSnSem
namespace Go.Proofs.YtpbbmagjhkakgaaGreatDoor.Ev
open Go.RowKit Go.Deep Go.Maps Go.Proofs.YtpbbmagjhkakgaaGreatDoor.Lf Go.Conc
def ActR (eo : Option Addr) (ln cap : Nat) (a b : Int) (s1 s2 s3 s4 : ByteArray) (v1 v2 : Value) (now i : Int) (A : Act) : Prop := A.defers = [] ∧ A.tmps.size = 276 ∧ A.tmps[0]? = some (.slice eo ln cap) ∧ A.tmps[1]? = some (.int .i64 a) ∧ A.tmps[2]? = some (.int .i64 b) ∧ A.tmps[9]? = some (.string s1) ∧ A.tmps[11]? = some (.string s2) ∧ A.tmps[13]? = some (.string s3) ∧ A.tmps[15]? = some (.string s4) ∧ A.tmps[17]? = some v1 ∧ A.tmps[18]? = some v2 ∧ A.tmps[19]? = some (.int .i64 now) ∧ A.tmps[20]? = some (.int .i64 i)
def StR (L : List (Int × Int)) (eo : Option Addr) (cap : Nat) (a b : Int) (s1 s2 s3 s4 : ByteArray) (w0 : World) (now : Int) (i n1 n2 : Nat) (A : Act) (w : World) : Prop := ∃ v1 v2, ActR eo L.length cap a b s1 s2 s3 s4 v1 v2 now i A ∧ w.ownsRow w0.heap.size 3 1 v1 n1 (timesV L n1) ∧ w.ownsRow w0.heap.size 3 1 v2 n2 (hasV L n2) ∧ (∀ k, v1.ownBlock = some k → v2.ownBlock ≠ some k) ∧ SpareR (fun _ => False) w0 w
theorem ownsRow_re {w : World} {B : Nat} {t : TypeId} {s : Nat} {v : Value} {n : Nat} {xs : List Value} (h : w.ownsRow B t s v n xs) (τ : Tape) (d : Nat) : (re w τ d).ownsRow B t s v n xs := h
theorem StR.tapeR {L : List (Int × Int)} {eo : Option Addr} {cap : Nat} {a b : Int} {s1 s2 s3 s4 : ByteArray} {w0 : World} {now : Int} {i n1 n2 : Nat} {A : Act} {w : World} (h : StR L eo cap a b s1 s2 s3 s4 w0 now i n1 n2 A w) (τ : Tape) (d : Nat) : StR L eo cap a b s1 s2 s3 s4 w0 now i n1 n2 A (re w τ d) := by
  obtain ⟨v1, v2, h1, h2, h3, h4, h5⟩ := h
  exact ⟨v1, v2, h1, ownsRow_re h2 τ d, ownsRow_re h3 τ d, h4, h5.tapeR τ d⟩
noncomputable def loop7 : Code := match rest7 with
  | .seq _ (.seq _ (.seq _ (.seq _ (.seq (.seq _ (.block _ (.loop x))) _)))) => x
  | _ => .skip
noncomputable def head7 : Code := match loop7 with
  | .seq x _ => x
  | _ => .skip
noncomputable def next7 : Code := match loop7 with
  | .seq _ (.seq _ x) => x
  | _ => .skip
noncomputable def now7 : Code := match in7 with
  | .seq x _ => x
  | _ => .skip
noncomputable def times7 : Code := match in7 with
  | .seq _ (.seq x _) => x
  | _ => .skip
noncomputable def has7 : Code := match in7 with
  | .seq _ (.seq _ (.seq x _)) => x
  | _ => .skip
noncomputable def sets7 : List Code := match in7 with
  | .seq _ (.seq _ (.seq _ (.seq x (.seq y (.seq z (.seq u _)))))) => [x, y, z, u]
  | _ => []
noncomputable def fin7 : Code := match rest7 with
  | .seq _ (.seq _ (.seq _ (.seq _ (.seq _ x)))) => x
  | _ => .skip
noncomputable def pre7a : List Code := match rest7 with
  | .seq x (.seq y (.seq z (.seq u _))) => [x, y, z, u]
  | _ => []
noncomputable def pre7b : Code := match rest7 with
  | .seq _ (.seq _ (.seq _ (.seq _ (.seq (.seq v _) _)))) => v
  | _ => .skip
set_option maxRecDepth 100000 in
set_option maxHeartbeats 16000000 in
theorem head7_go (L : List (Int × Int)) (eo : Option Addr) (cap : Nat) (a b : Int) (s1 s2 s3 s4 : ByteArray) (w0 : World) (i : Nat) (A : Act) (w : World) (hLm : L.length ≤ 9223372036854775807) (h : StR L eo cap a b s1 s2 s3 s4 w0 (timeZ L i) i i i A w) (h1 : i < 25) (h2 : i < L.length) : head7.wp Tryz.prog (fun e A' w' => e = .normal ∧ StR L eo cap a b s1 s2 s3 s4 w0 (timeZ L i) i i i A' w') A w := by
  obtain ⟨v1, v2, hA, hI⟩ := h
  have hLm' := hLm
  clear hLm
  replace hI : Hid _ := hI
  obtain ⟨hd, hsz, h0, h1, h2, h9, h11, h13, h15, h17, h18, h19, h20⟩ := hA
  obtain ⟨u, hu, rfl⟩ := open276 hsz hd
  have k0 := hu 0 _ h0
  have k1 := hu 1 _ h1
  have k2 := hu 2 _ h2
  have k9 := hu 9 _ h9
  have k11 := hu 11 _ h11
  have k13 := hu 13 _ h13
  have k15 := hu 15 _ h15
  have k17 := hu 17 _ h17
  have k18 := hu 18 _ h18
  have k19 := hu 19 _ h19
  have k20 := hu 20 _ h20
  clear hu hd hsz h0 h1 h2 h9 h11 h13 h15 h17 h18 h19 h20
  simp only [k0, k1, k2, k9, k11, k13, k15, k17, k18, k19, k20]
  clear k0 k1 k2 k9 k11 k13 k15 k17 k18 k19 k20
  simp only [head7, loop7, rest7, body7, Tryz.f7, Option.getD_some]
  generalize hl : L.length = ln at *
  generalize hT : timeZ L i = tz at *
  have hP : ∀ A', ActR eo ln cap a b s1 s2 s3 s4 v1 v2 tz i A' → StR L eo cap a b s1 s2 s3 s4 w0 tz i i i A' w := fun A' h => ⟨v1, v2, by rw [hl]; exact h, hI.out⟩
  replace hP : Hid _ := hP
  clear hI hl hT
  generalize StR L eo cap a b s1 s2 s3 s4 w0 tz i i i = Q at *
  go_wp2_with fail
  first | exact hP.out _ ⟨rfl, rfl, rfl, rfl, rfl, rfl, rfl, rfl, rfl, rfl, rfl, rfl, rfl⟩ | exact ⟨rfl, hP.out _ ⟨rfl, rfl, rfl, rfl, rfl, rfl, rfl, rfl, rfl, rfl, rfl, rfl, rfl⟩⟩
set_option maxRecDepth 100000 in
set_option maxHeartbeats 16000000 in
theorem head7_end (L : List (Int × Int)) (eo : Option Addr) (cap : Nat) (a b : Int) (s1 s2 s3 s4 : ByteArray) (w0 : World) (i : Nat) (A : Act) (w : World) (hLm : L.length ≤ 9223372036854775807) (h : StR L eo cap a b s1 s2 s3 s4 w0 (timeZ L i) i i i A w) (h1 : i ≤ 25) (h2 : i ≤ L.length) (h3 : i = 25 ∨ i = L.length) : head7.wp Tryz.prog (fun e A' w' => e = .exit 0 ∧ StR L eo cap a b s1 s2 s3 s4 w0 (timeZ L i) i i i A' w') A w := by
  obtain ⟨v1, v2, hA, hI⟩ := h
  have hLm' := hLm
  clear hLm
  replace hI : Hid _ := hI
  obtain ⟨hd, hsz, h0, h1, h2, h9, h11, h13, h15, h17, h18, h19, h20⟩ := hA
  obtain ⟨u, hu, rfl⟩ := open276 hsz hd
  have k0 := hu 0 _ h0
  have k1 := hu 1 _ h1
  have k2 := hu 2 _ h2
  have k9 := hu 9 _ h9
  have k11 := hu 11 _ h11
  have k13 := hu 13 _ h13
  have k15 := hu 15 _ h15
  have k17 := hu 17 _ h17
  have k18 := hu 18 _ h18
  have k19 := hu 19 _ h19
  have k20 := hu 20 _ h20
  clear hu hd hsz h0 h1 h2 h9 h11 h13 h15 h17 h18 h19 h20
  simp only [k0, k1, k2, k9, k11, k13, k15, k17, k18, k19, k20]
  clear k0 k1 k2 k9 k11 k13 k15 k17 k18 k19 k20
  simp only [head7, loop7, rest7, body7, Tryz.f7, Option.getD_some]
  generalize hl : L.length = ln at *
  generalize hT : timeZ L i = tz at *
  have hP : ∀ A', ActR eo ln cap a b s1 s2 s3 s4 v1 v2 tz i A' → StR L eo cap a b s1 s2 s3 s4 w0 tz i i i A' w := fun A' h => ⟨v1, v2, by rw [hl]; exact h, hI.out⟩
  replace hP : Hid _ := hP
  clear hI hl hT
  generalize hQ : StR L eo cap a b s1 s2 s3 s4 w0 tz i i i = Q at *
  clear hQ
  by_cases hlt : i < ln
  · obtain rfl : i = 25 := by omega
    go_wp2_with fail
    first | exact hP.out _ ⟨rfl, rfl, rfl, rfl, rfl, rfl, rfl, rfl, rfl, rfl, rfl, rfl, rfl⟩ | exact ⟨rfl, hP.out _ ⟨rfl, rfl, rfl, rfl, rfl, rfl, rfl, rfl, rfl, rfl, rfl, rfl, rfl⟩⟩
  · obtain rfl : i = ln := by omega
    go_wp2_with fail
    first | exact hP.out _ ⟨rfl, rfl, rfl, rfl, rfl, rfl, rfl, rfl, rfl, rfl, rfl, rfl, rfl⟩ | exact ⟨rfl, hP.out _ ⟨rfl, rfl, rfl, rfl, rfl, rfl, rfl, rfl, rfl, rfl, rfl, rfl, rfl⟩⟩
set_option maxRecDepth 100000 in
set_option maxHeartbeats 16000000 in
theorem next7_go (L : List (Int × Int)) (eo : Option Addr) (cap : Nat) (a b : Int) (s1 s2 s3 s4 : ByteArray) (w0 : World) (now : Int) (i n1 n2 : Nat) (A : Act) (w : World) (h1 : i < 25) (h : StR L eo cap a b s1 s2 s3 s4 w0 now i n1 n2 A w) : next7.wp Tryz.prog (fun e A' w' => e = .normal ∧ StR L eo cap a b s1 s2 s3 s4 w0 now (i + 1) n1 n2 A' w') A w := by
  obtain ⟨v1, v2, hA, hI⟩ := h
  replace hI : Hid _ := hI
  obtain ⟨hd, hsz, h0, h1, h2, h9, h11, h13, h15, h17, h18, h19, h20⟩ := hA
  obtain ⟨u, hu, rfl⟩ := open276 hsz hd
  have k0 := hu 0 _ h0
  have k1 := hu 1 _ h1
  have k2 := hu 2 _ h2
  have k9 := hu 9 _ h9
  have k11 := hu 11 _ h11
  have k13 := hu 13 _ h13
  have k15 := hu 15 _ h15
  have k17 := hu 17 _ h17
  have k18 := hu 18 _ h18
  have k19 := hu 19 _ h19
  have k20 := hu 20 _ h20
  clear hu hd hsz h0 h1 h2 h9 h11 h13 h15 h17 h18 h19 h20
  simp only [k0, k1, k2, k9, k11, k13, k15, k17, k18, k19, k20]
  clear k0 k1 k2 k9 k11 k13 k15 k17 k18 k19 k20
  simp only [next7, loop7, rest7, body7, Tryz.f7, Option.getD_some]
  generalize hl : L.length = ln at *
  have hP : ∀ A', ActR eo ln cap a b s1 s2 s3 s4 v1 v2 now ((i : Int) + 1) A' → StR L eo cap a b s1 s2 s3 s4 w0 now (i + 1) n1 n2 A' w := fun A' h => ⟨v1, v2, by rw [hl]; exact h, hI.out⟩
  replace hP : Hid _ := hP
  clear hI hl
  generalize StR L eo cap a b s1 s2 s3 s4 w0 now (i + 1) n1 n2 = Q at *
  go_wp2_with fail
  first | exact hP.out _ ⟨rfl, rfl, rfl, rfl, rfl, rfl, rfl, rfl, rfl, rfl, rfl, rfl, rfl⟩ | exact ⟨rfl, hP.out _ ⟨rfl, rfl, rfl, rfl, rfl, rfl, rfl, rfl, rfl, rfl, rfl, rfl, rfl⟩⟩
set_option maxRecDepth 100000 in
set_option maxHeartbeats 16000000 in
theorem now7_go (L : List (Int × Int)) (eo : Option Addr) (cap : Nat) (a b : Int) (s1 s2 s3 s4 : ByteArray) (w0 : World) (i : Nat) (A : Act) (w : World) (hLm : L.length ≤ 9223372036854775807) (hL : ∀ p ∈ L, I64 p.1 ∧ I64 p.2) (hC : ComesAt w0 eo L) (h1 : i < 25) (h2 : i < L.length) (h : StR L eo cap a b s1 s2 s3 s4 w0 (timeZ L i) i i i A w) : now7.wp Tryz.prog (fun e A' w' => e = .normal ∧ StR L eo cap a b s1 s2 s3 s4 w0 (timeZ L (i + 1)) i i i A' w') A w := by
  have hLm' := hLm
  clear hLm
  obtain ⟨v1, v2, hA, hI⟩ := h
  obtain ⟨bb, off, rfl, hbl, hcells⟩ := (hC.move hI.2.2.2) (by intro e; rw [e] at h2; simp at h2)
  replace hI : Hid _ := hI
  obtain ⟨hd, hsz, h0, h1, h2, h9, h11, h13, h15, h17, h18, h19, h20⟩ := hA
  obtain ⟨u, hu, rfl⟩ := open276 hsz hd
  have k0 := hu 0 _ h0
  have k1 := hu 1 _ h1
  have k2 := hu 2 _ h2
  have k9 := hu 9 _ h9
  have k11 := hu 11 _ h11
  have k13 := hu 13 _ h13
  have k15 := hu 15 _ h15
  have k17 := hu 17 _ h17
  have k18 := hu 18 _ h18
  have k19 := hu 19 _ h19
  have k20 := hu 20 _ h20
  clear hu hd hsz h0 h1 h2 h9 h11 h13 h15 h17 h18 h19 h20
  simp only [k0, k1, k2, k9, k11, k13, k15, k17, k18, k19, k20]
  clear k0 k1 k2 k9 k11 k13 k15 k17 k18 k19 k20
  have c1 := (hcells i h2).1
  have hmem : L.getD i (0, 0) ∈ L := by rw [List.getD_eq_getElem?_getD, List.getElem?_eq_getElem h2]; exact List.getElem_mem h2
  have hlt := later_any (L.getD i (0, 0)).1 w (hL _ hmem).1
  have hTr := timeZ_range L i
  have hlr := laterZ_range (L.getD i (0, 0)).1
  have hTe : timeZ L i + laterZ (L.getD i (0, 0)).1 = timeZ L (i + 1) := rfl
  clear hcells hC hL hmem
  simp only [now7, in7, rest7, body7, Tryz.f7, Option.getD_some]
  generalize (L.getD i (0, 0)).1 = lc at *
  generalize laterZ lc = lz at *
  have hP : ∀ A', ActR (some ⟨bb, off, none⟩) L.length cap a b s1 s2 s3 s4 v1 v2 (timeZ L i + lz) i A' → StR L (some ⟨bb, off, none⟩) cap a b s1 s2 s3 s4 w0 (timeZ L (i + 1)) i i i A' w := fun A' h => ⟨v1, v2, by rw [← hTe]; exact h, hI.out⟩
  replace hP : Hid _ := hP
  clear hI hTe
  generalize timeZ L i = tz at *
  generalize StR L (some ⟨bb, off, none⟩) cap a b s1 s2 s3 s4 w0 (timeZ L (i + 1)) i i i = Q at *
  generalize L.length = ln at *
  go_wp2_with fail
  refine hlt.mono ?_
  rintro e w2 ⟨rfl, hw2⟩
  have hw2 := hw2.symm
  subst hw2
  go_wp2_with fail
  first | exact hP.out _ ⟨rfl, rfl, rfl, rfl, rfl, rfl, rfl, rfl, rfl, rfl, rfl, rfl, rfl⟩ | exact ⟨rfl, hP.out _ ⟨rfl, rfl, rfl, rfl, rfl, rfl, rfl, rfl, rfl, rfl, rfl, rfl, rfl⟩⟩
theorem other_row {w w' : World} {B : Nat} {v1 v2 v1' : Value} {n : Nat} {xs : List Value} (h2 : w.ownsRow B 3 1 v2 n xs) (hg : w.grownBy w' v1.ownBlock) (ho : v1'.ownBlock = v1.ownBlock ∨ v1'.ownBlock = some w.heap.size) (hne : ∀ k, v1.ownBlock = some k → v2.ownBlock ≠ some k) : w'.ownsRow B 3 1 v2 n xs ∧ ∀ k, v1'.ownBlock = some k → v2.ownBlock ≠ some k := by
  refine ⟨own_heap h2 fun k hk => hg.block k (h2.lt k hk).2 fun e => hne k e.symm hk, fun k hk hk2 => ?_⟩
  rcases ho with ho | ho
  · rw [ho] at hk; exact hne k hk hk2
  · rw [ho] at hk
    cases hk
    have := (h2.lt _ hk2).2
    omega
set_option maxRecDepth 100000 in
set_option maxHeartbeats 16000000 in
theorem times7_go (L : List (Int × Int)) (eo : Option Addr) (cap : Nat) (a b : Int) (s1 s2 s3 s4 : ByteArray) (w0 : World) (i : Nat) (A : Act) (w : World) (h1 : i < 25) (h : StR L eo cap a b s1 s2 s3 s4 w0 (timeZ L (i + 1)) i i i A w) : times7.wp Tryz.prog (fun e A' w' => e = .normal ∧ StR L eo cap a b s1 s2 s3 s4 w0 (timeZ L (i + 1)) i (i + 1) i A' w') A w := by
  obtain ⟨v1, v2, hA, hr1, hr2, hne, hs⟩ := h
  have hws := hs.size
  obtain ⟨hd, hsz, h0, h1, h2, h9, h11, h13, h15, h17, h18, h19, h20⟩ := hA
  obtain ⟨u, hu, rfl⟩ := open276 hsz hd
  have k0 := hu 0 _ h0
  have k1 := hu 1 _ h1
  have k2 := hu 2 _ h2
  have k9 := hu 9 _ h9
  have k11 := hu 11 _ h11
  have k13 := hu 13 _ h13
  have k15 := hu 15 _ h15
  have k17 := hu 17 _ h17
  have k18 := hu 18 _ h18
  have k19 := hu 19 _ h19
  have k20 := hu 20 _ h20
  clear hu hd hsz h0 h1 h2 h9 h11 h13 h15 h17 h18 h19 h20
  simp only [k0, k1, k2, k9, k11, k13, k15, k17, k18, k19, k20]
  clear k0 k1 k2 k9 k11 k13 k15 k17 k18 k19 k20
  simp only [times7, in7, rest7, body7, Tryz.f7, Option.getD_some]
  obtain ⟨i0, hi, hz0, hz1, hz2⟩ := info_parts infoInt
  have hP : ∀ A' w' v1', ActR eo L.length cap a b s1 s2 s3 s4 v1' v2 (timeZ L (i + 1)) i A' → w'.ownsRow w0.heap.size 3 1 v1' (i + 1) (timesV L i ++ [.int .i64 (timeZ L (i + 1))]) → (w.alloc (.cells #[.int .i64 (timeZ L (i + 1))] 3)).grownBy w' v1.ownBlock → (v1'.ownBlock = v1.ownBlock ∨ v1'.ownBlock = some (w.heap.size + 1)) → StR L eo cap a b s1 s2 s3 s4 w0 (timeZ L (i + 1)) i (i + 1) i A' w' := by
    intro A' w' v1' hA hr hg ho
    obtain ⟨q1, q2⟩ := other_row (v1' := v1') (hr2.alloc _) hg (by simpa using ho) hne
    refine ⟨v1', v2, hA, by rw [timesV_snoc]; exact hr, q1, q2, ?_⟩
    have hb : SpareR (fun x => v1.ownBlock = some x) w w' := ⟨hg.os, hg.output, Nat.le_trans (by simp) hg.size, fun x hx hp => (hg.block x (by simp; omega) (fun e => hp e.symm)).trans (((Below.refl w.heap.size w).al _).block x hx)⟩
    exact ⟨hb.os.trans hs.os, hb.output.trans hs.output, Nat.le_trans hs.size hb.size, fun x hx _ => (hb.block x (by omega) (fun e => by have := (hr1.lt x e).1; omega)).trans (hs.block x hx id)⟩
  replace hP : Hid _ := hP
  clear hr2 hne hs
  generalize timesV L i = xs at *
  generalize StR L eo cap a b s1 s2 s3 s4 w0 (timeZ L (i + 1)) i (i + 1) i = Q at *
  generalize timeZ L (i + 1) = tz at *
  generalize L.length = ln at *
  generalize w0.heap.size = B at *
  go_wp2_with (at_builtin; refine wpList_append_own_at _ rfl _ _ 33 rfl B 3 i0 _ 1 8 Tryz.underlying33 hi hz0 hz1 hz2 rfl (by decide) _ _ _ rfl (hr1.alloc _) ⟨w.heap.size, 0, none⟩ 1 1 [.int .i64 tz] rfl rfl ?c1 ?c2 ?c3 ?c4 ?c5 ?_)
  case c1 => exact cell_one_new w _ _
  case c2 => simp [Value.oneCell']
  case c3 => unfold maxLen; omega
  case c4 => omega
  case c5 => simp; omega
  intro v' w2 hown' hgrow _ hoo
  go_wp2_with fail
  exact hP.out _ _ v' ⟨rfl, rfl, rfl, rfl, rfl, rfl, rfl, rfl, rfl, rfl, rfl, rfl, rfl⟩ hown' hgrow hoo
set_option maxRecDepth 100000 in
set_option maxHeartbeats 16000000 in
theorem has7_go (L : List (Int × Int)) (eo : Option Addr) (cap : Nat) (a b : Int) (s1 s2 s3 s4 : ByteArray) (w0 : World) (i : Nat) (A : Act) (w : World) (hLm : L.length ≤ 9223372036854775807) (hL : ∀ p ∈ L, I64 p.1 ∧ I64 p.2) (hC : ComesAt w0 eo L) (h1 : i < 25) (h2 : i < L.length) (h : StR L eo cap a b s1 s2 s3 s4 w0 (timeZ L (i + 1)) i (i + 1) i A w) : has7.wp Tryz.prog (fun e A' w' => e = .normal ∧ StR L eo cap a b s1 s2 s3 s4 w0 (timeZ L (i + 1)) i (i + 1) (i + 1) A' w') A w := by
  have hLm' := hLm
  clear hLm
  obtain ⟨v1, v2, hA, hr1, hr2, hne, hs⟩ := h
  obtain ⟨bb, off, rfl, hbl, hcells⟩ := (hC.move hs) (by intro e; rw [e] at h2; simp at h2)
  have hws := hs.size
  obtain ⟨hd, hsz, h0, h1, h2, h9, h11, h13, h15, h17, h18, h19, h20⟩ := hA
  obtain ⟨u, hu, rfl⟩ := open276 hsz hd
  have k0 := hu 0 _ h0
  have k1 := hu 1 _ h1
  have k2 := hu 2 _ h2
  have k9 := hu 9 _ h9
  have k11 := hu 11 _ h11
  have k13 := hu 13 _ h13
  have k15 := hu 15 _ h15
  have k17 := hu 17 _ h17
  have k18 := hu 18 _ h18
  have k19 := hu 19 _ h19
  have k20 := hu 20 _ h20
  clear hu hd hsz h0 h1 h2 h9 h11 h13 h15 h17 h18 h19 h20
  simp only [k0, k1, k2, k9, k11, k13, k15, k17, k18, k19, k20]
  clear k0 k1 k2 k9 k11 k13 k15 k17 k18 k19 k20
  simp only [has7, in7, rest7, body7, Tryz.f7, Option.getD_some]
  obtain ⟨i0, hi, hz0, hz1, hz2⟩ := info_parts infoInt
  have c1 := (hcells i h2).2
  have hmem : L.getD i (0, 0) ∈ L := by rw [List.getD_eq_getElem?_getD, List.getElem?_eq_getElem h2]; exact List.getElem_mem h2
  have hpk := pick_any (L.getD i (0, 0)).2 8 w (hL _ hmem).2 (by decide)
  have hrw : pickZ (L.getD i (0, 0)).2 8 = (rawN L i : Nat) := by have := pickZ_range (L.getD i (0, 0)).2 8 (by decide); unfold rawN; omega
  rw [hrw] at hpk
  have hlt := rawN_lt (L := L) i
  have hP : ∀ A' w' v2', ActR (some ⟨bb, off, none⟩) L.length cap a b s1 s2 s3 s4 v1 v2' (timeZ L (i + 1)) i A' → w'.ownsRow w0.heap.size 3 1 v2' (i + 1) (hasV L i ++ [.int .i64 (rawN L i : Nat)]) → (w.alloc (.cells #[.int .i64 (rawN L i : Nat)] 3)).grownBy w' v2.ownBlock → (v2'.ownBlock = v2.ownBlock ∨ v2'.ownBlock = some (w.heap.size + 1)) → StR L (some ⟨bb, off, none⟩) cap a b s1 s2 s3 s4 w0 (timeZ L (i + 1)) i (i + 1) (i + 1) A' w' := by
    intro A' w' v2' hA hr hg ho
    obtain ⟨q1, q2⟩ := other_row (v1' := v2') (hr1.alloc _) hg (by simpa using ho) (fun k e1 e2 => hne k e2 e1)
    refine ⟨v1, v2', hA, q1, by rw [hasV_snoc]; exact hr, fun k e1 e2 => q2 k e2 e1, ?_⟩
    have hb : SpareR (fun x => v2.ownBlock = some x) w w' := ⟨hg.os, hg.output, Nat.le_trans (by simp) hg.size, fun x hx hp => (hg.block x (by simp; omega) (fun e => hp e.symm)).trans (((Below.refl w.heap.size w).al _).block x hx)⟩
    exact ⟨hb.os.trans hs.os, hb.output.trans hs.output, Nat.le_trans hs.size hb.size, fun x hx _ => (hb.block x (by omega) (fun e => by have := (hr2.lt x e).1; omega)).trans (hs.block x hx id)⟩
  replace hP : Hid _ := hP
  clear hr1 hne hs hcells hC hL hmem hrw
  generalize hasV L i = xs at *
  generalize StR L (some ⟨bb, off, none⟩) cap a b s1 s2 s3 s4 w0 (timeZ L (i + 1)) i (i + 1) (i + 1) = Q at *
  generalize timeZ L (i + 1) = tz at *
  generalize L.length = ln at *
  generalize rawN L i = rn at *
  generalize (L.getD i (0, 0)).2 = ac at *
  generalize w0.heap.size = B at *
  go_wp2_with fail
  refine hpk.mono ?_
  rintro e w3 ⟨rfl, hw3⟩
  have hw3 := hw3.symm
  subst hw3
  go_wp2_with (at_builtin; refine wpList_append_own_at _ rfl _ _ 33 rfl B 3 i0 _ 1 8 Tryz.underlying33 hi hz0 hz1 hz2 rfl (by decide) _ _ _ rfl (hr2.alloc _) ⟨w.heap.size, 0, none⟩ 1 1 [.int .i64 (rn : Nat)] rfl rfl ?c1 ?c2 ?c3 ?c4 ?c5 ?_)
  case c1 => exact cell_one_new w _ _
  case c2 => simp [Value.oneCell']
  case c3 => unfold maxLen; omega
  case c4 => omega
  case c5 => simp; omega
  intro v' w2 hown' hgrow _ hoo
  go_wp2_with fail
  exact hP.out _ _ v' ⟨rfl, rfl, rfl, rfl, rfl, rfl, rfl, rfl, rfl, rfl, rfl, rfl, rfl⟩ hown' hgrow hoo
set_option maxRecDepth 100000 in
set_option maxHeartbeats 16000000 in
theorem sets7_go (eo : Option Addr) (ln cap : Nat) (a b : Int) (s1 s2 s3 s4 : ByteArray) (g1 g2 m cp1 cp2 : Nat) (now i : Int) (A : Act) (w : World) (hA : ActR eo ln cap a b s1 s2 s3 s4 (.slice (some ⟨g1, 0, none⟩) m cp1) (.slice (some ⟨g2, 0, none⟩) m cp2) now i A) : wps Tryz.prog sets7 (fun A' w' => w' = w ∧ ActI eo ln cap a b s1 s2 s3 s4 g1 g2 m cp1 cp2 now i ⟨#[48]⟩ ⟨#[49]⟩ ⟨#[48]⟩ true A') A w := by
  obtain ⟨hd, hsz, h0, h1, h2, h9, h11, h13, h15, h17, h18, h19, h20⟩ := hA
  obtain ⟨u, hu, rfl⟩ := open276 hsz hd
  have k0 := hu 0 _ h0
  have k1 := hu 1 _ h1
  have k2 := hu 2 _ h2
  have k9 := hu 9 _ h9
  have k11 := hu 11 _ h11
  have k13 := hu 13 _ h13
  have k15 := hu 15 _ h15
  have k17 := hu 17 _ h17
  have k18 := hu 18 _ h18
  have k19 := hu 19 _ h19
  have k20 := hu 20 _ h20
  clear hu hd hsz h0 h1 h2 h9 h11 h13 h15 h17 h18 h19 h20
  simp only [k0, k1, k2, k9, k11, k13, k15, k17, k18, k19, k20]
  clear k0 k1 k2 k9 k11 k13 k15 k17 k18 k19 k20
  simp only [sets7, in7, rest7, body7, Tryz.f7, Option.getD_some]
  have hP : ∀ A', ActI eo ln cap a b s1 s2 s3 s4 g1 g2 m cp1 cp2 now i ⟨#[48]⟩ ⟨#[49]⟩ ⟨#[48]⟩ true A' → (fun A' w' => w' = w ∧ ActI eo ln cap a b s1 s2 s3 s4 g1 g2 m cp1 cp2 now i ⟨#[48]⟩ ⟨#[49]⟩ ⟨#[48]⟩ true A') A' w := fun A' h => ⟨rfl, h⟩
  replace hP : Hid _ := hP
  generalize (fun A' w' => w' = w ∧ ActI eo ln cap a b s1 s2 s3 s4 g1 g2 m cp1 cp2 now i ⟨#[48]⟩ ⟨#[49]⟩ ⟨#[48]⟩ true A') = Q at *
  try unfold wps
  go_wp2_with fail
  try refine ⟨rfl, ?_⟩
  try unfold wps
  go_wp2_with fail
  try refine ⟨rfl, ?_⟩
  try unfold wps
  go_wp2_with fail
  try refine ⟨rfl, ?_⟩
  try unfold wps
  go_wp2_with fail
  try refine ⟨rfl, ?_⟩
  try unfold wps
  exact hP.out _ ⟨rfl, rfl, rfl, rfl, rfl, rfl, rfl, rfl, rfl, rfl, rfl, rfl, rfl, rfl, rfl, rfl, rfl⟩
set_option maxRecDepth 100000 in
set_option maxHeartbeats 16000000 in
theorem fin7_go (eo : Option Addr) (ln cap : Nat) (a b : Int) (s1 s2 s3 s4 : ByteArray) (v2 : Value) (o1 : Option Addr) (n cp1 : Nat) (now i : Int) (w0 : World) (A : Act) (w : World) (hA : ActR eo ln cap a b s1 s2 s3 s4 (.slice o1 n cp1) v2 now i A) (hn : n ≤ 25) (z1 : s1.size = n) (z2 : s2.size = n) (z3 : s3.size = n) (z4 : s4.size = n) (hs : SpareR (fun _ => False) w0 w) : fin7.wp Tryz.prog (bodyPost Tryz.prog Tryz.f7 (LawPost w0)) A w := by
  have hn' := hn
  clear hn
  obtain ⟨hd, hsz, h0, h1, h2, h9, h11, h13, h15, h17, h18, h19, h20⟩ := hA
  obtain ⟨u, hu, rfl⟩ := open276 hsz hd
  have k0 := hu 0 _ h0
  have k1 := hu 1 _ h1
  have k2 := hu 2 _ h2
  have k9 := hu 9 _ h9
  have k11 := hu 11 _ h11
  have k13 := hu 13 _ h13
  have k15 := hu 15 _ h15
  have k17 := hu 17 _ h17
  have k18 := hu 18 _ h18
  have k19 := hu 19 _ h19
  have k20 := hu 20 _ h20
  clear hu hd hsz h0 h1 h2 h9 h11 h13 h15 h17 h18 h19 h20
  simp only [k0, k1, k2, k9, k11, k13, k15, k17, k18, k19, k20]
  clear k0 k1 k2 k9 k11 k13 k15 k17 k18 k19 k20
  have hQ0 : LawPost w0 (.returned (.bool true)) w := ⟨rfl, hs⟩
  replace hQ0 : Hid _ := hQ0
  clear hs
  generalize hQ : bodyPost Tryz.prog Tryz.f7 (LawPost w0) = Q
  simp only [fin7, rest7, body7, Tryz.f7, Option.getD_some]
  go_wp2_with fail
  rw [← hQ]
  go_ret
  exact ⟨rfl, hQ0.out.2⟩
def ActQ (eo : Option Addr) (ln cap : Nat) (a b : Int) (s1 s2 s3 s4 : ByteArray) (A : Act) : Prop := A.defers = [] ∧ A.tmps.size = 276 ∧ A.tmps[0]? = some (.slice eo ln cap) ∧ A.tmps[1]? = some (.int .i64 a) ∧ A.tmps[2]? = some (.int .i64 b) ∧ A.tmps[9]? = some (.string s1) ∧ A.tmps[11]? = some (.string s2) ∧ A.tmps[13]? = some (.string s3) ∧ A.tmps[15]? = some (.string s4) ∧ A.tmps[17]? = some (.slice none 0 0) ∧ A.tmps[18]? = some (.slice none 0 0) ∧ A.tmps[19]? = some (.int .i64 0)
set_option maxRecDepth 100000 in
set_option maxHeartbeats 16000000 in
theorem pre7a_go (L : List (Int × Int)) (eo : Option Addr) (cap : Nat) (a b : Int) (s1 s2 s3 s4 : ByteArray) (w0 : World) (A : Act) (w : World) (hA : ActS eo L.length cap a b s1 s2 s3 s4 A) (hs : SpareR (fun _ => False) w0 w) : wps Tryz.prog pre7a (fun A' w' => ActQ eo L.length cap a b s1 s2 s3 s4 A' ∧ SpareR (fun _ => False) w0 w') A w := by
  obtain ⟨u, rfl⟩ := hA.open
  clear hA
  have hP : ∀ A', ActQ eo L.length cap a b s1 s2 s3 s4 A' → (fun A' w' => ActQ eo L.length cap a b s1 s2 s3 s4 A' ∧ SpareR (fun _ => False) w0 w') A' w := fun A' h => ⟨h, hs⟩
  replace hP : Hid _ := hP
  clear hs
  generalize (fun A' w' => ActQ eo L.length cap a b s1 s2 s3 s4 A' ∧ SpareR (fun _ => False) w0 w') = Q at *
  simp only [pre7a, rest7, body7, Tryz.f7, Option.getD_some]
  generalize L.length = ln at *
  try unfold wps
  go_wp2_with fail
  try refine ⟨rfl, ?_⟩
  try unfold wps
  go_wp2_with fail
  try refine ⟨rfl, ?_⟩
  try unfold wps
  go_wp2_with fail
  try refine ⟨rfl, ?_⟩
  try unfold wps
  go_wp2_with fail
  try refine ⟨rfl, ?_⟩
  try unfold wps
  exact hP.out _ ⟨rfl, rfl, rfl, rfl, rfl, rfl, rfl, rfl, rfl, rfl, rfl, rfl⟩
set_option maxRecDepth 100000 in
set_option maxHeartbeats 16000000 in
theorem pre7b_go (L : List (Int × Int)) (eo : Option Addr) (cap : Nat) (a b : Int) (s1 s2 s3 s4 : ByteArray) (w0 : World) (A : Act) (w : World) (hA : ActQ eo L.length cap a b s1 s2 s3 s4 A) (hs : SpareR (fun _ => False) w0 w) : pre7b.wp Tryz.prog (fun e A' w' => e = .normal ∧ StR L eo cap a b s1 s2 s3 s4 w0 (timeZ L 0) 0 0 0 A' w') A w := by
  obtain ⟨hd, hsz, h0, h1, h2, h9, h11, h13, h15, h17, h18, h19⟩ := hA
  obtain ⟨u, hu, rfl⟩ := open276 hsz hd
  have k0 := hu 0 _ h0
  have k1 := hu 1 _ h1
  have k2 := hu 2 _ h2
  have k9 := hu 9 _ h9
  have k11 := hu 11 _ h11
  have k13 := hu 13 _ h13
  have k15 := hu 15 _ h15
  have k17 := hu 17 _ h17
  have k18 := hu 18 _ h18
  have k19 := hu 19 _ h19
  clear hu hd hsz h0 h1 h2 h9 h11 h13 h15 h17 h18 h19
  simp only [k0, k1, k2, k9, k11, k13, k15, k17, k18, k19]
  clear k0 k1 k2 k9 k11 k13 k15 k17 k18 k19
  have hP : ∀ A', ActR eo L.length cap a b s1 s2 s3 s4 (.slice none 0 0) (.slice none 0 0) 0 0 A' → StR L eo cap a b s1 s2 s3 s4 w0 (timeZ L 0) 0 0 0 A' w := fun A' h => ⟨_, _, h, World.ownsRow_nil _ _ _ _, World.ownsRow_nil _ _ _ _, fun k e => (by cases e), hs⟩
  replace hP : Hid _ := hP
  clear hs
  generalize StR L eo cap a b s1 s2 s3 s4 w0 (timeZ L 0) 0 0 0 = Q at *
  simp only [pre7b, rest7, body7, Tryz.f7, Option.getD_some]
  generalize L.length = ln at *
  go_wp2_with fail
  first | exact hP.out _ ⟨rfl, rfl, rfl, rfl, rfl, rfl, rfl, rfl, rfl, rfl, rfl, rfl, rfl⟩ | exact ⟨rfl, hP.out _ ⟨rfl, rfl, rfl, rfl, rfl, rfl, rfl, rfl, rfl, rfl, rfl, rfl, rfl⟩⟩
end Go.Proofs.YtpbbmagjhkakgaaGreatDoor.Ev

namespace Go.Proofs.YtpbbmagjhkakgaaGreatDoor.Ev
open Go.RowKit Go.Deep Go.Maps Go.Proofs.YtpbbmagjhkakgaaGreatDoor.Lf Go.Conc
theorem row_slice {w : World} {B n : Nat} {t : TypeId} {v : Value} {xs : List Value} (h : w.ownsRow B t 1 v n xs) (hn : 0 < n) : ∃ g cp, v = .slice (some ⟨g, 0, none⟩) n cp := by
  obtain ⟨_, ⟨rfl, h2⟩ | ⟨g, cap, cur, rfl, _⟩⟩ := h
  · omega
  · exact ⟨g, cap, rfl⟩
theorem row_slice0 {w : World} {B n : Nat} {t : TypeId} {v : Value} {xs : List Value} (h : w.ownsRow B t 1 v n xs) : ∃ o cp, v = .slice o n cp := by
  obtain ⟨_, ⟨rfl, h2⟩ | ⟨g, cap, cur, rfl, _⟩⟩ := h
  · exact ⟨none, 0, by rw [h2]⟩
  · exact ⟨_, cap, rfl⟩
theorem ActI.toR {eo : Option Addr} {ln cap : Nat} {a b : Int} {s1 s2 s3 s4 : ByteArray} {g1 g2 m cp1 cp2 : Nat} {now i : Int} {o v s : ByteArray} {r : Bool} {A : Act} (h : ActI eo ln cap a b s1 s2 s3 s4 g1 g2 m cp1 cp2 now i o v s r A) : ActR eo ln cap a b s1 s2 s3 s4 (.slice (some ⟨g1, 0, none⟩) m cp1) (.slice (some ⟨g2, 0, none⟩) m cp2) now i A := by
  obtain ⟨hd, hsz, h0, h1, h2, h9, h11, h13, h15, h17, h18, h19, h20, _⟩ := h
  exact ⟨hd, hsz, h0, h1, h2, h9, h11, h13, h15, h17, h18, h19, h20⟩
structure Four (L : List (Int × Int)) (a b : Int) (n : Nat) (s1 s2 s3 s4 : ByteArray) : Prop where
  once : s1 = verS (winT 79 a b) L n
  ever : s2 = verS (winT 72 a b) L n
  prev : s3 = verS (winT 89 a b) L n
  since : s4 = verS (sinceT a b) L n
theorem in7_go (L : List (Int × Int)) (eo : Option Addr) (cap : Nat) (a b : Int) (s1 s2 s3 s4 : ByteArray) (w0 : World) (i n : Nat) (A : Act) (w : World) (hLm : L.length ≤ 9223372036854775807) (hL : ∀ p ∈ L, I64 p.1 ∧ I64 p.2) (hC : ComesAt w0 eo L) (hab : 0 ≤ a ∧ a ≤ b ∧ b ≤ 1000) (hF : Four L a b n s1 s2 s3 s4) (hn : n ≤ 25) (hin : i < n) (h2 : i < L.length) (h : StR L eo cap a b s1 s2 s3 s4 w0 (timeZ L i) i i i A w) :
    in7.wp Tryz.prog (fun e A' w' => e = .normal ∧ StR L eo cap a b s1 s2 s3 s4 w0 (timeZ L (i + 1)) i (i + 1) (i + 1) A' w') A w := by
  have h1 : i < 25 := by omega
  have e0 : in7 = .seq now7 (.seq times7 (.seq has7 (unseq sets7 (.seq inner7 after7)))) := rfl
  rw [e0]
  refine wp_seq (wp_mono (now7_go L eo cap a b s1 s2 s3 s4 w0 i A w hLm hL hC h1 h2 h) ?_)
  rintro e A w ⟨rfl, h⟩
  refine wp_seq (wp_mono (times7_go L eo cap a b s1 s2 s3 s4 w0 i A w h1 h) ?_)
  rintro e A w ⟨rfl, h⟩
  refine wp_seq (wp_mono (has7_go L eo cap a b s1 s2 s3 s4 w0 i A w hLm hL hC h1 h2 h) ?_)
  rintro e A w ⟨rfl, v1, v2, hA, hr1, hr2, hne, hs⟩
  obtain ⟨g1, cp1, rfl⟩ := row_slice hr1 (by omega)
  obtain ⟨g2, cp2, rfl⟩ := row_slice hr2 (by omega)
  have ht : ∀ j, j ≤ i → w.cell? ⟨g1, j, none⟩ = some (.int .i64 (timeZ L (j + 1))) := fun j hj => row_cell hr1 rfl (timesV_get L (i + 1) j (by omega))
  have hh : ∀ j, j ≤ i → w.cell? ⟨g2, j, none⟩ = some (.int .i64 (rawN L j : Nat)) := fun j hj => row_cell hr2 rfl (hasV_get L (i + 1) j (by omega))
  refine wp_of_wps _ _ _ (wps_mono _ _ _ (sets7_go eo L.length cap a b s1 s2 s3 s4 g1 g2 (i + 1) cp1 cp2 _ _ A w hA) ?_)
  rintro A w1 ⟨e1, hI⟩
  obtain rfl := e1.symm
  refine wp_seq (wp_mono (inner7_go L eo L.length cap a b s1 s2 s3 s4 g1 g2 cp1 cp2 i A w h1 hab hI ht hh) ?_)
  rintro e A w2 ⟨rfl, e1, hI⟩
  obtain rfl := e1.symm
  have x1 : s1.extract i (i + 1) = bitS (oK L i a b (i + 1)) := by rw [hF.once, verS_at _ L n i hin, ver_once]
  have x2 : s2.extract i (i + 1) = bitS (vK L i a b (i + 1)) := by rw [hF.ever, verS_at _ L n i hin, ver_ever]
  have x3 : s3.extract i (i + 1) = bitS (verZ (winT 89 a b) L i) := by rw [hF.prev, verS_at _ L n i hin]
  have x4 : s4.extract i (i + 1) = bitS (sK L i a b (i + 1)) := by rw [hF.since, verS_at _ L n i hin, ver_since]
  refine wp_mono (after7_go L eo L.length cap a b s1 s2 s3 s4 g1 g2 cp1 cp2 i n _ _ _ _ A w hin hn hI ht hh (by rw [hF.once]; exact verS_size _ _ _) (by rw [hF.ever]; exact verS_size _ _ _) (by rw [hF.prev]; exact verS_size _ _ _) (by rw [hF.since]; exact verS_size _ _ _) x1 x2 x3 x4) ?_
  rintro e A w3 ⟨rfl, e1, hI⟩
  obtain rfl := e1.symm
  exact ⟨rfl, _, _, hI.toR, hr1, hr2, hne, hs⟩
theorem round7 (L : List (Int × Int)) (eo : Option Addr) (cap : Nat) (a b : Int) (s1 s2 s3 s4 : ByteArray) (w0 : World) (i : Nat) (A : Act) (w : World) (hLm : L.length ≤ 9223372036854775807) (hL : ∀ p ∈ L, I64 p.1 ∧ I64 p.2) (hC : ComesAt w0 eo L) (hab : 0 ≤ a ∧ a ≤ b ∧ b ≤ 1000) (hF : Four L a b (min L.length 25) s1 s2 s3 s4) (h1 : i ≤ 25) (h2 : i ≤ L.length) (h : StR L eo cap a b s1 s2 s3 s4 w0 (timeZ L i) i i i A w) :
    HWp Tryz.prog loop7 (fun e A' w' => (e = .normal ∧ i < 25 ∧ i < L.length ∧ StR L eo cap a b s1 s2 s3 s4 w0 (timeZ L (i + 1)) (i + 1) (i + 1) (i + 1) A' w') ∨ (e = .exit 0 ∧ (i = 25 ∨ i = L.length) ∧ StR L eo cap a b s1 s2 s3 s4 w0 (timeZ L i) i i i A' w')) A w := by
  have hP := plain_prog
  have e0 : loop7 = .seq head7 (.seq (.block 1 in7) next7) := rfl
  rw [e0]
  by_cases hin : i < 25 ∧ i < L.length
  · obtain ⟨h3, h4⟩ := hin
    refine HWp.seqL hP (StR L eo cap a b s1 s2 s3 s4 w0 (timeZ L i) i i i) (fun _ _ τ d x => x.tapeR τ d) (fun τ d => head7_go L eo cap a b s1 s2 s3 s4 w0 i A _ hLm (h.tapeR τ d) h3 h4) fun A w h => ?_
    refine HWp.seqH hP (StR L eo cap a b s1 s2 s3 s4 w0 (timeZ L (i + 1)) i (i + 1) (i + 1)) (HWp.blockN hP (fun _ _ τ d x => x.tapeR τ d) ?_) fun A w h => ?_
    · exact HWp.loneN hP (fun _ _ τ d x => x.tapeR τ d) fun τ d => in7_go L eo cap a b s1 s2 s3 s4 w0 i (min L.length 25) A _ hLm hL hC hab hF (by omega) (by omega) h4 (h.tapeR τ d)
    · refine (HWp.loneN hP (J := StR L eo cap a b s1 s2 s3 s4 w0 (timeZ L (i + 1)) (i + 1) (i + 1) (i + 1)) (fun _ _ τ d x => x.tapeR τ d) fun τ d => next7_go L eo cap a b s1 s2 s3 s4 w0 _ i (i + 1) (i + 1) A _ h3 (h.tapeR τ d)).mono ?_
      rintro e a w ⟨rfl, h⟩
      exact .inl ⟨rfl, h3, h4, h⟩
  · have h3 : i = 25 ∨ i = L.length := by omega
    refine HWp.seq hP ((HWp.of_wp hP (Q := fun e A' w' => e = .exit 0 ∧ StR L eo cap a b s1 s2 s3 s4 w0 (timeZ L i) i i i A' w') (fun _ _ _ τ d x => ⟨x.1, x.2.tapeR τ d⟩) (fun _ _ x => by cases x.1) (fun τ d => head7_end L eo cap a b s1 s2 s3 s4 w0 i A _ hLm (h.tapeR τ d) h1 h2 h3)).mono ?_)
    rintro e a w ⟨rfl, h⟩
    exact .inr ⟨rfl, h3, h⟩
theorem rest7_lead (L : List (Int × Int)) (eo : Option Addr) (cap : Nat) (a b : Int) (s1 s2 s3 s4 : ByteArray) (w0 : World) (A : Act) (w : World) (hLm : L.length ≤ 9223372036854775807) (hL : ∀ p ∈ L, I64 p.1 ∧ I64 p.2) (hC : ComesAt w0 eo L) (hab : 0 ≤ a ∧ a ≤ b ∧ b ≤ 1000) (hF : Four L a b (min L.length 25) s1 s2 s3 s4) (hA : ActS eo L.length cap a b s1 s2 s3 s4 A) (hs : SpareR (fun _ => False) w0 w) (cs : List Frame) (hcs : ∀ fr ∈ cs, okFrame fr) :
    LeadsR Tryz.prog (fun g w' => ∃ e fr, g = G fr cs ∧ okFrame fr ∧ LawPost w0 e w' ∧ fr.fn = 7 ∧ fr.leaving Tryz.prog w' e) (G ((base 7).at A [.code rest7]) cs) w := by
  have hP := plain_prog
  have hi0 : ∀ it ∈ ([] : List Item), okItem it := by simp
  have hi1 : ∀ (c : Code), ∀ it ∈ [Item.code c], okItem it := fun c => okItems_cons trivial (by simp)
  have hi2 : ∀ (c d : Code), ∀ it ∈ [Item.code c, Item.code d], okItem it := fun c d => okItems_cons trivial (hi1 d)
  have e0 : rest7 = unseq pre7a (.seq (.seq pre7b (.block 0 (.loop loop7))) fin7) := rfl
  rw [e0]
  refine LeadsR.pieces hP pre7a (fun A' w' => ActQ eo L.length cap a b s1 s2 s3 s4 A' ∧ SpareR (fun _ => False) w0 w') (fun _ _ τ d x => ⟨x.1, x.2.tapeR τ d⟩) hi0 hcs (fun τ d => pre7a_go L eo cap a b s1 s2 s3 s4 w0 A _ hA (hs.tapeR τ d)) ?_
  rintro A w ⟨hA, hs⟩
  refine LeadsR.seq hP hi0 hcs (LeadsR.seq hP (hi1 _) hcs ?_)
  refine LeadsR.piece hP (StR L eo cap a b s1 s2 s3 s4 w0 (timeZ L 0) 0 0 0) (fun _ _ τ d x => x.tapeR τ d) (hi2 _ _) hcs (fun τ d => pre7b_go L eo cap a b s1 s2 s3 s4 w0 A _ hA (hs.tapeR τ d)) fun A w h0 => ?_
  refine LeadsR.hpiece (StR L eo cap a b s1 s2 s3 s4 w0 (timeZ L (min L.length 25)) (min L.length 25) (min L.length 25) (min L.length 25)) (hi1 _) hcs (HWp.blockLoop hP (fun n A w' => ∃ i : Nat, n = 25 - i ∧ i ≤ 25 ∧ i ≤ L.length ∧ StR L eo cap a b s1 s2 s3 s4 w0 (timeZ L i) i i i A w') _ (fun _ _ τ d x => x.tapeR τ d) 25 ⟨0, rfl, by omega, by omega, h0⟩ ?_) fun A w h2 => ?_
  · rintro n A w2 ⟨i, rfl, h1, h2, h3⟩
    refine (round7 L eo cap a b s1 s2 s3 s4 w0 i A w2 hLm hL hC hab hF h1 h2 h3).mono ?_
    rintro e A w3 (⟨rfl, h4, h5, h6⟩ | ⟨rfl, h4, h6⟩)
    · exact .inl ⟨rfl, 25 - (i + 1), by omega, i + 1, rfl, by omega, by omega, h6⟩
    · have e1 : i = min L.length 25 := by omega
      rw [e1] at h6
      exact .inr ⟨rfl, h6⟩
  · obtain ⟨v1, v2, hA, hr1, hr2, hne, hs⟩ := h2
    obtain ⟨o1, cp1, rfl⟩ := row_slice0 hr1
    refine LeadsR.last hP hcs Tryz.func7 LawPost.tapeR LawPost.out fun τ d => ?_
    exact fin7_go eo L.length cap a b s1 s2 s3 s4 v2 o1 (min L.length 25) cp1 _ _ w0 A _ hA (by omega) (by rw [hF.once]; exact verS_size _ _ _) (by rw [hF.ever]; exact verS_size _ _ _) (by rw [hF.prev]; exact verS_size _ _ _) (by rw [hF.since]; exact verS_size _ _ _) (hs.tapeR τ d)
end Go.Proofs.YtpbbmagjhkakgaaGreatDoor.Ev

namespace Go.Proofs.YtpbbmagjhkakgaaGreatDoor.Ev
open Go.RowKit Go.Deep Go.Maps Go.Proofs.YtpbbmagjhkakgaaGreatDoor.Lf Go.Conc
def IsOp (ops : Array Oper) (i d : Nat) (op : Op) : Prop := ∃ o, ops[i]? = some o ∧ o.dst = some d ∧ o.op = op ∧ o.guard = none
section
variable {P : Program} {K : Goroutine → World → Prop} {b : Frame} {k : List Item} {cs : List Frame} {A : Act} {w : World} {ops : Array Oper} {i d : Nat} {rest : List Nat} {v : Value}
theorem put_facts (A : Act) (d : Nat) (v : Value) (hd : d < A.tmps.size) : (A.put (some d) v).tmps.size = A.tmps.size ∧ (A.put (some d) v).defers = A.defers ∧ (A.put (some d) v).tmps[d]? = some v ∧ ∀ j, j ≠ d → (A.put (some d) v).tmps[j]? = A.tmps[j]? := by
  refine ⟨by simp [Act.put], rfl, by simp [Act.put, hd], fun j hj => ?_⟩
  simp only [Act.put, Array.getElem?_setIfInBounds]
  rw [if_neg (fun e => hj e.symm)]
theorem eval_tmp {j : Nat} (h : A.tmps[j]? = some v) : A.eval (.tmp j) = v := by
  show A.tmps.getD j undef = v
  rw [Array.getD_eq_getD_getElem?, h]
  rfl
theorem isOp_wanted {o : Oper} {y : Nat → Option Bool} (h : o.guard = none) : Region.wanted o y = true := by
  unfold Region.wanted
  rw [h]
theorem LeadsR.isVal (hP : Plain P) {op : Op} (h : IsOp ops i d op) (hr : ∀ o : Oper, o.op = op → ∀ w, (execOp A.eval o).run P w = .ok (.value v) w) (hi : ∀ it ∈ k, okItem it) (hc : ∀ fr ∈ cs, okFrame fr)
    (hk : LeadsR P K (G (b.at (A.put (some d) v) (.inRegion ops rest :: k)) cs) w) : LeadsR P K (G (b.at A (.inRegion ops (i :: rest) :: k)) cs) w := by
  obtain ⟨o, h1, h2, h3, h4⟩ := h
  refine LeadsR.val hP (w' := w) (v := v) h1 (isOp_wanted h4) (fun τ d => hr o h3 _) hi hc ?_
  rw [h2]
  exact hk
theorem LeadsR.mv (hP : Plain P) {x : Operand} (h : IsOp ops i d (.move x)) (hx : A.eval x = v) (hi : ∀ it ∈ k, okItem it) (hc : ∀ fr ∈ cs, okFrame fr)
    (hk : LeadsR P K (G (b.at (A.put (some d) v) (.inRegion ops rest :: k)) cs) w) : LeadsR P K (G (b.at A (.inRegion ops (i :: rest) :: k)) cs) w :=
  LeadsR.isVal hP h (fun o ho w => by unfold execOp; rw [ho, ← hx]; rfl) hi hc hk
theorem LeadsR.asg (hP : Plain P) {x : Operand} (h : IsOp ops i d (.assign x)) (hx : A.eval x = v) (hi : ∀ it ∈ k, okItem it) (hc : ∀ fr ∈ cs, okFrame fr)
    (hk : LeadsR P K (G (b.at (A.put (some d) v) (.inRegion ops rest :: k)) cs) w) : LeadsR P K (G (b.at A (.inRegion ops (i :: rest) :: k)) cs) w :=
  LeadsR.isVal hP h (fun o ho w => by unfold execOp; rw [ho, ← hx]; rfl) hi hc hk
theorem LeadsR.ext (hP : Plain P) {x : Operand} {n : Nat} {vs : Array Value} (h : IsOp ops i d (.extract x n)) (hx : A.eval x = .tuple vs) (hv : vs[n]? = some v) (hi : ∀ it ∈ k, okItem it) (hc : ∀ fr ∈ cs, okFrame fr)
    (hk : LeadsR P K (G (b.at (A.put (some d) v) (.inRegion ops rest :: k)) cs) w) : LeadsR P K (G (b.at A (.inRegion ops (i :: rest) :: k)) cs) w :=
  LeadsR.isVal hP h (fun o ho w => by unfold execOp; rw [ho]; simp [hx, Instr.extract, hv]) hi hc hk
theorem LeadsR.callF (hP : Plain P) {f : FuncId} {fn : Func} {args : Array Operand} {ats : Array TypeId} {vs : Array Value} {R : Ending → World → Prop} (h : IsOp ops i d (.call { callee := .value (.func f), args, argTypes := ats }))
    (hf : P.funcs[f]? = some fn) (hname : (fn.name == "runtime.NumGoroutine") = false) (hb : fn.body.isNone = false) (hargs : args.map A.eval = vs) (hi : ∀ it ∈ k, okItem it) (hc : ∀ fr ∈ cs, okFrame fr) (hC : HCalls P f vs w R) (hR : ∀ e w', R e w' → ∃ v, e = .returned v)
    (hk : ∀ v w', R (.returned v) w' → LeadsR P K (G (b.at (A.put (some d) v) (.inRegion ops rest :: k)) cs) w') : LeadsR P K (G (b.at A (.inRegion ops (i :: rest) :: k)) cs) w := by
  obtain ⟨o, h1, h2, h3, h4⟩ := h
  refine LeadsR.call hP h1 (isOp_wanted h4) (fun τ d => by rw [run_call_body h3 hf hname hb, hargs]) hi hc hC hR ?_
  rw [h2]
  exact hk
end
section
variable {K : Goroutine → World → Prop} {b : Frame} {k : List Item} {cs : List Frame} {A : Act} {w : World} {ops : Array Oper} {i d : Nat} {rest : List Nat} {v : Value}
theorem LeadsR.cat {x y : Operand} {s t : ByteArray} (h : IsOp ops i d (.binOp .add 9 x y 9)) (hx : A.eval x = .string s) (hy : A.eval y = .string t) (hs : ¬ 9223372036854775807 < s.size + t.size) (hi : ∀ it ∈ k, okItem it) (hc : ∀ fr ∈ cs, okFrame fr)
    (hk : LeadsR Tryz.prog K (G (b.at (A.put (some d) (.string (s ++ t))) (.inRegion ops rest :: k)) cs) w) : LeadsR Tryz.prog K (G (b.at A (.inRegion ops (i :: rest) :: k)) cs) w :=
  LeadsR.isVal plain_prog h (fun o ho w => by
    refine run_eq_of fun K hK => ?_
    unfold execOp
    rw [ho]
    simp only [hx, hy]
    go_simp
    exact hK) hi hc hk
theorem LeadsR.addI {x y : Operand} {m n : Int} (h : IsOp ops i d (.binOp .add 3 x y 3)) (hx : A.eval x = .int .i64 m) (hy : A.eval y = .int .i64 n) (hr : -9223372036854775808 ≤ m + n ∧ m + n ≤ 9223372036854775807) (hi : ∀ it ∈ k, okItem it) (hc : ∀ fr ∈ cs, okFrame fr)
    (hk : LeadsR Tryz.prog K (G (b.at (A.put (some d) (.int .i64 (m + n))) (.inRegion ops rest :: k)) cs) w) : LeadsR Tryz.prog K (G (b.at A (.inRegion ops (i :: rest) :: k)) cs) w :=
  LeadsR.isVal plain_prog h (fun o ho w => by
    refine run_eq_of fun K hK => ?_
    have hwr : IntKind.i64.wrap (m + n) = m + n := by rw [IntKind.wrap_i64]; omega
    unfold execOp
    rw [ho]
    simp only [hx, hy]
    go_simp
    first | exact hK | (rw [hwr]; exact hK)) hi hc hk
theorem watch_tail {x y z : Operand} {text : ByteArray} {retain : Int} {eo : Option Addr} {L : List (Int × Int)} {cap : Nat} {X : BT Pay} {i0 i1 i2 i3 i4 i5 d0 d1 d2 d3 dA dB : Nat}
    (c0 : IsOp ops i0 d0 (.call { callee := .value (.func 21), args := #[x, y, z], argTypes := #[9, 3, 34] })) (c1 : IsOp ops i1 d1 (.move (.tmp d0))) (c2 : IsOp ops i2 d2 (.extract (.tmp d1) 0)) (c3 : IsOp ops i3 d3 (.extract (.tmp d1) 1)) (c4 : IsOp ops i4 dA (.assign (.tmp d2))) (c5 : IsOp ops i5 dB (.assign (.tmp d3)))
    (hz : d0 < A.tmps.size ∧ d1 < A.tmps.size ∧ d2 < A.tmps.size ∧ d3 < A.tmps.size ∧ dA < A.tmps.size ∧ dB < A.tmps.size) (hne : d1 ≠ d2 ∧ d2 ≠ d3 ∧ dA ≠ d3 ∧ dA ≠ dB)
    (hx : A.eval x = .string text) (hy : A.eval y = .int .i64 retain) (hzz : A.eval z = .slice eo L.length cap) (hi : ∀ it ∈ k, okItem it) (hc : ∀ fr ∈ cs, okFrame fr)
    (hC : HCalls Tryz.prog 21 #[.string text, .int .i64 retain, .slice eo L.length cap] w (WatchedPost X L w))
    (hk : ∀ A' w', A'.tmps.size = A.tmps.size → A'.defers = A.defers → A'.tmps[dA]? = some (.string (verS X L (min L.length 25))) → A'.tmps[dB]? = some (.bool true) → (∀ j, j ≠ d0 → j ≠ d1 → j ≠ d2 → j ≠ d3 → j ≠ dA → j ≠ dB → A'.tmps[j]? = A.tmps[j]?) → SpareR (fun _ => False) w w' → LeadsR Tryz.prog K (G (b.at A' k) cs) w') :
    LeadsR Tryz.prog K (G (b.at A (.inRegion ops [i0, i1, i2, i3, i4, i5] :: k)) cs) w := by
  have hP := plain_prog
  obtain ⟨z0, z1, z2, z3, zA, zB⟩ := hz
  obtain ⟨n1, n2, n3, n4⟩ := hne
  refine LeadsR.callF hP c0 Tryz.func21 (by decide) rfl (by simp only [List.map_toArray, List.map_cons, List.map_nil, hx, hy, hzz]) hi hc hC (fun e w' x => ⟨_, x.1⟩) ?_
  rintro v w1 ⟨hv, hs⟩
  cases hv
  generalize verS X L (min L.length 25) = s at *
  have p0 := put_facts A d0 (.tuple #[.string s, .bool true]) z0
  generalize A.put (some d0) (.tuple #[.string s, .bool true]) = A0 at *
  refine LeadsR.mv hP c1 (eval_tmp p0.2.2.1) hi hc ?_
  have p1 := put_facts A0 d1 (.tuple #[.string s, .bool true]) (by omega)
  generalize A0.put (some d1) (.tuple #[.string s, .bool true]) = A1 at *
  refine LeadsR.ext hP c2 (eval_tmp p1.2.2.1) (v := .string s) rfl hi hc ?_
  have p2 := put_facts A1 d2 (.string s) (by omega)
  generalize A1.put (some d2) (.string s) = A2 at *
  refine LeadsR.ext hP c3 (eval_tmp ((p2.2.2.2 d1 n1).trans p1.2.2.1)) (v := .bool true) rfl hi hc ?_
  have p3 := put_facts A2 d3 (.bool true) (by omega)
  generalize A2.put (some d3) (.bool true) = A3 at *
  refine LeadsR.asg hP c4 (eval_tmp ((p3.2.2.2 d2 n2).trans p2.2.2.1)) hi hc ?_
  have p4 := put_facts A3 dA (.string s) (by omega)
  generalize A3.put (some dA) (.string s) = A4 at *
  refine LeadsR.asg hP c5 (eval_tmp ((p4.2.2.2 d3 (fun e => n3 e.symm)).trans p3.2.2.1)) hi hc ?_
  have p5 := put_facts A4 dB (.bool true) (by omega)
  generalize A4.put (some dB) (.bool true) = A5 at *
  refine LeadsR.nil hP hi hc (hk A5 w1 (by omega) (by rw [p5.2.1, p4.2.1, p3.2.1, p2.2.1, p1.2.1, p0.2.1]) ((p5.2.2.2 dA n4).trans p4.2.2.1) p5.2.2.1 ?_ hs)
  intro j j0 j1 j2 j3 jA jB
  rw [p5.2.2.2 j jB, p4.2.2.2 j jA, p3.2.2.2 j j3, p2.2.2.2 j j2, p1.2.2.2 j j1, p0.2.2.2 j j0]
end
end Go.Proofs.YtpbbmagjhkakgaaGreatDoor.Ev
