/-
  What the given reader's with, Print, Reach and Nodes do: for every text of at most two million bytes, every list of at most fifty million such texts; no other condition.
-/
/-
  What the statements' own helpers num, text and lend do; no condition but those that stand in each theorem.
-/
import Derived.Test.YtpbbmagjhkakgaaGreatDoorRWithToRRead
import Derived.Test.YtpbbmagjhkakgaaGreatDoorRCore
import Derived.Test.YtpbbmagjhkakgaaGreatDoorRefWithToRefCount
import Derived.Test.YtpbbmagjhkakgaaGreatDoorPureEndsToFace2
import Derived.Test.YtpbbmagjhkakgaaGreatDoorPut2ToNodes
namespace Go.Proofs.YtpbbmagjhkakgaaGreatDoor
open Go.RowKit Go.Deep

theorem rwith_any : ∀ x : BT Pay, WithOK x := by
  intro x
  induction x with
  | nil => intro v vl B BL L w _ hg; exact hg.elim
  | node b0 o0 a l r ihl ihr =>
    intro v vl B BL L w h hg hn hL hBL hlen
    have hnn : nodesT (.node b0 o0 a l r) = nodesT l + nodesT r + 1 := rfl
    obtain ⟨X, pl, pr, rfl, hB, hX, hpn, hl, hr, hcase⟩ := ref_parts h hg
    rcases hcase with ⟨rfl, rfl, rfl, rfl⟩ | ⟨gl, rfl, rfl, al, rfl⟩ | ⟨gl, gr, ⟨al, rfl⟩, ar, rfl⟩
    · exact rwith_node b0 o0 a _ _ [] (by simp) (by simp) (fun _ => rfl) none none hpn rfl X B BL vl L w hX (by simp) h hg hn hL hBL hlen
    · exact rwith_node b0 o0 a l _ [l] (fun y hy => by simp at hy; subst hy; exact ⟨ihl, gl, by omega⟩) (by simp; omega) (fun _ => rfl) (some al) none hpn rfl X B BL vl L w hX (fun j y hj => by
        match j, hj with
        | 0, hj => simp at hj; subst hj; exact ⟨_, rfl, hl⟩) h hg hn hL hBL hlen
    · exact rwith_node b0 o0 a l r [l, r] (fun y hy => by
        simp at hy
        rcases hy with rfl | rfl
        · exact ⟨ihl, gl, by omega⟩
        · exact ⟨ihr, gr, by omega⟩) (by simp; omega) (fun _ => rfl) (some al) (some ar) hpn rfl X B BL vl L w hX (fun j y hj => by
        match j, hj with
        | 0, hj => simp at hj; subst hj; exact ⟨_, rfl, hl⟩
        | 1, hj => simp at hj; subst hj; exact ⟨_, rfl, hr⟩) h hg hn hL hBL hlen

set_option maxHeartbeats 1000000 in
theorem rprint_any (s : ByteArray) (w : World) (hm : s.size ≤ 2000000) :
    Calls Tryz.prog 101 #[.string s] w fun e w' => e = .returned (printA s) ∧ Below w.heap.size w w' := by
  have hr := rread_any s w hm
  rw [read_eq] at hr
  have hso : ∀ x n, readF s = (some x, n) → Good x ∧ ZeroT x ∧ depthT x ≤ 12 ∧ n = 0 := fun x n h => readF_sound h
  have hA : Hid (printA s = match (readF s).1 with | some x => .tuple #[.string ⟨(printB x).toArray⟩, .int .i64 0] | none => .tuple #[.string ⟨#[]⟩, .int .i64 (readF s).2]) := rfl
  generalize printA s = ans at *
  generalize readF s = res at *
  go_enter Tryz.func101, Tryz.ntmps101
  go_wp2_with fail
  refine hr.mono ?_
  rintro e w1 ⟨b1, ⟨x, p, rfl, rfl, hx⟩ | ⟨rfl, rfl⟩ | ⟨rfl, rfl⟩⟩
  · obtain ⟨gx, _, dx, _⟩ := hso x 0 rfl
    have hT := rtext_any x (.pointer p) _ w1 hx gx (by have := print_le gx dx; omega)
    have HA : Hid (ans = .tuple #[.string ⟨(printB x).toArray⟩, .int .i64 0]) := hA.out
    clear hr hA hso
    go_wp2_with fail
    refine hT.mono ?_
    rintro e w2 ⟨b2, d, rfl, hd⟩
    clear hT
    have hd' : d = ⟨(printB x).toArray⟩ := bytes_ext hd
    subst hd'
    go_wp2_with fail
    go_ret2
    exact ⟨by rw [HA.out]; rfl, b1.tr b2⟩
  · have HA : Hid (ans = .tuple #[.string ⟨#[]⟩, .int .i64 1]) := hA.out
    clear hr hA hso
    go_wp2_with fail
    go_ret2
    exact ⟨by rw [HA.out]; rfl, b1⟩
  · have HA : Hid (ans = .tuple #[.string ⟨#[]⟩, .int .i64 2]) := hA.out
    clear hr hA hso
    go_wp2_with fail
    go_ret2
    exact ⟨by rw [HA.out]; rfl, b1⟩

set_option maxHeartbeats 1000000 in
theorem rreachTop_any (s : ByteArray) (w : World) (hm : s.size ≤ 2000000) :
    Calls Tryz.prog 102 #[.string s] w fun e w' => e = .returned (reachA s) ∧ Below w.heap.size w w' := by
  have hr := rread_any s w hm
  rw [read_eq] at hr
  have hso : ∀ x n, readF s = (some x, n) → Good x ∧ ZeroT x ∧ depthT x ≤ 12 ∧ n = 0 := fun x n h => readF_sound h
  have hA : Hid (reachA s = match (readF s).1 with | some x => .tuple #[.int .i64 (reachT x), .int .i64 0] | none => .tuple #[.int .i64 0, .int .i64 (readF s).2]) := rfl
  generalize reachA s = ans at *
  generalize readF s = res at *
  go_enter Tryz.func102, Tryz.ntmps102
  go_wp2_with fail
  refine hr.mono ?_
  rintro e w1 ⟨b1, ⟨x, p, rfl, rfl, hx⟩ | ⟨rfl, rfl⟩ | ⟨rfl, rfl⟩⟩
  · obtain ⟨gx, _, dx, _⟩ := hso x 0 rfl
    have hT := rreach_any x (.pointer p) _ w1 hx gx (by omega)
    have HA : Hid (ans = .tuple #[.int .i64 (reachT x), .int .i64 0]) := hA.out
    clear hr hA hso
    go_wp2_with fail
    refine hT.mono ?_
    rintro e w2 ⟨rfl, b2⟩
    clear hT
    go_wp2_with fail
    go_ret2
    exact ⟨by rw [HA.out]; rfl, b1.tr b2⟩
  · have HA : Hid (ans = .tuple #[.int .i64 0, .int .i64 1]) := hA.out
    clear hr hA hso
    go_wp2_with fail
    go_ret2
    exact ⟨by rw [HA.out]; rfl, b1⟩
  · have HA : Hid (ans = .tuple #[.int .i64 0, .int .i64 2]) := hA.out
    clear hr hA hso
    go_wp2_with fail
    go_ret2
    exact ⟨by rw [HA.out]; rfl, b1⟩

/-- What the given reader's Nodes answers, from a list of texts on. -/
def nodesG : List (List UInt8) → List ByteArray → Int × Int
  | L, [] => ((L.length : Int), 0)
  | L, t :: ts => match (readF t).1 with
    | some x => nodesG (withB L (coreT x)) ts
    | none => (0, (readF t).2)

theorem nodesG_at (L : List (List UInt8)) (texts : List ByteArray) (i : Nat) (h : i < texts.length) : nodesG L (texts.drop i) = match (readF (texts.getD i ByteArray.empty)).1 with
    | some x => nodesG (withB L (coreT x)) (texts.drop (i + 1))
    | none => (0, (readF (texts.getD i ByteArray.empty)).2) := by
  have e : texts.getD i ByteArray.empty = texts[i] := by simp [List.getD, h]
  rw [List.drop_eq_getElem_cons h, e]
  rfl

/-- BOTH COUNT THE SAME. -/
theorem nodes_eq : ∀ (ts : List ByteArray) (K : List Key) (L : List (List UInt8)), Twin K L → nodesG L ts = nodesF K ts
  | [], K, L, h => by simp only [nodesG, nodesF]; rw [h.len]
  | t :: ts, K, L, h => by
    simp only [nodesG, nodesF]
    cases hr : readF t with
    | mk o n =>
      cases o with
      | none => rfl
      | some x =>
        obtain ⟨gx, zx, _, _⟩ := readF_sound hr
        exact nodes_eq ts _ _ (count_eq h ⟨gx, zx⟩)

set_option maxHeartbeats 1000000 in
theorem rnodes_any (texts : List ByteArray) (xb xo cap : Nat) (w : World) (hn : texts.length ≤ 50000000) (hxb : xb < w.heap.size)
    (hc : ∀ j, j < texts.length → w.cell? ⟨xb, xo + j, none⟩ = some (.string (texts.getD j ByteArray.empty))) (hm : ∀ j, j < texts.length → (texts.getD j ByteArray.empty).size ≤ 2000000) :
    Calls Tryz.prog 103 #[.slice (some ⟨xb, xo, none⟩) texts.length cap] w fun e w' => e = .returned (.tuple #[.int .i64 (nodesF [] texts).1, .int .i64 (nodesF [] texts).2]) ∧ Below w.heap.size w w' := by
  rw [← nodes_eq texts [] [] Twin.nil]
  generalize hres : nodesG [] texts = res
  generalize hlen : texts.length = n at *
  go_enter Tryz.func103, Tryz.ntmps103
  go_wp2_with fail
  go_loopw [4, 5] (fun lv iv wr => ∃ (i : Nat) (L : List (List UInt8)), iv = .int .i64 i ∧ i ≤ n ∧ wr.ownsRow w.heap.size 9 1 lv L.length (strs L) ∧ Below w.heap.size w wr ∧ L.length ≤ 16384 * i ∧ Hid (nodesG L (texts.drop i) = res)) (fun _ iv _ => n - (intOf iv).toNat)
  case atStart => exact ⟨0, [], rfl, Nat.zero_le _, World.ownsRow_nil _ _ _ _, Below.refl _ _, by simp, hres⟩
  case round =>
    clear hres
    obtain ⟨i, L, rfl, hin, hown, hbw, hL, hR⟩ := hrel
    by_cases hi : i < n
    · have hlt : decide ((i : Int) < (n : Int)) = true := by simp; omega
      have hcell : wr.cell? ⟨xb, xo + i, none⟩ = some (.string (texts.getD i ByteArray.empty)) := by rw [hbw.cell (p := ⟨xb, xo + i, none⟩) hxb]; exact hc i hi
      have hRd := rread_any (texts.getD i ByteArray.empty) wr (hm i hi)
      rw [read_eq] at hRd
      have hso : ∀ x m, readF (texts.getD i ByteArray.empty) = (some x, m) → Good x ∧ ZeroT x ∧ depthT x ≤ 12 ∧ m = 0 := fun x m h => readF_sound h
      have hR2 := nodesG_at L texts i (by omega)
      rw [hR.out] at hR2
      have HR2 : Hid (res = _) := hR2
      clear hR2 hR hc hm
      generalize texts.getD i ByteArray.empty = t at *
      generalize readF t = rd at *
      go_wp2_with fail
      refine hRd.mono ?_
      rintro e w1 ⟨b1, ⟨x, p, rfl, rfl, hx⟩ | ⟨rfl, rfl⟩ | ⟨rfl, rfl⟩⟩
      · obtain ⟨gx, _, dx, _⟩ := hso x 0 rfl
        have hnl := nodes_le dx
        have hC := rcore_any x (.pointer p) wr.heap.size w1 hx gx b1.size
        have HR3 : Hid (res = nodesG (withB L (coreT x)) (texts.drop (i + 1))) := HR2.out
        have gc := good_core gx
        have hwl := withB_len (coreT x) L
        clear HR2 hso hRd
        go_wp2_with fail
        refine hC.mono ?_
        rintro e w2 ⟨q, rfl, hq, b2⟩
        clear hC
        have z1 := b1.size
        have z2 := b2.size
        have z3 := hbw.size
        have hWt := rwith_any (coreT x) (.pointer q) _ wr.heap.size w.heap.size L w2 hq gc (by omega) (own_below (own_below hown b1) b2) (by omega) (by omega)
        generalize coreT x = cx at *
        go_wp2_with fail
        refine hWt.mono ?_
        rintro e w3 ⟨b3, v3, rfl, hown3⟩
        clear hWt
        go_wp2_with fail
        go_roundw
        case rel => exact ⟨i + 1, withB L cx, by go_num, hi, hown3, ((hbw.tr b1).tr b2).tr b3, by omega, HR3.out.symm⟩
        case measure => simp only [intOf]; omega
      · have HR3 : Hid (res = (0, 1)) := HR2.out
        clear HR2 hso hRd
        go_wp2_with fail
        go_ret2
        exact ⟨by cases HR3.out; rfl, hbw.tr b1⟩
      · have HR3 : Hid (res = (0, 2)) := HR2.out
        clear HR2 hso hRd
        go_wp2_with fail
        go_ret2
        exact ⟨by cases HR3.out; rfl, hbw.tr b1⟩
    · have hlt : decide ((i : Int) < (n : Int)) = false := by simp; omega
      have HR3 : Hid (res = ((L.length : Int), 0)) := by show _ = _; rw [← hR.out, List.drop_of_length_le (by omega)]; rfl
      obtain ⟨pq, cq, rfl, _⟩ := own_form hown
      clear hR hc hm
      go_wp2_with fail
      go_ret2
      exact ⟨by cases HR3.out; rfl, hbw⟩

end Go.Proofs.YtpbbmagjhkakgaaGreatDoor

namespace Go.Proofs.YtpbbmagjhkakgaaGreatDoor
open Go.RowKit Go.Deep

theorem num_any (n : Int) (w : World) : Calls Tryz.prog 64 #[.int .i64 n] w fun e w' => e = .returned (.int .i64 n) ∧ w' = w := by
  go_enter Tryz.func64, Tryz.ntmps64
  go_wp2_with fail
  go_ret
  exact ⟨rfl, rfl⟩

/-- What an owner writes into a list of texts. -/
def textL (n : Nat) : List UInt8 := [35, UInt8.ofNat (n / 65536 % 256), UInt8.ofNat (n / 256 % 256), UInt8.ofNat (n % 256)]

set_option maxHeartbeats 400000 in
set_option maxRecDepth 100000 in
theorem text_any (n : Nat) (w : World) : Calls Tryz.prog 73 #[.int .i64 (n : Int)] w fun e w' => e = .returned (.string ⟨(textL n).toArray⟩) ∧ Below w.heap.size w w' := by
  have hcv := run_convert_bytes_back (P := Tryz.prog) (w.alloc (.cells #[.int .u8 35, .int .u8 ((n : Int) / 65536 % 256), .int .u8 ((n : Int) / 256 % 256), .int .u8 ((n : Int) % 256)] 5)) 99 9 5 ⟨w.heap.size, 0, none⟩ 4 (textL n) Tryz.underlying99 Tryz.underlying5 Tryz.underlying9 (fun j hj => by
    have hj4 : j < 4 := hj
    have e1 : (⟨w.heap.size, 0, none⟩ : Addr).add j = ⟨w.heap.size, j, none⟩ := by simp [Addr.add]; omega
    have hm : ∀ k : Nat, (UInt8.ofNat (k % 256)).toNat = k % 256 := fun k => by rw [UInt8.toNat_ofNat']; omega
    rw [e1, World.cell?_alloc_mark]
    match j, hj4 with
    | 0, _ => rfl
    | 1, _ =>
      show some _ = some (Value.int .u8 ((UInt8.ofNat (n / 65536 % 256)).toNat : Int))
      rw [hm]; simp
    | 2, _ =>
      show some _ = some (Value.int .u8 ((UInt8.ofNat (n / 256 % 256)).toNat : Int))
      rw [hm]; simp
    | 3, _ =>
      show some _ = some (Value.int .u8 ((UInt8.ofNat (n % 256)).toNat : Int))
      rw [hm]; simp)
  have hcv2 : (convert 99 9 (.slice (some ⟨w.heap.size, 0, none⟩) 4 4)).run Tryz.prog (w.alloc (.cells #[.int .u8 35, .int .u8 ((n : Int) / 65536 % 256), .int .u8 ((n : Int) / 256 % 256), .int .u8 ((n : Int) % 256)] 5)) = .ok (.string ⟨(textL n).toArray⟩) (w.alloc (.cells #[.int .u8 35, .int .u8 ((n : Int) / 65536 % 256), .int .u8 ((n : Int) / 256 % 256), .int .u8 ((n : Int) % 256)] 5)) := hcv
  clear hcv
  generalize textL n = t at *
  go_enter Tryz.func73, Tryz.ntmps73
  go_wp2_with fail
  go_ret
  exact ⟨rfl, (Below.refl _ _).al _⟩

def bstrs (L : List ByteArray) : List Value := L.map Value.string
def spareB : ByteArray := ⟨#[115, 112, 97, 114, 101]⟩

theorem bstrs_len (L : List ByteArray) : (bstrs L).length = L.length := by simp [bstrs]
theorem bstrs_one (L : List ByteArray) : ∀ u ∈ bstrs L, u.oneCell' = true := by
  intro u hu
  simp [bstrs] at hu
  obtain ⟨s, _, rfl⟩ := hu
  rfl

theorem cell_new2 (w : World) (x y : Value) (t : TypeId) : ∀ j u, [x, y][j]? = some u → (w.alloc (.cells #[x, y] t)).cell? ((⟨w.heap.size, 0, none⟩ : Addr).add j) = some u := by
  intro j u hj
  have hh := heap_new w (.cells #[x, y] t (0, 0)) _ rfl
  have : (⟨w.heap.size, 0, none⟩ : Addr).add j = ⟨w.heap.size, j, none⟩ := by simp [Addr.add]; omega
  rw [this]
  exact cell_at hh (by simpa using hj)

set_option maxHeartbeats 1000000 in
theorem lend_any (L : List ByteArray) (xb xo cap : Nat) (w : World) (hn : L.length ≤ 1000000000) (hxb : xb < w.heap.size) (hc : ∀ j, j < L.length → w.cell? ⟨xb, xo + j, none⟩ = some (.string (L.getD j ByteArray.empty))) :
    Calls Tryz.prog 61 #[.slice (some ⟨xb, xo, none⟩) L.length cap] w fun e w' => Below w.heap.size w w' ∧ ∃ v, e = .returned v ∧ w'.ownsRow w.heap.size 9 1 v (L.length + 2) (bstrs (L ++ [spareB, spareB])) := by
  obtain ⟨i0, hi, hz0, hz1, hz2⟩ := info_parts infoStr
  have hlit := World.ownsRow_lit (base := w.heap.size) (e := 9) (size := 1) w #[] 0 (Nat.le_refl _) (by unfold maxLen; omega) rfl
  have hcc : ∀ (j : Nat) (u : Value), (bstrs L)[j]? = some u → (w.alloc (.cells #[] 9)).cell? ((⟨xb, xo, none⟩ : Addr).add j) = some u := fun j u hj => by
    have hjl : j < L.length := by have := (List.getElem?_eq_some_iff.1 hj).1; rwa [bstrs_len] at this
    have e1 : (⟨xb, xo, none⟩ : Addr).add j = ⟨xb, xo + j, none⟩ := by simp [Addr.add]
    rw [e1, World.cell?_alloc_lt _ _ ⟨xb, xo + j, none⟩ hxb, hc j hjl]
    simp [bstrs, hjl] at hj
    rw [← hj]
    simp [List.getD, hjl]
  unfold spareB
  go_enter Tryz.func61, Tryz.ntmps61
  go_wp2_with (at_builtin; refine wpList_append_own _ rfl _ _ 31 rfl w.heap.size 9 i0 _ 1 16 Tryz.underlying31 hi hz0 hz1 hz2 rfl (by decide) _ _ _ rfl hlit ⟨xb, xo, none⟩ L.length cap (bstrs L) rfl (by rw [bstrs_len]; omega) hcc (bstrs_one L) (by unfold maxLen; omega) (by omega) (by simp) ?_)
  intro v4 w4 hown4 hgrow4 _
  have b4 : Below w.heap.size w w4 := ((Below.refl w.heap.size w).al _).grown hgrow4 (by simp) (fun k hk => by have e : w.heap.size = k := (by injection hk); omega)
  have z4 := b4.size
  try simp only [Nat.zero_add, List.nil_append] at hown4
  go_wp2_with (at_builtin; refine wpList_append_own _ rfl _ _ 31 rfl w.heap.size 9 i0 _ 1 16 Tryz.underlying31 hi hz0 hz1 hz2 rfl (by decide) _ _ _ rfl (hown4.alloc _) ⟨w4.heap.size, 0, none⟩ 2 2 [.string ⟨#[115, 112, 97, 114, 101]⟩, .string ⟨#[115, 112, 97, 114, 101]⟩] rfl rfl (cell_new2 w4 _ _ _) (by intro u hu; simp at hu; subst hu; rfl) (by unfold maxLen; omega) (by omega) (by simp; omega) ?_)
  intro v5 w5 hown5 hgrow5 _
  have b5 : Below w.heap.size w w5 := (b4.al _).grown hgrow5 (by simp; omega) (fun k hk => (hown4.lt k hk).1)
  go_wp2_with fail
  go_ret
  exact ⟨b5, v5, rfl, by simpa [bstrs] using hown5⟩

set_option maxHeartbeats 1000000 in
theorem lend_nil (w : World) :
    Calls Tryz.prog 61 #[.slice none 0 0] w fun e w' => Below w.heap.size w w' ∧ ∃ v, e = .returned v ∧ w'.ownsRow w.heap.size 9 1 v 2 (bstrs [spareB, spareB]) := by
  obtain ⟨i0, hi, hz0, hz1, hz2⟩ := info_parts infoStr
  have hlit := World.ownsRow_lit (base := w.heap.size) (e := 9) (size := 1) w #[] 0 (Nat.le_refl _) (by unfold maxLen; omega) rfl
  unfold spareB
  go_enter Tryz.func61, Tryz.ntmps61
  go_wp2_with (at_builtin; refine wpList_append_own _ rfl _ _ 31 rfl w.heap.size 9 i0 _ 1 16 Tryz.underlying31 hi hz0 hz1 hz2 rfl (by decide) _ _ _ rfl (hlit.alloc _) ⟨w.heap.size + 1, 0, none⟩ 2 2 [.string ⟨#[115, 112, 97, 114, 101]⟩, .string ⟨#[115, 112, 97, 114, 101]⟩] rfl rfl (by have := cell_new2 (w.alloc (.cells #[] 9)) (.string ⟨#[115, 112, 97, 114, 101]⟩) (.string ⟨#[115, 112, 97, 114, 101]⟩) 9; simpa using this) (by intro u hu; simp at hu; subst hu; rfl) (by unfold maxLen; omega) (by omega) (by simp; omega) ?_)
  intro v5 w5 hown5 hgrow5 _
  have b5 : Below w.heap.size w w5 := (((Below.refl w.heap.size w).al _).al _).grown hgrow5 (by simp; omega) (fun k hk => by have e : w.heap.size = k := (by injection hk); omega)
  go_wp2_with fail
  go_ret
  exact ⟨b5, v5, rfl, by simpa [bstrs] using hown5⟩

set_option maxHeartbeats 1000000 in
/-- An empty list that is not nil, wherever it points. -/
theorem lend_zero (a : Addr) (cap : Nat) (w : World) :
    Calls Tryz.prog 61 #[.slice (some a) 0 cap] w fun e w' => Below w.heap.size w w' ∧ ∃ v, e = .returned v ∧ w'.ownsRow w.heap.size 9 1 v 2 (bstrs [spareB, spareB]) := by
  obtain ⟨i0, hi, hz0, hz1, hz2⟩ := info_parts infoStr
  have hlit := World.ownsRow_lit (base := w.heap.size) (e := 9) (size := 1) w #[] 0 (Nat.le_refl _) (by unfold maxLen; omega) rfl
  unfold spareB
  go_enter Tryz.func61, Tryz.ntmps61
  go_wp2_with (at_builtin; refine wpList_append_own _ rfl _ _ 31 rfl w.heap.size 9 i0 _ 1 16 Tryz.underlying31 hi hz0 hz1 hz2 rfl (by decide) _ _ _ rfl hlit a 0 cap [] rfl rfl (fun j u hj => by simp at hj) (fun u hu => by cases hu) (by unfold maxLen; omega) (by omega) (by simp) ?_)
  intro v4 w4 hown4 hgrow4 _
  have b4 : Below w.heap.size w w4 := ((Below.refl w.heap.size w).al _).grown hgrow4 (by simp) (fun k hk => by have e : w.heap.size = k := (by injection hk); omega)
  have z4 := b4.size
  try simp only [Nat.zero_add, List.nil_append] at hown4
  go_wp2_with (at_builtin; refine wpList_append_own _ rfl _ _ 31 rfl w.heap.size 9 i0 _ 1 16 Tryz.underlying31 hi hz0 hz1 hz2 rfl (by decide) _ _ _ rfl (hown4.alloc _) ⟨w4.heap.size, 0, none⟩ 2 2 [.string ⟨#[115, 112, 97, 114, 101]⟩, .string ⟨#[115, 112, 97, 114, 101]⟩] rfl rfl (cell_new2 w4 _ _ _) (by intro u hu; simp at hu; subst hu; rfl) (by unfold maxLen; omega) (by omega) (by simp; omega) ?_)
  intro v5 w5 hown5 hgrow5 _
  have b5 : Below w.heap.size w w5 := (b4.al _).grown hgrow5 (by simp; omega) (fun k hk => (hown4.lt k hk).1)
  go_wp2_with fail
  go_ret
  exact ⟨b5, v5, rfl, by simpa [bstrs] using hown5⟩

end Go.Proofs.YtpbbmagjhkakgaaGreatDoor
