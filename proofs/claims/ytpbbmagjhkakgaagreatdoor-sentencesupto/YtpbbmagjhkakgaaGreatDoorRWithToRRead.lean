/-
  What the given reader's with does: a list of texts with those of all parts of a sentence, each once, as the plain function says; for every sentence that is made as it should be.
-/
/-
  What the given reader's Read does: for every text of at most two million bytes; no other condition.
-/
import Derived.Test.YtpbbmagjhkakgaaGreatDoorRTextI
import Derived.Test.YtpbbmagjhkakgaaGreatDoorRefWithToRefCount
import Derived.Test.YtpbbmagjhkakgaaGreatDoorPureRoundToPureSize
import Derived.Test.YtpbbmagjhkakgaaGreatDoorRSigns
import Derived.Test.YtpbbmagjhkakgaaGreatDoorRefGoodToRParts
import Derived.Test.YtpbbmagjhkakgaaGreatDoorRDepthToRText
import Derived.Laws.OwnMore
import Derived.Deep.Onto
namespace Go.Proofs.YtpbbmagjhkakgaaGreatDoor
open Go.RowKit Go.Deep

theorem infoStr : (Tryz.prog.info? 9).map (fun i => (i.zero, i.size, i.bytes)) = some (some (.string ⟨#[]⟩), 1, 16) := by kernel_rfl

def strs (L : List (List UInt8)) : List Value := L.map fun s => .string ⟨s.toArray⟩

theorem strs_len (L : List (List UInt8)) : (strs L).length = L.length := by simp [strs]

theorem strs_snoc (L : List (List UInt8)) (s : List UInt8) : strs (L ++ [s]) = strs L ++ [.string ⟨s.toArray⟩] := by simp [strs]

theorem strs_one (L : List (List UInt8)) : ∀ u ∈ strs L, u.oneCell' = true := by
  intro u hu
  simp [strs] at hu
  obtain ⟨s, _, rfl⟩ := hu
  rfl

/-- A text is not much longer than there are parts. -/
theorem print_parts : ∀ {x : BT Pay}, Good x → (printB x).length ≤ 40 * nodesT x
  | .nil, h => h.elim
  | .node b o a l r, h => by
    have hP : printB (.node b o a l r) = if a.op = 116 then [116, 114, 117, 101]
      else if a.op = 97 then a.name.data.toList
      else if a.op = 8743 ∨ a.op = 8744 ∨ a.op = 83 then [40] ++ printB l ++ [32] ++ opW a ++ [32] ++ printB r ++ [41]
      else opW a ++ printB l := rfl
    have hN : nodesT (.node b o a l r) = nodesT l + nodesT r + 1 := rfl
    rw [hP, hN]
    rcases h with ⟨h1, _⟩ | ⟨h1, ⟨_, h8, _⟩, _⟩ | ⟨h1, h2, h3, h4, gl, gr⟩ | ⟨h1, h2, h3, h4, gl, _⟩
    · rw [if_pos h1]; simp; omega
    · rw [if_neg (by omega), if_pos h1, size_list]; omega
    · have i1 := print_parts gl
      have i2 := print_parts gr
      have i3 := opW_len a h3
      rw [if_neg (by omega), if_neg (by omega), if_pos h1]
      simp only [List.length_append, List.length_cons, List.length_nil]
      omega
    · have i1 := print_parts gl
      have i3 := opW_len a h3
      rw [if_neg (by omega), if_neg (by omega), if_neg (by omega)]
      simp only [List.length_append]
      omega

theorem withB_len : ∀ (x : BT Pay) (L : List (List UInt8)), L.length ≤ (withB L x).length ∧ (withB L x).length ≤ L.length + nodesT x
  | .nil, L => by simp [withB, nodesT]
  | .node b o a l r, L => by
    have h1 := withB_len l L
    have h2 := withB_len r (withB L l)
    simp only [withB, nodesT]
    split
    · omega
    · simp; omega

theorem own_form {w : World} {base : Nat} {v : Value} {L : List (List UInt8)} (h : w.ownsRow base 9 1 v L.length (strs L)) : ∃ pq cq, v = .slice pq L.length cq ∧ ∀ (j : Nat) (y : List UInt8), L[j]? = some y → ∃ g, pq = some ⟨g, 0, none⟩ ∧ w.cell? ⟨g, j, none⟩ = some (Value.string ⟨y.toArray⟩) := by
  by_cases h0 : L.length = 0
  · obtain ⟨_, ⟨rfl, _⟩ | ⟨g, cap, cur, rfl, _⟩⟩ := h
    · exact ⟨none, 0, by rw [h0], fun j y hj => by have := (List.getElem?_eq_some_iff.1 hj).1; omega⟩
    · exact ⟨_, cap, rfl, fun j y hj => by have := (List.getElem?_eq_some_iff.1 hj).1; omega⟩
  · obtain ⟨g, cap, rfl, hg1, hg2, hg3, hg4⟩ := own_slice h (by omega)
    exact ⟨_, cap, rfl, fun j y hj => ⟨g, rfl, by rw [h.cellAt j (by have := (List.getElem?_eq_some_iff.1 hj).1; omega)]; simp [strs, hj]⟩⟩

theorem drop_at {α : Type} {l : List α} {i : Nat} {y : α} (h : l[i]? = some y) : l.drop i = y :: l.drop (i + 1) := by
  obtain ⟨hi, e⟩ := List.getElem?_eq_some_iff.1 h
  rw [List.drop_eq_getElem_cons hi, e]

/-- with does as withB says at this sentence. -/
def WithOK (x : BT Pay) : Prop := ∀ (v vl : Value) (B BL : Nat) (L : List (List UInt8)) (w : World), RefAt B w x v → Good x → nodesT x ≤ 100000 → w.ownsRow BL 9 1 vl L.length (strs L) → BL ≤ w.heap.size → L.length + nodesT x ≤ 1000000000000 →
  Calls Tryz.prog 105 #[vl, v] w fun e w' => Below w.heap.size w w' ∧ ∃ v', e = .returned v' ∧ w'.ownsRow BL 9 1 v' (withB L x).length (strs (withB L x))

theorem own_below {w w' : World} {base size n : Nat} {e : TypeId} {v : Value} {xs : List Value} (h : w.ownsRow base e size v n xs) (hb : Below w.heap.size w w') : w'.ownsRow base e size v n xs := by
  obtain ⟨h1, ⟨rfl, h2⟩ | ⟨g, cap, cur, rfl, h3, h4, h5⟩⟩ := h
  · exact ⟨h1, .inl ⟨rfl, h2⟩⟩
  · exact ⟨h1, .inr ⟨g, cap, cur, rfl, h3, hb.heapOf h4, h5⟩⟩

set_option maxHeartbeats 4000000 in
set_option maxRecDepth 100000 in
theorem rwith_node (b0 o0 : Nat) (a : Pay) (l r : BT Pay) (P : List (BT Pay)) (hPok : ∀ y, y ∈ P → WithOK y ∧ Good y ∧ nodesT y ≤ 100000) (hPsum : (P.map nodesT).sum ≤ nodesT (.node b0 o0 a l r)) (hPw : ∀ L, P.foldl withB L = withB (withB L l) r) (pl pr : Option Addr) (hpn : pl = none → pr = none)
    (hPv : P.length = (partL pl ++ partL pr).length) (X B BL : Nat) (vl : Value) (L : List (List UInt8)) (w : World) (hX : XAt X w (kindB a.op) a.name a.lo a.hi (.pointer pl) (.pointer pr))
    (hPr : ∀ (j : Nat) (y : BT Pay), P[j]? = some y → ∃ p, (partL pl ++ partL pr)[j]? = some (Value.pointer p) ∧ RefAt B w y (Value.pointer p))
    (hx : RefAt B w (.node b0 o0 a l r) (.pointer (some ⟨X, 0, none⟩))) (hg : Good (.node b0 o0 a l r)) (hn : nodesT (.node b0 o0 a l r) ≤ 100000) (hL : w.ownsRow BL 9 1 vl L.length (strs L)) (hBL : BL ≤ w.heap.size) (hlen : L.length + nodesT (.node b0 o0 a l r) ≤ 1000000000000) :
    Calls Tryz.prog 105 #[vl, .pointer (some ⟨X, 0, none⟩)] w fun e w' => Below w.heap.size w w' ∧ ∃ v', e = .returned v' ∧ w'.ownsRow BL 9 1 v' (withB L (.node b0 o0 a l r)).length (strs (withB L (.node b0 o0 a l r))) := by
  have hparts := rparts_any X w _ _ _ _ pl pr hX hpn
  have hT := rtext_any (.node b0 o0 a l r)
  have hpl := print_parts hg
  have hW : Hid (withB L (.node b0 o0 a l r) = if printB (.node b0 o0 a l r) ∈ P.foldl withB L then P.foldl withB L else P.foldl withB L ++ [printB (.node b0 o0 a l r)]) := by show _ = _; rw [hPw]; rfl
  have hwl := withB_len l L
  have hwr := withB_len r (withB L l)
  rw [← hPw] at hwr
  have hnn : nodesT (.node b0 o0 a l r) = nodesT l + nodesT r + 1 := rfl
  have hfl : (P.foldl withB L).length ≤ 1000000000000 := by omega
  generalize withB L (.node b0 o0 a l r) = res at *
  generalize hs : printB (.node b0 o0 a l r) = sb at *
  have hT2 : Hid (∀ W, Below w.heap.size w W → Calls Tryz.prog 145 #[.pointer (some ⟨X, 0, none⟩)] W fun e w' => Below W.heap.size W w' ∧ ∃ d, e = .returned (.string d) ∧ d.data.toList = sb) := fun W hW => by
    have := hT (.pointer (some ⟨X, 0, none⟩)) B W (hx.below hW) hg (by rw [hs]; omega)
    rw [hs] at this
    exact this
  clear hT hx
  generalize (BT.node b0 o0 a l r : BT Pay) = x at *
  generalize hvs : partL pl ++ partL pr = vs at *
  obtain ⟨i0, hi, hz0, hz1, hz2⟩ := info_parts infoStr
  go_enter Tryz.func105, Tryz.ntmps105
  go_wp2_with fail
  refine hparts.mono ?_
  rintro e w1 ⟨b1, v, rfl, hown⟩
  clear hparts
  have hvf : ∃ pv cap, v = .slice pv vs.length cap ∧ ∀ j y, vs[j]? = some y → ∃ g, pv = some ⟨g, 0, none⟩ ∧ g < w1.heap.size ∧ w1.cell? ⟨g, j, none⟩ = some y := by
    by_cases h0 : vs.length = 0
    · obtain ⟨_, ⟨rfl, _⟩ | ⟨g, cap, cur, rfl, _⟩⟩ := hown
      · exact ⟨none, 0, by rw [h0], fun j y hj => by have := (List.getElem?_eq_some_iff.1 hj).1; omega⟩
      · exact ⟨_, cap, rfl, fun j y hj => by have := (List.getElem?_eq_some_iff.1 hj).1; omega⟩
    · obtain ⟨g, cap, rfl, hg1, hg2, hg3, hg4⟩ := own_slice hown (by omega)
      exact ⟨_, cap, rfl, fun j y hj => ⟨g, rfl, hg2, by rw [hown.cellAt j (by have := (List.getElem?_eq_some_iff.1 hj).1; omega)]; exact hj⟩⟩
  obtain ⟨pv, cap, rfl, hcell⟩ := hvf
  rw [← hPv]
  have hcap : (P.length : Int) ≤ 2 := by
    have : P.length ≤ 2 := by rw [hPv, ← hvs]; cases pl <;> cases pr <;> simp [partL]
    omega
  go_wp2_with fail
  go_loopw [0, 6] (fun lv iv wr => ∃ (i : Nat) (Li : List (List UInt8)), iv = .int .i64 i ∧ i ≤ P.length ∧ wr.ownsRow BL 9 1 lv Li.length (strs Li) ∧ Below w1.heap.size w1 wr ∧ Li.length + ((P.drop i).map nodesT).sum ≤ 1000000000000 ∧ Hid ((P.drop i).foldl withB Li = P.foldl withB L)) (fun _ iv _ => P.length - (intOf iv).toNat)
  case atStart => exact ⟨0, L, rfl, Nat.zero_le _, own_below hL b1, Below.refl _ _, by rw [List.drop_zero]; omega, by rw [List.drop_zero]; rfl⟩
  case round =>
    obtain ⟨i, Li, rfl, hin, hown2, hbw, hsum, hF⟩ := hrel
    by_cases hil : i < P.length
    · have hlt : decide ((i : Int) < (P.length : Int)) = true := by simp; omega
      obtain ⟨y, hy⟩ : ∃ y, P[i]? = some y := ⟨P[i], List.getElem?_eq_getElem hil⟩
      have hdr : P.drop i = y :: P.drop (i + 1) := drop_at hy
      obtain ⟨p, hp, hpr⟩ := hPr i y hy
      obtain ⟨g, rfl, hgl, hgc⟩ := hcell i _ hp
      obtain ⟨wok, gy, ny⟩ := hPok y (List.mem_of_getElem? hy)
      have hgc2 : wr.cell? ⟨g, i, none⟩ = some (.pointer p) := (hbw.cell (p := ⟨g, i, none⟩) hgl).trans hgc
      have hw1 := b1.size
      have hw2 := hbw.size
      have hsum2 : Li.length + (nodesT y + ((P.drop (i + 1)).map nodesT).sum) ≤ 1000000000000 := by rw [hdr, List.map_cons, List.sum_cons] at hsum; exact hsum
      have hC := wok (.pointer p) _ B BL Li wr ((hpr.below b1).below hbw) gy ny hown2 (by omega) (by omega)
      have hF2 : Hid ((P.drop (i + 1)).foldl withB (withB Li y) = P.foldl withB L) := by show _ = _; rw [← hF.out, hdr]; rfl
      have hwl2 := withB_len y Li
      clear hdr hsum hF hcell hPr hPok hT2 hW wok
      go_wp2_with fail
      refine hC.mono ?_
      rintro e w3 ⟨b3, v3, rfl, hown3⟩
      clear hC
      go_wp2_with fail
      go_roundw
      case rel => exact ⟨i + 1, withB Li y, by go_num, hil, hown3, hbw.tr b3, by omega, hF2⟩
      case measure => simp only [intOf]; omega
    · have hlt : decide ((i : Int) < (P.length : Int)) = false := by simp; omega
      have hLi : Li = P.foldl withB L := by rw [← hF.out, List.drop_of_length_le (by omega)]; rfl
      rw [← hLi] at hW hfl
      have bW := b1.tr hbw
      have hC := hT2.out wr bW
      clear hF hcell hPr hPok hT2 hLi hPw hwr
      go_wp2_with fail
      refine hC.mono ?_
      rintro e w3 ⟨b3, d, rfl, hd⟩
      clear hC
      have hown3 := own_below hown2 b3
      have hd' : d = ⟨sb.toArray⟩ := bytes_ext hd
      obtain ⟨pq, cq, rfl, hLc⟩ := own_form hown3
      have bW3 := bW.tr b3
      go_wp2_with fail
      go_loopw [8] (fun iv wq => ∃ i : Nat, iv = .int .i64 i ∧ i ≤ Li.length ∧ wq = w3 ∧ Hid (∀ j y, j < i → Li[j]? = some y → y ≠ sb)) (fun iv _ => Li.length - (intOf iv).toNat)
      case atStart => exact ⟨0, rfl, Nat.zero_le _, rfl, fun j y hj => absurd hj (Nat.not_lt_zero _)⟩
      case round =>
        obtain ⟨i, rfl, hin2, rfl, hno⟩ := hrel
        by_cases hi2 : i < Li.length
        · have hlt2 : decide ((i : Int) < (Li.length : Int)) = true := by simp; omega
          obtain ⟨y, hy⟩ : ∃ y, Li[i]? = some y := ⟨Li[i], List.getElem?_eq_getElem hi2⟩
          obtain ⟨g, rfl, hgc⟩ := hLc i y hy
          by_cases heq : y = sb
          · have q1 : (y == sb) = true := by simp [heq]
            have HE : Hid (res = Li) := by show _ = _; rw [hW.out, if_pos (by rw [← heq]; exact List.mem_of_getElem? hy)]
            clear hW hno hLc
            go_wp2_with fail
            go_ret
            exact ⟨bW3, _, rfl, by rw [HE.out]; exact hown3⟩
          · have q1 : (y == sb) = false := by simp [heq]
            have hno2 : Hid (∀ j y, j < i + 1 → Li[j]? = some y → y ≠ sb) := fun j z hj hz => by
              by_cases hji : j < i
              · exact hno.out j z hji hz
              · have : j = i := by omega
                subst this
                rw [hy] at hz
                injection hz with hz
                rw [← hz]
                exact heq
            clear hW hno hLc
            go_wp2_with fail
            go_roundw
            case rel => exact ⟨i + 1, by go_num, hi2, trivial, hno2⟩
            case measure => simp only [intOf]; omega
        · have hlt2 : decide ((i : Int) < (Li.length : Int)) = false := by simp; omega
          have hnot : ¬ sb ∈ Li := by
            intro hm
            obtain ⟨j, hj, hje⟩ := List.getElem_of_mem hm
            exact hno.out j Li[j] (by omega) (List.getElem?_eq_getElem hj) hje
          have HE : Hid (res = Li ++ [sb]) := by show _ = _; rw [hW.out, if_neg hnot]
          clear hW hno hnot
          have zBL : BL ≤ wr.heap.size := by have := bW3.size; omega
          have hlit := World.ownsRow_lit (base := wr.heap.size) (e := 9) (size := 1) wr #[] 0 (Nat.le_refl _) (by unfold maxLen; omega) rfl
          have hsmall : Li.length ≤ 1000000000000 := hfl
          obtain ⟨hle, ⟨hvv, hn0⟩ | ⟨g, cp, cur, hvv, hgB, hgh, hgn, hgm, hgs, hgt⟩⟩ := id hown3
          · injection hvv with hp0 hn1 hc0
            subst hp0
            subst hc0
            obtain rfl := List.length_eq_zero_iff.1 hn0
            have z3 := bW3.size
            go_wp2_with (at_builtin; refine wpList_append_own _ rfl _ _ 31 rfl wr.heap.size 9 i0 _ 1 16 Tryz.underlying31 hi hz0 hz1 hz2 rfl (by decide) _ _ _ rfl (hlit.alloc _) ⟨wr.heap.size + 1, 0, none⟩ 1 1 [.string ⟨sb.toArray⟩] rfl rfl (by have := cell_new1 (wr.alloc (.cells #[] 9)) (.string ⟨sb.toArray⟩) 9; simpa using this) (by intro u hu; simp at hu; subst hu; rfl) (by unfold maxLen; omega) (by omega) (by simp; omega) ?_)
            intro v5 w5 hown5 hgrow5 _
            have b5 : Below w.heap.size w w5 := ((bW3.al _).al _).grown hgrow5 (by simp; omega) (fun k hk => by have e : wr.heap.size = k := (by injection hk); omega)
            go_wp2_with fail
            go_ret
            exact ⟨b5, v5, rfl, by rw [HE.out]; simpa [strs] using hown5.mono zBL⟩
          · injection hvv with hp0 hn1 hc0
            subst hp0
            subst hc0
            have hgl := heap_lt hgh
            have hcc : ∀ (j : Nat) (u : Value), (strs Li)[j]? = some u → (wr.alloc (.cells #[] 9)).cell? ((⟨g, 0, none⟩ : Addr).add j) = some u := fun j u hj => by
              have hjl : j < Li.length := by have := (List.getElem?_eq_some_iff.1 hj).1; rwa [strs_len] at this
              have e1 : (⟨g, 0, none⟩ : Addr).add j = ⟨g, j, none⟩ := by simp [Addr.add]; omega
              rw [e1, World.cell?_alloc_lt _ _ ⟨g, j, none⟩ hgl, hown3.cellAt j (by omega)]
              exact hj
            go_wp2_with (at_builtin; refine wpList_append_own _ rfl _ _ 31 rfl wr.heap.size 9 i0 _ 1 16 Tryz.underlying31 hi hz0 hz1 hz2 rfl (by decide) _ _ _ rfl hlit ⟨g, 0, none⟩ Li.length cq (strs Li) rfl (by rw [strs_len]; omega) hcc (strs_one Li) (by unfold maxLen; omega) (by omega) (by simp) ?_)
            intro v4 w4 hown4 hgrow4 _
            have b4 : Below w.heap.size w w4 := (bW3.al _).grown hgrow4 (by have := bW3.size; simp; omega) (fun k hk => by have e : wr.heap.size = k := (by injection hk); have := bW3.size; omega)
            have z4 := b4.size
            have zz : wr.heap.size + 1 ≤ w4.heap.size := by have := hgrow4.size; simpa using this
            try simp only [Nat.zero_add, List.nil_append] at hown4
            go_wp2_with (at_builtin; refine wpList_append_own _ rfl _ _ 31 rfl wr.heap.size 9 i0 _ 1 16 Tryz.underlying31 hi hz0 hz1 hz2 rfl (by decide) _ _ _ rfl (hown4.alloc _) ⟨w4.heap.size, 0, none⟩ 1 1 [.string ⟨sb.toArray⟩] rfl rfl (cell_new1 w4 _ _) (by intro u hu; simp at hu; subst hu; rfl) (by unfold maxLen; omega) (by omega) (by simp; omega) ?_)
            intro v5 w5 hown5 hgrow5 _
            have b5 : Below w.heap.size w w5 := (b4.al _).grown hgrow5 (by simp; omega) (fun k hk => by have := (hown4.lt k hk).1; have := bW3.size; omega)
            go_wp2_with fail
            go_ret
            exact ⟨b5, v5, rfl, by rw [HE.out]; simpa [strs] using hown5.mono zBL⟩

end Go.Proofs.YtpbbmagjhkakgaaGreatDoor

namespace Go.Proofs.YtpbbmagjhkakgaaGreatDoor
open Go.RowKit Go.Deep

/-- How the given reader's Read ends. -/
def RReadEnd (w : World) (res : Option (BT Pay) × Int) (e : Ending) (w' : World) : Prop :=
  Below w.heap.size w w' ∧ ((∃ x p, res = (some x, 0) ∧ e = .returned (.tuple #[.pointer p, .int .i64 0]) ∧ RefAt w.heap.size w' x (.pointer p))
    ∨ (res = (none, 1) ∧ e = .returned (.tuple #[.pointer none, .int .i64 1])) ∨ (res = (none, 2) ∧ e = .returned (.tuple #[.pointer none, .int .i64 2])))

theorem Only.new {s : Nat} {a b c : World} (h : Below a.heap.size a b) (k : Only s b c) (hs : a.heap.size ≤ s) : Below a.heap.size a c :=
  ⟨k.os.trans h.os, k.tape.trans h.tape, k.output.trans h.output, Nat.le_trans h.size k.size, fun i hi => (k.block i (Nat.lt_of_lt_of_le hi h.size) (by omega)).trans (h.block i hi)⟩

set_option maxHeartbeats 2000000 in
set_option maxRecDepth 100000 in
theorem rread_any (s : ByteArray) (w : World) (hs : s.size ≤ 2000000) : Calls Tryz.prog 144 #[.string s] w (RReadEnd w (readR s)) := by
  have hS := rsigns_any s w hs
  have HR : Hid (readR s = match sigB s s.size 0 [] with
  | none => (none, 1)
  | some u => if 300 < s.size then (none, 1)
    else match sentR (u.length + 1) u with
      | none => (none, 1)
      | some (x, r) => if skipR r = [] then (if 12 < depthT x then (none, 2) else (some x, 0)) else (none, 1)) := rfl
  have hsl := sig_len s s.size 0 []
  generalize readR s = res at *
  generalize sigB s s.size 0 [] = sg at *
  go_enter Tryz.func144, Tryz.ntmps144
  go_wp2_with fail
  refine hS.mono ?_
  rintro e w1 ⟨b1, ⟨u, d, rfl, hd, rfl⟩ | ⟨rfl, rfl⟩⟩
  · by_cases h3 : 300 < s.size
    · have HE : Hid (res = (none, 1)) := by show _ = _; rw [HR.out]; simp only; rw [if_pos h3]
      have h3' : decide ((300 : Int) < (s.size : Int)) = true := by simp; omega
      clear HR hsl hS
      go_wp2_with fail
      go_ret2
      exact ⟨b1, .inr (.inl ⟨HE.out, rfl⟩)⟩
    · have h3' : decide ((300 : Int) < (s.size : Int)) = false := by simp; omega
      have hul : u.length ≤ s.size := hsl u (by simp) (by omega) rfl
      have HR2 : Hid (res = match sentR (u.length + 1) u with
        | none => (none, 1)
        | some (x, r) => if skipR r = [] then (if 12 < depthT x then (none, 2) else (some x, 0)) else (none, 1)) := by show _ = _; rw [HR.out]; simp only; rw [if_neg h3]
      have hds : d.size = u.length := by rw [← hd, size_list]
      have hsc : ScAt w1.heap.size (w1.alloc (.cells #[.string d, .int .i64 0, .bool false] 304 (0, 0))) d 0 false := heap_new _ _ _ rfl
      have hC := rsent_any (u.length + 1) w1.heap.size 0 d u _ hsc (by omega) (Nat.zero_le _) (show d.data.toList.drop 0 = u by rw [List.drop_zero]; exact hd) (Nat.lt_succ_self _)
      have bA := b1.al (.cells #[.string d, .int .i64 0, .bool false] 304 (0, 0))
      clear HR hsl hS
      go_wp2_with fail
      refine hC.mono ?_
      rintro e w2 ⟨o2, j, p, bad, hj, h2, rfl, r2⟩
      have b2 := Only.new bA o2 b1.size
      clear hC
      go_wp2_with fail
      refine (rskip_any w1.heap.size j d bad w2 h2 (by omega)).mono ?_
      rintro e w3 ⟨rfl, o3, h4⟩
      have b3 := Only.new b2 o3 b1.size
      have c0 : w3.cell? ⟨w1.heap.size, 0, none⟩ = some (.string d) := cell_at h4 rfl
      have c1 : w3.cell? ⟨w1.heap.size, 1, none⟩ = some (.int .i64 (skipI d j)) := cell_at h4 rfl
      have c2 : w3.cell? ⟨w1.heap.size, 2, none⟩ = some (.bool bad) := cell_at h4 rfl
      rcases r2 with ⟨_, rfl, x, t, hx, ht, hxa⟩ | ⟨rfl, hx⟩
      · have hsk := ht.skip
        have hle := skipI_le hj
        obtain ⟨gx, dx⟩ := sent_good _ _ _ _ hx
        have hxa3 := (hxa.only o3 (by simp)).low (B' := w.heap.size) (by simp; have := b1.size; omega)
        generalize skipI d j = k at *
        by_cases hend : skipR t = []
        · have hk : k = d.size := by rw [hend] at hsk; have := hsk.nil; omega
          have HE : Hid (res = if 12 < depthT x then (none, 2) else (some x, 0)) := by show _ = _; rw [HR2.out, hx]; simp only; rw [if_pos hend]
          have q1 : ((k : Int) != (u.length : Int)) = false := by simp only [bne_eq_false_iff_eq]; omega
          have hD := rdepth_any x (.pointer p) w.heap.size w3.drew (hxa3.below (Below.refl _ _).drew) gx (by omega)
          have hdb : depthT x ≤ 400 := by omega
          clear HR2 hx hxa hk hend
          by_cases h12 : 12 < depthT x
          · have HE2 : Hid (res = (none, 2)) := by show _ = _; rw [HE.out, if_pos h12]
            have h12' : decide ((12 : Int) < (depthT x : Int)) = true := by simp; omega
            clear HE
            generalize depthT x = D at *
            go_wp2_with fail
            go_region
            go_wp2_with fail
            refine hD.mono ?_
            rintro e w4 ⟨rfl, b4⟩
            clear hD
            go_wp2_with fail
            go_ret2
            exact ⟨b3.drew.tr b4, .inr (.inr ⟨HE2.out, rfl⟩)⟩
          · have HE2 : Hid (res = (some x, 0)) := by show _ = _; rw [HE.out, if_neg h12]
            have h12' : decide ((12 : Int) < (depthT x : Int)) = false := by simp; omega
            clear HE
            generalize depthT x = D at *
            go_wp2_with fail
            go_region
            go_wp2_with fail
            refine hD.mono ?_
            rintro e w4 ⟨rfl, b4⟩
            clear hD
            go_wp2_with fail
            go_ret2
            exact ⟨b3.drew.tr b4, .inl ⟨x, p, HE2.out, rfl, hxa3.below ((Below.refl _ _).drew.tr b4)⟩⟩
        · have hk : k ≠ d.size := by
            cases hv : skipR t with
            | nil => exact absurd hv hend
            | cons c r => rw [hv] at hsk; obtain ⟨hl, _⟩ := hsk.cons; omega
          have HE : Hid (res = (none, 1)) := by show _ = _; rw [HR2.out, hx]; simp only; rw [if_neg hend]
          have q1 : ((k : Int) != (u.length : Int)) = true := by simp only [bne_iff_ne]; omega
          clear HR2 hx hxa hk hend
          go_wp2_with fail
          go_region
          go_wp2_with fail
          go_ret2
          exact ⟨b3.drew, .inr (.inl ⟨HE.out, rfl⟩)⟩
      · have HE : Hid (res = (none, 1)) := by
          show _ = _
          rcases hx with hx | hx
          · cases hx
          · rw [HR2.out, hx]
        clear HR2 hx
        generalize skipI d j = k at *
        go_wp2_with fail
        go_region
        go_wp2_with fail
        go_ret2
        exact ⟨b3.drew, .inr (.inl ⟨HE.out, rfl⟩)⟩
  · have HE : Hid (res = (none, 1)) := HR.out
    clear HR hsl hS
    go_wp2_with fail
    go_ret2
    exact ⟨b1, .inr (.inl ⟨HE.out, rfl⟩)⟩

end Go.Proofs.YtpbbmagjhkakgaaGreatDoor
