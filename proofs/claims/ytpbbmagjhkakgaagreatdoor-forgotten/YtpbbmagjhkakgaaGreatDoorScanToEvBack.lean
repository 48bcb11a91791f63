import Derived.Test.YtpbbmagjhkakgaaGreatDoorEvRepToShelf
import Derived.Test.YtpbbmagjhkakgaaGreatDoorPureToPureScan
import Derived.RangeFuncNested
import Derived.RangeFuncBound
import Derived.RangeFuncCalls
import Derived.RangeFuncLeaves
import Derived.Shelf.Abstract
import Derived.Shelf.RegionOpen
import Derived.WalkKit
import Derived.OwnWalkIn
import Derived.TacticsInMore
import Derived.LoopNIn
import Derived.LoopIn
namespace Go.Proofs.YtpbbmagjhkakgaaGreatDoor
open Go.RowKit
set_option maxHeartbeats 400000 in
theorem whyNoSign_any (rest : ByteArray) (r : Int) (w : World) :
  Calls Tryz.prog 152 #[.string rest, .int .i32 r] w fun e w' => (∃ s, e = .returned (.string s)) ∧ w' = w := by
 by_cases hr : r = 65533
 ·subst hr
  go_enter Tryz.func152, Tryz.ntmps152
  go_wp2_with (go_at_call 185; refine (Tryz.strings_HasPrefix _ _ _).mono ?_; rintro e w' ⟨rfl, rfl⟩)
  all_goals go_ret
  all_goals exact ⟨⟨_, rfl⟩, rfl⟩
 ·have hr' : (r == 65533) = false := by simp [hr]
  go_enter Tryz.func152, Tryz.ntmps152
  go_wp2_with fail
  go_ret
  exact ⟨⟨_, rfl⟩, rfl⟩
theorem infoTok : (Tryz.prog.info? 260).map (fun i => (i.zero, i.size, i.bytes)) = some (some (.agg #[.int .i32 0, .int .i64 0, .string ⟨#[]⟩]), 3, 32) := by kernel_rfl
theorem cells_three_new (w : World) (t : Tok) (e : TypeId) : ∀ j u, (tokCells t)[j]? = some u → (w.alloc (.cells #[.int .i32 t.sign, .int .i64 t.place, .string t.word] e)).cell? ((⟨w.heap.size, 0, none⟩ : Addr).add j) = some u := by
 intro j u hj
 have hh := heap_new w (.cells #[.int .i32 t.sign, .int .i64 t.place, .string t.word] e (0, 0)) _ rfl
 have : (⟨w.heap.size, 0, none⟩ : Addr).add j = ⟨w.heap.size, j, none⟩ := by simp [Addr.add]; omega
 rw [this]
 exact cell_at hh (by simpa [tokCells] using hj)
theorem tok_one (t : Tok) : ∀ u, u ∈ tokCells t → u.oneCell' = true := by
 intro u hu
 simp [tokCells] at hu
 rcases hu with rfl | rfl | rfl <;> rfl
theorem flat_snoc (ts : List Tok) (t : Tok) : ((ts ++ [t]).map tokCells).flatten = (ts.map tokCells).flatten ++ tokCells t := by simp
theorem flat_len (ts : List Tok) : (ts.map tokCells).flatten.length = ts.length * 3 := by
 induction ts with
 | nil => rfl
 | cons a l ih => simp only [List.map_cons, List.flatten_cons, List.length_append, ih, List.length_cons]; simp [tokCells]; omega
theorem own_slice {w : World} {base size n : Nat} {e : TypeId} {v : Value} {xs : List Value} (h : w.ownsRow base e size v n xs) (hn : 0 < n) : ∃ g cap, v = .slice (some ⟨g, 0, none⟩) n cap ∧ base ≤ g ∧ g < w.heap.size ∧ n ≤ cap ∧ cap ≤ maxLen := by
 obtain ⟨_, ⟨_, hz⟩ | ⟨g, cap, cur, hv, hg, hh, hn, hm, hs, ht⟩⟩ := h
 ·omega
 ·exact ⟨g, cap, hv, hg, heap_lt hh, hn, hm⟩
theorem iter_grown {w W w2 : World} {o : Obj} {s : ByteArray} {p n : Nat} {e : TypeId} {size : Nat} {v : Value} {xs : List Value} (hit : W.heap[w.heap.size]? = some (.stringIter s p)) (hown : W.ownsRow (w.heap.size + 1) e size v n xs) (hg : (W.alloc o).grownBy w2 v.ownBlock) :
  w2.heap[w.heap.size]? = some (.stringIter s p) := by
 have hl := heap_lt hit
 rw [hg.block _ (by simp; omega) (fun h => by have := (hown.lt _ h.symm).1; omega), Lib.alloc_old W o _ hl]
 exact hit
theorem toks_of_own {base : Nat} {w : World} {v : Value} {ts : List Tok} (h : w.ownsRow base 260 3 v ts.length (ts.map tokCells).flatten) (hne : ts ≠ []) : ToksAt w.heap.size w v ts := by
 obtain ⟨hl, ⟨_, hz⟩ | ⟨g, cap, cur, hv, hg, hh, hn, hm, hs, ht⟩⟩ := h
 ·exact absurd (List.length_eq_zero_iff.1 hz) hne
 ·refine ⟨g, 0, cap, cur, _, _, cur.toList.drop (ts.length * 3), hv, heap_lt hh, hh, hn, hm, ?_⟩
  rw [← ht, List.drop_zero, List.take_append_drop]
def ScanEnd (w : World) (res : Option (List Tok)) (e : Ending) (w' : World) : Prop :=
 Below w.heap.size w w' ∧ ((∃ ts v, res = some ts ∧ e = .returned (.tuple #[v, .nilIface]) ∧ ToksAt w'.heap.size w' v ts ∧ Ends ts ∧ ts.length ≤ 305)
  ∨ (res = none ∧ ∃ fa, e = .returned (.tuple #[.slice none 0 0, .iface 201 (.pointer (some fa))])))
set_option maxHeartbeats 4000000 in
set_option maxRecDepth 100000 in
theorem scan_any (s : ByteArray) (w : World) (hs : s.size ≤ 300) :
  Calls Tryz.prog 113 #[.string s] w (ScanEnd w (scanF s s.size 0 32 [])) := by
 generalize hres : scanF s s.size 0 32 [] = res
 go_enter Tryz.func113, Tryz.ntmps113
 go_wp2
 go_loopw [4, 5] (fun v l wr => ∃ (pos b : Nat) (last : Int) (toks : List Tok), wr.heap[w.heap.size]? = some (.stringIter s pos) ∧ wr.ownsRow (w.heap.size + 1) 260 3 v toks.length (toks.map tokCells).flatten ∧ l = .int .i32 last ∧ Below w.heap.size w wr ∧ Hid (scanF s b pos last toks = res) ∧ s.size ≤ pos + b ∧ Mid pos last toks ∧ pos ≤ 304) (fun _ _ wr => s.size - wr.iterPos w.heap.size)
 case atStart =>
  refine ⟨0, s.size, 32, [], ?_, World.ownsRow_nil _ _ _ _, rfl, ?_, hres, by omega, Mid.start, by omega⟩
  ·exact World.iter_heap w s 0
  ·exact (Below.refl _ _).al (.stringIter s 0)
 case round =>
  clear hres
  obtain ⟨pos, b, last, toks, hit, hown, rfl, hbw, hsc, hfu, hmid, hpos⟩ := hrel
  have hlen := hmid.len
  by_cases hp : pos < s.size
  ·have hnx : ∀ ty, (Instr.next (.pointer (some ⟨w.heap.size, 0, none⟩)) true ty).run Tryz.prog wr = _ := fun ty => Lib.run_next_any_at wr w.heap.size s pos ty hit hp
   have hwd := width_pos s pos hp
   have hwl := width_le s pos
   obtain ⟨f, rfl⟩ : ∃ f, b = f + 1 := ⟨b - 1, by omega⟩
   have hit2 := Lib.iterAt_heap wr w.heap.size s pos (pos + (Utf8.decode s pos).2) hit
   have hbw2 := Lib.below_iterAt hbw (k := w.heap.size) (Nat.le_refl _) s (pos + (Utf8.decode s pos).2)
   have hown2 := ownsRow_iterAt hown (k := w.heap.size) (by omega) s (pos + (Utf8.decode s pos).2)
   have hS : Hid (res = (if signF (Utf8.decode s pos).1 = -2 then none
    else if signF (Utf8.decode s pos).1 = last ∧ joinsB (signF (Utf8.decode s pos).1) = true then
     scanF s f (pos + (Utf8.decode s pos).2) (signF (Utf8.decode s pos).1) (growF s pos toks)
    else if signF (Utf8.decode s pos).1 = 32 then scanF s f (pos + (Utf8.decode s pos).2) (signF (Utf8.decode s pos).1) toks
    else scanF s f (pos + (Utf8.decode s pos).2) (signF (Utf8.decode s pos).1) (toks ++ [⟨signF (Utf8.decode s pos).1, pos, Utf8.encode (Utf8.decode s pos).1⟩]))) := by
    show _ = _
    rw [← hsc.out]
    show scanF s (f + 1) pos last toks = _
    rw [scanF, if_pos hp]
   have hm : Hid (wr.iterPos w.heap.size = pos) := iterPos_of hit
   have hsg := signF_ne (Utf8.decode s pos).1
   go_wp2_with fail
   refine (signOf_any _ _).mono ?_
   rintro e w1 ⟨rfl, rfl⟩
   clear hnx hit hown hbw hsc
   generalize wr.iterAt w.heap.size s (pos + (Utf8.decode s pos).2) = W at *
   generalize ((Utf8.decode s pos).1 : Int) = r at *
   generalize (Utf8.decode s pos).2 = wid at *
   generalize signF r = sg at *
   by_cases h2 : sg = -2
   ·have hR : Hid (res = none) := by show _ = _; rw [hS.out, if_pos h2]
    subst h2
    clear hS
    go_wp2_with fail
    refine (whyNoSign_any _ _ _).mono ?_
    rintro e w1 ⟨⟨str, rfl⟩, rfl⟩
    go_wp2_with fail
    go_ret2
    exact ⟨hbw2.al _, .inr ⟨hR.out, _, rfl⟩⟩
   ·have q1 : (sg == -2) = false := by simp [h2]
    have hs1 : sg ≠ -1 := by omega
    by_cases hj : sg = last ∧ joinsB sg = true
    ·have hR : Hid (res = scanF s f (pos + wid) sg (growF s pos toks)) := by show _ = _; rw [hS.out, if_neg h2, if_pos hj]
     obtain ⟨hl, hjb⟩ := hj
     subst hl
     obtain ⟨ts, t, rfl⟩ : ∃ ts t, toks = ts ++ [t] := ⟨toks.dropLast, toks.getLast (hmid.join hjb), (List.dropLast_concat_getLast (hmid.join hjb)).symm⟩
     rw [growF_snoc] at hR
     obtain ⟨g, cap, hv, hg1, hg2, hcap, hmax⟩ := own_slice hown2 (by simp)
     subst hv
     simp only [List.length_append, List.length_cons, List.length_nil, Nat.zero_add] at *
     have cp : W.cell? ⟨g, ts.length * 3 + 1, none⟩ = some (.int .i64 t.place) := by
      rw [hown2.cellAt _ (by omega), flat_snoc, List.getElem?_append_right (by rw [flat_len]; omega), flat_len]
      simp [tokCells]
     have cw : W.cell? ⟨g, ts.length * 3 + 2, none⟩ = some (.string t.word) := by
      rw [hown2.cellAt _ (by omega), flat_snoc, List.getElem?_append_right (by rw [flat_len]; omega), flat_len]
      simp [tokCells]
     have fw : W.frozen? ⟨g, ts.length * 3 + 2, none⟩ = false := hown2.frozenAt _
     have htp := hmid.each t (by simp)
     obtain ⟨_, _, hp0, hp1⟩ := htp
     unfold maxLen at hmax
     go_wp2_with fail
     refine (joins_any _ _).mono ?_
     rintro e w1 ⟨rfl, rfl⟩
     clear hS h2 hsg
     go_wp2_with fail
     have hR' : Hid (scanF s f (pos + wid) sg (ts ++ [⟨t.sign, t.place, s.extract t.place.toNat (pos + 1)⟩]) = res) := hR.out.symm
     have hit3 : (w1.setCell ⟨g, ts.length * 3 + 2, none⟩ (.string (s.extract t.place.toNat (pos + 1)))).heap[w.heap.size]? = some (.stringIter s (pos + wid)) := by
      rw [Below.heap_setCell _ _ _ _ (by show w.heap.size ≠ g; omega)]; exact hit2
     refine ⟨⟨pos + wid, f, sg, ts ++ [⟨t.sign, t.place, s.extract t.place.toNat (pos + 1)⟩], hit3, ?_, rfl, ?_, hR', by omega, hmid.grow (by omega) hs, by omega⟩, ?_⟩
     ·have := (hown2.stored (ts.length * 3 + 2) (.string (s.extract t.place.toNat (pos + 1)))).1
      rw [flat_snoc] at this
      rw [flat_snoc]
      rw [List.set_append_right _ _ (by rw [flat_len]; omega), flat_len] at this
      have e2 : ts.length * 3 + 2 - ts.length * 3 = 2 := by omega
      rw [e2] at this
      simpa [tokCells] using this
     ·exact hbw2.setCell (p := ⟨g, ts.length * 3 + 2, none⟩) (by show w.heap.size ≤ g; omega) _
     ·rw [iterPos_of hit3, hm.out]; omega
    ·have hR : Hid (res = if sg = 32 then scanF s f (pos + wid) sg toks else scanF s f (pos + wid) sg (toks ++ [⟨sg, pos, Utf8.encode r⟩])) := by show _ = _; rw [hS.out, if_neg h2, if_neg hj]
     clear hS h2 hsg
     have hj2 : (sg == last) = false ∨ ((sg == last) = true ∧ joinsB sg = false) := by
      by_cases hl : sg = last
      ·exact .inr ⟨by simp [hl], by cases hb : joinsB sg with | true => exact absurd ⟨hl, hb⟩ hj | false => rfl⟩
      ·exact .inl (by simp [hl])
     clear hj
     obtain ⟨i0, hi, hz0, hz1, hz2⟩ := info_parts infoTok
     by_cases h32 : sg = 32
     ·have hR2 : Hid (scanF s f (pos + wid) 32 toks = res) := by show _ = _; rw [hR.out, if_pos h32, h32]
      subst h32
      clear hR
      have hm3 := hmid.blank (p2 := pos + wid) (by omega)
      rcases hj2 with hj2 | ⟨hj2, hj3⟩
      ·go_wp2_with fail
       exact ⟨⟨pos + wid, f, 32, toks, hit2, hown2, rfl, hbw2, hR2, by omega, hm3, by omega⟩, by rw [iterPos_of hit2, hm.out]; omega⟩
      ·go_wp2_with fail
       refine (joins_any _ _).mono ?_
       rintro e w1 ⟨rfl, rfl⟩
       go_wp2_with fail
       exact ⟨⟨pos + wid, f, 32, toks, hit2, hown2, rfl, hbw2, hR2, by omega, hm3, by omega⟩, by rw [iterPos_of hit2, hm.out]; omega⟩
     ·have hR2 : Hid (scanF s f (pos + wid) sg (toks ++ [⟨sg, pos, Utf8.encode r⟩]) = res) := by show _ = _; rw [hR.out, if_neg h32]
      have q3 : (sg != 32) = true := by simp [h32]
      clear hR h32
      rcases hj2 with hj2 | ⟨hj2, hj3⟩
      ·go_wp2_with (at_builtin; refine wpList_append_own _ rfl _ _ 204 rfl (w.heap.size + 1) 260 i0 _ 3 32 Tryz.underlying204 hi hz0 hz1 hz2 rfl (by decide) _ _ _ rfl (hown2.alloc _) ⟨W.heap.size, 0, none⟩ 1 1 (tokCells ⟨sg, pos, Utf8.encode r⟩) rfl rfl ?c1 ?c2 ?c3 ?c4 ?c5 ?_)
       case c1 => exact cells_three_new W ⟨sg, pos, Utf8.encode r⟩ _
       case c2 => exact tok_one _
       case c3 => unfold maxLen; omega
       case c4 => omega
       case c5 => have := hbw2.size; have := heap_lt hit2; simp; omega
       intro v' w2 hown' hgrow _
       go_wp2_with fail
       have hit3 := iter_grown hit2 hown2 hgrow
       refine ⟨⟨pos + wid, f, sg, toks ++ [⟨sg, pos, Utf8.encode r⟩], hit3, ?_, rfl, ?_, hR2, by omega, hmid.more (by omega) hs1, by omega⟩, ?_⟩
       ·rw [flat_snoc]; simpa using hown'
       ·exact (hbw2.al _).grown hgrow (by have := hbw2.size; simp; omega) (fun k hk => by have := (hown2.lt k hk).1; omega)
       ·rw [iterPos_of hit3, hm.out]; omega
      ·go_wp2_with fail
       refine (joins_any _ _).mono ?_
       rintro e w1 ⟨rfl, rfl⟩
       go_wp2_with (at_builtin; refine wpList_append_own _ rfl _ _ 204 rfl (w.heap.size + 1) 260 i0 _ 3 32 Tryz.underlying204 hi hz0 hz1 hz2 rfl (by decide) _ _ _ rfl (hown2.alloc _) ⟨w1.heap.size, 0, none⟩ 1 1 (tokCells ⟨sg, pos, Utf8.encode r⟩) rfl rfl ?c1 ?c2 ?c3 ?c4 ?c5 ?_)
       case c1 => exact cells_three_new w1 ⟨sg, pos, Utf8.encode r⟩ _
       case c2 => exact tok_one _
       case c3 => unfold maxLen; omega
       case c4 => omega
       case c5 => have := hbw2.size; have := heap_lt hit2; simp; omega
       intro v' w2 hown' hgrow _
       go_wp2_with fail
       have hit3 := iter_grown hit2 hown2 hgrow
       refine ⟨⟨pos + wid, f, sg, toks ++ [⟨sg, pos, Utf8.encode r⟩], hit3, ?_, rfl, ?_, hR2, by omega, hmid.more (by omega) hs1, by omega⟩, ?_⟩
       ·rw [flat_snoc]; simpa using hown'
       ·exact (hbw2.al _).grown hgrow (by have := hbw2.size; simp; omega) (fun k hk => by have := (hown2.lt k hk).1; omega)
       ·rw [iterPos_of hit3, hm.out]; omega
  ·have hnx : ∀ ty, (Instr.next (.pointer (some ⟨w.heap.size, 0, none⟩)) true ty).run Tryz.prog wr = _ := fun ty => Lib.run_next_end_at wr w.heap.size s pos ty hit hp
   have hR : Hid (res = some (toks ++ [endTok s])) := by show _ = _; rw [← hsc.out, scanF_end s b pos last toks hp]
   have hends := hmid.ends s
   obtain ⟨i0, hi, hz0, hz1, hz2⟩ := info_parts infoTok
   clear hsc
   go_wp2_with (at_builtin; refine wpList_append_own _ rfl _ _ 204 rfl (w.heap.size + 1) 260 i0 _ 3 32 Tryz.underlying204 hi hz0 hz1 hz2 rfl (by decide) _ _ _ rfl (hown.alloc _) ⟨wr.heap.size, 0, none⟩ 1 1 (tokCells (endTok s)) rfl rfl ?c1 ?c2 ?c3 ?c4 ?c5 ?_)
   case c1 => exact cells_three_new wr (endTok s) _
   case c2 => exact tok_one _
   case c3 => unfold maxLen; omega
   case c4 => omega
   case c5 => have := heap_lt hit; simp; omega
   intro v' w2 hown' hgrow _
   go_wp2_with fail
   go_ret2
   have hown3 : w2.ownsRow (w.heap.size + 1) 260 3 v' (toks ++ [endTok s]).length ((toks ++ [endTok s]).map tokCells).flatten := by rw [flat_snoc]; simpa using hown'
   refine ⟨?_, .inl ⟨_, _, hR.out, rfl, toks_of_own hown3 (by simp), hends, by simp; omega⟩⟩
   exact (hbw.al _).grown hgrow (by have := hbw.size; simp; omega) (fun k hk => by have := (hown.lt k hk).1; omega)
end Go.Proofs.YtpbbmagjhkakgaaGreatDoor
namespace Go.Proofs.YtpbbmagjhkakgaaGreatDoor.Ev
open Go.RowKit Go.Deep
structure NameOK (s : ByteArray) : Prop where
  low : 1 ≤ s.size
  high : s.size ≤ 8
  full : (s.toList == []) = false
  other : (s.toList == [116, 114, 117, 101]) = false
  all : ∀ pos, pos < s.size → 97 ≤ ((Utf8.decode s pos).1 : Int) ∧ ((Utf8.decode s pos).1 : Int) ≤ 122
set_option maxHeartbeats 1000000 in
theorem isName_ok (s : ByteArray) (hs : NameOK s) (w : World) : Calls Tryz.prog 167 #[.string s] w fun e w' => e = .returned (.bool true) ∧ Below w.heap.size w w' := by
  obtain ⟨hl, hh, he, ho, hall⟩ := hs
  go_enter Tryz.func167, Tryz.ntmps167
  go_wp2_with fail
  go_loopw [4] (fun _ wr => ∃ pos : Nat, wr.heap[w.heap.size]? = some (.stringIter s pos) ∧ Below w.heap.size w wr) (fun _ wr => s.size - wr.iterPos w.heap.size)
  case atStart => exact ⟨0, World.iter_heap w s 0, (Below.refl _ _).al (.stringIter s 0)⟩
  case round =>
    obtain ⟨pos, hit, hbw⟩ := hrel
    by_cases hp : pos < s.size
    · have hnx : ∀ ty, (Instr.next (.pointer (some ⟨w.heap.size, 0, none⟩)) true ty).run Tryz.prog wr = _ := fun ty => Lib.run_next_any_at wr w.heap.size s pos ty hit hp
      have hwd := width_pos s pos hp
      have hit2 := Lib.iterAt_heap wr w.heap.size s pos (pos + (Utf8.decode s pos).2) hit
      have hbw2 := Lib.below_iterAt hbw (k := w.heap.size) (Nat.le_refl _) s (pos + (Utf8.decode s pos).2)
      have hm : Hid (wr.iterPos w.heap.size = pos) := iterPos_of hit
      have ha := hall pos hp
      clear hall
      go_wp2_with fail
      generalize wr.iterAt w.heap.size s (pos + (Utf8.decode s pos).2) = W at *
      go_roundw
      case rel => exact ⟨_, hit2, hbw2⟩
      case measure => rw [hm.out, iterPos_of hit2]; omega
    · have hnx : ∀ ty, (Instr.next (.pointer (some ⟨w.heap.size, 0, none⟩)) true ty).run Tryz.prog wr = _ := fun ty => Lib.run_next_end_at wr w.heap.size s pos ty hit hp
      go_wp2_with fail
      go_ret
      exact ⟨rfl, hbw⟩
def StrsIn (w : World) (ao : Option Addr) (A : List ByteArray) : Prop := A ≠ [] → ∃ b off, ao = some ⟨b, off, none⟩ ∧ b < w.heap.size ∧ ∀ j, j < A.length → w.cell? ⟨b, off + j, none⟩ = some (.string (A.getD j ByteArray.empty))
theorem StrsIn.below {w w' : World} {ao : Option Addr} {A : List ByteArray} (h : StrsIn w ao A) (hb : Below w.heap.size w w') : StrsIn w' ao A := fun hne => by
  obtain ⟨b, off, h1, h2, h3⟩ := h hne
  exact ⟨b, off, h1, Nat.lt_of_lt_of_le h2 hb.size, fun j hj => by rw [hb.cell (p := ⟨b, off + j, none⟩) h2]; exact h3 j hj⟩
theorem contains_any (w : World) (ao : Option Addr) (A : List ByteArray) (cap n : Nat) (x : ByteArray) (h : StrsIn w ao A) (hn : n ≤ A.length) (hA : A.length ≤ 1000000) : Calls Tryz.prog 168 #[.slice ao n cap, .string x] w fun e w' => e = .returned (.bool (Lib.containsS (A.take n) x)) ∧ w' = w := by
  cases n with
  | zero => exact (Tryz.slices_Contains_string_empty ao cap x w).mono fun e w' ⟨h1, h2⟩ => ⟨by rw [h1]; rfl, h2⟩
  | succ n =>
    obtain ⟨b, off, rfl, _, hc⟩ := h (by intro e; rw [e] at hn; simp at hn)
    exact Tryz.slices_Contains_string b off (n + 1) cap A x w hn (by omega) hc
set_option maxHeartbeats 1000000 in
theorem checkAtoms_ok (ao : Option Addr) (A : List ByteArray) (cap : Nat) (w : World) (h : StrsIn w ao A) (hA : A.length ≤ 10) (hcap : A.length ≤ cap) (hN : ∀ j, j < A.length → NameOK (A.getD j ByteArray.empty)) (hD : ∀ j, j < A.length → Lib.containsS (A.take j) (A.getD j ByteArray.empty) = false) :
    Calls Tryz.prog 126 #[.slice ao A.length cap] w fun e w' => e = .returned .nilIface ∧ Below w.heap.size w w' := by
  have HA : Hid (∀ w', Below w.heap.size w w' → StrsIn w' ao A) := fun w' hb => h.below hb
  generalize hlen : A.length = n at *
  clear h
  go_enter Tryz.func126, Tryz.ntmps126
  go_wp2_with fail
  go_loopw [13] (fun iv wr => ∃ i : Nat, iv = .int .i64 i ∧ i ≤ n ∧ Below w.heap.size w wr) (fun iv _ => n - (intOf iv).toNat)
  case atStart => exact ⟨0, rfl, Nat.zero_le _, Below.refl _ _⟩
  case round =>
    obtain ⟨i, rfl, hin, hbw⟩ := hrel
    by_cases hi : i < n
    · obtain ⟨b, off, rfl, hb, hc⟩ := HA.out wr hbw (by intro e; rw [e] at hlen; simp at hlen; omega)
      have q0 := hc i (by omega)
      have hNi := hN i hi
      have hDi := hD i hi
      have HC := fun w' hb' => contains_any w' (some ⟨b, off, none⟩) A cap i (A.getD i ByteArray.empty) (HA.out w' hb') (by omega) (by omega)
      rw [hDi] at HC
      have HC : Hid (∀ w', Below w.heap.size w w' → Calls Tryz.prog 168 #[.slice (some ⟨b, off, none⟩) i cap, .string (A.getD i ByteArray.empty)] w' fun e w'' => e = .returned (.bool false) ∧ w'' = w') := HC
      clear hc hN hD hDi
      generalize A.getD i ByteArray.empty = x at *
      go_wp2_with fail
      refine (isName_ok x hNi _).mono ?_
      rintro e w1 ⟨rfl, hb1⟩
      go_wp2_with fail
      refine (HC.out _ (hbw.tr hb1)).mono ?_
      rintro e w2 ⟨rfl, rfl⟩
      go_wp2_with fail
      go_roundw
      case rel => exact ⟨i + 1, by go_num, by omega, hbw.tr hb1⟩
      case measure => simp only [intOf]; omega
    · obtain rfl : i = n := by omega
      go_wp2_with fail
      go_ret
      exact ⟨rfl, hbw⟩
end Go.Proofs.YtpbbmagjhkakgaaGreatDoor.Ev
namespace Go.Proofs.YtpbbmagjhkakgaaGreatDoor.Ev
open Go.RowKit Go.Shelf
attribute [local go_sem] Oper.semAt_some
def downTo (n : Nat) : Nat → List { j : Nat // j < n }
  | 0 => []
  | k + 1 => downTo n k ++ (if h : k < n then [⟨n - 1 - k, by omega⟩] else [])
theorem downTo_succ {n k : Nat} (h : k < n) : downTo n (k + 1) = downTo n k ++ [⟨n - 1 - k, by omega⟩] := by simp [downTo, h]
theorem downTo_len {n : Nat} : ∀ k, k ≤ n → (downTo n k).length = k
  | 0, _ => rfl
  | k + 1, h => by rw [downTo_succ (by omega), List.length_append, downTo_len k (by omega)]; rfl
def evVal (e : EvC) : Value := .agg #[.int .i64 e.number, .int .i64 e.time, .slice e.ao e.al e.ac, .slice e.so e.sl e.sc]
set_option maxRecDepth 100000 in
set_option maxHeartbeats 2000000 in
theorem back1_in (F : Fence) (n : Nat) (h8 : F.fn 215) (hro : F.round = none) (hn : 1 ≤ n) (l Bs n₀ g cap len : Nat) (f : Nat → EvC) (hreach : len ≤ 1000000) (hb : g < n₀) (hBn : Bs < n₀) (J Jx : List { j : Nat // j < len } → World → Prop)
    (hY : ∀ pre x W, J pre W → pre.length < len → YieldAt F (n - 1) Tryz.prog l #[.int .i64 (x.1 : Int), evVal (f x.1)] W fun e W' =>
      (e = .returned (.bool true) ∧ J (pre ++ [x]) W' ∧ Below n₀ W W') ∨ (e = .returned (.bool false) ∧ Jx (pre ++ [x]) W'))
    (W : World) (hBs : W.cell? ⟨Bs, 0, none⟩ = some (.slice (some ⟨g, 0, none⟩) len cap)) (hcap : len ≤ cap) (hc : ∀ i k v, i < len → (evCells (f i))[k]? = some v → W.cell? ⟨g, i * 4 + k, none⟩ = some v) (h0 : J [] W) :
    CallsIn F n Tryz.prog 215 #[.func (.yield l) #[] #[], .pointer (some ⟨Bs, 0, none⟩)] W fun e W' => (∃ v, e = .returned v) ∧
      ((∃ ys, ys = downTo len len ∧ J ys W') ∨ (∃ pre, (∃ k, k ≤ len ∧ pre = downTo len k) ∧ Jx pre W')) := by
  refine callsIn_of_wp Tryz.func215 rfl h8 ?_ hro
  simp only [Tryz.ntmps215, List.size_toArray, List.length_cons, List.length_nil, Nat.reduceAdd, Nat.reduceSub, Array.replicate_succ, Array.replicate_zero, List.push_toArray, List.append_toArray, List.nil_append, List.cons_append]
  gi_wp2
  gi_loopw [3] (fun i wr => ∃ k : Nat, k ≤ len ∧ i = .int .i64 ((len : Int) - 1 - k) ∧ J (downTo len k) wr ∧ Below n₀ W wr)
    (fun i _ => ((intOf i) + 1).toNat)
  case atStart => exact ⟨0, Nat.zero_le _, by go_num, h0, Below.refl _ _⟩
  case round =>
    obtain ⟨k, hk, rfl, hJs, hnx⟩ := hrel
    have hs0 : wr.cell? ⟨Bs, 0, none⟩ = some (.slice (some ⟨g, 0, none⟩) len cap) := (hnx.cell (p := ⟨Bs, 0, none⟩) hBn).trans hBs
    by_cases hlt : k < len
    · have hj : len - 1 - k < len := by omega
      have hR2 := downTo_succ hlt
      obtain ⟨i, hi, hie⟩ : ∃ i : Nat, i = len - 1 - k ∧ ((len : Int) - 1 - k = (i : Int)) := ⟨_, rfl, by omega⟩
      obtain ⟨fn, tmps, assign, body, hy, hR⟩ := hY _ ⟨len - 1 - k, hj⟩ wr hJs (by rw [downTo_len k hk]; exact hlt)
      rw [← hR2] at hR
      simp only [← hi] at hy
      rw [← hi] at hj
      have q0 : wr.cell? ⟨g, i * 4, none⟩ = some (.int .i64 (f i).number) := (hnx.cell (p := ⟨g, i * 4, none⟩) hb).trans (hc i 0 _ hj rfl)
      have q1 : wr.cell? ⟨g, i * 4 + 1, none⟩ = some (.int .i64 (f i).time) := (hnx.cell (p := ⟨g, i * 4 + 1, none⟩) hb).trans (hc i 1 _ hj rfl)
      have q2 : wr.cell? ⟨g, i * 4 + 2, none⟩ = some (.slice (f i).ao (f i).al (f i).ac) := (hnx.cell (p := ⟨g, i * 4 + 2, none⟩) hb).trans (hc i 2 _ hj rfl)
      have q3 : wr.cell? ⟨g, i * 4 + 3, none⟩ = some (.slice (f i).so (f i).sl (f i).sc) := (hnx.cell (p := ⟨g, i * 4 + 3, none⟩) hb).trans (hc i 3 _ hj rfl)
      dsimp only [evVal] at hy
      clear hY hc hR2
      generalize f i = x at *
      rw [hie]
      have Hie : Hid ((len : Int) - 1 - k = (i : Int)) := hie
      have Hlt : Hid (k < len) := hlt
      clear hi hie hlt hk hJs
      gi_wp2
      refine hR.mono ?_
      rintro e W3 (⟨rfl, hJ3, hk3⟩ | ⟨rfl, hJx3⟩)
      · gi_wp2
        go_roundw
        case rel => exact ⟨k + 1, Hlt.out, by have := Hie.out; go_num, hJ3, hnx.trans hk3⟩
        case measure => have := Hie.out; simp only [intOf]; omega
      · gi_wp2
        refine bodyPost_ret (results_none rfl _ _ _) rfl ?_
        exact ⟨⟨_, rfl⟩, .inr ⟨_, ⟨k + 1, Hlt.out, rfl⟩, hJx3⟩⟩
    · obtain rfl : k = len := by omega
      gi_wp2
      go_end0
      exact ⟨⟨_, rfl⟩, .inl ⟨_, rfl, hJs⟩⟩
theorem backward_in (F : Fence) (n : Nat) (h7 : F.fn 207) (hro : F.round = none) (o : Option Addr) (len cap : Nat) (w : World) :
    CallsIn F n Tryz.prog 207 #[.slice o len cap] w fun e w' => e = .returned (.func (.func 215) #[] #[.pointer (some ⟨w.heap.size, 0, none⟩)]) ∧ w' = w.alloc (.cells #[.slice o len cap] 146) := by
  refine callsIn_of_wp Tryz.func207 rfl h7 ?_ hro
  simp only [Tryz.ntmps207, List.size_toArray, List.length_cons, List.length_nil, Nat.reduceAdd, Nat.reduceSub, Array.replicate_succ, Array.replicate_zero, List.push_toArray, List.append_toArray, List.nil_append, List.cons_append]
  gi_wp2
  go_ret
  exact ⟨rfl, rfl⟩
theorem back_stops (F : Fence) (n : Nat) (h8 : F.fn 215) (hro : F.round = none) (hn : 1 ≤ n) (Bs n₀ g cap len : Nat) (f : Nat → EvC) (hreach : len ≤ 1000000) (hb : g < n₀) (hBn : Bs < n₀) (w : World) (hn₀ : n₀ ≤ w.heap.size)
    (hBs : w.cell? ⟨Bs, 0, none⟩ = some (.slice (some ⟨g, 0, none⟩) len cap)) (hcap : len ≤ cap) (hc : ∀ i k v, i < len → (evCells (f i))[k]? = some v → w.cell? ⟨g, i * 4 + k, none⟩ = some v) :
    SeqStopsK F n Tryz.prog 215 #[.pointer (some ⟨Bs, 0, none⟩)] (fun x : { j : Nat // j < len } => #[Value.int .i64 (x.1 : Int), evVal (f x.1)]) (Below n₀) (fun ys => ys = downTo len len) (fun pre => ∃ k, k ≤ len ∧ pre = downTo len k) len w := fun l J Jx W hW _ _ hY h0 =>
  back1_in F n h8 hro hn l Bs n₀ g cap len f hreach hb hBn J Jx hY W ((hW.cell (p := ⟨Bs, 0, none⟩) (show Bs < _ by omega)).trans hBs) hcap (fun i k v hi hv => (hW.cell (p := ⟨g, i * 4 + k, none⟩) (by show g < _; omega)).trans (hc i k v hi hv)) h0
end Go.Proofs.YtpbbmagjhkakgaaGreatDoor.Ev
