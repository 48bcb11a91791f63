/-
  What (*reader).take does: it hands the first token out and drops it, unless it is the one for the end; for every reader whose tokens are there.
-/
/-
  What (*reader).expect, word and (*reader).number do: each reads the next token as its plain function says, or hands back a *Fault; for every reader whose tokens are there and end as they should; number: in a world whose variables of package strconv are there.
-/
import Derived.Test.YtpbbmagjhkakgaaGreatDoorHeapToWalk1
import Derived.Test.YtpbbmagjhkakgaaGreatDoorShelfToPure
import Derived.Test.YtpbbmagjhkakgaaGreatDoorProg
namespace Go.Proofs.YtpbbmagjhkakgaaGreatDoor
open Go.RowKit

set_option maxHeartbeats 400000 in
theorem takeF_end (rb tb off n cap : Nat) (pl : Int) (wd : ByteArray) (w : World) (hr : w.heap[rb]? = some (.cells #[.slice (some ⟨tb, off, none⟩) (n + 1) cap] 208 (0, 0)))
    (h0 : w.cell? ⟨tb, off, none⟩ = some (.int .i32 (-1))) (h1 : w.cell? ⟨tb, off + 1, none⟩ = some (.int .i64 pl)) (h2 : w.cell? ⟨tb, off + 2, none⟩ = some (.string wd)) :
    Calls Tryz.prog 154 #[.pointer (some ⟨rb, 0, none⟩)] w fun e w' => e = .returned (.agg #[.int .i32 (-1), .int .i64 pl, .string wd]) ∧ Below w.heap.size w w' := by
  have hc : w.cell? ⟨rb, 0, none⟩ = some (.slice (some ⟨tb, off, none⟩) (n + 1) cap) := cell_at hr rfl
  have hrl : rb < w.heap.size := heap_lt hr
  have htl : tb < w.heap.size := cell_lt h0
  go_enter Tryz.func154, Tryz.ntmps154
  go_wp2
  refine bodyPost_ret (v := .agg #[.int .i32 (-1), .int .i64 pl, .string wd]) (by simp [results, Tryz.results154, go_sem]) rfl ⟨rfl, ?_⟩
  exact ((Below.refl _ _).alloc (Nat.le_refl _) _).alloc (by simp) _

set_option maxHeartbeats 400000 in
theorem take_go (rb tb off n cap : Nat) (sg pl : Int) (wd : ByteArray) (w : World) (hr : w.heap[rb]? = some (.cells #[.slice (some ⟨tb, off, none⟩) (n + 1) cap] 208 (0, 0)))
    (h0 : w.cell? ⟨tb, off, none⟩ = some (.int .i32 sg)) (h1 : w.cell? ⟨tb, off + 1, none⟩ = some (.int .i64 pl)) (h2 : w.cell? ⟨tb, off + 2, none⟩ = some (.string wd)) (hsg : (sg != -1) = true) (hcap : n + 1 ≤ cap) (_hmax : cap ≤ maxLen) (hn : 1 ≤ n) :
    Calls Tryz.prog 154 #[.pointer (some ⟨rb, 0, none⟩)] w fun e w' => e = .returned (.agg #[.int .i32 sg, .int .i64 pl, .string wd]) ∧ Only rb w w' ∧ w'.heap[rb]? = some (.cells #[.slice (some ⟨tb, off + 3, none⟩) n (cap - 1)] 208 (0, 0)) := by
  have hc : w.cell? ⟨rb, 0, none⟩ = some (.slice (some ⟨tb, off, none⟩) (n + 1) cap) := cell_at hr rfl
  have hrl : rb < w.heap.size := heap_lt hr
  have htl : tb < w.heap.size := cell_lt h0
  have hfz : w.frozen? ⟨rb, 0, none⟩ = false := Lib.frozen_of_heap hr 0
  unfold maxLen at _hmax
  go_enter Tryz.func154, Tryz.ntmps154
  go_wp2
  refine bodyPost_ret (v := .agg #[.int .i32 sg, .int .i64 pl, .string wd]) (by simp [results, Tryz.results154, go_sem]) rfl ⟨rfl, ?_, ?_⟩
  · exact (((Only.refl rb w).setCell (p := ⟨rb, 0, none⟩) (.inl rfl) _).alloc _).alloc _
  · rw [Lib.alloc_old _ _ _ (by simp [World.setCell]; omega), Lib.alloc_old _ _ _ (by simp [World.setCell]; omega)]
    simp [World.setCell, Array.getElem?_modify, hr]

/-- take: the next token; what is left. -/
theorem take_any (rb : Nat) (ts : List Tok) (w : World) (h : RdAt 208 rb w ts) (he : Ends ts) :
    Calls Tryz.prog 154 #[.pointer (some ⟨rb, 0, none⟩)] w fun e w' => e = .returned (.agg #[.int .i32 (takeF ts).1.sign, .int .i64 (takeF ts).1.place, .string (takeF ts).1.word]) ∧ Only rb w w' ∧ RdAt 208 rb w' (takeF ts).2 := by
  have hl := he.take
  obtain ⟨v, hv, ht⟩ := h
  match ts, he, hl, ht with
  | [], ⟨f, e, hfe, _⟩, _, _ => exact absurd hfe (by simp)
  | t :: r, he, hl, ht =>
    obtain ⟨tb, off, cap, rfl, htb, hcap, hmax, h0, h1, h2, hrest⟩ := toks_head ht
    by_cases hs : t.sign = -1
    · rw [hs] at h0
      refine (takeF_end rb tb off r.length cap t.place t.word w hv h0 h1 h2).mono ?_
      rintro e w' ⟨rfl, hb⟩
      have e1 : takeF (t :: r) = (t, t :: r) := by simp [takeF, hs]
      rw [e1, hs]
      exact ⟨rfl, Only.of_below hb, _, Below.heapOf hb hv, ht.only (Only.of_below hb) (Nat.le_refl _)⟩
    · have e1 : takeF (t :: r) = (t, r) := by simp [takeF, hs]
      have hn : 1 ≤ r.length := by
        obtain ⟨f, e, hfe, hes, _⟩ := he
        cases f with
        | nil => simp at hfe; exact absurd (hfe.1 ▸ hes) hs
        | cons a f => simp at hfe; rw [hfe.2]; simp
      refine (take_go rb tb off r.length cap t.sign t.place t.word w hv h0 h1 h2 (by simp [hs]) hcap hmax hn).mono ?_
      rintro e w' ⟨rfl, ho, hr'⟩
      rw [e1]
      exact ⟨rfl, ho, _, hr', hrest rb w' ho (Nat.le_refl _)⟩

end Go.Proofs.YtpbbmagjhkakgaaGreatDoor

namespace Go.Proofs.YtpbbmagjhkakgaaGreatDoor
open Go.RowKit

set_option maxHeartbeats 400000 in
theorem expect_yes (rb : Nat) (ts : List Tok) (sg : Int) (why : ByteArray) (w : World) (h : RdAt 208 rb w ts) (he : Ends ts) (hs : (takeF ts).1.sign = sg) :
    Calls Tryz.prog 115 #[.pointer (some ⟨rb, 0, none⟩), .int .i32 sg, .string why] w fun e w' => e = .returned .nilIface ∧ Only rb w w' ∧ RdAt 208 rb w' (takeF ts).2 := by
  subst hs
  go_enter Tryz.func115, Tryz.ntmps115
  go_wp2_with fail
  refine (take_any rb ts _ h he).mono ?_
  rintro e w1 ⟨rfl, ho, hr⟩
  go_wp2
  go_ret
  exact ⟨rfl, ho.alloc _, hr.alloc _⟩

set_option maxHeartbeats 400000 in
theorem expect_no (rb : Nat) (ts : List Tok) (sg : Int) (why : ByteArray) (w : World) (h : RdAt 208 rb w ts) (he : Ends ts) (hs : ((takeF ts).1.sign != sg) = true) :
    Calls Tryz.prog 115 #[.pointer (some ⟨rb, 0, none⟩), .int .i32 sg, .string why] w fun e w' => ∃ fa, e = .returned (.iface 201 (.pointer (some fa))) ∧ Only rb w w' := by
  go_enter Tryz.func115, Tryz.ntmps115
  go_wp2_with fail
  refine (take_any rb ts _ h he).mono ?_
  rintro e w1 ⟨rfl, ho, hr⟩
  go_wp2
  go_ret
  exact ⟨_, rfl, (ho.alloc _).alloc _⟩

theorem clone_any (s : ByteArray) (w : World) (hlim : s.size ≤ 281474976710656) :
    Calls Tryz.prog 136 #[.string s] w fun e w' => e = .returned (.string s) ∧ Below w.heap.size w w' := by
  go_enter Tryz.func136, Tryz.ntmps136
  go_wp2_with fail
  refine (Tryz.stringslite_Clone s w hlim).mono ?_
  rintro e w1 ⟨rfl, hb⟩
  go_wp2
  go_ret
  exact ⟨rfl, hb⟩

theorem expect_any (rb : Nat) (ts : List Tok) (sg : Int) (why : ByteArray) (w : World) (h : RdAt 208 rb w ts) (he : Ends ts) :
    Calls Tryz.prog 115 #[.pointer (some ⟨rb, 0, none⟩), .int .i32 sg, .string why] w fun e w' => Only rb w w' ∧ ((∃ r, expectF sg ts = some r ∧ e = .returned .nilIface ∧ RdAt 208 rb w' r)
      ∨ (expectF sg ts = none ∧ ∃ fa, e = .returned (.iface 201 (.pointer (some fa))))) := by
  by_cases hs : (takeF ts).1.sign = sg
  · refine (expect_yes rb ts sg why w h he hs).mono ?_
    rintro e w' ⟨rfl, ho, hr⟩
    exact ⟨ho, .inl ⟨_, by unfold expectF; rw [if_pos hs], rfl, hr⟩⟩
  · refine (expect_no rb ts sg why w h he (by simp [hs])).mono ?_
    rintro e w' ⟨fa, rfl, ho⟩
    exact ⟨ho, .inr ⟨by unfold expectF; rw [if_neg hs], fa, rfl⟩⟩

set_option maxHeartbeats 400000 in
theorem word_true (sg pl : Int) (w : World) :
    Calls Tryz.prog 155 #[.agg #[.int .i32 sg, .int .i64 pl, .string trueB]] w fun e w' => ∃ v, e = .returned (.tuple #[v, .nilIface]) ∧ SentAt 143 w.heap.size w' (mk 116 ByteArray.empty 0 0 .nil .nil) v ∧ Below w.heap.size w w' := by
  unfold trueB
  go_enter Tryz.func155, Tryz.ntmps155
  go_wp2
  go_ret2
  exact ⟨_, rfl, sent_mk (Nat.le_succ _) (heap_new _ _ _ (by simp)) rfl rfl, ((Below.refl _ _).alloc (Nat.le_refl _) _).alloc (by simp) _⟩

set_option maxHeartbeats 400000 in
theorem word_long (sg pl : Int) (wd : ByteArray) (w : World) (ht : (wd.toList == [116, 114, 117, 101]) = false) (hl : 8 < wd.size) (hm : wd.size ≤ maxLen) :
    Calls Tryz.prog 155 #[.agg #[.int .i32 sg, .int .i64 pl, .string wd]] w fun e w' => ∃ fa, e = .returned (.tuple #[.pointer none, .iface 201 (.pointer (some fa))]) ∧ Below w.heap.size w w' := by
  unfold maxLen at hm
  go_enter Tryz.func155, Tryz.ntmps155
  go_wp2
  go_region
  all_goals go_wp2
  all_goals go_ret2
  all_goals exact ⟨_, rfl, by repeat (first | exact Below.refl _ _ | refine Below.drew ?_ | refine Below.al ?_ _)⟩

set_option maxHeartbeats 400000 in
theorem word_name (sg pl : Int) (wd : ByteArray) (w : World) (ht : (wd.toList == [116, 114, 117, 101]) = false) (hl : wd.size ≤ 8) :
    Calls Tryz.prog 155 #[.agg #[.int .i32 sg, .int .i64 pl, .string wd]] w fun e w' => ∃ v, e = .returned (.tuple #[v, .nilIface]) ∧ SentAt 143 w.heap.size w' (mk 97 wd 0 0 .nil .nil) v ∧ Below w.heap.size w w' := by
  go_enter Tryz.func155, Tryz.ntmps155
  go_wp2_with fail
  refine (clone_any wd _ (by omega)).mono ?_
  rintro e w1 ⟨rfl, hb⟩
  go_wp2
  go_ret2
  have hz : w.heap.size + 1 ≤ w1.heap.size := by have := hb.size; simpa using this
  refine ⟨_, rfl, sent_mk (by omega) (heap_new _ _ _ rfl) rfl rfl, ?_⟩
  exact (((Below.refl _ _).alloc (Nat.le_refl _) _).trans (hb.mono (by simp))).alloc (by omega) _

/-- The world's two variables of package strconv are there. -/
structure ConvAt (w : World) : Prop where
  syn : ∃ te pe, w.cell? ⟨10, 0, none⟩ = some (.iface te pe)
  rng : ∃ te pe, w.cell? ⟨11, 0, none⟩ = some (.iface te pe)

/-- Atoi, at every short word: the number, or some error. -/
theorem atoi_any (s : ByteArray) (hs : s.size ≤ 281474976710656) (w : World) (hg : ConvAt w) :
    Calls Tryz.prog 210 #[.string s] w fun e w' => Below w.heap.size w w' ∧ ((∃ v, Lib.atoiAll s.data.toList = .ok v ∧ e = .returned (.tuple #[.int .i64 v, .nilIface])) ∨ ((∀ v, Lib.atoiAll s.data.toList ≠ .ok v) ∧ ∃ v te pe, e = .returned (.tuple #[.int .i64 v, .iface te pe]))) := by
  obtain ⟨⟨t1, p1, h1⟩, ⟨t2, p2, h2⟩⟩ := hg
  rcases h : Lib.atoiAll s.data.toList with v | _ | _
  · refine (Tryz.strconv_Atoi_ok s (by omega) v h w).mono ?_
    rintro e w' ⟨rfl, hw⟩
    refine ⟨?_, .inl ⟨v, rfl, rfl⟩⟩
    rcases hw with rfl | ⟨t, rfl⟩
    · exact Below.refl _ _
    · exact Lib.bytesWorld_below w _ t
  · refine (Tryz.strconv_Atoi_syntax s hs h _ w h1 (.inr ⟨_, _, rfl⟩)).mono ?_
    rintro e w' ⟨n, rfl, _, _, hb⟩
    exact ⟨hb, .inr ⟨fun v hv => by (cases hv), _, _, _, rfl⟩⟩
  · refine (Tryz.strconv_Atoi_range s hs h _ w h2 (.inr ⟨_, _, rfl⟩)).mono ?_
    rintro e w' ⟨n, rfl, _, _, hb⟩
    exact ⟨hb, .inr ⟨fun v hv => by (cases hv), _, _, _, rfl⟩⟩

theorem ConvAt.only {s : Nat} {w w' : World} (h : ConvAt w) (ho : Only s w w') (hs : 14 ≤ s) : ConvAt w' := by
  obtain ⟨⟨t1, p1, h1⟩, ⟨t2, p2, h2⟩⟩ := h
  have c : ∀ k, k < 14 → k < w.heap.size → w'.cell? ⟨k, 0, none⟩ = w.cell? ⟨k, 0, none⟩ := fun k hk hl => World.cell?_of_block (w := w) (a := ⟨k, 0, none⟩) (ho.block k hl (by omega))
  exact ⟨⟨t1, p1, by rw [c 10 (by omega) (cell_lt h1)]; exact h1⟩, ⟨t2, p2, by rw [c 11 (by omega) (cell_lt h2)]; exact h2⟩⟩

theorem ConvAt.below {w w' : World} (h : ConvAt w) (hb : Below w.heap.size w w') : ConvAt w' := h.only (s := 14) (Only.of_below hb) (Nat.le_refl _)

set_option maxHeartbeats 400000 in
theorem number_no (rb : Nat) (ts : List Tok) (w : World) (h : RdAt 208 rb w ts) (he : Ends ts) (hs : ((takeF ts).1.sign != 48) = true) :
    Calls Tryz.prog 204 #[.pointer (some ⟨rb, 0, none⟩)] w fun e w' => ∃ fa, e = .returned (.tuple #[.int .i64 0, .iface 201 (.pointer (some fa))]) ∧ Only rb w w' := by
  go_enter Tryz.func204, Tryz.ntmps204
  go_wp2_with fail
  refine (take_any rb ts _ h he).mono ?_
  rintro e w1 ⟨rfl, ho, hr⟩
  go_wp2_with fail
  go_region
  all_goals go_wp2
  all_goals go_ret2
  all_goals exact ⟨_, rfl, by repeat (first | exact ho | refine Only.drew ?_ | refine Only.alloc ?_ _)⟩

set_option maxHeartbeats 800000 in
theorem number_zero (rb : Nat) (rest : List Tok) (pl : Int) (wd : ByteArray) (w : World)
    (htk : Calls Tryz.prog 154 #[.pointer (some ⟨rb, 0, none⟩)] w fun e w' => e = .returned (.agg #[.int .i32 48, .int .i64 pl, .string wd]) ∧ Only rb w w' ∧ RdAt 208 rb w' rest)
    (hm : wd.size ≤ 281474976710656) (hz : 0 < wd.size) (h1 : 1 < wd.size) (h0 : (((wd[0]'hz).toNat : Int) == 48) = true) :
    Calls Tryz.prog 204 #[.pointer (some ⟨rb, 0, none⟩)] w fun e w' => Only rb w w' ∧ ∃ fa, e = .returned (.tuple #[.int .i64 0, .iface 201 (.pointer (some fa))]) := by
  go_enter Tryz.func204, Tryz.ntmps204
  go_wp2_with fail
  refine htk.mono ?_
  rintro e w1 ⟨rfl, ho, hr⟩
  go_wp2_with fail
  go_region
  all_goals go_wp2
  all_goals go_ret2
  all_goals exact ⟨by repeat (first | exact ho | refine Only.drew ?_ | refine Only.alloc ?_ _), _, rfl⟩

set_option maxHeartbeats 800000 in
theorem number_conv (rb : Nat) (rest : List Tok) (pl : Int) (wd : ByteArray) (w : World)
    (htk : Calls Tryz.prog 154 #[.pointer (some ⟨rb, 0, none⟩)] w fun e w' => e = .returned (.agg #[.int .i32 48, .int .i64 pl, .string wd]) ∧ Only rb w w' ∧ RdAt 208 rb w' rest)
    (hg : ConvAt w) (hrb : 14 ≤ rb) (hm : wd.size ≤ 281474976710656) (h0 : ¬ 1 < wd.size ∨ ∃ hz : 0 < wd.size, 1 < wd.size ∧ (((wd[0]'hz).toNat : Int) == 48) = false) :
    Calls Tryz.prog 204 #[.pointer (some ⟨rb, 0, none⟩)] w fun e w' => Only rb w w' ∧ ((∃ v, okNum (Lib.atoiAll wd.data.toList) = some v ∧ e = .returned (.tuple #[.int .i64 v, .nilIface]) ∧ RdAt 208 rb w' rest) ∨ (okNum (Lib.atoiAll wd.data.toList) = none ∧ ∃ fa, e = .returned (.tuple #[.int .i64 0, .iface 201 (.pointer (some fa))]))) := by
  rcases h0 with h1 | ⟨hz, h1, h0⟩
  all_goals
    go_enter Tryz.func204, Tryz.ntmps204
    go_wp2_with fail
    refine htk.mono ?_
    rintro e w1 ⟨rfl, ho, hr⟩
    go_wp2_with fail
    have hg1 : ConvAt (w1.alloc (.cells #[.int .i32 48, .int .i64 pl, .string wd] 260)) := (hg.only ho hrb).below ((Below.refl _ _).al _)
    refine (atoi_any wd hm _ hg1).mono ?_
    rintro e w2 ⟨hb, ⟨v, hv, rfl⟩ | ⟨hv, v, te, pe, rfl⟩⟩
    · have ho2 : Only rb w w2 := (ho.alloc _).tb hb
      have hr2 : RdAt 208 rb w2 rest := (hr.alloc _).below hb
      have hN : Hid (okNum (Lib.atoiAll wd.data.toList) = if 1000000 < v then none else some v) := by rw [hv]; rfl
      have q1 : w2.cell? ⟨w1.heap.size, 1, none⟩ = some (.int .i64 pl) := by rw [hb.cell (p := ⟨w1.heap.size, 1, none⟩) (by simp)]; simp
      clear hv hb
      by_cases hgt : 1000000 < v
      · go_wp2_with fail
        go_region
        all_goals go_wp2
        all_goals go_ret2
        all_goals exact ⟨by repeat (first | exact ho2 | refine Only.drew ?_ | refine Only.alloc ?_ _), .inr ⟨by rw [hN.out, if_pos (by omega)], _, rfl⟩⟩
      · go_wp2_with fail
        go_ret2
        exact ⟨ho2, .inl ⟨v, by rw [hN.out, if_neg (by omega)], rfl, hr2⟩⟩
    · have ho2 : Only rb w w2 := (ho.alloc _).tb hb
      have hN : Hid (okNum (Lib.atoiAll wd.data.toList) = none) := okNum_none hv
      have q1 : w2.cell? ⟨w1.heap.size, 1, none⟩ = some (.int .i64 pl) := by rw [hb.cell (p := ⟨w1.heap.size, 1, none⟩) (by simp)]; simp
      clear hv hb
      go_wp2_with fail
      go_region
      all_goals go_wp2
      all_goals go_ret2
      all_goals exact ⟨by repeat (first | exact ho2 | refine Only.drew ?_ | refine Only.alloc ?_ _), .inr ⟨hN.out, _, rfl⟩⟩

theorem number_some (rb : Nat) (ts : List Tok) (w : World) (h : RdAt 208 rb w ts) (he : Ends ts) (hs : (takeF ts).1.sign = 48) (hg : ConvAt w) (hrb : 14 ≤ rb) (hm : (takeF ts).1.word.size ≤ 281474976710656) :
    Calls Tryz.prog 204 #[.pointer (some ⟨rb, 0, none⟩)] w fun e w' => Only rb w w' ∧ ((∃ v, numB (takeF ts).1.word = some v ∧ e = .returned (.tuple #[.int .i64 v, .nilIface]) ∧ RdAt 208 rb w' (takeF ts).2) ∨ (numB (takeF ts).1.word = none ∧ ∃ fa, e = .returned (.tuple #[.int .i64 0, .iface 201 (.pointer (some fa))]))) := by
  have htk := take_any rb ts w h he
  rw [hs] at htk
  generalize (takeF ts).1.word = wd at *
  generalize (takeF ts).1.place = pl at *
  by_cases h1 : 1 < wd.size
  · have hz : 0 < wd.size := by omega
    have hh := head_get wd hz
    by_cases h0 : wd.data.toList.headD 0 = 48
    · refine (number_zero rb _ pl wd w htk hm hz h1 ?_).mono ?_
      · rw [hh] at h0; rw [h0]; decide
      · rintro e w' ⟨ho, hf⟩
        exact ⟨ho, .inr ⟨by unfold numB; rw [if_pos ⟨h1, h0⟩], hf⟩⟩
    · refine (number_conv rb _ pl wd w htk hg hrb hm (.inr ⟨hz, h1, ?_⟩)).mono ?_
      · rw [hh] at h0
        rw [beq_eq_false_iff_ne]
        intro h
        apply h0
        apply UInt8.toNat_inj.1
        show wd[0].toNat = 48
        omega
      · have e1 : numB wd = okNum (Lib.atoiAll wd.data.toList) := by unfold numB; rw [if_neg (by intro h; exact h0 h.2)]
        rw [e1]
        exact fun _ _ h => h
  · refine (number_conv rb _ pl wd w htk hg hrb hm (.inl h1)).mono ?_
    have e1 : numB wd = okNum (Lib.atoiAll wd.data.toList) := by unfold numB; rw [if_neg (by intro h; exact h1 h.1)]
    rw [e1]
    exact fun _ _ h => h

theorem number_any (rb : Nat) (ts : List Tok) (w : World) (h : RdAt 208 rb w ts) (he : Ends ts) (hg : ConvAt w) (hrb : 14 ≤ rb) :
    Calls Tryz.prog 204 #[.pointer (some ⟨rb, 0, none⟩)] w fun e w' => Only rb w w' ∧ ((∃ v r, numF ts = some (v, r) ∧ e = .returned (.tuple #[.int .i64 v, .nilIface]) ∧ RdAt 208 rb w' r)
      ∨ (numF ts = none ∧ ∃ fa, e = .returned (.tuple #[.int .i64 0, .iface 201 (.pointer (some fa))]))) := by
  by_cases hs : (takeF ts).1.sign = 48
  · refine (number_some rb ts w h he hs hg hrb (by have := he.word; omega)).mono ?_
    rintro e w' ⟨ho, ⟨v, hv, rfl, hr⟩ | ⟨hv, fa, rfl⟩⟩
    · exact ⟨ho, .inl ⟨v, _, by unfold numF; rw [if_pos hs, hv]; rfl, rfl, hr⟩⟩
    · exact ⟨ho, .inr ⟨by unfold numF; rw [if_pos hs, hv]; rfl, fa, rfl⟩⟩
  · refine (number_no rb ts w h he (by simp [hs])).mono ?_
    rintro e w' ⟨fa, rfl, ho⟩
    exact ⟨ho, .inr ⟨by unfold numF; rw [if_neg hs], fa, rfl⟩⟩

end Go.Proofs.YtpbbmagjhkakgaaGreatDoor
