import Derived.Test.YtpbbmagjhkakgaaGreatDoorEvOrderToTake
import Derived.Test.YtpbbmagjhkakgaaGreatDoorEvRepToShelf
namespace Go.Proofs.YtpbbmagjhkakgaaGreatDoor
open Go.RowKit
set_option maxHeartbeats 400000 in
theorem expect_yes (rb : Nat) (ts : List Tok) (sg : Int) (why : ByteArray) (w : World) (h : RdAt 208 rb w ts) (he : Ends ts) (hs : (takeF ts).1.sign = sg) :
    Calls Tryz.prog 115 #[.pointer (some ⟨rb, 0, none⟩), .int .i32 sg, .string why] w fun e w' => e = .returned .nilIface ∧ Only rb w w' ∧ RdAt 208 rb w' (takeF ts).2 := by
  subst hs
  go_enter Tryz.func115, Tryz.ntmps115
  go_wp2_with fail
  refine (take_any rb ts _ h he).mono ?_
  rintro e w1 ⟨rfl, ho, hr⟩
  go_wp2
  go_ret
  exact ⟨rfl, ho.alloc _, hr.alloc _⟩
set_option maxHeartbeats 400000 in
theorem expect_no (rb : Nat) (ts : List Tok) (sg : Int) (why : ByteArray) (w : World) (h : RdAt 208 rb w ts) (he : Ends ts) (hs : ((takeF ts).1.sign != sg) = true) :
    Calls Tryz.prog 115 #[.pointer (some ⟨rb, 0, none⟩), .int .i32 sg, .string why] w fun e w' => ∃ fa, e = .returned (.iface 201 (.pointer (some fa))) ∧ Only rb w w' := by
  go_enter Tryz.func115, Tryz.ntmps115
  go_wp2_with fail
  refine (take_any rb ts _ h he).mono ?_
  rintro e w1 ⟨rfl, ho, hr⟩
  go_wp2
  go_ret
  exact ⟨_, rfl, (ho.alloc _).alloc _⟩
theorem clone_any (s : ByteArray) (w : World) (hlim : s.size ≤ 281474976710656) :
    Calls Tryz.prog 136 #[.string s] w fun e w' => e = .returned (.string s) ∧ Below w.heap.size w w' := by
  go_enter Tryz.func136, Tryz.ntmps136
  go_wp2_with fail
  refine (Tryz.stringslite_Clone s w hlim).mono ?_
  rintro e w1 ⟨rfl, hb⟩
  go_wp2
  go_ret
  exact ⟨rfl, hb⟩
theorem expect_any (rb : Nat) (ts : List Tok) (sg : Int) (why : ByteArray) (w : World) (h : RdAt 208 rb w ts) (he : Ends ts) :
    Calls Tryz.prog 115 #[.pointer (some ⟨rb, 0, none⟩), .int .i32 sg, .string why] w fun e w' => Only rb w w' ∧ ((∃ r, expectF sg ts = some r ∧ e = .returned .nilIface ∧ RdAt 208 rb w' r)
      ∨ (expectF sg ts = none ∧ ∃ fa, e = .returned (.iface 201 (.pointer (some fa))))) := by
  by_cases hs : (takeF ts).1.sign = sg
  · refine (expect_yes rb ts sg why w h he hs).mono ?_
    rintro e w' ⟨rfl, ho, hr⟩
    exact ⟨ho, .inl ⟨_, by unfold expectF; rw [if_pos hs], rfl, hr⟩⟩
  · refine (expect_no rb ts sg why w h he (by simp [hs])).mono ?_
    rintro e w' ⟨fa, rfl, ho⟩
    exact ⟨ho, .inr ⟨by unfold expectF; rw [if_neg hs], fa, rfl⟩⟩
set_option maxHeartbeats 400000 in
theorem word_true (sg pl : Int) (w : World) :
    Calls Tryz.prog 155 #[.agg #[.int .i32 sg, .int .i64 pl, .string trueB]] w fun e w' => ∃ v, e = .returned (.tuple #[v, .nilIface]) ∧ SentAt 143 w.heap.size w' (mk 116 ByteArray.empty 0 0 .nil .nil) v ∧ Below w.heap.size w w' := by
  unfold trueB
  go_enter Tryz.func155, Tryz.ntmps155
  go_wp2
  go_ret2
  exact ⟨_, rfl, sent_mk (Nat.le_succ _) (heap_new _ _ _ (by simp)) rfl rfl, ((Below.refl _ _).alloc (Nat.le_refl _) _).alloc (by simp) _⟩
set_option maxHeartbeats 400000 in
theorem word_long (sg pl : Int) (wd : ByteArray) (w : World) (ht : (wd.toList == [116, 114, 117, 101]) = false) (hl : 8 < wd.size) (hm : wd.size ≤ maxLen) :
    Calls Tryz.prog 155 #[.agg #[.int .i32 sg, .int .i64 pl, .string wd]] w fun e w' => ∃ fa, e = .returned (.tuple #[.pointer none, .iface 201 (.pointer (some fa))]) ∧ Below w.heap.size w w' := by
  unfold maxLen at hm
  go_enter Tryz.func155, Tryz.ntmps155
  go_wp2
  go_region
  all_goals go_wp2
  all_goals go_ret2
  all_goals exact ⟨_, rfl, by repeat (first | exact Below.refl _ _ | refine Below.drew ?_ | refine Below.al ?_ _)⟩
set_option maxHeartbeats 400000 in
theorem word_name (sg pl : Int) (wd : ByteArray) (w : World) (ht : (wd.toList == [116, 114, 117, 101]) = false) (hl : wd.size ≤ 8) :
    Calls Tryz.prog 155 #[.agg #[.int .i32 sg, .int .i64 pl, .string wd]] w fun e w' => ∃ v, e = .returned (.tuple #[v, .nilIface]) ∧ SentAt 143 w.heap.size w' (mk 97 wd 0 0 .nil .nil) v ∧ Below w.heap.size w w' := by
  go_enter Tryz.func155, Tryz.ntmps155
  go_wp2_with fail
  refine (clone_any wd _ (by omega)).mono ?_
  rintro e w1 ⟨rfl, hb⟩
  go_wp2
  go_ret2
  have hz : w.heap.size + 1 ≤ w1.heap.size := by have := hb.size; simpa using this
  refine ⟨_, rfl, sent_mk (by omega) (heap_new _ _ _ rfl) rfl rfl, ?_⟩
  exact (((Below.refl _ _).alloc (Nat.le_refl _) _).trans (hb.mono (by simp))).alloc (by omega) _
structure ConvAt (w : World) : Prop where
  syn : ∃ te pe, w.cell? ⟨10, 0, none⟩ = some (.iface te pe)
  rng : ∃ te pe, w.cell? ⟨11, 0, none⟩ = some (.iface te pe)
theorem atoi_any (s : ByteArray) (hs : s.size ≤ 281474976710656) (w : World) (hg : ConvAt w) :
    Calls Tryz.prog 210 #[.string s] w fun e w' => Below w.heap.size w w' ∧ ((∃ v, Lib.atoiAll s.data.toList = .ok v ∧ e = .returned (.tuple #[.int .i64 v, .nilIface])) ∨ ((∀ v, Lib.atoiAll s.data.toList ≠ .ok v) ∧ ∃ v te pe, e = .returned (.tuple #[.int .i64 v, .iface te pe]))) := by
  obtain ⟨⟨t1, p1, h1⟩, ⟨t2, p2, h2⟩⟩ := hg
  rcases h : Lib.atoiAll s.data.toList with v | _ | _
  · refine (Tryz.strconv_Atoi_ok s (by omega) v h w).mono ?_
    rintro e w' ⟨rfl, hw⟩
    refine ⟨?_, .inl ⟨v, rfl, rfl⟩⟩
    rcases hw with rfl | ⟨t, rfl⟩
    · exact Below.refl _ _
    · exact Lib.bytesWorld_below w _ t
  · refine (Tryz.strconv_Atoi_syntax s hs h _ w h1 (.inr ⟨_, _, rfl⟩)).mono ?_
    rintro e w' ⟨n, rfl, _, _, hb⟩
    exact ⟨hb, .inr ⟨fun v hv => by (cases hv), _, _, _, rfl⟩⟩
  · refine (Tryz.strconv_Atoi_range s hs h _ w h2 (.inr ⟨_, _, rfl⟩)).mono ?_
    rintro e w' ⟨n, rfl, _, _, hb⟩
    exact ⟨hb, .inr ⟨fun v hv => by (cases hv), _, _, _, rfl⟩⟩
theorem ConvAt.only {s : Nat} {w w' : World} (h : ConvAt w) (ho : Only s w w') (hs : 14 ≤ s) : ConvAt w' := by
  obtain ⟨⟨t1, p1, h1⟩, ⟨t2, p2, h2⟩⟩ := h
  have c : ∀ k, k < 14 → k < w.heap.size → w'.cell? ⟨k, 0, none⟩ = w.cell? ⟨k, 0, none⟩ := fun k hk hl => World.cell?_of_block (w := w) (a := ⟨k, 0, none⟩) (ho.block k hl (by omega))
  exact ⟨⟨t1, p1, by rw [c 10 (by omega) (cell_lt h1)]; exact h1⟩, ⟨t2, p2, by rw [c 11 (by omega) (cell_lt h2)]; exact h2⟩⟩
theorem ConvAt.below {w w' : World} (h : ConvAt w) (hb : Below w.heap.size w w') : ConvAt w' := h.only (s := 14) (Only.of_below hb) (Nat.le_refl _)
set_option maxHeartbeats 400000 in
theorem number_no (rb : Nat) (ts : List Tok) (w : World) (h : RdAt 208 rb w ts) (he : Ends ts) (hs : ((takeF ts).1.sign != 48) = true) :
    Calls Tryz.prog 204 #[.pointer (some ⟨rb, 0, none⟩)] w fun e w' => ∃ fa, e = .returned (.tuple #[.int .i64 0, .iface 201 (.pointer (some fa))]) ∧ Only rb w w' := by
  go_enter Tryz.func204, Tryz.ntmps204
  go_wp2_with fail
  refine (take_any rb ts _ h he).mono ?_
  rintro e w1 ⟨rfl, ho, hr⟩
  go_wp2_with fail
  go_region
  all_goals go_wp2
  all_goals go_ret2
  all_goals exact ⟨_, rfl, by repeat (first | exact ho | refine Only.drew ?_ | refine Only.alloc ?_ _)⟩
set_option maxHeartbeats 800000 in
theorem number_zero (rb : Nat) (rest : List Tok) (pl : Int) (wd : ByteArray) (w : World)
    (htk : Calls Tryz.prog 154 #[.pointer (some ⟨rb, 0, none⟩)] w fun e w' => e = .returned (.agg #[.int .i32 48, .int .i64 pl, .string wd]) ∧ Only rb w w' ∧ RdAt 208 rb w' rest)
    (hm : wd.size ≤ 281474976710656) (hz : 0 < wd.size) (h1 : 1 < wd.size) (h0 : (((wd[0]'hz).toNat : Int) == 48) = true) :
    Calls Tryz.prog 204 #[.pointer (some ⟨rb, 0, none⟩)] w fun e w' => Only rb w w' ∧ ∃ fa, e = .returned (.tuple #[.int .i64 0, .iface 201 (.pointer (some fa))]) := by
  go_enter Tryz.func204, Tryz.ntmps204
  go_wp2_with fail
  refine htk.mono ?_
  rintro e w1 ⟨rfl, ho, hr⟩
  go_wp2_with fail
  go_region
  all_goals go_wp2
  all_goals go_ret2
  all_goals exact ⟨by repeat (first | exact ho | refine Only.drew ?_ | refine Only.alloc ?_ _), _, rfl⟩
set_option maxHeartbeats 800000 in
theorem number_conv (rb : Nat) (rest : List Tok) (pl : Int) (wd : ByteArray) (w : World)
    (htk : Calls Tryz.prog 154 #[.pointer (some ⟨rb, 0, none⟩)] w fun e w' => e = .returned (.agg #[.int .i32 48, .int .i64 pl, .string wd]) ∧ Only rb w w' ∧ RdAt 208 rb w' rest)
    (hg : ConvAt w) (hrb : 14 ≤ rb) (hm : wd.size ≤ 281474976710656) (h0 : ¬ 1 < wd.size ∨ ∃ hz : 0 < wd.size, 1 < wd.size ∧ (((wd[0]'hz).toNat : Int) == 48) = false) :
    Calls Tryz.prog 204 #[.pointer (some ⟨rb, 0, none⟩)] w fun e w' => Only rb w w' ∧ ((∃ v, okNum (Lib.atoiAll wd.data.toList) = some v ∧ e = .returned (.tuple #[.int .i64 v, .nilIface]) ∧ RdAt 208 rb w' rest) ∨ (okNum (Lib.atoiAll wd.data.toList) = none ∧ ∃ fa, e = .returned (.tuple #[.int .i64 0, .iface 201 (.pointer (some fa))]))) := by
  rcases h0 with h1 | ⟨hz, h1, h0⟩
  all_goals
    go_enter Tryz.func204, Tryz.ntmps204
    go_wp2_with fail
    refine htk.mono ?_
    rintro e w1 ⟨rfl, ho, hr⟩
    go_wp2_with fail
    have hg1 : ConvAt (w1.alloc (.cells #[.int .i32 48, .int .i64 pl, .string wd] 260)) := (hg.only ho hrb).below ((Below.refl _ _).al _)
    refine (atoi_any wd hm _ hg1).mono ?_
    rintro e w2 ⟨hb, ⟨v, hv, rfl⟩ | ⟨hv, v, te, pe, rfl⟩⟩
    · have ho2 : Only rb w w2 := (ho.alloc _).tb hb
      have hr2 : RdAt 208 rb w2 rest := (hr.alloc _).below hb
      have hN : Hid (okNum (Lib.atoiAll wd.data.toList) = if 1000000 < v then none else some v) := by rw [hv]; rfl
      have q1 : w2.cell? ⟨w1.heap.size, 1, none⟩ = some (.int .i64 pl) := by rw [hb.cell (p := ⟨w1.heap.size, 1, none⟩) (by simp)]; simp
      clear hv hb
      by_cases hgt : 1000000 < v
      · go_wp2_with fail
        go_region
        all_goals go_wp2
        all_goals go_ret2
        all_goals exact ⟨by repeat (first | exact ho2 | refine Only.drew ?_ | refine Only.alloc ?_ _), .inr ⟨by rw [hN.out, if_pos (by omega)], _, rfl⟩⟩
      · go_wp2_with fail
        go_ret2
        exact ⟨ho2, .inl ⟨v, by rw [hN.out, if_neg (by omega)], rfl, hr2⟩⟩
    · have ho2 : Only rb w w2 := (ho.alloc _).tb hb
      have hN : Hid (okNum (Lib.atoiAll wd.data.toList) = none) := okNum_none hv
      have q1 : w2.cell? ⟨w1.heap.size, 1, none⟩ = some (.int .i64 pl) := by rw [hb.cell (p := ⟨w1.heap.size, 1, none⟩) (by simp)]; simp
      clear hv hb
      go_wp2_with fail
      go_region
      all_goals go_wp2
      all_goals go_ret2
      all_goals exact ⟨by repeat (first | exact ho2 | refine Only.drew ?_ | refine Only.alloc ?_ _), .inr ⟨hN.out, _, rfl⟩⟩
theorem number_some (rb : Nat) (ts : List Tok) (w : World) (h : RdAt 208 rb w ts) (he : Ends ts) (hs : (takeF ts).1.sign = 48) (hg : ConvAt w) (hrb : 14 ≤ rb) (hm : (takeF ts).1.word.size ≤ 281474976710656) :
    Calls Tryz.prog 204 #[.pointer (some ⟨rb, 0, none⟩)] w fun e w' => Only rb w w' ∧ ((∃ v, numB (takeF ts).1.word = some v ∧ e = .returned (.tuple #[.int .i64 v, .nilIface]) ∧ RdAt 208 rb w' (takeF ts).2) ∨ (numB (takeF ts).1.word = none ∧ ∃ fa, e = .returned (.tuple #[.int .i64 0, .iface 201 (.pointer (some fa))]))) := by
  have htk := take_any rb ts w h he
  rw [hs] at htk
  generalize (takeF ts).1.word = wd at *
  generalize (takeF ts).1.place = pl at *
  by_cases h1 : 1 < wd.size
  · have hz : 0 < wd.size := by omega
    have hh := head_get wd hz
    by_cases h0 : wd.data.toList.headD 0 = 48
    · refine (number_zero rb _ pl wd w htk hm hz h1 ?_).mono ?_
      · rw [hh] at h0; rw [h0]; decide
      · rintro e w' ⟨ho, hf⟩
        exact ⟨ho, .inr ⟨by unfold numB; rw [if_pos ⟨h1, h0⟩], hf⟩⟩
    · refine (number_conv rb _ pl wd w htk hg hrb hm (.inr ⟨hz, h1, ?_⟩)).mono ?_
      · rw [hh] at h0
        rw [beq_eq_false_iff_ne]
        intro h
        apply h0
        apply UInt8.toNat_inj.1
        show wd[0].toNat = 48
        omega
      · have e1 : numB wd = okNum (Lib.atoiAll wd.data.toList) := by unfold numB; rw [if_neg (by intro h; exact h0 h.2)]
        rw [e1]
        exact fun _ _ h => h
  · refine (number_conv rb _ pl wd w htk hg hrb hm (.inl h1)).mono ?_
    have e1 : numB wd = okNum (Lib.atoiAll wd.data.toList) := by unfold numB; rw [if_neg (by intro h; exact h1 h.1)]
    rw [e1]
    exact fun _ _ h => h
theorem number_any (rb : Nat) (ts : List Tok) (w : World) (h : RdAt 208 rb w ts) (he : Ends ts) (hg : ConvAt w) (hrb : 14 ≤ rb) :
    Calls Tryz.prog 204 #[.pointer (some ⟨rb, 0, none⟩)] w fun e w' => Only rb w w' ∧ ((∃ v r, numF ts = some (v, r) ∧ e = .returned (.tuple #[.int .i64 v, .nilIface]) ∧ RdAt 208 rb w' r)
      ∨ (numF ts = none ∧ ∃ fa, e = .returned (.tuple #[.int .i64 0, .iface 201 (.pointer (some fa))]))) := by
  by_cases hs : (takeF ts).1.sign = 48
  · refine (number_some rb ts w h he hs hg hrb (by have := he.word; omega)).mono ?_
    rintro e w' ⟨ho, ⟨v, hv, rfl, hr⟩ | ⟨hv, fa, rfl⟩⟩
    · exact ⟨ho, .inl ⟨v, _, by unfold numF; rw [if_pos hs, hv]; rfl, rfl, hr⟩⟩
    · exact ⟨ho, .inr ⟨by unfold numF; rw [if_pos hs, hv]; rfl, fa, rfl⟩⟩
  · refine (number_no rb ts w h he (by simp [hs])).mono ?_
    rintro e w' ⟨fa, rfl, ho⟩
    exact ⟨ho, .inr ⟨by unfold numF; rw [if_neg hs], fa, rfl⟩⟩
end Go.Proofs.YtpbbmagjhkakgaaGreatDoor
namespace Go.Proofs.YtpbbmagjhkakgaaGreatDoor.Ev
open Go.RowKit Go.Deep
theorem infoStr : (Tryz.prog.info? 9).map (fun i => (i.zero, i.size, i.bytes)) = some (some (.string ⟨#[]⟩), 1, 16) := by kernel_rfl
def strsV (L : List ByteArray) : List Value := L.map Value.string
theorem strsV_len (L : List ByteArray) : (strsV L).length = L.length := by simp [strsV]
theorem strsV_take (A : List ByteArray) (i : Nat) (h : i < A.length) : strsV (A.take (i + 1)) = strsV (A.take i) ++ [.string (A.getD i ByteArray.empty)] := by
  have e : A.getD i ByteArray.empty = A[i] := by rw [List.getD_eq_getElem?_getD, List.getElem?_eq_getElem h]; rfl
  rw [← List.take_append_getElem h, e]
  unfold strsV
  rw [List.map_append]
  rfl
theorem strs_of_row {w : World} {B : Nat} {v : Value} {A : List ByteArray} (h : w.ownsRow B 9 1 v A.length (strsV A)) : ∃ ao cap, v = .slice ao A.length cap ∧ A.length ≤ cap ∧ StrsIn w ao A ∧ ∀ a, ao = some a → B ≤ a.block ∧ ∃ cs, w.heap[a.block]? = some (.cells cs 9 (0, 0)) := by
  have hl := h.lt
  have h' := h
  obtain ⟨h1, ⟨rfl, h2⟩ | ⟨g, cap, cur, rfl, h3, h4, h5, h6, h7, h8⟩⟩ := h
  · exact ⟨none, 0, by rw [h2], by omega, fun hne => absurd (List.length_eq_zero_iff.1 h2) hne, fun a ha => by cases ha⟩
  · refine ⟨some ⟨g, 0, none⟩, cap, rfl, h5, fun _ => ⟨g, 0, rfl, (hl g rfl).2, fun j hj => ?_⟩, fun a ha => by cases ha; exact ⟨h3, cur, h4⟩⟩
    rw [Nat.zero_add]
    refine row_cell h' rfl ?_
    simp [strsV, hj, List.getD_eq_getElem?_getD]
set_option maxHeartbeats 2000000 in
theorem copyOf_any (ao : Option Addr) (A : List ByteArray) (cap : Nat) (w : World) (h : StrsIn w ao A) (hA : A.length ≤ 1000) (hcap : A.length ≤ cap) (hs : ∀ j, j < A.length → (A.getD j ByteArray.empty).size ≤ 1000) :
    Calls Tryz.prog 129 #[.slice ao A.length cap] w fun e w' => ∃ v, e = .returned v ∧ w'.ownsRow w.heap.size 9 1 v A.length (strsV A) ∧ Below w.heap.size w w' := by
  have HA : Hid (∀ w', Below w.heap.size w w' → StrsIn w' ao A) := fun w' hb => h.below hb
  obtain ⟨i0, hi, hz0, hz1, hz2⟩ := info_parts infoStr
  generalize hlen : A.length = n at *
  clear h
  go_enter Tryz.func129, Tryz.ntmps129
  go_wp2_with fail
  go_loopw [8, 3] (fun iv v wr => ∃ i : Nat, iv = .int .i64 i ∧ i ≤ n ∧ wr.ownsRow w.heap.size 9 1 v i (strsV (A.take i)) ∧ Below w.heap.size w wr) (fun iv _ _ => n - (intOf iv).toNat)
  case atStart => exact ⟨0, rfl, Nat.zero_le _, World.ownsRow_nil _ _ _ _, Below.refl _ _⟩
  case round =>
    obtain ⟨i, rfl, hin, hown, hbw⟩ := hrel
    by_cases hil : i < n
    · obtain ⟨b, off, rfl, hb, hc⟩ := HA.out wr hbw (by intro e; rw [e] at hlen; simp at hlen; omega)
      have q0 := hc i (by omega)
      have hsz := hs i hil
      have htake := strsV_take A i (by omega)
      have Ht : Hid (strsV (A.take (i + 1)) = strsV (A.take i) ++ [.string (A.getD i ByteArray.empty)]) := htake
      clear hc hs htake
      generalize A.getD i ByteArray.empty = x at *
      go_wp2_with fail
      refine (clone_any x _ (by omega)).mono ?_
      rintro e w1 ⟨rfl, hb1⟩
      have hown1 := own_heap hown (w' := w1) fun k hk => hb1.block k (hown.lt k hk).2
      have hbw1 := hbw.tr hb1
      have hws := hbw1.size
      go_wp2_with (at_builtin; refine wpList_append_own _ rfl _ _ 31 rfl w.heap.size 9 i0 _ 1 16 Tryz.underlying31 hi hz0 hz1 hz2 rfl (by decide) _ _ _ rfl (hown1.alloc _) ⟨w1.heap.size, 0, none⟩ 1 1 [.string x] rfl rfl ?c1 ?c2 ?c3 ?c4 ?c5 ?_)
      case c1 => exact cell_one_new w1 _ _
      case c2 => simp [Value.oneCell']
      case c3 => unfold maxLen; omega
      case c4 => omega
      case c5 => simp; omega
      intro v' w2 hown' hgrow _
      have hb2 : Below w.heap.size w w2 := (hbw1.al _).grown hgrow (Nat.le_trans hbw1.size (by simp)) (fun k e => (hown1.lt k e).1)
      go_wp2_with fail
      go_roundw
      case rel => exact ⟨i + 1, by go_num, by omega, by rw [Ht.out]; exact hown', hb2⟩
      case measure => simp only [intOf]; omega
    · obtain rfl : i = n := by omega
      rw [List.take_of_length_le (by omega)] at hown
      go_wp2_with fail
      go_ret
      exact ⟨_, rfl, hown, hbw⟩
theorem delete0_any (ea : Option Addr) (n cap : Nat) (w : World) (hcap : n ≤ cap) : Calls Tryz.prog 130 #[.slice ea n cap, .int .i64 0, .int .i64 0] w fun e w' => e = .returned (.slice ea n cap) ∧ w' = w := by
  go_enter Tryz.func130, Tryz.ntmps130
  go_wp2_with fail
  go_ret
  exact ⟨rfl, rfl⟩
structure EvT (w : World) (c : EvC) : Prop where
  so : ∀ a, c.so = some a → ∃ cs m, w.heap[a.block]? = some (.cells cs 4 m)
  ao : ∀ a, c.ao = some a → ∃ cs m, w.heap[a.block]? = some (.cells cs 9 m)
theorem EvT.off {w : World} {c : EvC} {g : Nat} {cg : Array Value} {m : Nat × Nat} (h : EvT w c) (hg : w.heap[g]? = some (.cells cg 159 m)) : EvOff g c :=
  ⟨fun a ha e => (by obtain ⟨cs, m, h1⟩ := h.so a ha; rw [e, hg] at h1; cases h1), fun a ha e => (by obtain ⟨cs, m, h1⟩ := h.ao a ha; rw [e, hg] at h1; cases h1)⟩
structure Spare (P : Nat → Prop) (w w' : World) : Prop where
  os : w'.os = w.os
  tape : w'.tape = w.tape
  output : w'.output = w.output
  size : w.heap.size ≤ w'.heap.size
  block : ∀ b, b < w.heap.size → ¬ P b → w'.heap[b]? = w.heap[b]?
theorem Spare.trans {P : Nat → Prop} {a b c : World} (h : Spare P a b) (k : Spare P b c) : Spare P a c := ⟨k.os.trans h.os, k.tape.trans h.tape, k.output.trans h.output, Nat.le_trans h.size k.size, fun x hx hp => (k.block x (Nat.lt_of_lt_of_le hx h.size) hp).trans (h.block x hx hp)⟩
theorem Spare.of_below {P : Nat → Prop} {a b : World} (h : Below a.heap.size a b) : Spare P a b := ⟨h.os, h.tape, h.output, h.size, fun x hx _ => h.block x hx⟩
theorem Spare.of_only {P : Nat → Prop} {g : Nat} {a b : World} (h : Only g a b) (hP : ∀ x, x = g → P x) : Spare P a b := ⟨h.os, h.tape, h.output, h.size, fun x hx hp => h.block x hx fun e => hp (hP x e)⟩
theorem Spare.mono {P Q : Nat → Prop} {a b : World} (h : Spare P a b) (hP : ∀ x, x < a.heap.size → P x → Q x) : Spare Q a b := ⟨h.os, h.tape, h.output, h.size, fun x hx hq => h.block x hx fun e => hq (hP x hx e)⟩
theorem Spare.of_grown {P : Nat → Prop} {row : Option Nat} {a b : World} (h : a.grownBy b row) (hP : ∀ x, row = some x → P x) : Spare P a b := ⟨h.os, h.tape, h.output, h.size, fun x hx hp => h.block x hx fun e => hp (hP x e.symm)⟩
theorem EvIn.spare {P : Nat → Prop} {w w' : World} {c : EvC} {e : Pe} (h : EvIn w c e) (hs : Spare P w w') (h1 : ∀ a, c.so = some a → ¬ P a.block) (h2 : ∀ a, c.ao = some a → ¬ P a.block) : EvIn w' c e := by
  obtain ⟨sb, s1, s2, s3⟩ := h.so
  refine { h with so := ⟨sb, s1, Nat.lt_of_lt_of_le s2 hs.size, fun j b hj => ?_⟩, atoms := fun hne => ?_ }
  · rw [World.cell?_of_block (hs.block sb s2 (h1 _ s1))]; exact s3 j b hj
  · obtain ⟨b, off, a1, a2, a3⟩ := h.atoms hne
    exact ⟨b, off, a1, Nat.lt_of_lt_of_le a2 hs.size, fun j hj => by rw [World.cell?_of_block (hs.block b a2 (h2 _ a1))]; exact a3 j hj⟩
theorem EvT.spare {P : Nat → Prop} {w w' : World} {c : EvC} (h : EvT w c) (hs : Spare P w w') (h1 : ∀ a, c.so = some a → ¬ P a.block) (h2 : ∀ a, c.ao = some a → ¬ P a.block) : EvT w' c :=
  ⟨fun a ha => by obtain ⟨cs, m, k⟩ := h.so a ha; exact ⟨cs, m, by rw [hs.block _ (heap_lt k) (h1 a ha)]; exact k⟩, fun a ha => by obtain ⟨cs, m, k⟩ := h.ao a ha; exact ⟨cs, m, by rw [hs.block _ (heap_lt k) (h2 a ha)]; exact k⟩⟩
theorem NodesIn.spare {P : Nat → Prop} {w w' : World} {no : Option Addr} {K : List Key} (h : NodesIn w no K) (hs : Spare P w w') (h1 : ∀ a, no = some a → ¬ P a.block) : NodesIn w' no K := fun hne => by
  obtain ⟨nb, a1, a2, a3⟩ := h hne
  have hc : ∀ q, w'.cell? ⟨nb, q, none⟩ = w.cell? ⟨nb, q, none⟩ := fun q => World.cell?_of_block (hs.block nb a2 (h1 _ a1))
  exact ⟨nb, a1, Nat.lt_of_lt_of_le a2 hs.size, fun i k hk => by simp only [hc]; exact a3 i k hk⟩
theorem infoEvent : (Tryz.prog.info? 159).map (fun i => (i.zero, i.size, i.bytes)) = some (some (.agg #[.int .i64 0, .int .i64 0, .slice none 0 0, .slice none 0 0]), 4, 64) := by kernel_rfl
theorem flatE_snoc (C : List EvC) (c : EvC) : flatE (C ++ [c]) = flatE C ++ evCells c := by simp [flatE]
theorem evOne (c : EvC) : ∀ u ∈ evCells c, u.oneCell' = true := by
  intro u hu
  simp [evCells, EvC.av, EvC.sv] at hu
  rcases hu with rfl | rfl | rfl | rfl <;> rfl
theorem cells_four_new (w : World) (c : EvC) (t : TypeId) : ∀ j u, (evCells c)[j]? = some u → (w.alloc (.cells #[.int .i64 c.number, .int .i64 c.time, .slice c.ao c.al c.ac, .slice c.so c.sl c.sc] t)).cell? ((⟨w.heap.size, 0, none⟩ : Addr).add j) = some u := by
  intro j u hj
  have hh := heap_new w (.cells #[.int .i64 c.number, .int .i64 c.time, .slice c.ao c.al c.ac, .slice c.so c.sl c.sc] t (0, 0)) _ rfl
  have e1 : (⟨w.heap.size, 0, none⟩ : Addr).add j = ⟨w.heap.size, j, none⟩ := by simp [Addr.add]; omega
  rw [e1]
  refine cell_at hh ?_
  rcases j with _ | _ | _ | _ | j
  · exact hj
  · exact hj
  · exact hj
  · exact hj
  · simp [evCells] at hj
def nextN (C : List EvC) : Int := match C.getLast? with
  | some c => c.number + 1
  | none => 1
noncomputable def body87 : Code := Tryz.f87.body.getD .skip
noncomputable def opsT5 : Array Oper := match body87 with
  | .seq _ (.seq _ (.seq _ (.seq (.region _ x _) _))) => x
  | _ => #[]
noncomputable def opsT6 : Array Oper := match body87 with
  | .seq _ (.seq _ (.seq _ (.seq _ (.seq (.region _ x _) _)))) => x
  | _ => #[]
set_option maxRecDepth 100000 in
set_option maxHeartbeats 8000000 in
theorem region5_any (Q : Exit → Act → World → Prop) (hQ : ∀ c a d v w, Q (.panic c) (Act.put a d v) w → Q (.panic c) a w) (wtb nx : Nat) (retain : Int) (rm nvv : Value) (ea : Option Addr) (ecap : Nat) (pv : Value) (C : List EvC) (num time : Int) (ao2 : Option Addr) (al2 ac2 : Nat) (W : World) (x2 x3 x4 x5 x6 x8 x9 x10 x11 x12 x13 x14 x15 x16 x17 x18 x19 x20 x21 x22 x23 x24 x25 x26 x27 x28 x29 x30 u31 u32 u33 u34 u35 u36 u37 u38 u39 u40 u41 u42 u43 u44 u45 u46 u47 u48 u49 u50 u51 u52 u53 : Value)
    (hw : W.heap[wtb]? = some (.cells #[.int .i64 retain, rm, nvv, .slice ea C.length ecap, pv] 153 (0, 0))) (hE : EvsAt W (.slice ea C.length ecap) C) (hn : C.length ≤ 1000) (hcap : C.length ≤ ecap) (ht : 0 ≤ time ∧ time ≤ 1000000000000) (hr : 0 ≤ retain ∧ retain ≤ 1000000000) (hold : oldF (time - retain) C = 0)
    (hnx : W.heap[nx]? = some (.cells #[.int .i64 num, .int .i64 time, .slice ao2 al2 ac2, .slice none 0 0] 159 (0, 0))) (hnxe : (Value.slice ea C.length ecap).ownBlock ≠ some nx)
    (hK : ∀ (ev' : Value) (W' : World) (v41 : Value), W'.heap[wtb]? = some (.cells #[.int .i64 retain, rm, nvv, ev', pv] 153 (0, 0)) → EvsAt W' ev' (C ++ [(⟨num, time, ao2, al2, ac2, none, 0, 0⟩ : EvC)]) → Spare (fun b => b = wtb ∨ (Value.slice ea C.length ecap).ownBlock = some b) W W' → (∀ b, ev'.ownBlock = some b → (Value.slice ea C.length ecap).ownBlock = some b ∨ W.heap.size ≤ b) →
      Q .normal ⟨#[(.pointer (some ⟨wtb, 0, none⟩)), (.int .i64 time), x2, x3, x4, x5, x6, (.pointer (some ⟨nx, 0, none⟩)), x8, x9, x10, x11, x12, x13, x14, x15, x16, x17, x18, x19, x20, x21, x22, x23, x24, x25, x26, x27, x28, x29, x30, (.pointer (some ⟨wtb, 0, none⟩)), (.pointer (some ⟨wtb, 0, none⟩)), (.pointer (some ⟨wtb, 0, none⟩)), (.pointer (some ⟨wtb, 3, none⟩)), (.slice ea C.length ecap), (.pointer (some ⟨wtb, 0, none⟩)), (.int .i64 time), (.int .i64 0), (.slice ea C.length ecap), (.agg #[.int .i64 num, .int .i64 time, .slice ao2 al2 ac2, .slice none 0 0]), v41, ev', (.pointer (some ⟨wtb, 0, none⟩)), (.pointer (some ⟨wtb, 3, none⟩)), u45, u46, u47, u48, u49, u50, u51, u52, u53], []⟩ W') :
    (Code.region 5 opsT5 true).wp Tryz.prog Q ⟨#[(.pointer (some ⟨wtb, 0, none⟩)), (.int .i64 time), x2, x3, x4, x5, x6, (.pointer (some ⟨nx, 0, none⟩)), x8, x9, x10, x11, x12, x13, x14, x15, x16, x17, x18, x19, x20, x21, x22, x23, x24, x25, x26, x27, x28, x29, x30, u31, u32, u33, u34, u35, u36, u37, u38, u39, u40, u41, u42, u43, u44, u45, u46, u47, u48, u49, u50, u51, u52, u53], []⟩ W := by
  have hlt := heap_lt hw
  have hnl := heap_lt hnx
  obtain ⟨i0, hi, hz0, hz1, hz2⟩ := info_parts infoEvent
  have HO : Hid (∀ w', Below W.heap.size W w' → Calls Tryz.prog 131 #[.pointer (some ⟨wtb, 0, none⟩), .int .i64 time] w' fun e w'' => e = .returned (.int .i64 0) ∧ Below w'.heap.size w' w'') := fun w' hb => by
    have := old_any wtb retain rm nvv (.slice ea C.length ecap) pv C time w' (hb.heapOf hw) (hE.below hb) (by omega) ht hr
    rw [hold] at this
    exact this
  have Hst : Hid (∀ w', Below W.heap.size W w' → (fun w' => w'.cell? ⟨wtb, 3, none⟩ = some (.slice ea C.length ecap) ∧ w'.cell? ⟨nx, 0, none⟩ = some (.int .i64 num) ∧ w'.cell? ⟨nx, 1, none⟩ = some (.int .i64 time) ∧ w'.cell? ⟨nx, 2, none⟩ = some (.slice ao2 al2 ac2) ∧ w'.cell? ⟨nx, 3, none⟩ = some (.slice none 0 0)) w') := fun w' hb => ⟨cell_at (hb.heapOf hw) rfl, cell_at (hb.heapOf hnx) rfl, cell_at (hb.heapOf hnx) rfl, cell_at (hb.heapOf hnx) rfl, cell_at (hb.heapOf hnx) rfl⟩
  have hS0 := Hst.out _ (Below.refl _ W).drew
  have tail5 : ∀ (V : World) (sl : Nat), Below W.heap.size W V → (∀ j u, (evCells (⟨num, time, ao2, al2, ac2, none, 0, 0⟩ : EvC))[j]? = some u → V.cell? ((⟨sl, 0, none⟩ : Addr).add j) = some u) →
      AnyF Tryz.prog .any opsT5 Q (fun w' => w'.cell? ⟨wtb, 3, none⟩ = some (.slice ea C.length ecap) ∧ w'.cell? ⟨nx, 0, none⟩ = some (.int .i64 num) ∧ w'.cell? ⟨nx, 1, none⟩ = some (.int .i64 time) ∧ w'.cell? ⟨nx, 2, none⟩ = some (.slice ao2 al2 ac2) ∧ w'.cell? ⟨nx, 3, none⟩ = some (.slice none 0 0)) 14 4 #[true, true, true, true, true, true, true, true, true, true, true, false, false, false, false] ⟨#[(.pointer (some ⟨wtb, 0, none⟩)), (.int .i64 time), x2, x3, x4, x5, x6, (.pointer (some ⟨nx, 0, none⟩)), x8, x9, x10, x11, x12, x13, x14, x15, x16, x17, x18, x19, x20, x21, x22, x23, x24, x25, x26, x27, x28, x29, x30, (.pointer (some ⟨wtb, 0, none⟩)), (.pointer (some ⟨wtb, 0, none⟩)), (.pointer (some ⟨wtb, 0, none⟩)), (.pointer (some ⟨wtb, 3, none⟩)), (.slice ea C.length ecap), (.pointer (some ⟨wtb, 0, none⟩)), (.int .i64 time), (.int .i64 0), (.slice ea C.length ecap), (.agg #[.int .i64 num, .int .i64 time, .slice ao2 al2 ac2, .slice none 0 0]), (.slice (some ⟨sl, 0, none⟩) 1 1), u42, u43, u44, u45, u46, u47, u48, u49, u50, u51, u52, u53], []⟩ V := by
    intro V sl hbV hcell
    have hwV := hbV.heapOf hw
    have hnV := hbV.heapOf hnx
    have hEV := hE.below hbV
    simp only [opsT5, body87, Tryz.f87, Option.getD_some]
    refine AnyF.one (i := 11) (by decide +kernel) rfl (by rfl) (wp_append_own (.tmp 39) (.tmp 41) 146 rfl 0 159 i0 _ 4 64 Tryz.underlying146 hi hz0 hz1 hz2 rfl (by decide) (.slice ea C.length ecap) C.length (flatE C) rfl hEV ⟨sl, 0, none⟩ 1 1 (evCells (⟨num, time, ao2, al2, ac2, none, 0, 0⟩ : EvC)) rfl rfl hcell (evOne _) (by unfold maxLen; omega) (by omega) (Nat.zero_le _) ?_)
    intro v' w2 hown' hgrow hor
    obtain ⟨g2, c2, rfl⟩ := ownsRow_succ hown'
    have hneV : ∀ b, (Value.slice ea C.length ecap).ownBlock = some b → ∃ cs, V.heap[b]? = some (.cells cs 159 (0, 0)) := fun b hb => own_tag hEV hb
    have hwt2 : w2.heap[wtb]? = some (.cells #[.int .i64 retain, rm, nvv, .slice ea C.length ecap, pv] 153 (0, 0)) := by
      rw [hgrow.block wtb (heap_lt hwV) (fun e => by obtain ⟨cs, h1⟩ := hneV wtb e.symm; rw [hwV] at h1; cases h1)]; exact hwV
    have hc3 : w2.cell? ⟨wtb, 3, none⟩ = some (.slice ea C.length ecap) := cell_at hwt2 rfl
    have hf3 : w2.frozen? ⟨wtb, 3, none⟩ = false := Lib.frozen_of_heap hwt2 _
    have hnx2 : w2.heap[nx]? = some (.cells #[.int .i64 num, .int .i64 time, .slice ao2 al2 ac2, .slice none 0 0] 159 (0, 0)) := by
      rw [hgrow.block nx (heap_lt hnV) (fun e => hnxe e.symm)]; exact hnV
    have hS2 : (fun w' => w'.cell? ⟨wtb, 3, none⟩ = some (.slice ea C.length ecap) ∧ w'.cell? ⟨nx, 0, none⟩ = some (.int .i64 num) ∧ w'.cell? ⟨nx, 1, none⟩ = some (.int .i64 time) ∧ w'.cell? ⟨nx, 2, none⟩ = some (.slice ao2 al2 ac2) ∧ w'.cell? ⟨nx, 3, none⟩ = some (.slice none 0 0)) w2 := ⟨hc3, cell_at hnx2 rfl, cell_at hnx2 rfl, cell_at hnx2 rfl, cell_at hnx2 rfl⟩
    refine ⟨fun _ => hS2, ?_⟩
    try walk_nrm
    refine AnyF.op (i := 12) (by decide +kernel) rfl (by rfl) (fun K' hK' => ?_)
    unfold Oper.wp
    go_simp
    refine hK' _ _ ⟨fun _ => hS2, ?_⟩
    clear hK' K'
    try walk_nrm
    refine AnyF.op (i := 13) (by decide +kernel) rfl (by rfl) (fun K' hK' => ?_)
    unfold Oper.wp
    go_simp
    refine hK' _ _ ⟨fun _ => hS2, ?_⟩
    clear hK' K'
    try walk_nrm
    refine AnyF.op (i := 14) (by decide +kernel) rfl (by rfl) (fun K' hK' => ?_)
    unfold Oper.wp
    go_simp
    refine hK' _ _ ⟨fun x => absurd rfl x, ?_⟩
    clear hK' K'
    refine AnyF.done (by decide +kernel) ?_ _
    try walk_nrm
    have hg2 : g2 ≠ wtb := by
      rintro rfl
      obtain ⟨_, ⟨h2, _⟩ | ⟨g', cap', cur, e1, _, e2, _⟩⟩ := hown'
      · cases h2
      · cases e1; rw [hwt2] at e2; cases e2
    refine hK (.slice (some ⟨g2, 0, none⟩) (C.length + 1) c2) _ _ (set_heap (i := 3) hwt2) ?_ ?_ ?_
    · show World.ownsRow _ 0 159 4 _ _ _
      have el : (C ++ [(⟨num, time, ao2, al2, ac2, none, 0, 0⟩ : EvC)]).length = C.length + 1 := by simp
      rw [el, flatE_snoc]
      exact own_heap hown' fun b hbb => Below.heap_setCell _ _ _ _ (by cases hbb; exact hg2)
    · have s1 : Spare (fun b => b = wtb ∨ (Value.slice ea C.length ecap).ownBlock = some b) W w2 := (Spare.of_below hbV).trans (Spare.of_grown hgrow (fun x hx => .inr hx))
      exact s1.trans (Spare.of_only ((Only.refl wtb w2).setCell (p := ⟨wtb, 3, none⟩) (.inl rfl) _) (fun x hx => .inl hx))
    · intro b hb
      rcases hor with e | e
      · exact .inl (e ▸ hb)
      · rw [e] at hb; cases hb; exact .inr hbV.size
  simp only [opsT5, body87, Tryz.f87, Option.getD_some] at tail5 ⊢
  refine AnyF.begin (S := (fun w' => w'.cell? ⟨wtb, 3, none⟩ = some (.slice ea C.length ecap) ∧ w'.cell? ⟨nx, 0, none⟩ = some (.int .i64 num) ∧ w'.cell? ⟨nx, 1, none⟩ = some (.int .i64 time) ∧ w'.cell? ⟨nx, 2, none⟩ = some (.slice ao2 al2 ac2) ∧ w'.cell? ⟨nx, 3, none⟩ = some (.slice none 0 0))) (fin := 14) (by kernel_rfl) ?_
  simp only [List.size_toArray, List.length_cons, List.length_nil, Nat.reduceAdd, Nat.zero_add]
  refine AnyF.take 0 (v := ?vq0) rfl (by decide +kernel) (by decide +kernel) (by decide +kernel) (by decide +kernel) (fun c a w h => hQ c a _ _ w h) (by rfl) (fun w' hS => Go.Conc.run_eq_of ?rq0) hS0 ?_
  case rq0 =>
    intro K' hK'
    obtain ⟨y1, y2, y3, y4, y5⟩ := hS
    go_simp
    exact hK'
  try walk_nrm
  refine AnyF.take 1 (v := ?vq1) rfl (by decide +kernel) (by decide +kernel) (by decide +kernel) (by decide +kernel) (fun c a w h => hQ c a _ _ w h) (by rfl) (fun w' hS => Go.Conc.run_eq_of ?rq1) hS0 ?_
  case rq1 =>
    intro K' hK'
    obtain ⟨y1, y2, y3, y4, y5⟩ := hS
    go_simp
    exact hK'
  try walk_nrm
  refine AnyF.take 2 (v := ?vq2) rfl (by decide +kernel) (by decide +kernel) (by decide +kernel) (by decide +kernel) (fun c a w h => hQ c a _ _ w h) (by rfl) (fun w' hS => Go.Conc.run_eq_of ?rq2) hS0 ?_
  case rq2 =>
    intro K' hK'
    obtain ⟨y1, y2, y3, y4, y5⟩ := hS
    go_simp
    exact hK'
  try walk_nrm
  refine AnyF.take 3 (v := ?vq3) rfl (by decide +kernel) (by decide +kernel) (by decide +kernel) (by decide +kernel) (fun c a w h => hQ c a _ _ w h) (by rfl) (fun w' hS => Go.Conc.run_eq_of ?rq3) hS0 ?_
  case rq3 =>
    intro K' hK'
    obtain ⟨y1, y2, y3, y4, y5⟩ := hS
    go_simp
    exact hK'
  try walk_nrm
  refine AnyF.take 4 (v := ?vq4) rfl (by decide +kernel) (by decide +kernel) (by decide +kernel) (by decide +kernel) (fun c a w h => hQ c a _ _ w h) (by rfl) (fun w' hS => Go.Conc.run_eq_of ?rq4) hS0 ?_
  case rq4 =>
    intro K' hK'
    obtain ⟨y1, y2, y3, y4, y5⟩ := hS
    go_simp
    exact hK'
  try walk_nrm
  refine AnyF.take 5 (v := ?vq5) rfl (by decide +kernel) (by decide +kernel) (by decide +kernel) (by decide +kernel) (fun c a w h => hQ c a _ _ w h) (by rfl) (fun w' hS => Go.Conc.run_eq_of ?rq5) hS0 ?_
  case rq5 =>
    intro K' hK'
    obtain ⟨y1, y2, y3, y4, y5⟩ := hS
    go_simp
    exact hK'
  try walk_nrm
  refine AnyF.take 6 (v := ?vq6) rfl (by decide +kernel) (by decide +kernel) (by decide +kernel) (by decide +kernel) (fun c a w h => hQ c a _ _ w h) (by rfl) (fun w' hS => Go.Conc.run_eq_of ?rq6) hS0 ?_
  case rq6 =>
    intro K' hK'
    obtain ⟨y1, y2, y3, y4, y5⟩ := hS
    go_simp
    exact hK'
  try walk_nrm
  refine AnyF.take 9 (v := ?vq9) rfl (by decide +kernel) (by decide +kernel) (by decide +kernel) (by decide +kernel) (fun c a w h => hQ c a _ _ w h) (by rfl) (fun w' hS => Go.Conc.run_eq_of ?rq9) hS0 ?_
  case rq9 =>
    intro K' hK'
    obtain ⟨y1, y2, y3, y4, y5⟩ := hS
    go_simp
    exact hK'
  try walk_nrm
  refine AnyF.two (i := 7) (j := 10) (by decide +kernel) rfl (by rfl) rfl (by rfl) (fun K' hK' => ?_) (fun K' hK' => ?_)
  · unfold Oper.wp
    rw [Go.Conc.run_call_body (f := 131) (args := #[.tmp 36, .tmp 37]) (ats := #[232, 3]) rfl Tryz.func131 (by decide) rfl]
    simp only [Oper.upon, List.map_toArray, List.map_cons, List.map_nil]
    change Calls Tryz.prog 131 #[.pointer (some ⟨wtb, 0, none⟩), .int .i64 time] W.drew _
    refine (HO.out W.drew (Below.refl W.heap.size W).drew).mono ?_
    rintro e w1 ⟨rfl, hb1⟩
    replace hb1 : Below W.heap.size W w1 := ((Below.refl W.heap.size W).drew).trans (hb1.mono ((Below.refl W.heap.size W).drew).size)
    refine hK' _ _ ⟨fun _ => Hst.out _ hb1, ?_⟩
    clear hK' K'
    try walk_nrm
    refine AnyF.two (i := 8) (j := 10) (by decide +kernel) rfl (by rfl) rfl (by rfl) (fun K' hK' => ?_) (fun K' hK' => ?_)
    · unfold Oper.wp
      rw [Go.Conc.run_call_body (f := 130) (args := #[.tmp 35, .const (.int .i64 0), .tmp 38]) (ats := #[146, 3, 3]) rfl Tryz.func130 (by decide) rfl]
      simp only [Oper.upon, List.map_toArray, List.map_cons, List.map_nil]
      change Calls Tryz.prog 130 #[.slice ea C.length ecap, .int .i64 0, .int .i64 0] w1 _
      refine (delete0_any ea C.length ecap w1 hcap).mono ?_
      rintro e wd ⟨rfl, hwd⟩
      have hwd := hwd.symm
      subst hwd
      refine hK' _ _ ⟨fun _ => Hst.out _ (hb1), ?_⟩
      clear hK' K'
      try walk_nrm
      refine AnyF.op (i := 10) (by decide +kernel) rfl (by rfl) (fun K' hK' => ?_)
      unfold Oper.wp
      go_simp
      refine hK' _ _ ⟨fun _ => Hst.out _ ((hb1).al _), ?_⟩
      clear hK' K'
      try walk_nrm
      exact tail5 _ w1.heap.size (hb1.al _) (cells_four_new w1 (⟨num, time, ao2, al2, ac2, none, 0, 0⟩ : EvC) 159)
    · unfold Oper.wp
      go_simp
      refine hK' _ _ ⟨fun _ => Hst.out _ ((hb1).al _), ?_⟩
      clear hK' K'
      try walk_nrm
      refine AnyF.op (i := 8) (by decide +kernel) rfl (by rfl) (fun K' hK' => ?_)
      unfold Oper.wp
      rw [Go.Conc.run_call_body (f := 130) (args := #[.tmp 35, .const (.int .i64 0), .tmp 38]) (ats := #[146, 3, 3]) rfl Tryz.func130 (by decide) rfl]
      simp only [Oper.upon, List.map_toArray, List.map_cons, List.map_nil]
      change Calls Tryz.prog 130 #[.slice ea C.length ecap, .int .i64 0, .int .i64 0] (w1.alloc (.cells #[.int .i64 num, .int .i64 time, .slice ao2 al2 ac2, .slice none 0 0] 159)) _
      refine (delete0_any ea C.length ecap (w1.alloc (.cells #[.int .i64 num, .int .i64 time, .slice ao2 al2 ac2, .slice none 0 0] 159)) hcap).mono ?_
      rintro e wd ⟨rfl, hwd⟩
      have hwd := hwd.symm
      subst hwd
      refine hK' _ _ ⟨fun _ => Hst.out _ (hb1.al _), ?_⟩
      clear hK' K'
      try walk_nrm
      exact tail5 _ w1.heap.size (hb1.al _) (cells_four_new w1 (⟨num, time, ao2, al2, ac2, none, 0, 0⟩ : EvC) 159)
  · unfold Oper.wp
    go_simp
    refine hK' _ _ ⟨fun _ => Hst.out _ (((Below.refl W.heap.size W).drew).al _), ?_⟩
    clear hK' K'
    try walk_nrm
    refine AnyF.op (i := 7) (by decide +kernel) rfl (by rfl) (fun K' hK' => ?_)
    have hbA : Below W.heap.size W (W.drew.alloc (.cells #[.int .i64 num, .int .i64 time, .slice ao2 al2 ac2, .slice none 0 0] 159)) := ((Below.refl _ W).drew.al _)
    unfold Oper.wp
    rw [Go.Conc.run_call_body (f := 131) (args := #[.tmp 36, .tmp 37]) (ats := #[232, 3]) rfl Tryz.func131 (by decide) rfl]
    simp only [Oper.upon, List.map_toArray, List.map_cons, List.map_nil]
    change Calls Tryz.prog 131 #[.pointer (some ⟨wtb, 0, none⟩), .int .i64 time] (W.drew.alloc (.cells #[.int .i64 num, .int .i64 time, .slice ao2 al2 ac2, .slice none 0 0] 159)) _
    refine (HO.out (W.drew.alloc (.cells #[.int .i64 num, .int .i64 time, .slice ao2 al2 ac2, .slice none 0 0] 159)) hbA).mono ?_
    rintro e w1 ⟨rfl, hb1⟩
    have hbB := hb1
    replace hb1 : Below W.heap.size W w1 := (hbA).trans (hb1.mono (hbA).size)
    refine hK' _ _ ⟨fun _ => Hst.out _ hb1, ?_⟩
    clear hK' K'
    try walk_nrm
    refine AnyF.op (i := 8) (by decide +kernel) rfl (by rfl) (fun K' hK' => ?_)
    unfold Oper.wp
    rw [Go.Conc.run_call_body (f := 130) (args := #[.tmp 35, .const (.int .i64 0), .tmp 38]) (ats := #[146, 3, 3]) rfl Tryz.func130 (by decide) rfl]
    simp only [Oper.upon, List.map_toArray, List.map_cons, List.map_nil]
    change Calls Tryz.prog 130 #[.slice ea C.length ecap, .int .i64 0, .int .i64 0] w1 _
    refine (delete0_any ea C.length ecap w1 hcap).mono ?_
    rintro e wd ⟨rfl, hwd⟩
    have hwd := hwd.symm
    subst hwd
    refine hK' _ _ ⟨fun _ => Hst.out _ (hb1), ?_⟩
    clear hK' K'
    try walk_nrm
    have hsl : W.heap.size < (W.drew.alloc (.cells #[.int .i64 num, .int .i64 time, .slice ao2 al2 ac2, .slice none 0 0] 159)).heap.size := heap_lt (heap_new W.drew (.cells #[.int .i64 num, .int .i64 time, .slice ao2 al2 ac2, .slice none 0 0] 159) W.heap.size rfl)
    refine tail5 _ W.heap.size hb1 (fun j u hj => ?_)
    have h1 := cells_four_new W.drew (⟨num, time, ao2, al2, ac2, none, 0, 0⟩ : EvC) 159 j u hj
    have e1 : (⟨W.heap.size, 0, none⟩ : Addr).add j = ⟨W.heap.size, j, none⟩ := by simp [Addr.add]; omega
    have e2 : (⟨W.drew.heap.size, 0, none⟩ : Addr).add j = ⟨W.heap.size, j, none⟩ := e1
    rw [e2] at h1
    rw [e1, hbB.cell (p := ⟨W.heap.size, j, none⟩) hsl]
    exact h1
end Go.Proofs.YtpbbmagjhkakgaaGreatDoor.Ev
