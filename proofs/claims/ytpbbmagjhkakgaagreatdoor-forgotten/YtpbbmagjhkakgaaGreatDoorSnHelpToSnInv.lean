import Derived.Test.YtpbbmagjhkakgaaGreatDoorEvAddToEvStream
import Derived.Test.YtpbbmagjhkakgaaGreatDoorPureNumToPureTok
import Derived.Test.YtpbbmagjhkakgaaGreatDoorPureSizeToPureSem
import Derived.Laws.IdiomStrings
namespace Go.Proofs.YtpbbmagjhkakgaaGreatDoor.Ev
open Go.RowKit Go.Deep
def preD (m : Nat) : List UInt8 := if m < 10 then [] else Lib.decDigits (m / 10)
def digD (m : Nat) : UInt8 := UInt8.ofNat (48 + m % 10)
theorem digD_int (m : Nat) : ((digD m).toNat : Int) = 48 + (m : Int) % 10 := by
  unfold digD
  rw [UInt8.toNat_ofNat']
  omega
theorem dec_pre (m : Nat) : Lib.decDigits m = preD m ++ [digD m] := by
  unfold preD digD
  rw [Lib.decDigits]
  split
  · rename_i h
    rw [show m % 10 = m by omega]
    rfl
  · rfl
theorem conv_one (W : World) (b : Nat) (k : Int) (c : UInt8) (hk : (c.toNat : Int) = k) (hW : W.cell? ⟨b, 0, none⟩ = some (.int .u8 k)) : (convert 99 9 (.slice (some ⟨b, 0, none⟩) 1 1)).run Tryz.prog W = .ok (.string ⟨#[c]⟩) W :=
  run_convert_bytes_back W 99 9 5 ⟨b, 0, none⟩ 1 [c] Tryz.underlying99 Tryz.underlying5 Tryz.underlying9 (fun j hj => by
    have hj0 : j = 0 := by simpa using hj
    subst hj0
    rw [← hk] at hW
    simpa [Addr.add] using hW)
set_option maxHeartbeats 2000000 in
set_option maxRecDepth 100000 in
theorem digits_any (n : Nat) (w : World) (hn : n ≤ 1000000) :
    Calls Tryz.prog 20 #[.int .i64 (n : Int)] w fun e w' => Below w.heap.size w w' ∧ ∃ d, e = .returned (.string d) ∧ d.data.toList = Lib.decDigits n := by
  have hcv0 := conv_one (w.alloc (.cells #[.int .u8 (48 + (n : Int) % 10)] 5)) w.heap.size (48 + (n : Int) % 10) (digD n) (digD_int n) (by rw [World.cell?_alloc_at _ _ _ _ rfl]; rfl)
  have hmod : 0 ≤ (n : Int) % 10 ∧ (n : Int) % 10 < 10 := by omega
  go_enter Tryz.func20, Tryz.ntmps20
  go_wp2_with fail
  go_loopw [0, 3] (fun nv sv wr => ∃ (m : Nat) (d : ByteArray), nv = .int .i64 (m : Int) ∧ sv = .string d ∧ m ≤ 1000000 ∧ d.size + m ≤ 1000001 ∧ Below w.heap.size w wr ∧ Hid (Lib.decDigits n = preD m ++ d.data.toList)) (fun nv _ _ => (intOf nv).toNat)
  case atStart => exact ⟨n, _, rfl, rfl, hn, by show 1 + n ≤ _; omega, (Below.refl _ _).al _, dec_pre n⟩
  case round =>
    clear hcv0 hmod
    obtain ⟨m, d, rfl, rfl, hm, hds, hbw, hD⟩ := hrel
    by_cases h10 : m < 10
    · have hge : decide ((10 : Int) ≤ (m : Int)) = false := by simp; omega
      have hD2 : Hid (d.data.toList = Lib.decDigits n) := by
        show _ = _
        rw [hD.out]
        unfold preD
        rw [if_pos h10]
        rfl
      clear hD
      go_wp2_with fail
      go_ret
      exact ⟨hbw, d, rfl, hD2.out⟩
    · have hge : decide ((10 : Int) ≤ (m : Int)) = true := by simp; omega
      have hcv := conv_one (wr.alloc (.cells #[.int .u8 (48 + (m : Int) / 10 % 10)] 5)) wr.heap.size (48 + (m : Int) / 10 % 10) (digD (m / 10)) (by have := digD_int (m / 10); omega) (by rw [World.cell?_alloc_at _ _ _ _ rfl]; rfl)
      have hno : ¬ 9223372036854775807 < 1 + d.size := by omega
      have hmod : 0 ≤ (m : Int) / 10 % 10 ∧ (m : Int) / 10 % 10 < 10 := by omega
      have hD2 : Hid (Lib.decDigits n = preD (m / 10) ++ ((⟨#[digD (m / 10)]⟩ : ByteArray) ++ d).data.toList) := by
        show _ = _
        rw [hD.out]
        have e : preD m = Lib.decDigits (m / 10) := by unfold preD; rw [if_neg h10]
        rw [e, dec_pre (m / 10)]
        simp [ByteArray.data_append]
      clear hD
      go_wp2_with fail
      go_roundw
      case rel => exact ⟨m / 10, _, by go_num, rfl, by omega, by rw [ByteArray.size_append]; show 1 + d.size + m / 10 ≤ _; omega, hbw.al _, hD2⟩
      case measure => simp only [intOf]; omega
def pickZ (c n : Int) : Int := (if c < 0 then -(c + 1) else c) % n
def I64 (c : Int) : Prop := -9223372036854775808 ≤ c ∧ c ≤ 9223372036854775807
theorem pickZ_range (c n : Int) (hn : 0 < n) : 0 ≤ pickZ c n ∧ pickZ c n < n := ⟨Int.emod_nonneg _ (by omega), Int.emod_lt_of_pos _ hn⟩
set_option maxHeartbeats 1000000 in
theorem pick_any (c n : Int) (w : World) (hc : I64 c) (hn : 0 < n ∧ n ≤ 1000000) : Calls Tryz.prog 19 #[.int .i64 c, .int .i64 n] w fun e w' => e = .returned (.int .i64 (pickZ c n)) ∧ w' = w := by
  obtain ⟨h1, h2⟩ := hc
  have hne : n ≠ 0 := by omega
  unfold pickZ
  by_cases h : c < 0
  · have hm : 0 ≤ (-(c + 1)) % n ∧ (-(c + 1)) % n < n := ⟨Int.emod_nonneg _ hne, Int.emod_lt_of_pos _ hn.1⟩
    have ht : Int.tmod (-(c + 1)) n = (-(c + 1)) % n := Int.tmod_eq_emod_of_nonneg (by omega)
    simp only [h, if_true]
    go_enter Tryz.func19, Tryz.ntmps19
    go_wp2_with fail
    go_ret
    exact ⟨rfl, rfl⟩
  · have hm : 0 ≤ c % n ∧ c % n < n := ⟨Int.emod_nonneg _ hne, Int.emod_lt_of_pos _ hn.1⟩
    have ht : Int.tmod c n = c % n := Int.tmod_eq_emod_of_nonneg (by omega)
    simp only [h, if_false]
    go_enter Tryz.func19, Tryz.ntmps19
    go_wp2_with fail
    go_ret
    exact ⟨rfl, rfl⟩
def laterZ (c : Int) : Int := 1 + pickZ c 12
theorem laterZ_range (c : Int) : 1 ≤ laterZ c ∧ laterZ c ≤ 12 := by have := pickZ_range c 12 (by decide); unfold laterZ; omega
theorem later_any (c : Int) (w : World) (hc : I64 c) : Calls Tryz.prog 22 #[.int .i64 c] w fun e w' => e = .returned (.int .i64 (laterZ c)) ∧ w' = w := by
  have hp := pick_any c 12 w hc (by decide)
  have hr := pickZ_range c 12 (by decide)
  unfold laterZ
  generalize pickZ c 12 = k at *
  go_enter Tryz.func22, Tryz.ntmps22
  go_wp2_with fail
  refine hp.mono ?_
  rintro e w1 ⟨rfl, rfl⟩
  go_wp2_with fail
  go_ret
  exact ⟨rfl, rfl⟩
def ltrB (i : Nat) : ByteArray := ⟨#[(97 + i).toUInt8]⟩
def bitN (n i : Nat) : Bool := (n / 2 ^ i) % 2 == 1
def atomsTo (n : Nat) : Nat → List ByteArray
  | 0 => []
  | i + 1 => if bitN n i then atomsTo n i ++ [ltrB i] else atomsTo n i
def atomsL (n : Nat) : List ByteArray := atomsTo n 3
theorem atomsTo_len (n : Nat) : ∀ i, (atomsTo n i).length ≤ i
  | 0 => Nat.le_refl _
  | i + 1 => by
    have := atomsTo_len n i
    unfold atomsTo
    split
    · simp; omega
    · omega
theorem bit_at (n i : Nat) (hn : n < 8) (hi : i < 3) : bits BinOp.and IntKind.i64 ((n : Int) / 2 ^ i) 1 = if bitN n i then 1 else 0 := by
  have h1 : n = 0 ∨ n = 1 ∨ n = 2 ∨ n = 3 ∨ n = 4 ∨ n = 5 ∨ n = 6 ∨ n = 7 := by omega
  have h2 : i = 0 ∨ i = 1 ∨ i = 2 := by omega
  rcases h1 with rfl | rfl | rfl | rfl | rfl | rfl | rfl | rfl <;> rcases h2 with rfl | rfl | rfl <;> decide
theorem ltr_at (i : Nat) (hi : i < 3) : (⟨#[97, 98, 99]⟩ : ByteArray).extract i (i + 1) = ltrB i := by
  have h2 : i = 0 ∨ i = 1 ∨ i = 2 := by omega
  rcases h2 with rfl | rfl | rfl <;> decide
set_option maxRecDepth 100000 in
set_option maxHeartbeats 4000000 in
theorem atoms_any (c : Int) (w : World) (hc : I64 c) : Calls Tryz.prog 25 #[.int .i64 c] w fun e w' => ∃ v, e = .returned v ∧ w'.ownsRow w.heap.size 9 1 v (atomsL (pickZ c 8).toNat).length (strsV (atomsL (pickZ c 8).toNat)) ∧ Below w.heap.size w w' := by
  have hp := pick_any c 8 w hc (by decide)
  have hr := pickZ_range c 8 (by decide)
  obtain ⟨n, hn⟩ : ∃ n : Nat, pickZ c 8 = n := ⟨(pickZ c 8).toNat, by omega⟩
  rw [hn] at hp hr ⊢
  have hn8 : n < 8 := by omega
  simp only [Int.toNat_natCast]
  obtain ⟨i0, hi, hz0, hz1, hz2⟩ := info_parts infoStr
  clear hn hr
  go_enter Tryz.func25, Tryz.ntmps25
  go_wp2_with fail
  refine hp.mono ?_
  rintro e w1 ⟨rfl, rfl⟩
  clear hp
  go_wp2_with fail
  go_loopw [5, 3] (fun iv v wr => ∃ i : Nat, iv = .int .i64 i ∧ i ≤ 3 ∧ wr.ownsRow w1.heap.size 9 1 v (atomsTo n i).length (strsV (atomsTo n i)) ∧ Below w1.heap.size w1 wr) (fun iv _ _ => 3 - (intOf iv).toNat)
  case atStart => exact ⟨0, rfl, Nat.zero_le _, World.ownsRow_nil _ _ _ _, Below.refl _ _⟩
  case round =>
    obtain ⟨i, rfl, hin, hown, hbw⟩ := hrel
    by_cases hil : i < 3
    · have hbit := bit_at n i hn8 hil
      have hle := atomsTo_len n i
      have hws := hbw.size
      by_cases hbt : bitN n i = true
      · rw [if_pos hbt] at hbit
        have hltr := ltr_at i hil
        have hstep : Hid (atomsTo n (i + 1) = atomsTo n i ++ [ltrB i]) := by show _ = _; rw [atomsTo, if_pos hbt]
        clear hbt
        have hll : Hid ((strsV (atomsTo n i)).length = (atomsTo n i).length) := strsV_len _
        generalize hA : atomsTo n i = A at *
        generalize ltrB i = lt at *
        go_wp2_with (at_builtin; refine wpList_append_own _ rfl _ _ 31 rfl w1.heap.size 9 i0 _ 1 16 Tryz.underlying31 hi hz0 hz1 hz2 rfl (by decide) _ _ _ rfl (hown.alloc _) ⟨wr.heap.size, 0, none⟩ 1 1 [.string lt] rfl rfl ?c1 ?c2 ?c3 ?c4 ?c5 ?_)
        case c1 => exact cell_one_new wr _ _
        case c2 => simp [Value.oneCell']
        case c3 => unfold maxLen; omega
        case c4 => omega
        case c5 => simp; omega
        intro v' w2 hown' hgrow _
        have hb2 : Below w1.heap.size w1 w2 := (hbw.al _).grown hgrow (Nat.le_trans hbw.size (by simp)) (fun k e => (hown.lt k e).1)
        go_wp2_with fail
        go_roundw
        case rel => exact ⟨i + 1, by go_num, by omega, by rw [hstep.out]; simpa [strsV] using hown', hb2⟩
        case measure => simp only [intOf]; omega
      · rw [if_neg hbt] at hbit
        have hstep : Hid (atomsTo n (i + 1) = atomsTo n i) := by show _ = _; rw [atomsTo, if_neg hbt]
        clear hbt
        generalize atomsTo n i = A at *
        go_wp2_with fail
        go_roundw
        case rel => exact ⟨i + 1, by go_num, by omega, by rw [hstep.out]; exact hown, hbw⟩
        case measure => simp only [intOf]; omega
    · obtain rfl : i = 3 := by omega
      go_wp2_with fail
      go_ret
      exact ⟨_, rfl, hown, hbw⟩
end Go.Proofs.YtpbbmagjhkakgaaGreatDoor.Ev
namespace Go.Proofs.YtpbbmagjhkakgaaGreatDoor.Ev
open Go.RowKit Go.Deep Go.Maps Go.Proofs.YtpbbmagjhkakgaaGreatDoor.Lf
def timeZ (L : List (Int × Int)) : Nat → Int
  | 0 => 0
  | i + 1 => timeZ L i + laterZ (L.getD i (0, 0)).1
def atomsAt (L : List (Int × Int)) (i : Nat) : List ByteArray := atomsL (pickZ (L.getD i (0, 0)).2 8).toNat
def histZ (L : List (Int × Int)) : Nat → List Hap
  | 0 => []
  | i + 1 => (timeZ L (i + 1), atomsAt L i) :: histZ L i
def verZ (x : BT Pay) (L : List (Int × Int)) (i : Nat) : Bool := semT x (histZ L (i + 1))
def versL (x : BT Pay) (L : List (Int × Int)) : Nat → List Value
  | 0 => []
  | i + 1 => versL x L i ++ verCells ((i : Int) + 1) (timeZ L (i + 1)) 1 (verZ x L i)
theorem timeZ_step (L : List (Int × Int)) (i : Nat) : timeZ L i + 1 ≤ timeZ L (i + 1) ∧ timeZ L (i + 1) ≤ timeZ L i + 12 := by
  have := laterZ_range (L.getD i (0, 0)).1
  simp only [timeZ]
  omega
theorem timeZ_range (L : List (Int × Int)) : ∀ i : Nat, (i : Int) ≤ timeZ L i ∧ timeZ L i ≤ 12 * i
  | 0 => ⟨by simp [timeZ], by simp [timeZ]⟩
  | i + 1 => by have := timeZ_range L i; have := timeZ_step L i; omega
theorem timeZ_mono (L : List (Int × Int)) (i k : Nat) : timeZ L i ≤ timeZ L (i + k) := by
  induction k with
  | zero => exact Int.le_refl _
  | succ k ih => have := timeZ_step L (i + k); rw [Nat.add_assoc] at this; omega
theorem versL_len (x : BT Pay) (L : List (Int × Int)) : ∀ i, (versL x L i).length = i * 4
  | 0 => rfl
  | i + 1 => by simp [versL, versL_len x L i, verCells]; omega
theorem versL_one (x : BT Pay) (L : List (Int × Int)) : ∀ i, ∀ u ∈ versL x L i, u.oneCell' = true
  | 0, u, h => by simp [versL] at h
  | i + 1, u, h => by
    rcases List.mem_append.1 h with h | h
    · exact versL_one x L i u h
    · simp [verCells] at h
      rcases h with rfl | rfl | rfl | rfl <;> rfl
structure Run (L : List (Int × Int)) (K : List Key) (i : Nat) (E : List Pe) (dr : List Hap) : Prop where
  hist : E.reverse.map Pe.hap ++ dr = histZ L i
  ok : RowsOK K dr E.reverse
theorem Run.start (L : List (Int × Int)) (K : List Key) : Run L K 0 [] [] := ⟨rfl, trivial⟩
theorem Run.next {L : List (Int × Int)} {K : List Key} {i : Nat} {E : List Pe} {dr : List Hap} (h : Run L K i E dr) (n : Int) : Run L K (i + 1) (E ++ [workF E.reverse K (⟨n, timeZ L (i + 1), atomsAt L i, []⟩ : Pe).bare]) dr := by
  obtain ⟨_, w2, w3, _⟩ := workF_same E.reverse K (⟨n, timeZ L (i + 1), atomsAt L i, []⟩ : Pe).bare
  refine ⟨?_, ?_⟩
  · rw [List.reverse_append]
    simp only [List.reverse_cons, List.reverse_nil, List.nil_append, List.map_cons, List.cons_append]
    rw [h.hist]
    simp only [Pe.hap, w2, w3, histZ]
    rfl
  · rw [List.reverse_append]
    exact work_right h.ok _
theorem Run.drop {L : List (Int × Int)} {K : List Key} {i : Nat} {E : List Pe} {dr : List Hap} (h : Run L K i E dr) (k : Nat) : Run L K i (E.drop k) ((E.take k).reverse.map Pe.hap ++ dr) := by
  have e : E.reverse = (E.drop k).reverse ++ (E.take k).reverse := by rw [← List.reverse_append, List.take_append_drop]
  refine ⟨?_, ?_⟩
  · rw [← h.hist, e]; simp
  · have := h.ok
    rw [e] at this
    exact this.keep
theorem Run.says {L : List (Int × Int)} {K : List Key} {i : Nat} {E : List Pe} {dr : List Hap} (h : Run L K i E dr) (n : Int) {x : BT Pay} {j : Int} (hg : Good x) (hn : NumT K (coreT x) j) (hd : ∀ d ∈ dr, d.1 < timeZ L (i + 1) - reachT (coreT x)) :
    (workF E.reverse K (⟨n, timeZ L (i + 1), atomsAt L i, []⟩ : Pe).bare).at j = verZ x L i := by
  obtain ⟨_, w2, w3, _⟩ := workF_same E.reverse K (⟨n, timeZ L (i + 1), atomsAt L i, []⟩ : Pe).bare
  have h1 := (work_right h.ok (⟨n, timeZ L (i + 1), atomsAt L i, []⟩ : Pe)).2.1 (coreT x) j (good_core hg) (cored_core hg) hn (by rw [w2]; exact hd)
  rw [h1, sem_core hg, h.hist]
  simp only [verZ, histZ, Pe.hap, w2, w3]
  rfl
theorem name_ltr (i : Nat) (h : i < 3) : NameOK (ltrB i) := by
  have h2 : i = 0 ∨ i = 1 ∨ i = 2 := by omega
  rcases h2 with rfl | rfl | rfl <;> exact ⟨by decide, by decide, by decide +kernel, by decide +kernel, by decide +kernel⟩
theorem name_p : NameOK ⟨#[112]⟩ := ⟨by decide, by decide, by decide +kernel, by decide +kernel, by decide +kernel⟩
theorem atoms_ltr (n : Nat) : ∀ i, i ≤ 3 → ∀ s ∈ atomsTo n i, ∃ j, j < 3 ∧ s = ltrB j
  | 0, _, s, h => by simp [atomsTo] at h
  | i + 1, hi, s, h => by
    unfold atomsTo at h
    split at h
    · rcases List.mem_append.1 h with h | h
      · exact atoms_ltr n i (by omega) s h
      · simp at h; exact ⟨i, by omega, h⟩
    · exact atoms_ltr n i (by omega) s h
theorem atoms_names (n : Nat) : ∀ j, j < (atomsL n).length → NameOK ((atomsL n).getD j ByteArray.empty) := fun j hj => by
  have : (atomsL n).getD j ByteArray.empty ∈ atomsL n := by rw [List.getD_eq_getElem?_getD, List.getElem?_eq_getElem hj]; exact List.getElem_mem hj
  obtain ⟨i, hi, e⟩ := atoms_ltr n 3 (Nat.le_refl _) _ this
  rw [e]; exact name_ltr i hi
theorem atoms_once : ∀ n, n < 8 → ∀ j, j < (atomsL n).length → Lib.containsS ((atomsL n).take j) ((atomsL n).getD j ByteArray.empty) = false := by decide +kernel
structure WInv (x : BT Pay) (name : ByteArray) (L : List (Int × Int)) (B0 : Nat) (mb wtb : Nat) (retain : Int) (i : Nat) (w : World) : Prop where
  ex : ∃ no ncap ea ecap C E pa pcap sp s dr, WatchAt w wtb retain 60 no ncap (KAt (fun _ => x) 1) ea ecap C E pa pcap [polOf name sp s.stb x] [s] ∧ Run L (KAt (fun _ => x) 1) i E dr ∧ (∀ d ∈ dr, d.1 < timeZ L i - retain) ∧ C.length ≤ i ∧ (C = [] → i = 0) ∧ (∀ c, C.getLast? = some c → c.number = i ∧ c.time = timeZ L i) ∧ (∀ c ∈ C, 1 ≤ c.time) ∧
    s.n = i ∧ s.xs = versL x L i ∧ (∀ a, ea = some a → B0 ≤ a.block) ∧ B0 ≤ s.stb ∧ (∀ g, s.sv.ownBlock = some g → B0 ≤ g)
  mon : w.heap[mb]? = some (.cells #[.pointer (some ⟨wtb, 0, none⟩)] 104 (0, 0))
  wt : B0 ≤ wtb
theorem WInv.tapeR {x : BT Pay} {name : ByteArray} {L : List (Int × Int)} {B0 mb wtb : Nat} {retain : Int} {i : Nat} {w : World} (h : WInv x name L B0 mb wtb retain i w) (τ : Tape) (d : Nat) : WInv x name L B0 mb wtb retain i (re w τ d) := by
  obtain ⟨⟨no, ncap, ea, ecap, C, E, pa, pcap, sp, s, dr, h1, h2⟩, h3, h4⟩ := h
  exact ⟨⟨no, ncap, ea, ecap, C, E, pa, pcap, sp, s, dr, h1.tapeR τ d, h2⟩, h3, h4⟩
theorem WInv.move {x : BT Pay} {name : ByteArray} {L : List (Int × Int)} {B0 mb wtb : Nat} {retain : Int} {i : Nat} {w w' : World} (h : WInv x name L B0 mb wtb retain i w) (hs : SpareR (fun _ => False) w w') : WInv x name L B0 mb wtb retain i w' := by
  obtain ⟨⟨no, ncap, ea, ecap, C, E, pa, pcap, sp, s, dr, h1, h2⟩, h3, h4⟩ := h
  exact ⟨⟨no, ncap, ea, ecap, C, E, pa, pcap, sp, s, dr, h1.move hs (Kinds.none _ _), h2⟩, hs.get h3 id, h4⟩
end Go.Proofs.YtpbbmagjhkakgaaGreatDoor.Ev
