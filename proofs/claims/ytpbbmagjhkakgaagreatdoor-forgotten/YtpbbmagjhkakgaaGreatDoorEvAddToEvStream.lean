import Derived.Test.YtpbbmagjhkakgaaGreatDoorEvSettleToEvWait
namespace Go.Proofs.YtpbbmagjhkakgaaGreatDoor.Ev
open Go.RowKit Go.Deep Go.Maps Go.Proofs.YtpbbmagjhkakgaaGreatDoor.Lf
def polCells (p : Pol) : List Value := [.string p.name, .pointer p.sent, .int .i64 p.node, .int .i64 p.ver, .pointer p.strm]
theorem polOne (p : Pol) : ∀ u ∈ polCells p, u.oneCell' = true := by
 intro u hu
 simp [polCells] at hu
 rcases hu with rfl | rfl | rfl | rfl | rfl <;> rfl
theorem cells_five_new (w : World) (p : Pol) (t : TypeId) : ∀ j u, (polCells p)[j]? = some u → (w.alloc (.cells #[.string p.name, .pointer p.sent, .int .i64 p.node, .int .i64 p.ver, .pointer p.strm] t)).cell? ⟨w.heap.size, j, none⟩ = some u := by
 intro j u hj
 have hh := heap_new w (.cells #[.string p.name, .pointer p.sent, .int .i64 p.node, .int .i64 p.ver, .pointer p.strm] t (0, 0)) _ rfl
 refine cell_at hh ?_
 rcases j with _ | _ | _ | _ | _ | j
 ·exact hj
 ·exact hj
 ·exact hj
 ·exact hj
 ·exact hj
 ·simp [polCells] at hj
theorem row_one {w : World} {B : Nat} {v : Value} {p : Pol} (h : w.ownsRow B 183 5 v 1 (polCells p)) : ∃ (g cap : Nat) (cur : Array Value), v = .slice (some ⟨g, 0, none⟩) 1 cap ∧ B ≤ g ∧ w.heap[g]? = some (.cells cur 183 (0, 0)) ∧ 1 ≤ cap ∧ PolsAt cur 0 [p] := by
 have h0 := h
 obtain ⟨_, ⟨_, h2⟩ | ⟨g, cap, cur, rfl, h3, h4, h5, h6, h7, h8⟩⟩ := h
 ·cases h2
 ·refine ⟨g, cap, cur, rfl, h3, h4, h5, fun j q hq => ?_⟩
  have hc : ∀ i u, (polCells p)[i]? = some u → cur[i]? = some u := fun i u hi => by
   rw [← h8, List.getElem?_take] at hi
   split at hi
   ·rw [← Array.getElem?_toList]; exact hi
   ·cases hi
  rcases j with _ | j
  ·cases hq
   exact ⟨hc 0 _ rfl, hc 1 _ rfl, hc 2 _ rfl, hc 3 _ rfl, hc 4 _ rfl⟩
  ·simp at hq
def AddPost (wtb : Nat) (rt rm : Value) (name : ByteArray) (x : BT Pay) (w w' : World) : Prop :=
 ∃ (nn : Value) (pb pcap stb : Nat) (sp : Option Addr) (arr : Array Value), w'.heap[wtb]? = some (.cells #[rt, rm, nn, .slice none 0 0, .slice (some ⟨pb, 0, none⟩) 1 pcap] 153 (0, 0)) ∧ 1 ≤ pcap ∧ w.heap.size ≤ pb ∧ w'.heap[pb]? = some (.cells arr 183 (0, 0)) ∧ PolsAt arr 0 (polsN (fun _ => x) [⟨name, sp, some ⟨stb, 0, none⟩, 0, 1, false⟩]) ∧
  w'.ownsRow w.heap.size 226 6 nn (KAt (fun _ => x) 1).length (flatK (KAt (fun _ => x) 1)) ∧ w.heap.size ≤ stb ∧ w'.heap[stb]? = some (.cells #[.slice none 0 0] 177 (0, 0)) ∧ SentAt 143 0 w' x (.pointer sp) ∧ Spare (fun b => b = wtb) w w'
set_option maxRecDepth 100000 in
set_option maxHeartbeats 4000000 in
theorem add0_ok (wtb : Nat) (retain : Int) (rm : Value) (no : Option Addr) (nl nc : Nat) (name s : ByteArray) (x : BT Pay) (w : World) (hw : w.heap[wtb]? = some (.cells #[.int .i64 retain, rm, .slice no nl nc, .slice none 0 0, .slice none 0 0] 153 (0, 0))) (hN : NameOK name) (hNs : name.size ≤ 1000) (hm : s.size ≤ maxLen) (hg : Glob w) (hw7 : 14 ≤ w.heap.size) (hr : readF s = (some x, 0)) (hR : reachT x ≤ retain) (hK : (KAt (fun _ => x) 1).length ≤ 40) (hX : nodesT (coreT x) ≤ 1000000) :
  Calls Tryz.prog 91 #[.pointer (some ⟨wtb, 0, none⟩), .string name, .string s] w fun e w' => e = .returned (.tuple #[.int .i64 0, .nilIface]) ∧ AddPost wtb (.int .i64 retain) rm name x w w' := by
 have hgx : Good x := (readF_sound hr).1
 have hRd := readPol_ok wtb retain rm (.slice no nl nc) (.slice none 0 0) (.slice none 0 0) name s x w hw hN hm hg hw7 hr hR
 have Hw : Hid (w.heap[wtb]? = some (.cells #[.int .i64 retain, rm, .slice no nl nc, .slice none 0 0, .slice none 0 0] 153 (0, 0))) := hw
 have hwl := heap_lt hw
 clear hw hg hm hr hR
 go_enter Tryz.func91, Tryz.ntmps91
 go_wp2_with fail
 refine hRd.mono ?_
 rintro e w1 ⟨sp, rfl, hsx, hb1⟩
 clear hRd
 have hf0 := find0 wtb (.int .i64 retain) rm (.slice no nl nc) (.slice none 0 0) name w1 (hb1.heapOf Hw.out)
 go_wp2_with fail
 refine hf0.mono ?_
 rintro e w2 ⟨rfl, rfl⟩
 clear hf0
 have hw2 := hb1.heapOf Hw.out
 have c4 := cell_at (i := 4) hw2 rfl
 go_wp2_with fail
 refine (clone_any name _ (by omega)).mono ?_
 rintro e w3 ⟨rfl, hb3⟩
 have hb13 := hb1.tr hb3
 have hw3 := hb13.heapOf Hw.out
 have hsx3 : SentAt 143 0 w3 x (.pointer sp) := SentAt.below hsx hb3
 clear hw2 c4 hsx
 go_wp2_with fail
 have hpv : ((w3.alloc (.cells #[.slice none 0 0] 177)).alloc (.cells #[.string name, .pointer sp, .int .i64 0, .int .i64 1, .pointer (some ⟨w3.heap.size, 0, none⟩)] 183)).heap[w3.heap.size + 1]? = some (.cells #[.string name, .pointer sp, .int .i64 0, .int .i64 1, .pointer (some ⟨w3.heap.size, 0, none⟩)] 183 (0, 0)) := heap_new _ _ _ (by simp)
 have hbW : Below w.heap.size w ((w3.alloc (.cells #[.slice none 0 0] 177)).alloc (.cells #[.string name, .pointer sp, .int .i64 0, .int .i64 1, .pointer (some ⟨w3.heap.size, 0, none⟩)] 183)) := (hb13.al _).al _
 have hst : ((w3.alloc (.cells #[.slice none 0 0] 177)).alloc (.cells #[.string name, .pointer sp, .int .i64 0, .int .i64 1, .pointer (some ⟨w3.heap.size, 0, none⟩)] 183)).heap[w3.heap.size]? = some (.cells #[.slice none 0 0] 177 (0, 0)) := (Below.heap_alloc _ _ _ (by simp)).trans (heap_new _ _ _ rfl)
 have hsW : SentAt 143 0 ((w3.alloc (.cells #[.slice none 0 0] 177)).alloc (.cells #[.string name, .pointer sp, .int .i64 0, .int .i64 1, .pointer (some ⟨w3.heap.size, 0, none⟩)] 183)) x (.pointer sp) := SentAt.below hsx3 (((Below.refl _ w3).al _).al _)
 have hwW := hbW.heapOf Hw.out
 have hs3 := hb13.size
 clear hw3 hsx3
 generalize ((w3.alloc (.cells #[.slice none 0 0] 177)).alloc (.cells #[.string name, .pointer sp, .int .i64 0, .int .i64 1, .pointer (some ⟨w3.heap.size, 0, none⟩)] 183)) = W at *
 generalize hpb : w3.heap.size + 1 = pvb at *
 have Hpb : Hid (w3.heap.size + 1 = pvb) := hpb
 clear hpb
 generalize w3.heap.size = stb at *
 have hbV : Below W.heap.size W (W.drew.alloc (.cells #[.string name, .pointer sp, .int .i64 0, .int .i64 1, .pointer (some ⟨stb, 0, none⟩)] 183)) := (Below.refl _ W).drew.al _
 have Hst : Hid (∀ w', Below W.heap.size W w' → (fun w' => w'.cell? ⟨wtb, 4, none⟩ = some (.slice none 0 0) ∧ w'.cell? ⟨pvb, 0, none⟩ = some (.string name) ∧ w'.cell? ⟨pvb, 1, none⟩ = some (.pointer sp) ∧ w'.cell? ⟨pvb, 2, none⟩ = some (.int .i64 0) ∧ w'.cell? ⟨pvb, 3, none⟩ = some (.int .i64 1) ∧ w'.cell? ⟨pvb, 4, none⟩ = some (.pointer (some ⟨stb, 0, none⟩))) w') := fun w' hb => ⟨cell_at (hb.heapOf hwW) rfl, cell_at (hb.heapOf hpv) rfl, cell_at (hb.heapOf hpv) rfl, cell_at (hb.heapOf hpv) rfl, cell_at (hb.heapOf hpv) rfl, cell_at (hb.heapOf hpv) rfl⟩
 have hS0 : (fun w' => w'.cell? ⟨wtb, 4, none⟩ = some (.slice none 0 0) ∧ w'.cell? ⟨pvb, 0, none⟩ = some (.string name) ∧ w'.cell? ⟨pvb, 1, none⟩ = some (.pointer sp) ∧ w'.cell? ⟨pvb, 2, none⟩ = some (.int .i64 0) ∧ w'.cell? ⟨pvb, 3, none⟩ = some (.int .i64 1) ∧ w'.cell? ⟨pvb, 4, none⟩ = some (.pointer (some ⟨stb, 0, none⟩))) W.drew := Hst.out _ (Below.refl _ W).drew
 have fin : ∀ (V1 V2 V3 : World) (nn : Value) (g gc : Nat) (arr' cur : Array Value), Below W.heap.size W V1 → V1.heap[g]? = some (.cells cur 183 (0, 0)) → W.heap.size ≤ g → 1 ≤ gc → V2.ownsRow V1.heap.size 226 6 nn (KAt (fun _ => x) 1).length (flatK (KAt (fun _ => x) 1)) → V2.heap[g]? = some (.cells arr' 183 (0, 0)) → PolsAt arr' 0 (polsN (fun _ => x) [⟨name, sp, some ⟨stb, 0, none⟩, 0, 1, false⟩]) → Spare (fun b => b = wtb ∨ b = g) V1 V2 → V3.heap[wtb]? = some (.cells #[.int .i64 retain, rm, nn, .slice none 0 0, .slice (some ⟨g, 0, none⟩) 1 gc] 153 (0, 0)) → Only wtb V2 V3 → AddPost wtb (.int .i64 retain) rm name x w V3 := by
  intro V1 V2 V3 nn g gc arr' cur hb hg1 hg hgc hrow hh hpa hsp hwt ho
  have hbs := hbW.size
  have hbs1 := hb.size
  have hgw : g ≠ wtb := by omega
  have hsl := heap_lt hst
  have hsp3 : Spare (fun b => b = wtb ∨ b = g) V1 V3 := hsp.trans (Spare.of_only ho fun x hx => .inl hx)
  refine ⟨nn, g, gc, stb, sp, arr', hwt, hgc, by omega, ho.heap hh hgw, hpa, own_heap (row_mono hrow (by omega)) (fun k hk => ho.block k (hrow.lt k hk).2 (by have := (hrow.lt k hk).1; omega)), by omega, ?_, ?_, ?_⟩
  ·rw [hsp3.block stb (by omega) (by rintro (e | e) <;> omega)]; exact hb.heapOf hst
  ·refine sent_tagged (fun k cs hk => ?_) (SentAt.below hsW hb)
   rw [hsp3.block k (heap_lt hk) ?_]
   ·exact hk
   ·rintro (e | e)
    ·subst e; rw [hb.heapOf hwW] at hk; cases hk
    ·subst e
     rw [hg1] at hk; cases hk
  ·refine ⟨?_, ?_, ?_, ?_, ?_⟩
   ·exact (hsp3.os.trans hb.os).trans hbW.os
   ·exact (hsp3.tape.trans hb.tape).trans hbW.tape
   ·exact (hsp3.output.trans hb.output).trans hbW.output
   ·exact Nat.le_trans hbW.size (Nat.le_trans hb.size hsp3.size)
   ·intro b hb0 hne
    rw [hsp3.block b (by omega) (by rintro (e | e); exact hne e; omega), hb.block b (by omega), hbW.block b hb0]
 refine AnyG.begin (S := fun _ => True) (fin := 99) (by kernel_rfl) ?_
 simp only [List.size_toArray, List.length_cons, List.length_nil, Nat.reduceAdd, Nat.zero_add]
 refine AnyG.take 0 (v := ?vq0) rfl (by decide +kernel) (by decide +kernel) (by decide +kernel) (by decide +kernel) (fun c a w h => h) (by rfl) (fun w' hS => Go.Conc.run_eq_of ?rq0) trivial ?_
 case rq0 =>
  intro K' hK'
  clear hS
  go_simp
  exact hK'
 try walk_nrm
 refine AnyG.weaken (S := (fun w' => w'.cell? ⟨wtb, 4, none⟩ = some (.slice none 0 0) ∧ w'.cell? ⟨pvb, 0, none⟩ = some (.string name) ∧ w'.cell? ⟨pvb, 1, none⟩ = some (.pointer sp) ∧ w'.cell? ⟨pvb, 2, none⟩ = some (.int .i64 0) ∧ w'.cell? ⟨pvb, 3, none⟩ = some (.int .i64 1) ∧ w'.cell? ⟨pvb, 4, none⟩ = some (.pointer (some ⟨stb, 0, none⟩)))) (fin := 11) _ _ _ _ ?_
 refine AnyG.take 1 (v := ?vq1) rfl (by decide +kernel) (by decide +kernel) (by decide +kernel) (by decide +kernel) (fun c a w h => h) (by rfl) (fun w' hS => Go.Conc.run_eq_of ?rq1) hS0 ?_
 case rq1 =>
  intro K' hK'
  clear hS
  go_simp
  exact hK'
 try walk_nrm
 refine AnyG.take 2 (v := ?vq2) rfl (by decide +kernel) (by decide +kernel) (by decide +kernel) (by decide +kernel) (fun c a w h => h) (by rfl) (fun w' hS => Go.Conc.run_eq_of ?rq2) hS0 ?_
 case rq2 =>
  intro K' hK'
  clear hS
  go_simp
  exact hK'
 try walk_nrm
 refine AnyG.take 3 (v := ?vq3) rfl (by decide +kernel) (by decide +kernel) (by decide +kernel) (by decide +kernel) (fun c a w h => h) (by rfl) (fun w' hS => Go.Conc.run_eq_of ?rq3) hS0 ?_
 case rq3 =>
  intro K' hK'
  clear hS
  go_simp
  exact hK'
 try walk_nrm
 refine AnyG.take 4 (v := ?vq4) rfl (by decide +kernel) (by decide +kernel) (by decide +kernel) (by decide +kernel) (fun c a w h => h) (by rfl) (fun w' hS => Go.Conc.run_eq_of ?rq4) hS0 ?_
 case rq4 =>
  intro K' hK'
  clear hS
  go_simp
  exact hK'
 try walk_nrm
 refine AnyG.take 5 (v := ?vq5) rfl (by decide +kernel) (by decide +kernel) (by decide +kernel) (by decide +kernel) (fun c a w h => h) (by rfl) (fun w' hS => Go.Conc.run_eq_of ?rq5) hS0 ?_
 case rq5 =>
  intro K' hK'
  obtain ⟨y1, y2, y3, y4, y5, y6⟩ := hS
  go_simp
  exact hK'
 try walk_nrm
 refine AnyG.take 7 (v := ?vq7) rfl (by decide +kernel) (by decide +kernel) (by decide +kernel) (by decide +kernel) (fun c a w h => h) (by rfl) (fun w' hS => Go.Conc.run_eq_of ?rq7) hS0 ?_
 case rq7 =>
  intro K' hK'
  clear hS
  go_simp
  exact hK'
 try walk_nrm
 refine AnyG.take 8 (v := ?vq8) rfl (by decide +kernel) (by decide +kernel) (by decide +kernel) (by decide +kernel) (fun c a w h => h) (by rfl) (fun w' hS => Go.Conc.run_eq_of ?rq8) hS0 ?_
 case rq8 =>
  intro K' hK'
  obtain ⟨y1, y2, y3, y4, y5, y6⟩ := hS
  go_simp
  exact hK'
 try walk_nrm
 refine AnyG.two (i := 6) (j := 9) (by decide +kernel) rfl (by rfl) rfl (by rfl) (fun K' hK' => ?_) (fun K' hK' => ?_)
 ·unfold Oper.wp
  rw [Go.Conc.run_call_body (f := 100) (args := #[.tmp 49]) (ats := #[151]) rfl Tryz.func100 (by decide) rfl]
  simp only [Oper.upon, List.map_toArray, List.map_cons, List.map_nil]
  change Calls Tryz.prog 100 #[.slice none 0 0] W.drew _
  refine (clonePol_nil 0 0 W.drew).mono ?_
  rintro e wd ⟨rfl, hwd⟩
  have hwd := hwd.symm
  subst hwd
  refine hK' _ _ ⟨fun _ => Hst.out _ (Below.refl _ W).drew, ?_⟩
  clear hK' K'
  try walk_nrm
  refine AnyG.op (i := 9) (by decide +kernel) rfl (by rfl) (fun K' hK' => ?_)
  unfold Oper.wp
  go_simp
  refine hK' _ _ ⟨fun _ => Hst.out _ hbV, ?_⟩
  clear hK' K'
  try walk_nrm
  refine AnyG.one (i := 10) (by decide +kernel) rfl (by rfl) ?_
  unfold Oper.wp
  rw [Go.Conc.run_call_body (f := 137) (args := #[.tmp 50, .tmp 51, .tmp 53]) (ats := #[151, 3, 151]) rfl Tryz.func137 (by decide) rfl]
  simp only [Oper.upon, List.map_toArray, List.map_cons, List.map_nil]
  change Calls Tryz.prog 137 #[.slice none 0 0, .int .i64 0, .slice (some ⟨W.heap.size, 0, none⟩) 1 1] (W.drew.alloc (.cells #[.string name, .pointer sp, .int .i64 0, .int .i64 1, .pointer (some ⟨stb, 0, none⟩)] 183)) _
  refine (insert0 W.heap.size (polCells ⟨name, sp, some ⟨stb, 0, none⟩, 0, 1, false⟩) _ rfl (cells_five_new W.drew ⟨name, sp, some ⟨stb, 0, none⟩, 0, 1, false⟩ 183) (polOne _)).mono ?_
  rintro e V1 ⟨v', rfl, hrow, hbI⟩
  obtain ⟨g, gc, cur, rfl, hgl, hgh, hgc, hcur⟩ := row_one hrow
  have hbV1 : Below W.heap.size W V1 := hbV.trans (hbI.mono hbV.size)
  refine ⟨fun _ => Hst.out _ hbV1, ?_⟩
  try walk_nrm
  have hwV1 := hbV1.heapOf hwW
  refine AnyG.one (i := 11) (by decide +kernel) rfl (by rfl) ?_
  unfold Oper.wp
  rw [Go.Conc.run_call_body (f := 98) (args := #[.tmp 45, .tmp 54]) (ats := #[100, 151]) rfl Tryz.func98 (by decide) rfl]
  simp only [Oper.upon, List.map_toArray, List.map_cons, List.map_nil]
  change Calls Tryz.prog 98 #[.pointer (some ⟨wtb, 0, none⟩), .slice (some ⟨g, 0, none⟩) 1 gc] V1 _
  refine (settle_ok wtb g gc (.int .i64 retain) rm (.slice no nl nc) (.slice none 0 0) none 0 0 cur [⟨name, sp, some ⟨stb, 0, none⟩, 0, 1, false⟩] (fun _ => x) V1 (fun W nn w' => w'.heap[wtb]? = some (.cells #[.int .i64 retain, rm, nn, .slice none 0 0, .slice (some ⟨g, 0, none⟩) 1 gc] 153 (0, 0)) ∧ Only wtb W w') hwV1 hgh hcur (by simp) hgc ?hS hK ?hJ).mono ?_
  case hS =>
   intro j p hj
   rcases j with _ | j
   ·cases hj; exact ⟨SentAt.below hsW hbV1, hgx, hX⟩
   ·simp at hj
  case hJ =>
   intro V nn arr' j1 j2 j3 j4 j5
   obtain ⟨no', nl', nc', hnn⟩ : ∃ o n c, nn = .slice o n c := by
    obtain ⟨_, ⟨h, _⟩ | ⟨g, cap, cur, h, _⟩⟩ := j1
    ·exact ⟨_, _, _, h⟩
    ·exact ⟨_, _, _, h⟩
   exact judge0_any wtb (.int .i64 retain) rm (.slice no nl nc) (.slice (some ⟨g, 0, none⟩) 1 gc) nn no' nl' nc' hnn V j2
  rintro e V3 ⟨rfl, V2, nn, arr', j1, j2, j3, j4, j5, j6, j7⟩
  refine ⟨fun h => absurd h (by decide), ?_⟩
  try walk_nrm
  refine AnyG.op (i := 12) (by decide +kernel) rfl (by rfl) (fun K' hK' => ?_)
  unfold Oper.wp
  go_simp
  refine hK' _ _ ⟨fun h => absurd h (by decide), ?_⟩
  clear hK' K'
  try walk_nrm
  refine AnyG.op (i := 13) (by decide +kernel) rfl (by rfl) (fun K' hK' => ?_)
  unfold Oper.wp
  go_simp
  refine hK' _ _ ⟨fun h => absurd h (by decide), ?_⟩
  clear hK' K'
  refine AnyG.done (by decide +kernel) ?_ _
  try walk_nrm
  go_wp2_with fail
  go_ret2
  exact ⟨rfl, fin V1 V2 V3 nn g gc arr' cur hbV1 hgh (Nat.le_trans hbV.size hgl) hgc j1 j3 j4 j5 j6 j7⟩
 ·unfold Oper.wp
  go_simp
  refine hK' _ _ ⟨fun _ => Hst.out _ hbV, ?_⟩
  clear hK' K'
  try walk_nrm
  refine AnyG.op (i := 6) (by decide +kernel) rfl (by rfl) (fun K' hK' => ?_)
  unfold Oper.wp
  rw [Go.Conc.run_call_body (f := 100) (args := #[.tmp 49]) (ats := #[151]) rfl Tryz.func100 (by decide) rfl]
  simp only [Oper.upon, List.map_toArray, List.map_cons, List.map_nil]
  change Calls Tryz.prog 100 #[.slice none 0 0] (W.drew.alloc (.cells #[.string name, .pointer sp, .int .i64 0, .int .i64 1, .pointer (some ⟨stb, 0, none⟩)] 183)) _
  refine (clonePol_nil 0 0 (W.drew.alloc (.cells #[.string name, .pointer sp, .int .i64 0, .int .i64 1, .pointer (some ⟨stb, 0, none⟩)] 183))).mono ?_
  rintro e wd ⟨rfl, hwd⟩
  have hwd := hwd.symm
  subst hwd
  refine hK' _ _ ⟨fun _ => Hst.out _ hbV, ?_⟩
  clear hK' K'
  try walk_nrm
  refine AnyG.one (i := 10) (by decide +kernel) rfl (by rfl) ?_
  unfold Oper.wp
  rw [Go.Conc.run_call_body (f := 137) (args := #[.tmp 50, .tmp 51, .tmp 53]) (ats := #[151, 3, 151]) rfl Tryz.func137 (by decide) rfl]
  simp only [Oper.upon, List.map_toArray, List.map_cons, List.map_nil]
  change Calls Tryz.prog 137 #[.slice none 0 0, .int .i64 0, .slice (some ⟨W.heap.size, 0, none⟩) 1 1] (W.drew.alloc (.cells #[.string name, .pointer sp, .int .i64 0, .int .i64 1, .pointer (some ⟨stb, 0, none⟩)] 183)) _
  refine (insert0 W.heap.size (polCells ⟨name, sp, some ⟨stb, 0, none⟩, 0, 1, false⟩) _ rfl (cells_five_new W.drew ⟨name, sp, some ⟨stb, 0, none⟩, 0, 1, false⟩ 183) (polOne _)).mono ?_
  rintro e V1 ⟨v', rfl, hrow, hbI⟩
  obtain ⟨g, gc, cur, rfl, hgl, hgh, hgc, hcur⟩ := row_one hrow
  have hbV1 : Below W.heap.size W V1 := hbV.trans (hbI.mono hbV.size)
  refine ⟨fun _ => Hst.out _ hbV1, ?_⟩
  try walk_nrm
  have hwV1 := hbV1.heapOf hwW
  refine AnyG.one (i := 11) (by decide +kernel) rfl (by rfl) ?_
  unfold Oper.wp
  rw [Go.Conc.run_call_body (f := 98) (args := #[.tmp 45, .tmp 54]) (ats := #[100, 151]) rfl Tryz.func98 (by decide) rfl]
  simp only [Oper.upon, List.map_toArray, List.map_cons, List.map_nil]
  change Calls Tryz.prog 98 #[.pointer (some ⟨wtb, 0, none⟩), .slice (some ⟨g, 0, none⟩) 1 gc] V1 _
  refine (settle_ok wtb g gc (.int .i64 retain) rm (.slice no nl nc) (.slice none 0 0) none 0 0 cur [⟨name, sp, some ⟨stb, 0, none⟩, 0, 1, false⟩] (fun _ => x) V1 (fun W nn w' => w'.heap[wtb]? = some (.cells #[.int .i64 retain, rm, nn, .slice none 0 0, .slice (some ⟨g, 0, none⟩) 1 gc] 153 (0, 0)) ∧ Only wtb W w') hwV1 hgh hcur (by simp) hgc ?hS hK ?hJ).mono ?_
  case hS =>
   intro j p hj
   rcases j with _ | j
   ·cases hj; exact ⟨SentAt.below hsW hbV1, hgx, hX⟩
   ·simp at hj
  case hJ =>
   intro V nn arr' j1 j2 j3 j4 j5
   obtain ⟨no', nl', nc', hnn⟩ : ∃ o n c, nn = .slice o n c := by
    obtain ⟨_, ⟨h, _⟩ | ⟨g, cap, cur, h, _⟩⟩ := j1
    ·exact ⟨_, _, _, h⟩
    ·exact ⟨_, _, _, h⟩
   exact judge0_any wtb (.int .i64 retain) rm (.slice no nl nc) (.slice (some ⟨g, 0, none⟩) 1 gc) nn no' nl' nc' hnn V j2
  rintro e V3 ⟨rfl, V2, nn, arr', j1, j2, j3, j4, j5, j6, j7⟩
  refine ⟨fun h => absurd h (by decide), ?_⟩
  try walk_nrm
  refine AnyG.op (i := 12) (by decide +kernel) rfl (by rfl) (fun K' hK' => ?_)
  unfold Oper.wp
  go_simp
  refine hK' _ _ ⟨fun h => absurd h (by decide), ?_⟩
  clear hK' K'
  try walk_nrm
  refine AnyG.op (i := 13) (by decide +kernel) rfl (by rfl) (fun K' hK' => ?_)
  unfold Oper.wp
  go_simp
  refine hK' _ _ ⟨fun h => absurd h (by decide), ?_⟩
  clear hK' K'
  refine AnyG.done (by decide +kernel) ?_ _
  try walk_nrm
  go_wp2_with fail
  go_ret2
  exact ⟨rfl, fin V1 V2 V3 nn g gc arr' cur hbV1 hgh (Nat.le_trans hbV.size hgl) hgc j1 j3 j4 j5 j6 j7⟩
set_option maxHeartbeats 1000000 in
theorem known0 (wtb : Nat) (rt rm nv pv : Value) (reach : Int) (w : World) (hw : w.heap[wtb]? = some (.cells #[rt, rm, nv, .slice none 0 0, pv] 153 (0, 0))) :
    Calls Tryz.prog 138 #[.pointer (some ⟨wtb, 0, none⟩), .int .i64 reach] w fun e w' => e = .returned (.slice none 0 0) ∧ w' = w := by
  have c3 := cell_at (i := 3) hw rfl
  have hcl := cloneEv_nil 0 0 w
  go_enter Tryz.func138, Tryz.ntmps138
  go_wp2_with fail
  refine hcl.mono ?_
  rintro e w1 ⟨rfl, rfl⟩
  go_wp2_with fail
  go_ret
  exact ⟨rfl, rfl⟩
set_option maxRecDepth 100000 in
set_option maxHeartbeats 2000000 in
theorem backfill0 (wtb : Nat) (rt rm nv : Value) (pb cap : Nat) (arr : Array Value) (p : Pol) (x : BT Pay) (w : World) (hw : w.heap[wtb]? = some (.cells #[rt, rm, nv, .slice none 0 0, .slice (some ⟨pb, 0, none⟩) 1 cap] 153 (0, 0))) (hp : w.heap[pb]? = some (.cells arr 183 (0, 0))) (hP : PolsAt arr 0 [p]) (hx : SentAt 143 0 w x (.pointer p.sent)) (hgd : Good x) (hd : depthT x ≤ 400) :
    Calls Tryz.prog 92 #[.pointer (some ⟨wtb, 0, none⟩), .int .i64 0] w fun e w' => e = .returned (.slice none 0 0) ∧ Below w.heap.size w w' := by
  obtain ⟨a0, a1, a2, a3, a4⟩ := hP 0 p rfl
  simp only [Nat.zero_mul, Nat.add_zero] at a0 a1 a2 a3 a4
  have c4 := cell_at (i := 4) hw rfl
  have y0 := cell_at hp a0
  have y1 := cell_at hp a1
  have y2 := cell_at hp a2
  have y3 := cell_at hp a3
  have y4 := cell_at hp a4
  have hwin := hgd.win
  have Hw : Hid (w.heap[wtb]? = some (.cells #[rt, rm, nv, .slice none 0 0, .slice (some ⟨pb, 0, none⟩) 1 cap] 153 (0, 0))) := hw
  have Hx : Hid (SentAt 143 0 w x (.pointer p.sent)) := hx
  clear hw hp hP a0 a1 a2 a3 a4 hx
  go_enter Tryz.func92, Tryz.ntmps92
  go_wp2_with fail
  have hbN : Below w.heap.size w (w.alloc (.cells #[.string p.name, .pointer p.sent, .int .i64 p.node, .int .i64 p.ver, .pointer p.strm] 183)) := (Below.refl _ _).al _
  go_quiet (first
    | (go_at_call_of 42 (Value.pointer p.sent); exact Calls.quiet_of (reach_any x _ _ _ ((SentAt.below Hx.out hbN).drewN _) hd hwin))
    | (go_at_call_of 138 (Value.pointer (some ⟨wtb, 0, none⟩)); exact Calls.quiet_of ((known0 wtb rt rm nv (.slice (some ⟨pb, 0, none⟩) 1 cap) _ _ (by exact hbN.heapOf Hw.out)).mono (fun e w' h => ⟨h.1, 0, h.2⟩))))
  go_wp2_with fail
  all_goals
    go_loopw [24, 6] (fun iv v wr => iv = .int .i64 0 ∧ v = .slice none 0 0 ∧ Below w.heap.size w wr) (fun _ _ _ => 0)
    case atStart => exact ⟨rfl, rfl, hbN.tr (below_drewN _ _)⟩
    case round =>
      obtain ⟨rfl, rfl, hb⟩ := hrel
      go_wp2_with fail
      go_ret
      exact ⟨rfl, hb⟩
set_option maxRecDepth 100000 in
set_option maxHeartbeats 2000000 in
theorem watchAdd0 (wtb : Nat) (retain : Int) (rm : Value) (no : Option Addr) (nl nc : Nat) (name s : ByteArray) (x : BT Pay) (w : World) (hw : w.heap[wtb]? = some (.cells #[.int .i64 retain, rm, .slice no nl nc, .slice none 0 0, .slice none 0 0] 153 (0, 0))) (hN : NameOK name) (hNs : name.size ≤ 1000) (hm : s.size ≤ maxLen) (hg : Glob w) (hw7 : 14 ≤ w.heap.size) (hr : readF s = (some x, 0)) (hR : reachT x ≤ retain) (hK : (KAt (fun _ => x) 1).length ≤ 40) (hX : nodesT (coreT x) ≤ 1000000) :
    Calls Tryz.prog 48 #[.pointer (some ⟨wtb, 0, none⟩), .string name, .string s] w fun e w' => e = .returned (.tuple #[.slice none 0 0, .nilIface]) ∧ AddPost wtb (.int .i64 retain) rm name x w w' := by
  have hA := add0_ok wtb retain rm no nl nc name s x w hw hN hNs hm hg hw7 hr hR hK hX
  obtain ⟨hgd, _, hdx, _⟩ := readF_sound hr
  go_enter Tryz.func48, Tryz.ntmps48
  go_wp2_with fail
  refine hA.mono ?_
  rintro e w1 ⟨rfl, nn, pb, pcap, stb, sp, arr, h1, h2, h3, h4, h5, h6, h7, h8, h9, h10⟩
  have hB := backfill0 wtb (.int .i64 retain) rm nn pb pcap arr _ x w1 h1 h4 h5 h9 hgd (by omega)
  go_wp2_with fail
  refine hB.mono ?_
  rintro e w2 ⟨rfl, hb⟩
  go_wp2_with fail
  go_ret2
  exact ⟨rfl, nn, pb, pcap, stb, sp, arr, hb.heapOf h1, h2, h3, hb.heapOf h4, h5, own_heap h6 (fun k hk => hb.block k (h6.lt k hk).2), h7, hb.heapOf h8, SentAt.below h9 hb, h10.trans (Spare.of_below hb)⟩
set_option maxRecDepth 100000 in
set_option maxHeartbeats 2000000 in
theorem monAdd0 (mb wtb : Nat) (retain : Int) (rm : Value) (no : Option Addr) (nl nc : Nat) (name s : ByteArray) (x : BT Pay) (w : World) (hmb : w.heap[mb]? = some (.cells #[.pointer (some ⟨wtb, 0, none⟩)] 104 (0, 0))) (hw : w.heap[wtb]? = some (.cells #[.int .i64 retain, rm, .slice no nl nc, .slice none 0 0, .slice none 0 0] 153 (0, 0))) (hN : NameOK name) (hNs : name.size ≤ 1000) (hm : s.size ≤ maxLen) (hg : Glob w) (hw7 : 14 ≤ w.heap.size) (hr : readF s = (some x, 0)) (hR : reachT x ≤ retain) (hK : (KAt (fun _ => x) 1).length ≤ 40) (hX : nodesT (coreT x) ≤ 1000000) :
    Calls Tryz.prog 27 #[.pointer (some ⟨mb, 0, none⟩), .string name, .string s] w fun e w' => e = .returned (.tuple #[.slice none 0 0, .int .i64 0]) ∧ AddPost wtb (.int .i64 retain) rm name x w w' := by
  have hA := watchAdd0 wtb retain rm no nl nc name s x w hw hN hNs hm hg hw7 hr hR hK hX
  have c0 := cell_at (i := 0) hmb rfl
  clear hw
  go_enter Tryz.func27, Tryz.ntmps27
  go_wp2_with fail
  refine hA.mono ?_
  rintro e w1 ⟨rfl, hP⟩
  go_wp2_with fail
  refine (errno_nil w1).mono ?_
  rintro e w2 ⟨rfl, rfl⟩
  go_wp2_with fail
  go_ret2
  exact ⟨rfl, hP⟩
theorem cored_ops : ∀ (x : BT Pay) (K : List Key), Cored x → (Good x ∨ x = .nil) → (∀ k ∈ K, CoreOp k.op) → ∀ k ∈ (putK K x).2, CoreOp k.op
  | .nil, _, _, _, hK => hK
  | .node b o a l r, K, hc, hg, hK => by
    have hg : Good (.node b o a l r) := by
      rcases hg with hg | hg
      · exact hg
      · cases hg
    have hop : CoreOp a.op ∧ (Good l ∨ l = .nil) ∧ (Good r ∨ r = .nil) := by
      obtain ⟨c1, c2, _, _⟩ := hc
      rcases hg with ⟨h1, _, _, _, h5, h6⟩ | ⟨h1, _, _, _, h5, h6⟩ | ⟨h1, _, _, _, gl, gr⟩ | ⟨h1, _, _, _, gl, gr⟩
      · exact ⟨.inl h1, .inr h5, .inr h6⟩
      · exact ⟨.inr (.inl h1), .inr h5, .inr h6⟩
      · refine ⟨?_, .inl gl, .inl gr⟩
        unfold CoreOp
        omega
      · refine ⟨?_, .inl gl, .inr gr⟩
        unfold CoreOp
        omega
    have h1 := cored_ops l K hc.2.2.1 hop.2.1 hK
    have h2 := cored_ops r (putK K l).2 hc.2.2.2 hop.2.2 h1
    intro k hk
    simp only [putK, addK] at hk
    split at hk
    · exact h2 k hk
    · rcases List.mem_append.1 hk with h | h
      · exact h2 k h
      · simp at h; subst h; exact hop.1
def polOf (name : ByteArray) (sp : Option Addr) (stb : Nat) (x : BT Pay) : Pol := ⟨name, sp, some ⟨stb, 0, none⟩, (nAt (fun _ => x) 0).toNat, 1, false⟩
theorem nodes_of_row {w : World} {B : Nat} {nn : Value} {K : List Key} (h : w.ownsRow B 226 6 nn K.length (flatK K)) : ∃ no ncap, nn = .slice no K.length ncap ∧ K.length ≤ ncap ∧ NodesIn w no K ∧ ∀ a, no = some a → B ≤ a.block ∧ ∃ cs m, w.heap[a.block]? = some (.cells cs 226 m) := by
  have h0 := h
  have hl := h.lt
  obtain ⟨h1, ⟨rfl, h2⟩ | ⟨g, cap, cur, rfl, h3, h4, h5, h6, h7, h8⟩⟩ := h
  · exact ⟨none, 0, by rw [h2], by omega, fun hne => absurd (List.length_eq_zero_iff.1 h2) hne, fun a ha => by cases ha⟩
  · refine ⟨some ⟨g, 0, none⟩, cap, rfl, h5, fun _ => ⟨g, rfl, (hl g rfl).2, fun i k hk => ?_⟩, fun a ha => by cases ha; exact ⟨h3, cur, _, h4⟩⟩
    have hc : ∀ q u, (keyCells k)[q]? = some u → w.cell? ⟨g, i * 6 + q, none⟩ = some u := fun q u hu => row_cell h0 rfl (flat_get keyCells 6 (fun _ => rfl) K i q k u hk hu)
    exact ⟨hc 0 _ rfl, hc 1 _ rfl, hc 2 _ rfl, hc 3 _ rfl, hc 4 _ rfl, hc 5 _ rfl⟩
theorem AddPost.watch {wtb : Nat} {retain room : Int} {name : ByteArray} {x : BT Pay} {w w' : World} (h : AddPost wtb (.int .i64 retain) (.int .i64 room) name x w w') (hg : Good x) (hr : 0 ≤ retain ∧ retain ≤ 1000000000) (hK : (KAt (fun _ => x) 1).length ≤ 40) :
    ∃ no ncap pa pcap sp stb, WatchAt w' wtb retain room no ncap (KAt (fun _ => x) 1) none 0 [] [] pa pcap [polOf name sp stb x] [⟨stb, .slice none 0 0, 0, []⟩] ∧ w.heap.size ≤ stb := by
  obtain ⟨nn, pb, pcap, stb, sp, arr, h1, h2, h3, h4, h5, h6, h7, h8, h9, h10⟩ := h
  obtain ⟨no, ncap, rfl, n1, n2, n3⟩ := nodes_of_row h6
  have hA0 : Ahead [] := fun i k hk => by simp at hk
  obtain ⟨p1, p2⟩ := putK_num (coreT x) [] hA0
  have hp3 := NumT.le p2
  have hps : polsN (fun _ => x) [⟨name, sp, some ⟨stb, 0, none⟩, 0, 1, false⟩] = [polOf name sp stb x] := rfl
  rw [hps] at h5
  refine ⟨no, ncap, some ⟨pb, 0, none⟩, pcap, sp, stb, ?_, h7⟩
  exact {
    cell := h1
    evs := World.ownsRow_nil _ _ _ _
    len := rfl
    ins := fun i c e hc => by simp at hc
    typed := fun c hc => by simp at hc
    few := by simp
    ret := hr
    nums := fun c hc => by simp at hc
    nfew := by omega
    ncp := n1
    nodes := n2
    ntyped := fun a ha => (n3 a ha).2
    core := cored_ops (coreT x) [] (cored_core hg) (.inl (good_core hg)) (fun k hk => by simp at hk)
    ahead := p1
    rows := fun e he => by simp at he
    pols := .inr ⟨pb, 0, arr, (0, 0), rfl, h4, h5⟩
    pfew := by simp
    pcp := h2
    plen := rfl
    pstr := fun i s p hs hp => by
      rcases i with _ | i
      · cases hs; cases hp; rfl
      · simp at hs
    sok := fun s hs => by
      simp at hs
      subst hs
      exact ⟨h8, World.ownsRow_nil _ _ _ _⟩
    apart := fun i j s t hs ht hij => by
      rcases i with _ | i
      · rcases j with _ | j
        · exact absurd rfl hij
        · simp at ht
      · simp at hs
    pnode := fun p hp => by
      simp at hp
      subst hp
      have : (nAt (fun _ => x) 0) ≤ ((KAt (fun _ => x) 1).length : Int) := hp3.2
      show (nAt (fun _ => x) 0).toNat ≤ _
      omega }
structure OneAt (w : World) (wtb : Nat) (p : Pol) (s : Strm) : Prop where
  pols : ∃ (rt rm nv ev : Value) (pb po cap : Nat) (arr : Array Value) (m : Nat × Nat), w.heap[wtb]? = some (.cells #[rt, rm, nv, ev, .slice (some ⟨pb, po, none⟩) 1 cap] 153 (0, 0)) ∧ w.heap[pb]? = some (.cells arr 183 m) ∧ PolsAt arr po [p]
  strm : p.strm = some ⟨s.stb, 0, none⟩
  str : StrOK w s
theorem WatchAt.one {w : World} {wtb : Nat} {retain room : Int} {no : Option Addr} {ncap : Nat} {K : List Key} {ea : Option Addr} {ecap : Nat} {C : List EvC} {E : List Pe} {pa : Option Addr} {pcap : Nat} {p : Pol} {s : Strm} (h : WatchAt w wtb retain room no ncap K ea ecap C E pa pcap [p] [s]) : OneAt w wtb p s := by
  refine ⟨?_, h.pstr 0 s p rfl rfl, h.sok s (by simp)⟩
  rcases h.pols with ⟨_, h2, _⟩ | ⟨pb, po, arr, m, rfl, h3, h4⟩
  · cases h2
  · exact ⟨_, _, _, _, pb, po, pcap, arr, m, h.cell, h3, h4⟩
theorem streamOf1 (wtb : Nat) (p : Pol) (s : Strm) (w : World) (h : OneAt w wtb p s) :
    Calls Tryz.prog 93 #[.pointer (some ⟨wtb, 0, none⟩), .string p.name] w fun e w' => e = .returned (.tuple #[.pointer (some ⟨s.stb, 0, none⟩), .nilIface]) ∧ Below w.heap.size w w' := by
  obtain ⟨⟨rt, rm, nv, ev, pb, po, cap, arr, m, h1, h2, h3⟩, h4, _⟩ := h
  have hf := find1 wtb rt rm nv ev pb po cap arr m p w h1 h2 h3
  obtain ⟨_, _, _, _, a4⟩ := h3 0 p rfl
  simp only [Nat.zero_mul, Nat.add_zero] at a4
  rw [h4] at a4
  have Hw : Hid (w.heap[wtb]? = some (.cells #[rt, rm, nv, ev, .slice (some ⟨pb, po, none⟩) 1 cap] 153 (0, 0)) ∧ w.heap[pb]? = some (.cells arr 183 m) ∧ arr[po + 4]? = some (.pointer (some ⟨s.stb, 0, none⟩))) := ⟨h1, h2, a4⟩
  clear h1 h2 h3 h4 a4
  go_enter Tryz.func93, Tryz.ntmps93
  go_wp2_with fail
  refine hf.mono ?_
  rintro e w1 ⟨rfl, hb⟩
  have c4 := cell_at (i := 4) (hb.heapOf Hw.out.1) rfl
  have y4 := cell_at (hb.heapOf Hw.out.2.1) Hw.out.2.2
  clear hf
  go_wp2_with fail
  go_ret2
  exact ⟨rfl, hb⟩
theorem watchStream1 (wtb : Nat) (p : Pol) (s : Strm) (w : World) (h : OneAt w wtb p s) (hn : s.n ≤ 1000000) (h1 : ∀ u ∈ s.xs, u.oneCell' = true) :
    Calls Tryz.prog 49 #[.pointer (some ⟨wtb, 0, none⟩), .string p.name] w fun e w' => ∃ v, e = .returned (.tuple #[v, .nilIface]) ∧ w'.ownsRow w.heap.size 59 4 v s.n s.xs ∧ Below w.heap.size w w' := by
  have hf := streamOf1 wtb p s w h
  obtain ⟨hs1, hs2⟩ := h.str
  have Hs : Hid (w.heap[s.stb]? = some (.cells #[s.sv] 177 (0, 0)) ∧ w.ownsRow 0 59 4 s.sv s.n s.xs) := ⟨hs1, hs2⟩
  clear hs1 hs2 h
  obtain ⟨stb, sv, n, xs⟩ := s
  simp only at *
  go_enter Tryz.func49, Tryz.ntmps49
  go_wp2_with fail
  refine hf.mono ?_
  rintro e w1 ⟨rfl, hb⟩
  have hst := hb.heapOf Hs.out.1
  have hrow : w1.ownsRow 0 59 4 sv n xs := own_heap Hs.out.2 (fun k hk => hb.block k (Hs.out.2.lt k hk).2)
  have hrow0 := hrow
  have c0 := cell_at (i := 0) hst rfl
  have hsz := hb.size
  clear hf
  obtain ⟨e1, ⟨rfl, e2⟩ | ⟨g, cap, cur, rfl, _⟩⟩ := hrow
  · go_wp2_with fail
    refine (cloneVer_nil 0 0 w1).mono ?_
    rintro e w2 ⟨rfl, rfl⟩
    go_wp2_with fail
    go_ret2
    refine ⟨_, rfl, ?_, hb⟩
    rw [e2] at e1 ⊢
    simp at e1
    subst e1
    exact World.ownsRow_nil _ _ _ _
  · have hcl := cloneVer_some g 0 n cap xs w1 e1 hn (fun j u hj => by rw [Nat.zero_add]; exact row_cell hrow0 rfl hj) h1
    clear hrow0 e1
    go_wp2_with fail
    refine hcl.mono ?_
    rintro e w2 ⟨v, rfl, hr, hb2⟩
    go_wp2_with fail
    go_ret2
    exact ⟨_, rfl, row_mono hr hsz, hb.tr hb2⟩
theorem monStream1 (mb wtb : Nat) (p : Pol) (s : Strm) (w : World) (hmb : w.heap[mb]? = some (.cells #[.pointer (some ⟨wtb, 0, none⟩)] 104 (0, 0))) (h : OneAt w wtb p s) (hn : s.n ≤ 1000000) (h1 : ∀ u ∈ s.xs, u.oneCell' = true) :
    Calls Tryz.prog 28 #[.pointer (some ⟨mb, 0, none⟩), .string p.name] w fun e w' => ∃ v, e = .returned (.tuple #[v, .int .i64 0]) ∧ w'.ownsRow w.heap.size 59 4 v s.n s.xs ∧ Below w.heap.size w w' := by
  have hf := watchStream1 wtb p s w h hn h1
  have c0 := cell_at (i := 0) hmb rfl
  clear hmb
  go_enter Tryz.func28, Tryz.ntmps28
  go_wp2_with fail
  refine hf.mono ?_
  rintro e w1 ⟨v, rfl, hr, hb⟩
  go_wp2_with fail
  refine (errno_nil w1).mono ?_
  rintro e w2 ⟨rfl, rfl⟩
  go_wp2_with fail
  go_ret2
  exact ⟨v, rfl, hr, hb⟩
end Go.Proofs.YtpbbmagjhkakgaaGreatDoor.Ev
