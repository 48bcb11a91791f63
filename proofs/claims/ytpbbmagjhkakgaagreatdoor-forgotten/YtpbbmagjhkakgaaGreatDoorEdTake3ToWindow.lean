import Derived.Test.YtpbbmagjhkakgaaGreatDoorEdDelToEvTake3
import Derived.Test.YtpbbmagjhkakgaaGreatDoorEvStateToEdTake
import Derived.Test.YtpbbmagjhkakgaaGreatDoorEvRepToShelf
import Derived.Test.YtpbbmagjhkakgaaGreatDoorExpectToEvTake
namespace Go.Proofs.YtpbbmagjhkakgaaGreatDoor.Ev
open Go.RowKit Go.Deep
def TakeD (wtb : Nat) (retain : Int) (rm : Value) (no : Option Addr) (ncap : Nat) (K : List Key) (ea : Option Addr) (ecap : Nat) (pv : Value) (C D : List EvC) (F : List Pe) (time : Int) (A : List ByteArray) (w : World) (e : Ending) (W' : World) : Prop :=
  ∃ (c : EvC) (ev' : Value) (sb : Nat) (cur : Array Value), e = .returned (evVal c) ∧ c.so = some ⟨sb, 0, none⟩ ∧ w.heap.size ≤ sb ∧ W'.heap[sb]? = some (.cells cur 4 (0, 0)) ∧ W'.heap[wtb]? = some (.cells #[.int .i64 retain, rm, .slice no K.length ncap, ev', pv] 153 (0, 0)) ∧ EvsAt W' ev' (D ++ [c]) ∧
    EvIn W' c (workF F.reverse K (⟨nextN C, time, A, []⟩ : Pe).bare) ∧ EvT W' c ∧ Spare (fun b => b = wtb ∨ (Value.slice ea C.length ecap).ownBlock = some b) w W' ∧ (∀ b, ev'.ownBlock = some b → (Value.slice ea C.length ecap).ownBlock = some b ∨ w.heap.size ≤ b)
set_option maxRecDepth 100000 in
set_option maxHeartbeats 8000000 in
theorem take_drop (wtb : Nat) (retain : Int) (rm : Value) (no : Option Addr) (ncap : Nat) (K : List Key) (ea : Option Addr) (ecap : Nat) (pv : Value) (C : List EvC) (E : List Pe) (time : Int) (ao : Option Addr) (A : List ByteArray) (cap : Nat) (w : World)
    (hw : w.heap[wtb]? = some (.cells #[.int .i64 retain, rm, .slice no K.length ncap, .slice ea C.length ecap, pv] 153 (0, 0))) (hE : EvsAt w (.slice ea C.length ecap) C) (hlen : C.length = E.length) (hIn : ∀ (i : Nat) c e, C[i]? = some c → E[i]? = some e → EvIn w c e) (hT : ∀ c ∈ C, EvT w c) (hn : C.length ≤ 1000) (ht : 0 ≤ time ∧ time ≤ 1000000000000) (hr : 0 ≤ retain ∧ retain ≤ 1000000000) (k : Nat) (hold : oldF (time - retain) C = k) (hk0 : 0 < k) (hkn : k ≤ C.length)
    (hnum : ∀ c, C.getLast? = some c → 0 ≤ c.number ∧ c.number ≤ 1000000000000) (h : StrsIn w ao A) (hA : A.length ≤ 1000) (hcap : A.length ≤ cap) (hs : ∀ j, j < A.length → (A.getD j ByteArray.empty).size ≤ 1000)
    (hK : K.length ≤ 1000) (hnc : K.length ≤ ncap) (hN : NodesIn w no K) (hNt : ∀ a, no = some a → ∃ cs m, w.heap[a.block]? = some (.cells cs 226 m)) (hop : ∀ k ∈ K, CoreOp k.op) (hAh : Ahead K) (hrow : ∀ e ∈ E, e.so.length = K.length + 1) :
    Calls Tryz.prog 87 #[.pointer (some ⟨wtb, 0, none⟩), .int .i64 time, .slice ao A.length cap] w (TakeD wtb retain rm no ncap K ea ecap pv C (C.drop k) (E.drop k) time A w) := by
  have hInD : ∀ (i : Nat) c e, (C.drop k)[i]? = some c → (E.drop k)[i]? = some e → EvIn w c e := fun i c e h1 h2 => hIn (k + i) c e (by rw [← List.getElem?_drop]; exact h1) (by rw [← List.getElem?_drop]; exact h2)
  have hTD : ∀ c ∈ C.drop k, EvT w c := fun c hc => hT c (List.mem_of_mem_drop hc)
  have hlenD : (C.drop k).length = (E.drop k).length := by rw [List.length_drop, List.length_drop, hlen]
  have hrowD : ∀ e ∈ E.drop k, e.so.length = K.length + 1 := fun e he => hrow e (List.mem_of_mem_drop he)
  have hnD : (C.drop k).length ≤ 1000 := by rw [List.length_drop]; omega
  have hE0 := hE
  clear hIn hT hlen hrow
  obtain ⟨D, hD⟩ : ∃ D, D = C.drop k := ⟨_, rfl⟩
  obtain ⟨F, hF⟩ : ∃ F, F = E.drop k := ⟨_, rfl⟩
  have hDl : D.length = C.length - k := by rw [hD, List.length_drop]
  rw [← hD] at hInD hTD hlenD hnD ⊢
  rw [← hF] at hInD hlenD hrowD ⊢
  have hlt := heap_lt hw
  have Hlen : Hid (D.length = F.length) := hlenD
  clear hlenD
  have HDl : Hid (D.length = C.length - k) := hDl
  clear hDl
  have hc3 : w.cell? ⟨wtb, 3, none⟩ = some (.slice ea C.length ecap) := cell_at hw rfl
  have hecap : C.length ≤ ecap := by
    rcases hE.cases with ⟨h1, rfl⟩ | ⟨g, cp, hev, h1, _, _⟩
    · simp
    · cases hev; exact h1
  have hCo := copyOf_any ao A cap (w.alloc (.cells #[.int .i64 0, .int .i64 0, .slice none 0 0, .slice none 0 0] 159)) (h.below ((Below.refl _ _).al _)) hA hcap hs
  go_enter Tryz.func87, Tryz.ntmps87
  go_wp2_with fail
  refine hCo.mono ?_
  rintro e w1 ⟨v1, rfl, hrow1, hb1⟩
  obtain ⟨ao2, ac2, rfl, hac2, hst2, hao2⟩ := strs_of_row hrow1
  have hbw1 : Below w.heap.size w w1 := ((Below.refl _ _).al _).tr hb1
  have hres1 : w1.heap[w.heap.size]? = some (.cells #[.int .i64 0, .int .i64 0, .slice none 0 0, .slice none 0 0] 159 (0, 0)) := hb1.heapOf (heap_new _ _ _ rfl)
  have hlt1 : wtb < w1.heap.size := Nat.lt_of_lt_of_le hlt hbw1.size
  have hbN : Below w.heap.size w (w1.alloc (.cells #[.int .i64 1, .int .i64 time, .slice ao2 A.length ac2, .slice none 0 0] 159)) := hbw1.al _
  have y3 : (w1.alloc (.cells #[.int .i64 1, .int .i64 time, .slice ao2 A.length ac2, .slice none 0 0] 159)).cell? ⟨wtb, 3, none⟩ = some (.slice ea C.length ecap) := (hbN.cell (p := ⟨wtb, 3, none⟩) hlt).trans hc3
  have hown_lt : ∀ b, (Value.slice ea C.length ecap).ownBlock = some b → b < w.heap.size := fun b hb => (hE.lt b hb).2
  have hnotP : ∀ b cs t m, w.heap[b]? = some (.cells cs t m) → t ≠ 153 → t ≠ 159 → ¬ (b = wtb ∨ (Value.slice ea C.length ecap).ownBlock = some b) := fun b cs t m hb h1 h2 hp => by
    rcases hp with rfl | hp
    · rw [hw] at hb; injection hb with hb; injection hb with _ hb _; exact h1 hb.symm
    · obtain ⟨cur, hc⟩ := own_tag hE hp
      rw [hc] at hb; injection hb with hb; injection hb with _ hb _; exact h2 hb.symm
  have hrowN : ∀ a, ao2 = some a → w.heap.size + 1 ≤ a.block ∧ ∃ cs, w1.heap[a.block]? = some (.cells cs 9 (0, 0)) := fun a ha => by have := hao2 a ha; simpa using this
  have fin : ∀ (num : Int), num = nextN C → ∀ (ev' : Value) (W' : World), W'.heap[wtb]? = some (.cells #[.int .i64 retain, rm, .slice no K.length ncap, ev', pv] 153 (0, 0)) → EvsAt W' ev' (D ++ [(⟨num, time, ao2, A.length, ac2, none, 0, 0⟩ : EvC)]) → Spare (fun b => b = wtb ∨ (Value.slice ea C.length ecap).ownBlock = some b) (w1.alloc (.cells #[.int .i64 num, .int .i64 time, .slice ao2 A.length ac2, .slice none 0 0] 159)) W' → (∀ b, ev'.ownBlock = some b → (Value.slice ea C.length ecap).ownBlock = some b ∨ (w1.alloc (.cells #[.int .i64 num, .int .i64 time, .slice ao2 A.length ac2, .slice none 0 0] 159)).heap.size ≤ b) →
      ∃ g gcap, ev' = .slice (some ⟨g, 0, none⟩) (D.length + 1) gcap ∧ (∀ (i : Nat) c e, D[i]? = some c → F[i]? = some e → EvIn W' c e) ∧ (∀ c ∈ D, EvT W' c) ∧ EvPre W' (⟨num, time, ao2, A.length, ac2, none, 0, 0⟩ : EvC) (⟨nextN C, time, A, []⟩ : Pe) ∧ (∀ a, ao2 = some a → ∃ cs m, W'.heap[a.block]? = some (.cells cs 9 m)) ∧ NodesIn W' no K ∧ (∀ a, no = some a → ∃ cs m, W'.heap[a.block]? = some (.cells cs 226 m)) ∧ W'.heap[w.heap.size]? = some (.cells #[.int .i64 0, .int .i64 0, .slice none 0 0, .slice none 0 0] 159 (0, 0)) ∧ w.heap.size ≠ g ∧
      ∀ (sb sc : Nat) (cur : Array Value) (W'' : World), W'.heap.size ≤ sb → W''.heap[sb]? = some (.cells cur 4 (0, 0)) → Spare (fun b => b = g ∨ b = w.heap.size) W' W'' → EvsAt W'' (.slice (some ⟨g, 0, none⟩) (D.length + 1) gcap) (D ++ [(⟨num, time, ao2, A.length, ac2, none, 0, 0⟩ : EvC).withSo sb (K.length + 1) sc]) → EvIn W'' ((⟨num, time, ao2, A.length, ac2, none, 0, 0⟩ : EvC).withSo sb (K.length + 1) sc) (workF F.reverse K (⟨nextN C, time, A, []⟩ : Pe).bare) →
        TakeD wtb retain rm no ncap K ea ecap pv C D F time A w (.returned (evVal ((⟨num, time, ao2, A.length, ac2, none, 0, 0⟩ : EvC).withSo sb (K.length + 1) sc))) W'' := by
    intro num hnumE ev' W' f1 f2 f3 f4
    have hbW : Below w.heap.size w (w1.alloc (.cells #[.int .i64 num, .int .i64 time, .slice ao2 A.length ac2, .slice none 0 0] 159)) := hbw1.al _
    have hWs : (w1.alloc (.cells #[.int .i64 num, .int .i64 time, .slice ao2 A.length ac2, .slice none 0 0] 159)).heap.size = w1.heap.size + 1 := by simp
    have hW1 : ∀ b o, w1.heap[b]? = some o → (w1.alloc (.cells #[.int .i64 num, .int .i64 time, .slice ao2 A.length ac2, .slice none 0 0] 159)).heap[b]? = some o := fun b o hb => (Below.heap_alloc _ _ _ (heap_lt hb)).trans hb
    generalize (w1.alloc (.cells #[.int .i64 num, .int .i64 time, .slice ao2 A.length ac2, .slice none 0 0] 159)) = W at *
    have hws := hbw1.size
    have hrl := heap_lt hres1
    have sp : Spare (fun b => b = wtb ∨ (Value.slice ea C.length ecap).ownBlock = some b) w W' := (Spare.of_below hbW).trans f3
    have el : (D ++ [(⟨num, time, ao2, A.length, ac2, none, 0, 0⟩ : EvC)]).length = D.length + 1 := by simp
    obtain ⟨g, gcap, rfl⟩ : ∃ g gcap, ev' = .slice (some ⟨g, 0, none⟩) (D.length + 1) gcap := by
      rcases f2.cases with ⟨_, h2⟩ | ⟨g, cp, hev, _⟩
      · simp at h2
      · rw [el] at hev; exact ⟨g, cp, hev⟩
    have hgt : ∃ cg, W'.heap[g]? = some (.cells cg 159 (0, 0)) := own_tag f2 rfl
    obtain ⟨cg, hgt⟩ := hgt
    have hgf := f4 g rfl
    have hao3 : ∀ a, ao2 = some a → ∃ cs m, W'.heap[a.block]? = some (.cells cs 9 m) := fun a ha => by
      obtain ⟨h1, cs, h2⟩ := hrowN a ha
      refine ⟨cs, (0, 0), (f3.block _ (heap_lt (hW1 _ _ h2)) (fun hp => ?_)).trans (hW1 _ _ h2)⟩
      rcases hp with e | e
      · omega
      · have := hown_lt _ e; omega
    refine ⟨g, gcap, rfl, fun i c e h1 h2 => ?_, fun c hc => ?_, ⟨hnumE, rfl, ⟨by show -1000000000000 ≤ time; omega, ht.2⟩, rfl, by show A.length ≤ _; omega, fun hne => ?_⟩, hao3, hN.spare sp (fun a ha => ?_), fun a ha => ?_, ?_, ?_, ?_⟩
    · have ht := hTD c (List.mem_of_getElem? h1)
      exact (hInD i c e h1 h2).spare sp (fun a ha => by obtain ⟨cs, m, k⟩ := ht.so a ha; exact hnotP _ _ _ _ k (by decide) (by decide)) (fun a ha => by obtain ⟨cs, m, k⟩ := ht.ao a ha; exact hnotP _ _ _ _ k (by decide) (by decide))
    · have ht := hTD c hc
      exact ht.spare sp (fun a ha => by obtain ⟨cs, m, k⟩ := ht.so a ha; exact hnotP _ _ _ _ k (by decide) (by decide)) (fun a ha => by obtain ⟨cs, m, k⟩ := ht.ao a ha; exact hnotP _ _ _ _ k (by decide) (by decide))
    · obtain ⟨b, off, h1, h2, h3⟩ := hst2 hne
      obtain ⟨k1, cs, k2⟩ := hrowN _ h1
      have hb : W'.heap[b]? = w1.heap[b]? := ((f3.block b (by omega) (fun hp => by
        rcases hp with e | e
        · have : w.heap.size + 1 ≤ b := k1; omega
        · have := hown_lt _ e; have : w.heap.size + 1 ≤ b := k1; omega)).trans (hW1 b _ k2)).trans k2.symm
      exact ⟨b, off, h1, by have := f3.size; omega, fun j hj => by rw [World.cell?_of_block hb]; exact h3 j hj⟩
    · obtain ⟨cs, m, k⟩ := hNt a ha; exact hnotP _ _ _ _ k (by decide) (by decide)
    · obtain ⟨cs, m, k⟩ := hNt a ha; exact ⟨cs, m, (sp.block _ (heap_lt k) (hnotP _ _ _ _ k (by decide) (by decide))).trans k⟩
    · refine (f3.block _ (by omega) (fun hp => ?_)).trans (hW1 _ _ hres1)
      rcases hp with e | e
      · omega
      · have := hown_lt _ e; omega
    · rcases hgf with e | e
      · have := hown_lt _ e; omega
      · omega
    · intro sb sc cur W'' a1 a2 a3 a4 a5
      have hss := f3.size
      have hgw : g ≠ wtb := by rintro rfl; rw [f1] at hgt; cases hgt
      refine ⟨_, _, sb, cur, rfl, rfl, by omega, a2, (a3.block wtb (heap_lt f1) (fun hp => hp.elim (fun e => hgw e.symm) (fun e => by omega))).trans f1, a4, a5, ⟨fun a ha => ?_, fun a ha => ?_⟩, ⟨a3.os.trans sp.os, a3.tape.trans sp.tape, a3.output.trans sp.output, Nat.le_trans sp.size a3.size, fun b hb hp => (a3.block b (Nat.lt_of_lt_of_le hb sp.size) (fun e => ?_)).trans (sp.block b hb hp)⟩, fun b hb => ?_⟩
      · have : some (⟨sb, 0, none⟩ : Addr) = some a := ha
        cases this
        exact ⟨cur, (0, 0), a2⟩
      · obtain ⟨cs, m, k⟩ := hao3 a ha
        obtain ⟨k1, _⟩ := hrowN a ha
        refine ⟨cs, m, (a3.block _ (heap_lt k) (fun hp => ?_)).trans k⟩
        rcases hp with e | e
        · rw [e, hgt] at k; cases k
        · omega
      · rcases e with e | e
        · rcases hgf with e2 | e2
          · exact hp (.inr (e ▸ e2))
          · omega
        · omega
      · exact (f4 b hb).imp id (fun x => by omega)
  rcases List.eq_nil_or_concat C with rfl | ⟨C0, cl, rfl⟩
  · simp at hkn; omega
  · rw [List.concat_eq_append] at *
    have hcl : (C0 ++ [cl])[C0.length]? = some cl := by simp
    have hlen1 : (C0 ++ [cl]).length = C0.length + 1 := by simp
    rcases hE.cases with ⟨_, h2⟩ | ⟨g0, cp, hev, _, _, hgl⟩
    · simp at h2
    cases hev
    have hq := hE.cell (k := 0) hcl rfl
    have y0 : (w1.alloc (.cells #[.int .i64 1, .int .i64 time, .slice ao2 A.length ac2, .slice none 0 0] 159)).cell? ⟨g0, C0.length * 4, none⟩ = some (.int .i64 cl.number) := (hbN.cell (p := ⟨g0, C0.length * 4, none⟩) hgl).trans hq
    have hnb := hnum cl (by simp)
    have hnn : cl.number + 1 = nextN (C0 ++ [cl]) := by simp [nextN]
    rw [hlen1] at y3
    go_wp2_with fail
    refine region5_drop _ ?hq5b wtb w1.heap.size retain rm (.slice no K.length ncap) _ _ pv _ _ time ao2 A.length ac2 _ _ _ _ _ _ _ _ _ _ _ _ _ _ _ _ _ _ _ _ _ _ _ _ _ _ _ _ _ _ _ _ _ _ _ _ _ _ _ _ _ _ _ _ _ _ _ _ _ _ _ _ ((hbw1.al _).heapOf hw) (hE.below (hbw1.al _)) hn ht hr k hold hk0 hkn (heap_new _ _ _ rfl) (fun e => by have := hown_lt _ e; have := hbw1.size; omega) ?_
    case hq5b => exact fun _ _ d _ _ h => by cases d <;> exact h
    intro ev' W' v41 f1 f2 f3 f4
    rw [← hD] at f2
    have hDl := HDl.out
    obtain ⟨g, gcap, rfl, k1, k2, k3, k4, k5, k6, k7, k8, k9⟩ := fin (nextN (C0 ++ [cl])) rfl _ _ f1 f2 f3 f4
    go_wp2_with fail
    refine region6_any _ ?hq6b wtb w.heap.size g gcap (.int .i64 retain) rm no ncap K pv D _ F _ W' _ _ _ _ _ _ _ _ _ _ _ _ _ _ _ _ _ _ _ _ _ _ _ _ _ _ _ _ _ _ _ _ _ _ _ _ _ _ _ _ _ _ _ _ _ _ _ _ _ _ _ _ f1 f2 hnD Hlen.out k1 k2 k3 k4 hK hnc k5 k6 hop hAh hrowD k7 k8 ?_
    case hq6b => exact fun _ _ d _ _ h => by cases d <;> exact h
    intro sb sc cur W'' a1 a2 a3 a4 a5 a6
    have q0 := cell_at (i := 0) a6 rfl
    have q1 := cell_at (i := 1) a6 rfl
    have q2 := cell_at (i := 2) a6 rfl
    have q3 := cell_at (i := 3) a6 rfl
    have K9 := k9 sb sc cur W'' a1 a2 a3 a4 a5
    clear k1 k2 k3 k4 k5 k6 k7 k9 f1 f2 f3 f4 a1 a2 a3 a4 a5
    go_wp2_with fail
    rw [hD, hF] at K9
    refine ⟨rfl, _, ?_, K9⟩
    simp [results, Tryz.f87, go_sem, loadVar, evVal, EvC.withSo, q0, q1, q2, q3]
end Go.Proofs.YtpbbmagjhkakgaaGreatDoor.Ev
namespace Go.Proofs.YtpbbmagjhkakgaaGreatDoor.Ev
open Go.RowKit Go.Deep Go.Proofs.YtpbbmagjhkakgaaGreatDoor.Lf Go.Conc
theorem take_all (wtb : Nat) (retain : Int) (rm : Value) (no : Option Addr) (ncap : Nat) (K : List Key) (ea : Option Addr) (ecap : Nat) (pv : Value) (C : List EvC) (E : List Pe) (time : Int) (ao : Option Addr) (A : List ByteArray) (cap : Nat) (w : World)
    (hw : w.heap[wtb]? = some (.cells #[.int .i64 retain, rm, .slice no K.length ncap, .slice ea C.length ecap, pv] 153 (0, 0))) (hE : EvsAt w (.slice ea C.length ecap) C) (hlen : C.length = E.length) (hIn : ∀ (i : Nat) c e, C[i]? = some c → E[i]? = some e → EvIn w c e) (hT : ∀ c ∈ C, EvT w c) (hn : C.length ≤ 1000) (ht : 0 ≤ time ∧ time ≤ 1000000000000) (hr : 0 ≤ retain ∧ retain ≤ 1000000000) (k : Nat) (hold : oldF (time - retain) C = k)
    (hnum : ∀ c, C.getLast? = some c → 0 ≤ c.number ∧ c.number ≤ 1000000000000) (h : StrsIn w ao A) (hA : A.length ≤ 1000) (hcap : A.length ≤ cap) (hs : ∀ j, j < A.length → (A.getD j ByteArray.empty).size ≤ 1000)
    (hK : K.length ≤ 1000) (hnc : K.length ≤ ncap) (hN : NodesIn w no K) (hNt : ∀ a, no = some a → ∃ cs m, w.heap[a.block]? = some (.cells cs 226 m)) (hop : ∀ k ∈ K, CoreOp k.op) (hAh : Ahead K) (hrow : ∀ e ∈ E, e.so.length = K.length + 1) :
    Calls Tryz.prog 87 #[.pointer (some ⟨wtb, 0, none⟩), .int .i64 time, .slice ao A.length cap] w (TakeD wtb retain rm no ncap K ea ecap pv C (C.drop k) (E.drop k) time A w) := by
  by_cases hk : k = 0
  · subst hk
    exact take_any wtb retain rm no ncap K ea ecap pv C E time ao A cap w hw hE hlen hIn hT hn ht hr hold hnum h hA hcap hs hK hnc hN hNt hop hAh hrow
  · exact take_drop wtb retain rm no ncap K ea ecap pv C E time ao A cap w hw hE hlen hIn hT hn ht hr k hold (by omega) (by rw [← hold]; exact oldF_le _ _) hnum h hA hcap hs hK hnc hN hNt hop hAh hrow
def EvDoneD (w : World) (wtb : Nat) (retain room : Int) (no : Option Addr) (ncap : Nat) (K : List Key) (ea : Option Addr) (C D : List EvC) (F : List Pe) (pa : Option Addr) (pcap : Nat) (ps : List Pol) (ss : List Strm) (time : Int) (A : List ByteArray) (W' : World) : Prop :=
  ∃ (c : EvC) (ea' : Option Addr) (ecap' : Nat) (ss' : List Strm), WatchAt W' wtb retain room no ncap K ea' ecap' (D ++ [c]) (F ++ [workF F.reverse K (⟨nextN C, time, A, []⟩ : Pe).bare]) pa pcap ps ss' ∧ c.time = time ∧ c.number = nextN C ∧ SpareR (Own46 wtb ea ss) w W' ∧ (∀ a, ea' = some a → (∃ a0, ea = some a0 ∧ a0.block = a.block) ∨ w.heap.size ≤ a.block) ∧
    (∀ (i : Nat) (s : Strm) (p : Pol), ss[i]? = some s → ps[i]? = some p → ∃ t, ss'[i]? = some t ∧ t.stb = s.stb ∧ t.n = s.n + 1 ∧ t.xs = s.xs ++ verCells (nextN C) time p.ver ((workF F.reverse K (⟨nextN C, time, A, []⟩ : Pe).bare).at (p.node : Int)) ∧ (t.sv.ownBlock = s.sv.ownBlock ∨ ∃ g, t.sv.ownBlock = some g ∧ w.heap.size ≤ g))
def TakeMidD (wtb : Nat) (retain room : Int) (no : Option Addr) (ncap : Nat) (K : List Key) (ea : Option Addr) (ecap : Nat) (C D : List EvC) (F : List Pe) (pa : Option Addr) (pcap : Nat) (ps : List Pol) (time : Int) (A : List ByteArray) (w1 : World) (c : EvC) (evb : Nat) (w2 : World) : Prop :=
  ∃ (ev' : Value) (sb : Nat) (cur : Array Value), c.so = some ⟨sb, 0, none⟩ ∧ w1.heap.size ≤ sb ∧ w2.heap[sb]? = some (.cells cur 4 (0, 0)) ∧ w2.heap[wtb]? = some (.cells #[.int .i64 retain, .int .i64 room, .slice no K.length ncap, ev', .slice pa ps.length pcap] 153 (0, 0)) ∧ EvsAt w2 ev' (D ++ [c]) ∧
    EvIn w2 c (workF F.reverse K (⟨nextN C, time, A, []⟩ : Pe).bare) ∧ EvT w2 c ∧ SpareR (fun b => b = wtb ∨ (Value.slice ea C.length ecap).ownBlock = some b) w1 w2 ∧ (∀ b, ev'.ownBlock = some b → (Value.slice ea C.length ecap).ownBlock = some b ∨ w1.heap.size ≤ b) ∧ w2.heap[evb]? = some (.cells #[.int .i64 c.number, .int .i64 c.time, c.av, c.sv] 159 (0, 0))
theorem TakeMidD.tapeR {wtb : Nat} {retain room : Int} {no : Option Addr} {ncap : Nat} {K : List Key} {ea : Option Addr} {ecap : Nat} {C D : List EvC} {F : List Pe} {pa : Option Addr} {pcap : Nat} {ps : List Pol} {time : Int} {A : List ByteArray} {w1 : World} {c : EvC} {evb : Nat} {w2 : World} (h : TakeMidD wtb retain room no ncap K ea ecap C D F pa pcap ps time A w1 c evb w2) (τ : Tape) (d : Nat) : TakeMidD wtb retain room no ncap K ea ecap C D F pa pcap ps time A w1 c evb (re w2 τ d) := by
  obtain ⟨ev', sb, cur, t1, t2, t3, t4, t5, t6, t7, t8, t9, t10⟩ := h
  exact ⟨ev', sb, cur, t1, t2, t3, t4, t5, t6.tapeR τ d, ⟨t7.so, t7.ao⟩, t8.tapeR τ d, t9, t10⟩
set_option maxRecDepth 100000 in
set_option maxHeartbeats 4000000 in
theorem event_drop {w : World} {wtb : Nat} {retain room : Int} {no : Option Addr} {ncap : Nat} {K : List Key} {ea : Option Addr} {ecap : Nat} {C : List EvC} {E : List Pe} {pa : Option Addr} {pcap : Nat} {ps : List Pol} {ss : List Strm} (h : WatchAt w wtb retain room no ncap K ea ecap C E pa pcap ps ss) (time : Int) (ao : Option Addr) (A : List ByteArray) (cap : Nat)
    (ht : 0 ≤ time ∧ time ≤ 1000000000000) (hl : ∀ e, C.getLast? = some e → e.time < time) (k : Nat) (hold : oldF (time - retain) C = k) (hroom : (C.length : Int) - (k : Int) + 1 ≤ room) (hA : StrsIn w ao A) (hA10 : A.length ≤ 10) (hcap : A.length ≤ cap) (hN : ∀ j, j < A.length → NameOK (A.getD j ByteArray.empty)) (hD : ∀ j, j < A.length → Lib.containsS (A.take j) (A.getD j ByteArray.empty) = false)
    (hfew : C.length + 1 ≤ 1000) (hnx : 0 ≤ nextN C ∧ nextN C ≤ 1000000000) (hfull : ∀ s ∈ ss, s.n < 30) :
    HCalls Tryz.prog 46 #[.pointer (some ⟨wtb, 0, none⟩), .int .i64 time, .slice ao A.length cap] w fun e W' => e = .returned .nilIface ∧ EvDoneD w wtb retain room no ncap K ea C (C.drop k) (E.drop k) pa pcap ps ss time A W' := by
  have hP := plain_prog
  obtain ⟨D, hDe⟩ : ∃ D, D = C.drop k := ⟨_, rfl⟩
  obtain ⟨F, hFe⟩ : ∃ F, F = E.drop k := ⟨_, rfl⟩
  have hDF : D.length = F.length := by rw [hDe, hFe, List.length_drop, List.length_drop, h.len]
  have hfewD : D.length + 1 ≤ 1000 := by rw [hDe, List.length_drop]; omega
  have hrowF : ∀ e ∈ F, e.so.length = K.length + 1 := fun e he => h.rows e (by rw [hFe] at he; exact List.mem_of_mem_drop he)
  rw [← hDe, ← hFe]
  replace hDe : Hid _ := hDe
  replace hFe : Hid _ := hFe
  have hi0 : ∀ it ∈ ([] : List Item), okItem it := by simp
  have hi1 : ∀ (c : Code), ∀ it ∈ [Item.code c], okItem it := fun c => okItems_cons trivial (by simp)
  have hi2 : ∀ (c d : Code), ∀ it ∈ [Item.code c, Item.code d], okItem it := fun c d => okItems_cons trivial (okItems_cons trivial (by simp))
  have hroomy : Roomy w ps := fun i p hp => by
    have hi : i < ss.length := by rw [h.plen]; exact (List.getElem?_eq_some_iff.1 hp).1
    have hsm : ss[i] ∈ ss := List.getElem_mem hi
    have hso := h.sok _ hsm
    obtain ⟨o, n, cp, hsv, hn⟩ : ∃ o n cp, ss[i].sv = .slice o n cp ∧ n < 30 := by
      have hf := hfull _ hsm
      rcases hso.2.2 with ⟨e, e2⟩ | ⟨g, cp, cur, e, _⟩
      · exact ⟨_, _, _, e, by omega⟩
      · exact ⟨_, _, _, e, hf⟩
    exact ⟨ss[i].stb, o, n, cp, h.pstr i _ p (List.getElem?_eq_getElem hi) hp, by rw [← hsv]; exact hso.1, hn⟩
  have hsz8 : ∀ j, j < A.length → (A.getD j ByteArray.empty).size ≤ 1000 := fun j hj => by have := (hN j hj).high; omega
  have hCk : Hid (∀ τ d, Calls Tryz.prog 86 #[.pointer (some ⟨wtb, 0, none⟩), .int .i64 time, .slice ao A.length cap] (re w τ d) fun e w' => e = .returned .nilIface ∧ Below (re w τ d).heap.size (re w τ d) w') := fun τ d => by
    have hh := h.tapeR τ d
    have hlo := h.few
    have hp := h.pfew
    exact checkEvent_ok wtb retain room _ _ pa pcap ps C time ao A cap (re w τ d) hh.cell hh.evs (by omega) ht hh.ret hl (by rw [hold]; exact hroom) hA hA10 hcap hN hD hh.pols (by omega) hh.pcp hroomy
  refine HCalls.of_lead Tryz.func46 rfl (fun cs hcs => ?_)
  simp only [Tryz.ntmps46, List.size_toArray, List.length_cons, List.length_nil, Nat.reduceAdd, Nat.reduceSub, Array.replicate_succ, Array.replicate_zero, List.push_toArray, List.append_toArray, List.nil_append, List.cons_append]
  refine LeadsR.seq hP hi0 hcs ?_
  refine LeadsR.piece hP (fun a' w' => a' = ⟨#[.pointer (some ⟨wtb, 0, none⟩), .int .i64 time, .slice ao A.length cap, undef, undef, undef, .nilIface, undef, undef, undef, undef, undef, undef, undef, undef, undef, undef, undef, undef, undef, undef, undef, undef, undef, undef, undef, undef, undef, undef, undef, undef, undef, undef, undef, undef, undef, undef, undef, undef, undef, undef], []⟩ ∧ ∃ τ d, w' = re w τ d) (fun a w τ d x => ⟨x.1, by obtain ⟨_, τ', d', rfl⟩ := x; exact ⟨τ, d, rfl⟩⟩) (hi1 _) hcs (fun τ d => ?_) ?_
  · go_wp2_with fail
    exact ⟨τ, d, rfl⟩
  rintro a' w' ⟨rfl, τ, d, rfl⟩
  refine LeadsR.other ?_ τ d
  dsimp only
  refine LeadsR.seq hP hi0 hcs ?_
  refine LeadsR.piece hP (fun a' w' => a' = ⟨#[.pointer (some ⟨wtb, 0, none⟩), .int .i64 time, .slice ao A.length cap, undef, undef, undef, .nilIface, .nilIface, undef, undef, .pointer (some ⟨wtb, 0, none⟩), .int .i64 time, .slice ao A.length cap, .nilIface, .nilIface, .bool false, undef, undef, undef, undef, undef, undef, undef, undef, undef, undef, undef, undef, undef, undef, undef, undef, undef, undef, undef, undef, undef, undef, undef, undef, undef], []⟩ ∧ SpareR (fun _ => False) w w') (fun a w τ d x => ⟨x.1, x.2.tapeR τ d⟩) (hi1 _) hcs (fun τ d => ?_) ?_
  · have hc := hCk.out τ d
    clear hCk
    go_wp2_with fail
    refine hc.mono ?_
    rintro e w1 ⟨rfl, hb1⟩
    go_wp2_with fail
    exact (SpareR.of_below hb1).tape0
  rintro a' w1 ⟨rfl, hs1⟩
  dsimp only
  have h1w := h.move hs1 (Kinds.none _ _)
  have hA1 := hA.move hs1
  have hTk : Hid (∀ τ d, Calls Tryz.prog 87 #[.pointer (some ⟨wtb, 0, none⟩), .int .i64 time, .slice ao A.length cap] (re w1 τ d) (TakeD wtb retain (.int .i64 room) no ncap K ea ecap (.slice pa ps.length pcap) C D F time A (re w1 τ d))) := fun τ d => by
    have hh := h1w.tapeR τ d
    rw [hDe.out, hFe.out]
    exact take_all wtb retain (.int .i64 room) no ncap K ea ecap _ C E time ao A cap (re w1 τ d) hh.cell hh.evs hh.len hh.ins hh.typed hh.few ht hh.ret k hold (fun c hc => by have := hh.nums c hc; omega) hA1 (by omega) hcap hsz8 hh.nfew hh.ncp hh.nodes hh.ntyped hh.core hh.ahead hh.rows
  refine LeadsR.seq hP hi0 hcs ?_
  refine LeadsR.piece hP (fun a' w2 => ∃ c evb, a' = ⟨#[.pointer (some ⟨wtb, 0, none⟩), .int .i64 time, .slice ao A.length cap, undef, undef, undef, .nilIface, .nilIface, .pointer (some ⟨evb, 0, none⟩), undef, .pointer (some ⟨wtb, 0, none⟩), .int .i64 time, .slice ao A.length cap, .nilIface, .nilIface, .bool false, undef, undef, undef, undef, undef, .pointer (some ⟨wtb, 0, none⟩), .pointer (some ⟨wtb, 0, none⟩), .pointer (some ⟨wtb, 0, none⟩), .int .i64 time, .slice ao A.length cap, evVal c, undef, undef, undef, undef, undef, undef, undef, undef, undef, undef, undef, undef, undef, undef], []⟩ ∧ TakeMidD wtb retain room no ncap K ea ecap C D F pa pcap ps time A w1 c evb w2) (fun a w τ d x => by obtain ⟨c, evb, x1, x2⟩ := x; exact ⟨c, evb, x1, x2.tapeR τ d⟩) (hi1 _) hcs (fun τ d => ?_) ?_
  · have hc := hTk.out τ d
    clear hCk hTk
    go_wp2_with fail
    refine hc.mono ?_
    rintro e w2 ⟨c, ev', sb, cur, rfl, t1, t2, t3, t4, t5, t6, t7, t8, t9⟩
    have hmid : TakeMidD wtb retain room no ncap K ea ecap C D F pa pcap ps time A w1 c w2.heap.size (w2.alloc (.cells #[.int .i64 c.number, .int .i64 c.time, .slice c.ao c.al c.ac, .slice c.so c.sl c.sc] 159)) := by
      have hsp : SpareR (fun _ => False) w2 (w2.alloc (.cells #[.int .i64 c.number, .int .i64 c.time, .slice c.ao c.al c.ac, .slice c.so c.sl c.sc] 159)) := SpareR.of_below ((Below.refl _ _).al _)
      exact ⟨ev', sb, cur, t1, t2, hsp.get t3 (fun x => x), hsp.get t4 (fun x => x), t5.move hsp (Kinds.none _ _), t6.move t7 hsp (Kinds.none _ _), t7.move hsp (Kinds.none _ _), (SpareR.of_spare t8).tape0.trans (hsp.mono fun _ _ x => x.elim), t9, heap_new _ _ _ rfl⟩
    clear t1 t2 t3 t4 t5 t6 t7 t8 t9
    simp only [evVal]
    go_wp2_with fail
    refine ⟨c, w2.heap.size, ?_, hmid⟩
    simp [evVal]
  rintro a' w2 ⟨c, evb, rfl, ev', sb, cur, t1, t2, t3, t4, t5, t6, t7, t8, t9, t10⟩
  clear hCk hTk
  dsimp only
  refine LeadsR.seq hP hi0 hcs ?_
  obtain ⟨q1, q2, q3, q4, _⟩ := workF_same F.reverse K (⟨nextN C, time, A, []⟩ : Pe).bare
  generalize hpe : workF F.reverse K (⟨nextN C, time, A, []⟩ : Pe).bare = pe at *
  have hnum : c.number = nextN C := t6.number.trans q1
  have htime : c.time = time := t6.time.trans q2
  have hpl : pe.so.length = K.length + 1 := by rw [q4]; simp [Pe.bare]; omega
  have hkt : Kinds w1 (fun b => b = wtb ∨ (Value.slice ea C.length ecap).ownBlock = some b) [4, 9, 226, 183, 177, 59] := fun b cs t m hb ht hp => by
    rcases hp with rfl | hp
    · rw [h1w.cell] at hb; injection hb with hb; injection hb with _ hb _; subst hb; simp at ht
    · obtain ⟨cur', hc⟩ := own_tag h1w.evs hp
      rw [hc] at hb; injection hb with hb; injection hb with _ hb _; subst hb; simp at ht
  have hok2 : ∀ s ∈ ss, StrOK w2 s := fun s hs => StrOK.move (h1w.sok s hs) t8 (hkt.less (by simp))
  have hpo2 := PolsIn.move h1w.pols t8 (hkt.less (by simp))
  have hso2 : SoIn w2 c.sv (ps.map fun p => { p with v := pe.at (p.node : Int) }) := by
    obtain ⟨sb', s1, s2, s3⟩ := t6.so
    have hse : sb' = sb := by rw [t1] at s1; simp at s1; exact s1.symm
    subst hse
    refine ⟨sb', 0, c.sl, c.sc, cur, (0, 0), by simp [EvC.sv, t1], t3, fun p hp => ?_⟩
    simp at hp
    obtain ⟨q, hq, rfl⟩ := hp
    have hqn := h.pnode q hq
    have hql : q.node < pe.so.length := by omega
    have hbit := EvIn.bit s3 hql
    refine ⟨?_, by rw [t6.sl]; exact hql⟩
    simp only [Nat.zero_add]
    simpa [World.cell?, t3] using hbit
  refine LeadsR.mono (rest_any (w := w2) wtb evb pa pcap c.number c.time c.av c.sv ss (ps.map fun p => { p with v := pe.at (p.node : Int) }) (polsIn_says _ hpo2) hso2 (fun s hs => by have := hfull s hs; omega) (by have := h.pfew; simp; omega) (by simp [h.plen]) (fun i s p h1 h2 => by simp at h2; obtain ⟨q, hq, rfl⟩ := h2; exact h.pstr i s q h1 hq) hok2 h.apart _ _ _ _ _ _ _ _ _ _ _ _ _ _ _ _ _ _ _ _ _ _ _ _ _ _ _ _ _ _ cs hcs _ _ _ _ _ _ _ _ _ _ _ _ _ (by rw [List.length_map]; exact t4) t10) ?_
  rintro g' W' ⟨e, fr, r1, r2, ⟨rfl, p1, p2, p3, p4, S, now, p5, p6⟩, r4, r5⟩
  refine ⟨_, fr, r1, r2, ⟨rfl, ?_⟩, r4, r5⟩
  subst hpe
  have hsp3 : SpareR (Ms ss) w2 W' := ⟨p1, p2, p3, p4⟩
  have hkm : Kinds w2 (Ms ss) [4, 9, 226, 183, 159, 153] := fun b cs t m hb ht => by
    refine Ms.not hok2 hb ?_ ?_ <;> (rintro rfl; simp at ht)
  obtain ⟨ea', ecap', rfl, f1, f2, f3⟩ := t5.form
  have hin2 : ∀ (i : Nat) c' e, D[i]? = some c' → F[i]? = some e → EvIn w2 c' e := fun i c' e h1 h2 => (h1w.ins (k + i) c' e (by rw [← List.getElem?_drop, ← hDe.out]; exact h1) (by rw [← List.getElem?_drop, ← hFe.out]; exact h2)).move (h1w.typed c' (List.mem_of_mem_drop (hDe.out ▸ List.mem_of_getElem? h1))) t8 (hkt.less (by simp))
  have hty2 : ∀ c' ∈ D, EvT w2 c' := fun c' hc' => (h1w.typed c' (List.mem_of_mem_drop (hDe.out ▸ hc'))).move t8 (hkt.less (by simp))
  have hap := h.plen
  refine ⟨c, ea', ecap', now, ?_, htime, hnum, ?_, ?_, ?_⟩
  · refine ⟨hsp3.get t4 (hkm _ _ _ _ t4 (by simp)), t5.move hsp3 (hkm.less (by simp)), by simp [hDF], fun i c' e h1 h2 => ?_, fun c' hc' => ?_, by simpa using hfewD, h.ret, fun c' hc' => ?_, h.nfew, h.ncp, ?_, ?_, h.core, h.ahead, fun e he => ?_, PolsIn.move hpo2 hsp3 (hkm.less (by simp)), h.pfew, h.pcp, by rw [p6.len]; exact h.plen, fun i s p h1 h2 => ?_, p6.ok, p6.apart, h.pnode⟩
    · rcases Nat.lt_or_ge i D.length with hi | hi
      · rw [List.getElem?_append_left hi] at h1
        rw [List.getElem?_append_left (by rw [← hDF]; exact hi)] at h2
        exact (hin2 i c' e h1 h2).move (hty2 c' (List.mem_of_getElem? h1)) hsp3 (hkm.less (by simp))
      · have hi' : i = D.length := by have := (List.getElem?_eq_some_iff.1 h1).1; simp at this; omega
        subst hi'
        rw [hDF] at h2
        simp at h1 h2
        subst h1; subst h2
        exact t6.move t7 hsp3 (hkm.less (by simp))
    · rcases List.mem_append.1 hc' with hc' | hc'
      · exact (hty2 c' hc').move hsp3 (hkm.less (by simp))
      · simp at hc'; subst hc'; exact t7.move hsp3 (hkm.less (by simp))
    · simp at hc'; subst hc'; rw [hnum]; exact hnx
    · exact (h1w.nodes.move h1w.ntyped t8 (hkt.less (by simp))).move (typed.move h1w.ntyped t8 (hkt.less (by simp))) hsp3 (hkm.less (by simp))
    · exact typed.move (typed.move h1w.ntyped t8 (hkt.less (by simp))) hsp3 (hkm.less (by simp))
    · rcases List.mem_append.1 he with he | he
      · exact hrowF e he
      · simp at he; subst he; exact hpl
    · have hi : i < ss.length := by rw [← p6.len]; exact (List.getElem?_eq_some_iff.1 h1).1
      obtain ⟨t, k1, k2, _⟩ := p6.done i ss[i] _ (by simp; rw [← h.plen]; exact hi) (List.getElem?_eq_getElem hi) (by rw [List.getElem?_map, h2]; rfl)
      rw [h1] at k1; cases k1
      rw [k2]
      exact h.pstr i ss[i] p (List.getElem?_eq_getElem hi) h2
  · have s1 : SpareR (Own46 wtb ea ss) w w1 := hs1.mono fun _ _ x => x.elim
    have s2 : SpareR (Own46 wtb ea ss) w1 w2 := t8.mono fun b _ hb => by
      rcases hb with hb | hb
      · exact .inl hb
      · cases ea with
        | none => cases hb
        | some a => exact .inr (.inl ⟨a, rfl, by cases hb; rfl⟩)
    exact (s1.trans s2).trans (hsp3.mono fun _ _ x => .inr (.inr x))
  · intro a ha
    subst ha
    rcases t9 a.block rfl with hb | hb
    · cases ea with
      | none => cases hb
      | some a0 => exact .inl ⟨a0, rfl, by simpa [Value.ownBlock] using hb⟩
    · exact .inr (by have := hs1.size; omega)
  · intro i s p h1 h2
    obtain ⟨t, k1, k2, k3, k4, k5⟩ := p6.done i s { p with v := (workF F.reverse K (⟨nextN C, time, A, []⟩ : Pe).bare).at (p.node : Int) } (by simp; exact (List.getElem?_eq_some_iff.1 h2).1) h1 (by rw [List.getElem?_map, h2]; rfl)
    refine ⟨t, k1, k2, k3, ?_, k5.imp id fun ⟨g, g1, g2⟩ => ⟨g, g1, by have := p5 g g2; have := t8.size; have := hs1.size; omega⟩⟩
    rw [k4, hnum, htime]
end Go.Proofs.YtpbbmagjhkakgaaGreatDoor.Ev
namespace Go.Proofs.YtpbbmagjhkakgaaGreatDoor
open Go.RowKit
def WindowEnd (rb : Nat) (w : World) (res : Option ((Int × Int) × List Tok)) (e : Ending) (w' : World) : Prop :=
  Only rb w w' ∧ ((∃ a b r, res = some ((a, b), r) ∧ e = .returned (.tuple #[.agg #[.int .i64 a, .int .i64 b], .nilIface]) ∧ RdAt 208 rb w' r)
    ∨ (res = none ∧ ∃ fa, e = .returned (.tuple #[.agg #[.int .i64 0, .int .i64 0], .iface 201 (.pointer (some fa))])))
set_option maxHeartbeats 400000 in
theorem window_none (rb : Nat) (ts : List Tok) (op : Int) (w : World) (h : RdAt 208 rb w ts) (hw : winB op = false) :
    Calls Tryz.prog 186 #[.pointer (some ⟨rb, 0, none⟩), .int .i32 op] w (WindowEnd rb w (windowF op ts)) := by
  have hF : windowF op ts = some ((0, 0), ts) := by unfold windowF; rw [hw]; rfl
  rw [hF]
  clear hF
  go_enter Tryz.func186, Tryz.ntmps186
  go_wp2_with fail
  refine (hasWindow_any op _).mono ?_
  rintro e w1 ⟨rfl, rfl⟩
  go_wp2_with fail
  refine bodyPost_ret (v := .tuple #[.agg #[.int .i64 0, .int .i64 0], .nilIface]) (by simp [results, Tryz.results186, go_sem]) rfl ⟨?_, .inl ⟨0, 0, ts, rfl, rfl, ?_⟩⟩
  · exact (Only.refl _ _).alloc _
  · exact h.alloc _
set_option maxHeartbeats 2000000 in
theorem window_some (rb : Nat) (ts : List Tok) (op : Int) (w : World) (h : RdAt 208 rb w ts) (he : Ends ts) (hw : winB op = true) (hg : ConvAt w) (hrb : 14 ≤ rb) :
    Calls Tryz.prog 186 #[.pointer (some ⟨rb, 0, none⟩), .int .i32 op] w (WindowEnd rb w (windowF op ts)) := by
  have hrl := h.lt
  obtain ⟨t0, r0, hts⟩ := he.cons
  obtain ⟨v, hv, htk⟩ := id h
  rw [hts] at htk
  obtain ⟨tb, off, cap, hvv, htb, hcap, hmax, hx1, hp1, hx2, hx3⟩ := toks_head htk
  clear hx1 hx2 hx3
  subst hvv
  have hc : w.cell? ⟨rb, 0, none⟩ = some (.slice (some ⟨tb, off, none⟩) (r0.length + 1) cap) := cell_at hv rfl
  have htl : tb < w.heap.size := by omega
  generalize t0.place = pl at hp1
  clear htk hv hts
  have hF : Hid (windowF op ts = match expectF 91 ts with
    | none => none
    | some t1 => match numF t1 with
      | none => none
      | some (a, t2) => match expectF 44 t2 with
        | none => none
        | some t3 => match numF t3 with
          | none => none
          | some (b, t4) => match expectF 93 t4 with
            | none => none
            | some t5 => if b < a then none else some ((a, b), t5)) := by show _ = _; unfold windowF; rw [hw]; rfl
  generalize windowF op ts = res at *
  go_enter Tryz.func186, Tryz.ntmps186
  go_wp2_with fail
  refine (hasWindow_any op _).mono ?_
  rintro e w1 ⟨rfl, rfl⟩
  go_wp2_with fail
  have k0 := heap_new w (.cells #[.int .i64 0, .int .i64 0] 140 (0, 0)) _ rfl
  have g0 : ConvAt (w.alloc (.cells #[.int .i64 0, .int .i64 0] 140)) := hg.below ((Below.refl _ _).al _)
  have o0 : Only rb w (w.alloc (.cells #[.int .i64 0, .int .i64 0] 140)) := (Only.refl _ _).alloc _
  clear hc hp1 hcap hmax htb htl hg
  have hr0 := h.alloc (.cells #[.int .i64 0, .int .i64 0] 140)
  have e0 := he
  clear h he
  refine (expect_any rb ts 91 _ _ hr0 e0).mono ?_
  rintro e w1 ⟨ho1, ⟨t1, h1, rfl, hr1⟩ | ⟨h1, fa, rfl⟩⟩
  rotate_left
  · have k1 := ho1.heap k0 (by omega)
    have o1 := o0.trans ho1
    clear ho1
    have c0 := cell_at (i := 0) k1 rfl
    have c1 := cell_at (i := 1) k1 rfl
    have f0 : w1.frozen? ⟨w.heap.size, 0, none⟩ = false := Lib.frozen_of_heap k1 0
    have f1 : w1.frozen? ⟨w.heap.size, 1, none⟩ = false := Lib.frozen_of_heap k1 1
    clear k0 k1
    go_wp2_with fail
    refine bodyPost_ret (v := .tuple #[.agg #[.int .i64 0, .int .i64 0], .iface 201 (.pointer (some fa))]) (by simp [results, Tryz.results186, go_sem, c0, c1]) rfl ⟨?_, .inr ⟨by rw [hF.out]; simp only [h1], fa, rfl⟩⟩
    exact (o1.setCell (p := ⟨w.heap.size, 0, none⟩) (.inr (Nat.le_refl _)) _).setCell (p := ⟨w.heap.size, 1, none⟩) (.inr (Nat.le_refl _)) _
  have k1 := ho1.heap k0 (by omega)
  have o1 := o0.trans ho1
  have g1 := g0.only ho1 hrb
  have e1 := (e0.expect h1).1
  clear k0 o0 g0 hr0 e0 ho1
  go_wp2_with fail
  refine (number_any rb t1 _ hr1 e1 g1 hrb).mono ?_
  rintro e w2 ⟨ho2, ⟨a, t2, h2, rfl, hr2⟩ | ⟨h2, fa, rfl⟩⟩
  rotate_left
  · have k2 := ho2.heap k1 (by omega)
    have o2 := o1.trans ho2
    clear ho2
    have c0 := cell_at (i := 0) k2 rfl
    have c1 := cell_at (i := 1) k2 rfl
    have f0 : w2.frozen? ⟨w.heap.size, 0, none⟩ = false := Lib.frozen_of_heap k2 0
    have f1 : w2.frozen? ⟨w.heap.size, 1, none⟩ = false := Lib.frozen_of_heap k2 1
    clear k1 k2
    go_wp2_with fail
    refine bodyPost_ret (v := .tuple #[.agg #[.int .i64 0, .int .i64 0], .iface 201 (.pointer (some fa))]) (by simp [results, Tryz.results186, go_sem, c0, c1]) rfl ⟨?_, .inr ⟨by rw [hF.out]; simp only [h1, h2], fa, rfl⟩⟩
    exact (o2.setCell (p := ⟨w.heap.size, 0, none⟩) (.inr (Nat.le_refl _)) _).setCell (p := ⟨w.heap.size, 1, none⟩) (.inr (Nat.le_refl _)) _
  have k2 := ho2.heap k1 (by omega)
  have o2 := o1.trans ho2
  have g2 := g1.only ho2 hrb
  have e2 := (e1.num h2).1
  clear k1 o1 g1 hr1 e1 ho2
  go_wp2_with fail
  refine (expect_any rb t2 44 _ _ hr2 e2).mono ?_
  rintro e w3 ⟨ho3, ⟨t3, h3, rfl, hr3⟩ | ⟨h3, fa, rfl⟩⟩
  rotate_left
  · have k3 := ho3.heap k2 (by omega)
    have o3 := o2.trans ho3
    clear ho3
    have c0 := cell_at (i := 0) k3 rfl
    have c1 := cell_at (i := 1) k3 rfl
    have f0 : w3.frozen? ⟨w.heap.size, 0, none⟩ = false := Lib.frozen_of_heap k3 0
    have f1 : w3.frozen? ⟨w.heap.size, 1, none⟩ = false := Lib.frozen_of_heap k3 1
    clear k2 k3
    go_wp2_with fail
    refine bodyPost_ret (v := .tuple #[.agg #[.int .i64 0, .int .i64 0], .iface 201 (.pointer (some fa))]) (by simp [results, Tryz.results186, go_sem, c0, c1]) rfl ⟨?_, .inr ⟨by rw [hF.out]; simp only [h1, h2, h3], fa, rfl⟩⟩
    exact (o3.setCell (p := ⟨w.heap.size, 0, none⟩) (.inr (Nat.le_refl _)) _).setCell (p := ⟨w.heap.size, 1, none⟩) (.inr (Nat.le_refl _)) _
  have k3 := ho3.heap k2 (by omega)
  have o3 := o2.trans ho3
  have g3 := g2.only ho3 hrb
  have e3 := (e2.expect h3).1
  clear k2 o2 g2 hr2 e2 ho3
  go_wp2_with fail
  refine (number_any rb t3 _ hr3 e3 g3 hrb).mono ?_
  rintro e w4 ⟨ho4, ⟨b, t4, h4, rfl, hr4⟩ | ⟨h4, fa, rfl⟩⟩
  rotate_left
  · have k4 := ho4.heap k3 (by omega)
    have o4 := o3.trans ho4
    clear ho4
    have c0 := cell_at (i := 0) k4 rfl
    have c1 := cell_at (i := 1) k4 rfl
    have f0 : w4.frozen? ⟨w.heap.size, 0, none⟩ = false := Lib.frozen_of_heap k4 0
    have f1 : w4.frozen? ⟨w.heap.size, 1, none⟩ = false := Lib.frozen_of_heap k4 1
    clear k3 k4
    go_wp2_with fail
    refine bodyPost_ret (v := .tuple #[.agg #[.int .i64 0, .int .i64 0], .iface 201 (.pointer (some fa))]) (by simp [results, Tryz.results186, go_sem, c0, c1]) rfl ⟨?_, .inr ⟨by rw [hF.out]; simp only [h1, h2, h3, h4], fa, rfl⟩⟩
    exact (o4.setCell (p := ⟨w.heap.size, 0, none⟩) (.inr (Nat.le_refl _)) _).setCell (p := ⟨w.heap.size, 1, none⟩) (.inr (Nat.le_refl _)) _
  have k4 := ho4.heap k3 (by omega)
  have o4 := o3.trans ho4
  have g4 := g3.only ho4 hrb
  have e4 := (e3.num h4).1
  clear k3 o3 g3 hr3 e3 ho4
  go_wp2_with fail
  refine (expect_any rb t4 93 _ _ hr4 e4).mono ?_
  rintro e w5 ⟨ho5, ⟨t5, h5, rfl, hr5⟩ | ⟨h5, fa, rfl⟩⟩
  rotate_left
  · have k5 := ho5.heap k4 (by omega)
    have o5 := o4.trans ho5
    clear ho5
    have c0 := cell_at (i := 0) k5 rfl
    have c1 := cell_at (i := 1) k5 rfl
    have f0 : w5.frozen? ⟨w.heap.size, 0, none⟩ = false := Lib.frozen_of_heap k5 0
    have f1 : w5.frozen? ⟨w.heap.size, 1, none⟩ = false := Lib.frozen_of_heap k5 1
    clear k4 k5
    go_wp2_with fail
    refine bodyPost_ret (v := .tuple #[.agg #[.int .i64 0, .int .i64 0], .iface 201 (.pointer (some fa))]) (by simp [results, Tryz.results186, go_sem, c0, c1]) rfl ⟨?_, .inr ⟨by rw [hF.out]; simp only [h1, h2, h3, h4, h5], fa, rfl⟩⟩
    exact (o5.setCell (p := ⟨w.heap.size, 0, none⟩) (.inr (Nat.le_refl _)) _).setCell (p := ⟨w.heap.size, 1, none⟩) (.inr (Nat.le_refl _)) _
  have k5 := ho5.heap k4 (by omega)
  have o5 := o4.trans ho5
  have g5 := g4.only ho5 hrb
  have e5 := (e4.expect h5).1
  clear k4 o4 g4 hr4 e4 ho5
  have c0 := cell_at (i := 0) k5 rfl
  have c1 := cell_at (i := 1) k5 rfl
  have f0 : w5.frozen? ⟨w.heap.size, 0, none⟩ = false := Lib.frozen_of_heap k5 0
  have f1 : w5.frozen? ⟨w.heap.size, 1, none⟩ = false := Lib.frozen_of_heap k5 1
  have hlt : w.heap.size < w5.heap.size := heap_lt k5
  have hF2 : Hid (res = if b < a then none else some ((a, b), t5)) := by show _ = _; rw [hF.out]; simp only [h1, h2, h3, h4, h5]
  clear hF h1 h2 h3 h4 h5
  by_cases hba : b < a
  · go_wp2_with fail
    refine bodyPost_ret (v := .tuple #[.agg #[.int .i64 0, .int .i64 0], .iface 201 (.pointer (some ⟨w5.heap.size, 0, none⟩))]) (by simp [results, Tryz.results186, go_sem, c0, c1, hlt]) rfl ⟨?_, .inr ⟨by rw [hF2.out, if_pos hba], _, rfl⟩⟩
    exact ((o5.setCell (p := ⟨w.heap.size, 0, none⟩) (.inr (Nat.le_refl _)) _).setCell (p := ⟨w.heap.size, 1, none⟩) (.inr (Nat.le_refl _)) _).alloc _
  · go_wp2_with fail
    refine bodyPost_ret (v := .tuple #[.agg #[.int .i64 a, .int .i64 b], .nilIface]) (by simp [results, Tryz.results186, go_sem, c0, c1]) rfl ⟨?_, .inl ⟨a, b, t5, by rw [hF2.out, if_neg (by omega)], rfl, ?_⟩⟩
    · exact (o5.setCell (p := ⟨w.heap.size, 0, none⟩) (.inr (Nat.le_refl _)) _).setCell (p := ⟨w.heap.size, 1, none⟩) (.inr (Nat.le_refl _)) _
    · exact (hr5.setCell (p := ⟨w.heap.size, 0, none⟩) hrl _).setCell (p := ⟨w.heap.size, 1, none⟩) hrl _
theorem window_any (rb : Nat) (ts : List Tok) (op : Int) (w : World) (h : RdAt 208 rb w ts) (he : Ends ts) (hg : ConvAt w) (hrb : 14 ≤ rb) :
    Calls Tryz.prog 186 #[.pointer (some ⟨rb, 0, none⟩), .int .i32 op] w (WindowEnd rb w (windowF op ts)) := by
  cases hw : winB op with
  | true => exact window_some rb ts op w h he hw hg hrb
  | false => exact window_none rb ts op w h hw
end Go.Proofs.YtpbbmagjhkakgaaGreatDoor
