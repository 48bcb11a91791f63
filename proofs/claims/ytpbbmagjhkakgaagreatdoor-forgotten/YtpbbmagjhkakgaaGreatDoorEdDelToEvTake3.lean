import Derived.Test.YtpbbmagjhkakgaaGreatDoorExpectToEvTake
import Derived.Laws.CopyRow
import Derived.Deep.RegionLaw
namespace Go.Proofs.YtpbbmagjhkakgaaGreatDoor.Ev
open Go.RowKit Go.Deep
theorem step_append_row {P : Program} {ops : Array Oper} {o : Oper} {a : Act} {w : World} {K : Act → World → Prop} {Q : Exit → Act → World → Prop} {E : Prop}
    (hgd : o.guard = none) (s x : Operand) (t : TypeId) (hop : o.op = Op.call { callee := Callee.builtin Builtin.append, args := #[s, x], argTypes := #[t, t] })
    (e : TypeId) (i : TypeInfo) (h1 : P.underlying t = some (.slice e)) (h2 : P.info? e = some i) (g n cap : Nat) (cur : Array Value) (hg : w.heap[g]? = some (.cells cur e (0, 0))) (hs : a.eval s = .slice (some ⟨g, 0, none⟩) n cap)
    (ad : Addr) (m c : Nat) (news : List Value) (hx : a.eval x = .slice (some ad) m c) (hn : news.length = m * i.size) (hc : ∀ j u, news[j]? = some u → w.cell? (ad.add j) = some u) (h1c : ∀ u ∈ news, u.oneCell' = true)
    (hroom : n + m ≤ cap) (hfit : n * i.size + news.length ≤ cur.size)
    (hK : K (a.put o.dst (.slice (some ⟨g, 0, none⟩) (n + m) cap)) (w.setRow g (cur.toList.take (n * i.size) ++ news ++ cur.toList.drop (n * i.size + news.length)).toArray)) :
    if Region.wanted o (yielded ops a.tmps) = true then Oper.wp P o a w K Q else E := by
  have hw : Region.wanted o (yielded ops a.tmps) = true := by simp [Region.wanted, hgd]
  rw [if_pos hw]
  have hrun := run_append_room (P := P) w t o.type e i h1 h2 g n cap cur hg ad m c news hn hc h1c hroom hfit
  unfold Oper.wp
  simp [execOp, hop, resolve, invoke, builtin, hs, hx, hrun, Result.andThen]
  rw [List.append_assoc] at hK
  exact hK
def zerosE (k : Nat) : List Value := (Builtin.zeroCells #[.int .i64 0, .int .i64 0, .slice none 0 0, .slice none 0 0] k).toList
theorem zerosE_len (k : Nat) : (zerosE k).length = k * 4 := by simp [zerosE, Builtin.zeroCells]
theorem zerosE_one (k : Nat) : ∀ u ∈ zerosE k, u.oneCell' = true := by
  intro u hu
  simp only [zerosE, Builtin.zeroCells, Array.toList_map, List.mem_map, Array.mem_toList_iff, Array.mem_range] at hu
  obtain ⟨i, _, rfl⟩ := hu
  have h4 : i % 4 = 0 ∨ i % 4 = 1 ∨ i % 4 = 2 ∨ i % 4 = 3 := by omega
  have e : (#[Value.int .i64 0, .int .i64 0, .slice none 0 0, .slice none 0 0] : Array Value).size = 4 := rfl
  rw [e]
  rcases h4 with h | h | h | h <;> rw [h] <;> rfl
theorem clear_events (W : World) (ty : TypeId) (g o k c : Nat) (hk : k ≠ 0) (cur : Array Value) (hg : W.heap[g]? = some (.cells cur 159 (0, 0))) (hfit : o + k * 4 ≤ cur.size) :
    (Builtin.clear_ #[146] ty #[.slice (some ⟨g, o, none⟩) k c]).run Tryz.prog W = .ok (.tuple #[]) (W.setRow g (cur.toList.take o ++ zerosE k ++ cur.toList.drop (o + k * 4)).toArray) := by
  have h1 := run_storeCells_at (P := Tryz.prog) g o 159 (zerosE k) 0 cur W hg (by rw [zerosE_len]; omega) (zerosE_one k)
  rw [zerosE_len, Nat.add_zero] at h1
  obtain ⟨k, rfl⟩ : ∃ m, k = m + 1 := ⟨k - 1, by omega⟩
  have h2 : (Value.agg #[.int .i64 0, .int .i64 0, .slice none 0 0, .slice none 0 0]).cells = #[.int .i64 0, .int .i64 0, .slice none 0 0, .slice none 0 0] := rfl
  have hu : ∀ w : World, (underlying 146).run Tryz.prog w = .ok (.slice 159) w := fun w => by
    have := Tryz.underlying146
    simp [underlying, this]
  unfold zerosE at h1
  simp [Builtin.clear_, hu, h2, h1]
  rfl
theorem flatE_len (C : List EvC) : (flatE C).length = C.length * 4 := by
  induction C with
  | nil => rfl
  | cons c C ih =>
    have : flatE (c :: C) = evCells c ++ flatE C := rfl
    rw [this, List.length_append, ih]
    show 4 + C.length * 4 = (C.length + 1) * 4
    omega
theorem flatE_drop (C : List EvC) : ∀ k, flatE (C.drop k) = (flatE C).drop (k * 4) := by
  induction C with
  | nil => intro k; simp [flatE]
  | cons c C ih =>
    intro k
    cases k with
    | zero => simp
    | succ k =>
      have e : flatE (c :: C) = evCells c ++ flatE C := rfl
      rw [List.drop_succ_cons, ih k, e, List.drop_append]
      have h1 : (evCells c).length = 4 := rfl
      rw [h1]
      have h2 : (k + 1) * 4 - 4 = k * 4 := by omega
      rw [h2, List.drop_of_length_le (l := evCells c) (by rw [h1]; omega), List.nil_append]
set_option maxRecDepth 100000 in
set_option maxHeartbeats 8000000 in
theorem delete_any (g cap k : Nat) (C : List EvC) (w : World) (hE : EvsAt w (.slice (some ⟨g, 0, none⟩) C.length cap) C) (hk0 : 0 < k) (hkn : k ≤ C.length) (hn : C.length ≤ 1000) :
    Calls Tryz.prog 130 #[.slice (some ⟨g, 0, none⟩) C.length cap, .int .i64 0, .int .i64 (k : Int)] w fun e w' => e = .returned (.slice (some ⟨g, 0, none⟩) (C.length - k) cap) ∧ EvsAt w' (.slice (some ⟨g, 0, none⟩) (C.length - k) cap) (C.drop k) ∧ Only g w w' := by
  obtain ⟨h0, ⟨h1, _⟩ | ⟨g', cap', cur, e1, _, hg, hnc, hcm, hcur, htk⟩⟩ := hE
  · cases h1
  cases e1
  obtain ⟨i0, hi, hz0, hz1, hz2⟩ := info_parts infoEvent
  obtain ⟨news, hnews⟩ : ∃ news, news = flatE (C.drop k) := ⟨_, rfl⟩
  have hlen : news.length = (C.length - k) * 4 := by rw [hnews, flatE_len, List.length_drop]
  have hcmx : cap ≤ 9223372036854775807 := Nat.le_trans hcm (by decide)
  have hget : ∀ t u, news[t]? = some u → w.cell? ⟨g, k * 4 + t, none⟩ = some u := by
    intro t u hu
    have ht : t < (C.length - k) * 4 := by have := (List.getElem?_eq_some_iff.1 hu).1; rwa [hlen] at this
    refine cell_at hg ?_
    rw [hnews, flatE_drop, List.getElem?_drop, ← htk, List.getElem?_take] at hu
    rw [if_pos (by omega)] at hu
    simpa using hu
  obtain ⟨A, hA, hsrc⟩ : ∃ A : Addr, (if cap = k then some (⟨g, 0, none⟩ : Addr) else some ⟨g, k * 4, none⟩) = some A ∧ Hid (∀ t u, news[t]? = some u → w.drew.cell? (A.add t) = some u) := by
    by_cases h : cap = k
    · refine ⟨⟨g, 0, none⟩, by simp [h], fun t u hu => ?_⟩
      have h0 : news.length = 0 := by rw [hlen]; omega
      rw [List.length_eq_zero_iff.1 h0] at hu
      simp at hu
    · refine ⟨⟨g, k * 4, none⟩, by simp [h], fun t u hu => ?_⟩
      rw [Addr.add_lit]
      exact hget t u hu
  obtain ⟨W1, hW1⟩ : ∃ W1, W1 = w.drew.setRow g (cur.toList.take (0 * i0.size) ++ news ++ cur.toList.drop (0 * i0.size + news.length)).toArray := ⟨_, rfl⟩
  have hone : ∀ u ∈ news, u.oneCell' = true := by
    intro u hu
    rw [hnews] at hu
    obtain ⟨c, hc, hu⟩ := List.mem_flatten.1 hu
    obtain ⟨e, _, rfl⟩ := List.mem_map.1 hc
    exact evOne e u hu
  have hg1 : W1.heap[g]? = some (.cells (news ++ cur.toList.drop news.length).toArray 159 (0, 0)) := by
    rw [hW1, Nat.zero_mul, List.take_zero, List.nil_append, Nat.zero_add]
    exact setRow_heap w.drew g cur _ _ (0, 0) hg
  have hsz1 : (news ++ cur.toList.drop news.length).toArray.size = cap * 4 := by
    simp only [List.size_toArray, List.length_append, List.length_drop, Array.length_toList, hlen, hcur]
    omega
  have hcl := fun ty => clear_events W1 ty g ((C.length - k) * 4) k (cap - (C.length - k)) (by omega) _ hg1 (by rw [hsz1]; omega)
  have hfin : ∀ w2, w2 = W1.setRow g ((news ++ cur.toList.drop news.length).toArray.toList.take ((C.length - k) * 4) ++ zerosE k ++ (news ++ cur.toList.drop news.length).toArray.toList.drop ((C.length - k) * 4 + k * 4)).toArray → EvsAt w2 (.slice (some ⟨g, 0, none⟩) (C.length - k) cap) (C.drop k) ∧ Only g w w2 := by
    rintro w2 rfl
    refine ⟨⟨?_, .inr ⟨g, cap, _, ?_, Nat.zero_le _, setRow_heap _ g _ _ _ _ hg1, ?_, hcm, ?_, ?_⟩⟩, ?_⟩
    · rw [flatE_len]
    · rw [List.length_drop]
    · rw [List.length_drop]; omega
    · simp only [List.size_toArray, List.length_append, List.length_take, List.length_drop, zerosE_len, Array.length_toList, hlen, hcur]
      omega
    · rw [← hnews, List.length_drop, ← hlen]
      simp
    · refine ⟨by rw [hW1]; rfl, by rw [hW1]; rfl, by rw [hW1]; rfl, by rw [hW1]; simp, fun b hb hne => ?_⟩
      rw [setRow_other _ _ _ _ hne, hW1, setRow_other _ _ _ _ hne]
      rfl
  have s1 : news.length = (C.length - k) * i0.size := by rw [hz1]; exact hlen
  have s2 : 0 * i0.size + news.length ≤ cur.size := by rw [hcur]; omega
  have hW : Hid (W1 = w.drew.setRow g (cur.toList.take (0 * i0.size) ++ news ++ cur.toList.drop (0 * i0.size + news.length)).toArray) := hW1
  replace hfin : Hid _ := hfin
  replace s1 : Hid _ := s1
  replace s2 : Hid _ := s2
  replace hone : Hid _ := hone
  have hg' : Hid (w.drew.heap[g]? = some (.cells cur 159 (0, 0))) := hg
  have hkc : k ≤ cap := by omega
  clear hget hnews hlen hg1 hsz1 h0 htk hg hW1 hcur hcm
  generalize C.length = n at *
  go_enter Tryz.func130, Tryz.ntmps130
  go_wp2_with fail
  go_region_law (refine step_append_row rfl (.tmp 22) (.tmp 25) 146 rfl 159 i0 Tryz.underlying146 hi g 0 cap cur hg'.out (by simp [Act.eval, Act.put]) A (n - k) (cap - k) news (by simp [Act.eval, Act.put]) s1.out hsrc.out hone.out (by omega) s2.out ?_; rw [← hW.out])
  have hnk : n - (n - k) = k := by omega
  go_wp2
  go_ret
  exact ⟨rfl, hfin.out _ (by rw [List.append_assoc])⟩
theorem backL_list (L : List Pe) (d : Pe) : backL (fun i => L.getD i d) L.length = L.reverse := by
  unfold backL
  rw [downTo_map (fun i => L.getD i d) _ _ (Nat.le_refl _)]
  apply List.ext_getElem?
  intro i
  by_cases hi : i < L.length
  · simp [hi]
    have : L.length - 1 - i < L.length := by omega
    simp [this]
  · simp [hi]
theorem row_array {w : World} {base size n : Nat} {e : TypeId} {v : Value} {xs : List Value} (h : w.ownsRow base e size v n xs) {g cap : Nat} (hv : v = .slice (some ⟨g, 0, none⟩) n cap) : ∃ cur, w.heap[g]? = some (.cells cur e (0, 0)) ∧ (∀ (j : Nat) (x : Value), xs[j]? = some x → cur[j]? = some x) ∧ n ≤ cap ∧ cap ≤ maxLen ∧ cur.size = cap * size ∧ cur.toList.take (n * size) = xs := by
  obtain ⟨h1, ⟨rfl, h2⟩ | ⟨g', cap', cur, e1, h3, h4, h5, h6, h7, h8⟩⟩ := h
  · cases hv
  · rw [hv] at e1
    cases e1
    refine ⟨cur, h4, fun j x hx => ?_, h5, h6, h7, h8⟩
    have hj : j < n * size := by have := (List.getElem?_eq_some_iff.1 hx).1; omega
    rw [← h8, List.getElem?_take, if_pos hj] at hx
    rw [← Array.getElem?_toList]; exact hx
theorem flatE_set (C : List EvC) (c : EvC) (sb sl sc : Nat) : (flatE (C ++ [c])).set (C.length * 4 + 3) (.slice (some ⟨sb, 0, none⟩) sl sc) = flatE (C ++ [c.withSo sb sl sc]) := by
  have hl : (flatE C).length = C.length * 4 := flat_len evCells 4 (fun _ => rfl) C
  rw [flatE_snoc, flatE_snoc, List.set_append_right _ _ (by omega), hl]
  have : C.length * 4 + 3 - C.length * 4 = 3 := by omega
  rw [this]
  rfl
set_option maxRecDepth 100000 in
set_option maxHeartbeats 8000000 in
theorem region6_any (Q : Exit → Act → World → Prop) (hQ : ∀ c a d v w, Q (.panic c) (Act.put a d v) w → Q (.panic c) a w) (wtb rb g gcap : Nat) (r1 r2 : Value) (no : Option Addr) (ncap : Nat) (K : List Key) (pv : Value) (C : List EvC) (nxt : EvC) (E : List Pe) (pe : Pe) (W : World) (x1 x2 x3 x4 x5 x7 x8 x9 x10 x11 x12 x13 x14 x15 x16 x17 x18 x19 x20 x21 x22 x23 x24 x25 x26 x27 x28 x29 x30 x31 x32 x33 x34 x35 x36 x37 x38 x39 x40 x41 x42 x43 x44 u45 u46 u47 u48 u49 u50 u51 u52 u53 : Value)
    (hw : W.heap[wtb]? = some (.cells #[r1, r2, .slice no K.length ncap, .slice (some ⟨g, 0, none⟩) (C.length + 1) gcap, pv] 153 (0, 0))) (hE : EvsAt W (.slice (some ⟨g, 0, none⟩) (C.length + 1) gcap) (C ++ [nxt])) (hn : C.length ≤ 1000) (hlen : C.length = E.length)
    (hIn : ∀ (i : Nat) c e, C[i]? = some c → E[i]? = some e → EvIn W c e) (hT : ∀ c ∈ C, EvT W c) (hM : EvPre W nxt pe) (hMt : ∀ a, nxt.ao = some a → ∃ cs m, W.heap[a.block]? = some (.cells cs 9 m)) (hK : K.length ≤ 1000) (hnc : K.length ≤ ncap) (hN : NodesIn W no K) (hNt : ∀ a, no = some a → ∃ cs m, W.heap[a.block]? = some (.cells cs 226 m)) (hop : ∀ k ∈ K, CoreOp k.op) (hAh : Ahead K) (hrow : ∀ e ∈ E, e.so.length = K.length + 1)
    (hrb : W.heap[rb]? = some (.cells #[.int .i64 0, .int .i64 0, .slice none 0 0, .slice none 0 0] 159 (0, 0))) (hrg : rb ≠ g)
    (hk : ∀ (sb sc : Nat) (cur : Array Value) (W' : World), W.heap.size ≤ sb → W'.heap[sb]? = some (.cells cur 4 (0, 0)) → Spare (fun b => b = g ∨ b = rb) W W' → EvsAt W' (.slice (some ⟨g, 0, none⟩) (C.length + 1) gcap) (C ++ [nxt.withSo sb (K.length + 1) sc]) → EvIn W' (nxt.withSo sb (K.length + 1) sc) (workF E.reverse K pe.bare) →
      W'.heap[rb]? = some (.cells #[.int .i64 nxt.number, .int .i64 nxt.time, .slice nxt.ao nxt.al nxt.ac, .slice (some ⟨sb, 0, none⟩) (K.length + 1) sc] 159 (0, 0)) → Q .normal ⟨#[(.pointer (some ⟨wtb, 0, none⟩)), x1, x2, x3, x4, x5, (.pointer (some ⟨rb, 0, none⟩)), x7, x8, x9, x10, x11, x12, x13, x14, x15, x16, x17, x18, x19, x20, x21, x22, x23, x24, x25, x26, x27, x28, x29, x30, x31, x32, x33, x34, x35, x36, x37, x38, x39, x40, x41, x42, x43, x44, (.pointer (some ⟨wtb, 0, none⟩)), (.pointer (some ⟨wtb, 0, none⟩)), (.pointer (some ⟨wtb, 2, none⟩)), (.slice no K.length ncap), (.pointer (some ⟨wtb, 0, none⟩)), (.pointer (some ⟨wtb, 0, none⟩)), (.pointer (some ⟨wtb, 3, none⟩)), (.slice (some ⟨g, 0, none⟩) (C.length + 1) gcap), (evVal (nxt.withSo sb (K.length + 1) sc))], []⟩ W') :
    (Code.region 6 opsT6 true).wp Tryz.prog Q ⟨#[(.pointer (some ⟨wtb, 0, none⟩)), x1, x2, x3, x4, x5, (.pointer (some ⟨rb, 0, none⟩)), x7, x8, x9, x10, x11, x12, x13, x14, x15, x16, x17, x18, x19, x20, x21, x22, x23, x24, x25, x26, x27, x28, x29, x30, x31, x32, x33, x34, x35, x36, x37, x38, x39, x40, x41, x42, x43, x44, u45, u46, u47, u48, u49, u50, u51, u52, u53], []⟩ W := by
  have hlt := heap_lt hw
  have el : (C ++ [nxt]).length = C.length + 1 := by simp
  have hE' : World.ownsRow W 0 159 4 (.slice (some ⟨g, 0, none⟩) (C.length + 1) gcap) (C.length + 1) (flatE (C ++ [nxt])) := by
    have h0 := hE
    unfold EvsAt at h0
    rw [el] at h0
    exact h0
  obtain ⟨cg, hg, hcg, hgc, hgm, hgs, hgt⟩ := row_array hE' rfl
  have hW : Calls Tryz.prog 132 #[.slice no K.length ncap, .slice (some ⟨g, 0, none⟩) (C.length + 1) gcap] W.drew fun e W' => ∃ sb sc cur, e = .returned (evVal (nxt.withSo sb (K.length + 1) sc)) ∧ W.heap.size ≤ sb ∧ Only g W W' ∧
      W'.heap[g]? = some (.cells (cg.setIfInBounds (C.length * 4 + 3) (.slice (some ⟨sb, 0, none⟩) (K.length + 1) sc)) 159 (0, 0)) ∧ W'.heap[sb]? = some (.cells cur 4 (0, 0)) ∧ EvIn W' (nxt.withSo sb (K.length + 1) sc) (workF E.reverse K pe.bare) := by
    have hbd : Below W.heap.size W W.drew := (Below.refl _ W).drew
    have hcm : (C ++ [nxt]).getD C.length nxt = nxt := by simp
    have hem : (E ++ [pe]).getD C.length pe = pe := by rw [hlen]; simp
    have hci : ∀ i, i < C.length → ∃ c e, (C ++ [nxt]).getD i nxt = c ∧ (E ++ [pe]).getD i pe = e ∧ C[i]? = some c ∧ E[i]? = some e := fun i hi => by
      have h1 : i < E.length := by omega
      exact ⟨C[i], E[i], by rw [List.getD_eq_getElem?_getD, List.getElem?_append_left hi, List.getElem?_eq_getElem hi]; rfl, by rw [List.getD_eq_getElem?_getD, List.getElem?_append_left h1, List.getElem?_eq_getElem h1]; rfl, List.getElem?_eq_getElem hi, List.getElem?_eq_getElem h1⟩
    have := workOut_any no ncap K g gcap C.length cg (fun i => (C ++ [nxt]).getD i nxt) (fun i => (E ++ [pe]).getD i pe) W.drew (by omega) hgc hK hnc hg ?_ (fun hne => hN hne) ?_ hop hAh ?_ ?_ ?_ (by simp only [hcm, hem]; exact ⟨hM.number, hM.time, hM.low, hM.al, hM.alen, hM.atoms⟩) ?_
    · simp only [hcm, hem] at this
      have hb : backL (fun i => (E ++ [pe]).getD i pe) C.length = E.reverse := by
        rw [backL_congr (F := fun i => E.getD i pe) (fun i hi => by
          have h1 : i < E.length := by omega
          show (E ++ [pe]).getD i pe = E.getD i pe
          rw [List.getD_eq_getElem?_getD, List.getElem?_append_left h1, ← List.getD_eq_getElem?_getD]), hlen]
        exact backL_list E pe
      rw [hb] at this
      refine this.mono ?_
      rintro e W' ⟨sb, sc, cur, h1, h2, h3, h4, h5, h6⟩
      exact ⟨sb, sc, cur, h1, h2, ⟨h3.os, h3.tape, h3.output, h3.size, h3.block⟩, h4, h5, h6⟩
    · intro i k v hi hv
      have hc : (C ++ [nxt])[i]? = some ((C ++ [nxt]).getD i nxt) := by
        have : i < (C ++ [nxt]).length := by omega
        rw [List.getD_eq_getElem?_getD, List.getElem?_eq_getElem this]; rfl
      exact hcg _ _ (flat_get evCells 4 (fun _ => rfl) (C ++ [nxt]) i k _ v hc hv)
    · intro a ha e
      obtain ⟨cs, m, h1⟩ := hNt a ha
      rw [e, hg] at h1; cases h1
    · intro i hi
      obtain ⟨c, e, h1, h2, h3, h4⟩ := hci i hi
      simp only [h1, h2]
      exact (hIn i c e h3 h4).below hbd
    · intro i hi
      obtain ⟨c, e, h1, h2, h3, h4⟩ := hci i hi
      simp only [h2]
      exact hrow e (List.mem_of_getElem? h4)
    · intro i hi
      obtain ⟨c, e, h1, h2, h3, h4⟩ := hci i hi
      simp only [h1]
      exact (hT c (List.mem_of_getElem? h3)).off hg
    · simp only [hcm]
      intro a ha e
      obtain ⟨cs, m, h1⟩ := hMt a ha
      rw [e, hg] at h1; cases h1
  have Hst : Hid (∀ w', Only g W w' → (fun w' => w'.cell? ⟨wtb, 2, none⟩ = some (.slice no K.length ncap) ∧ w'.cell? ⟨wtb, 3, none⟩ = some (.slice (some ⟨g, 0, none⟩) (C.length + 1) gcap)) w') := fun w' ho => by
    have hwg : wtb ≠ g := by rintro rfl; rw [hw] at hg; cases hg
    have h1 := ho.heap hw hwg
    exact ⟨cell_at h1 rfl, cell_at h1 rfl⟩
  have hS0 := Hst.out _ (Only.refl g W).drew
  clear hIn hT hM hN hNt hop hAh hrow hlen el
  simp only [opsT6, body87, Tryz.f87, Option.getD_some]
  refine AnyF.begin (S := (fun w' => w'.cell? ⟨wtb, 2, none⟩ = some (.slice no K.length ncap) ∧ w'.cell? ⟨wtb, 3, none⟩ = some (.slice (some ⟨g, 0, none⟩) (C.length + 1) gcap))) (fin := 9) (by kernel_rfl) ?_
  simp only [List.size_toArray, List.length_cons, List.length_nil, Nat.reduceAdd, Nat.zero_add]
  refine AnyF.take 0 (v := ?vq0) rfl (by decide +kernel) (by decide +kernel) (by decide +kernel) (by decide +kernel) (fun c a w h => hQ c a _ _ w h) (by rfl) (fun w' hS => Go.Conc.run_eq_of ?rq0) hS0 ?_
  case rq0 =>
    intro K' hK'
    obtain ⟨y1, y2⟩ := hS
    go_simp
    exact hK'
  try walk_nrm
  refine AnyF.take 1 (v := ?vq1) rfl (by decide +kernel) (by decide +kernel) (by decide +kernel) (by decide +kernel) (fun c a w h => hQ c a _ _ w h) (by rfl) (fun w' hS => Go.Conc.run_eq_of ?rq1) hS0 ?_
  case rq1 =>
    intro K' hK'
    obtain ⟨y1, y2⟩ := hS
    go_simp
    exact hK'
  try walk_nrm
  refine AnyF.take 2 (v := ?vq2) rfl (by decide +kernel) (by decide +kernel) (by decide +kernel) (by decide +kernel) (fun c a w h => hQ c a _ _ w h) (by rfl) (fun w' hS => Go.Conc.run_eq_of ?rq2) hS0 ?_
  case rq2 =>
    intro K' hK'
    obtain ⟨y1, y2⟩ := hS
    go_simp
    exact hK'
  try walk_nrm
  refine AnyF.take 3 (v := ?vq3) rfl (by decide +kernel) (by decide +kernel) (by decide +kernel) (by decide +kernel) (fun c a w h => hQ c a _ _ w h) (by rfl) (fun w' hS => Go.Conc.run_eq_of ?rq3) hS0 ?_
  case rq3 =>
    intro K' hK'
    obtain ⟨y1, y2⟩ := hS
    go_simp
    exact hK'
  try walk_nrm
  refine AnyF.take 4 (v := ?vq4) rfl (by decide +kernel) (by decide +kernel) (by decide +kernel) (by decide +kernel) (fun c a w h => hQ c a _ _ w h) (by rfl) (fun w' hS => Go.Conc.run_eq_of ?rq4) hS0 ?_
  case rq4 =>
    intro K' hK'
    obtain ⟨y1, y2⟩ := hS
    go_simp
    exact hK'
  try walk_nrm
  refine AnyF.take 5 (v := ?vq5) rfl (by decide +kernel) (by decide +kernel) (by decide +kernel) (by decide +kernel) (fun c a w h => hQ c a _ _ w h) (by rfl) (fun w' hS => Go.Conc.run_eq_of ?rq5) hS0 ?_
  case rq5 =>
    intro K' hK'
    obtain ⟨y1, y2⟩ := hS
    go_simp
    exact hK'
  try walk_nrm
  refine AnyF.take 6 (v := ?vq6) rfl (by decide +kernel) (by decide +kernel) (by decide +kernel) (by decide +kernel) (fun c a w h => hQ c a _ _ w h) (by rfl) (fun w' hS => Go.Conc.run_eq_of ?rq6) hS0 ?_
  case rq6 =>
    intro K' hK'
    obtain ⟨y1, y2⟩ := hS
    go_simp
    exact hK'
  try walk_nrm
  refine AnyF.take 7 (v := ?vq7) rfl (by decide +kernel) (by decide +kernel) (by decide +kernel) (by decide +kernel) (fun c a w h => hQ c a _ _ w h) (by rfl) (fun w' hS => Go.Conc.run_eq_of ?rq7) hS0 ?_
  case rq7 =>
    intro K' hK'
    obtain ⟨y1, y2⟩ := hS
    go_simp
    exact hK'
  try walk_nrm
  refine AnyF.one (i := 8) (by decide +kernel) rfl (by rfl) ?_
  unfold Oper.wp
  rw [Go.Conc.run_call_body (f := 132) (args := #[.tmp 48, .tmp 52]) (ats := #[95, 146]) rfl Tryz.func132 (by decide) rfl]
  simp only [Oper.upon, List.map_toArray, List.map_cons, List.map_nil]
  change Calls Tryz.prog 132 #[.slice no K.length ncap, .slice (some ⟨g, 0, none⟩) (C.length + 1) gcap] W.drew _
  refine hW.mono ?_
  rintro e W1 ⟨sb, sc, cur, rfl, hsb, hO, hg1, hcur, hin⟩
  refine ⟨fun _ => Hst.out _ hO, ?_⟩
  try walk_nrm
  have hrb1 := hO.heap hrb hrg
  have r0 := cell_at (i := 0) hrb1 rfl
  have r1' := cell_at (i := 1) hrb1 rfl
  have r2' := cell_at (i := 2) hrb1 rfl
  have r3' := cell_at (i := 3) hrb1 rfl
  have fz : ∀ q, W1.frozen? ⟨rb, q, none⟩ = false := fun q => Lib.frozen_of_heap hrb1 q
  refine AnyF.op (i := 9) (by decide +kernel) rfl (by rfl) (fun K' hK' => ?_)
  unfold Oper.wp
  simp only [evVal, EvC.withSo]
  go_simp
  refine hK' _ _ ⟨fun x => absurd rfl x, ?_⟩
  clear hK' K'
  refine AnyF.done (by decide +kernel) ?_ _
  try walk_nrm
  have hR := set_heap (i := 3) (v := .slice (some ⟨sb, 0, none⟩) (K.length + 1) sc) (set_heap (i := 2) (v := .slice nxt.ao nxt.al nxt.ac) (set_heap (i := 1) (v := .int .i64 nxt.time) (set_heap (i := 0) (v := .int .i64 nxt.number) hrb1)))
  simp only [List.setIfInBounds_toArray, List.set_cons_zero, List.set_cons_succ] at hR
  have hO4 : Only rb W1 ((((W1.setCell ⟨rb, 0, none⟩ (.int .i64 nxt.number)).setCell ⟨rb, 1, none⟩ (.int .i64 nxt.time)).setCell ⟨rb, 2, none⟩ (.slice nxt.ao nxt.al nxt.ac)).setCell ⟨rb, 3, none⟩ (.slice (some ⟨sb, 0, none⟩) (K.length + 1) sc)) := ((((Only.refl _ W1).setCell (p := ⟨rb, 0, none⟩) (.inl rfl) _).setCell (p := ⟨rb, 1, none⟩) (.inl rfl) _).setCell (p := ⟨rb, 2, none⟩) (.inl rfl) _).setCell (p := ⟨rb, 3, none⟩) (.inl rfl) _
  generalize ((((W1.setCell ⟨rb, 0, none⟩ (.int .i64 nxt.number)).setCell ⟨rb, 1, none⟩ (.int .i64 nxt.time)).setCell ⟨rb, 2, none⟩ (.slice nxt.ao nxt.al nxt.ac)).setCell ⟨rb, 3, none⟩ (.slice (some ⟨sb, 0, none⟩) (K.length + 1) sc)) = W4 at hR hO4 ⊢
  have hrl := heap_lt hrb
  refine hk sb sc cur W4 hsb (hO4.heap hcur (by omega)) ⟨hO4.os.trans hO.os, hO4.tape.trans hO.tape, hO4.output.trans hO.output, Nat.le_trans hO.size hO4.size, fun b hb hp => (hO4.block b (Nat.lt_of_lt_of_le hb hO.size) (fun e => hp (.inr e))).trans (hO.block b hb (fun e => hp (.inl e)))⟩ ?_ ?_ hR
  · have el2 : (C ++ [nxt.withSo sb (K.length + 1) sc]).length = C.length + 1 := by simp
    show World.ownsRow _ 0 159 4 _ _ _
    rw [el2]
    refine ⟨by rw [flatE, flat_len evCells 4 (fun _ => rfl), el2], .inr ⟨g, gcap, _, rfl, Nat.zero_le _, hO4.heap hg1 (Ne.symm hrg), hgc, hgm, by simpa using hgs, ?_⟩⟩
    rw [← flatE_set, ← hgt, Array.toList_setIfInBounds, List.take_set]
  · refine hin.only ⟨fun a ha => ?_, fun a ha => ?_⟩ hO4
    · have : some (⟨sb, 0, none⟩ : Addr) = some a := ha
      cases this
      show sb ≠ rb
      omega
    · intro e
      obtain ⟨cs, m, h1⟩ := hMt a ha
      rw [e, hrb] at h1; cases h1
def TakePost (wtb : Nat) (retain : Int) (rm : Value) (no : Option Addr) (ncap : Nat) (K : List Key) (ea : Option Addr) (ecap : Nat) (pv : Value) (C : List EvC) (E : List Pe) (time : Int) (A : List ByteArray) (w : World) (e : Ending) (W' : World) : Prop :=
  ∃ (c : EvC) (ev' : Value) (sb : Nat) (cur : Array Value), e = .returned (evVal c) ∧ c.so = some ⟨sb, 0, none⟩ ∧ w.heap.size ≤ sb ∧ W'.heap[sb]? = some (.cells cur 4 (0, 0)) ∧ W'.heap[wtb]? = some (.cells #[.int .i64 retain, rm, .slice no K.length ncap, ev', pv] 153 (0, 0)) ∧ EvsAt W' ev' (C ++ [c]) ∧
    EvIn W' c (workF E.reverse K (⟨nextN C, time, A, []⟩ : Pe).bare) ∧ EvT W' c ∧ Spare (fun b => b = wtb ∨ (Value.slice ea C.length ecap).ownBlock = some b) w W' ∧ (∀ b, ev'.ownBlock = some b → (Value.slice ea C.length ecap).ownBlock = some b ∨ w.heap.size ≤ b)
set_option maxRecDepth 100000 in
set_option maxHeartbeats 8000000 in
theorem take_any (wtb : Nat) (retain : Int) (rm : Value) (no : Option Addr) (ncap : Nat) (K : List Key) (ea : Option Addr) (ecap : Nat) (pv : Value) (C : List EvC) (E : List Pe) (time : Int) (ao : Option Addr) (A : List ByteArray) (cap : Nat) (w : World)
    (hw : w.heap[wtb]? = some (.cells #[.int .i64 retain, rm, .slice no K.length ncap, .slice ea C.length ecap, pv] 153 (0, 0))) (hE : EvsAt w (.slice ea C.length ecap) C) (hlen : C.length = E.length) (hIn : ∀ (i : Nat) c e, C[i]? = some c → E[i]? = some e → EvIn w c e) (hT : ∀ c ∈ C, EvT w c) (hn : C.length ≤ 1000) (ht : 0 ≤ time ∧ time ≤ 1000000000000) (hr : 0 ≤ retain ∧ retain ≤ 1000000000) (hold : oldF (time - retain) C = 0)
    (hnum : ∀ c, C.getLast? = some c → 0 ≤ c.number ∧ c.number ≤ 1000000000000) (h : StrsIn w ao A) (hA : A.length ≤ 1000) (hcap : A.length ≤ cap) (hs : ∀ j, j < A.length → (A.getD j ByteArray.empty).size ≤ 1000)
    (hK : K.length ≤ 1000) (hnc : K.length ≤ ncap) (hN : NodesIn w no K) (hNt : ∀ a, no = some a → ∃ cs m, w.heap[a.block]? = some (.cells cs 226 m)) (hop : ∀ k ∈ K, CoreOp k.op) (hAh : Ahead K) (hrow : ∀ e ∈ E, e.so.length = K.length + 1) :
    Calls Tryz.prog 87 #[.pointer (some ⟨wtb, 0, none⟩), .int .i64 time, .slice ao A.length cap] w (TakePost wtb retain rm no ncap K ea ecap pv C E time A w) := by
  have hlt := heap_lt hw
  have Hlen : Hid (C.length = E.length) := hlen
  clear hlen
  have hc3 : w.cell? ⟨wtb, 3, none⟩ = some (.slice ea C.length ecap) := cell_at hw rfl
  have hecap : C.length ≤ ecap := by
    rcases hE.cases with ⟨h1, rfl⟩ | ⟨g, cp, hev, h1, _, _⟩
    · simp
    · cases hev; exact h1
  have hCo := copyOf_any ao A cap (w.alloc (.cells #[.int .i64 0, .int .i64 0, .slice none 0 0, .slice none 0 0] 159)) (h.below ((Below.refl _ _).al _)) hA hcap hs
  go_enter Tryz.func87, Tryz.ntmps87
  go_wp2_with fail
  refine hCo.mono ?_
  rintro e w1 ⟨v1, rfl, hrow1, hb1⟩
  obtain ⟨ao2, ac2, rfl, hac2, hst2, hao2⟩ := strs_of_row hrow1
  have hbw1 : Below w.heap.size w w1 := ((Below.refl _ _).al _).tr hb1
  have hres1 : w1.heap[w.heap.size]? = some (.cells #[.int .i64 0, .int .i64 0, .slice none 0 0, .slice none 0 0] 159 (0, 0)) := hb1.heapOf (heap_new _ _ _ rfl)
  have hlt1 : wtb < w1.heap.size := Nat.lt_of_lt_of_le hlt hbw1.size
  have hbN : Below w.heap.size w (w1.alloc (.cells #[.int .i64 1, .int .i64 time, .slice ao2 A.length ac2, .slice none 0 0] 159)) := hbw1.al _
  have y3 : (w1.alloc (.cells #[.int .i64 1, .int .i64 time, .slice ao2 A.length ac2, .slice none 0 0] 159)).cell? ⟨wtb, 3, none⟩ = some (.slice ea C.length ecap) := (hbN.cell (p := ⟨wtb, 3, none⟩) hlt).trans hc3
  have hown_lt : ∀ b, (Value.slice ea C.length ecap).ownBlock = some b → b < w.heap.size := fun b hb => (hE.lt b hb).2
  have hnotP : ∀ b cs t m, w.heap[b]? = some (.cells cs t m) → t ≠ 153 → t ≠ 159 → ¬ (b = wtb ∨ (Value.slice ea C.length ecap).ownBlock = some b) := fun b cs t m hb h1 h2 hp => by
    rcases hp with rfl | hp
    · rw [hw] at hb; injection hb with hb; injection hb with _ hb _; exact h1 hb.symm
    · obtain ⟨cur, hc⟩ := own_tag hE hp
      rw [hc] at hb; injection hb with hb; injection hb with _ hb _; exact h2 hb.symm
  have hrowN : ∀ a, ao2 = some a → w.heap.size + 1 ≤ a.block ∧ ∃ cs, w1.heap[a.block]? = some (.cells cs 9 (0, 0)) := fun a ha => by have := hao2 a ha; simpa using this
  have fin : ∀ (num : Int), num = nextN C → ∀ (ev' : Value) (W' : World), W'.heap[wtb]? = some (.cells #[.int .i64 retain, rm, .slice no K.length ncap, ev', pv] 153 (0, 0)) → EvsAt W' ev' (C ++ [(⟨num, time, ao2, A.length, ac2, none, 0, 0⟩ : EvC)]) → Spare (fun b => b = wtb ∨ (Value.slice ea C.length ecap).ownBlock = some b) (w1.alloc (.cells #[.int .i64 num, .int .i64 time, .slice ao2 A.length ac2, .slice none 0 0] 159)) W' → (∀ b, ev'.ownBlock = some b → (Value.slice ea C.length ecap).ownBlock = some b ∨ (w1.alloc (.cells #[.int .i64 num, .int .i64 time, .slice ao2 A.length ac2, .slice none 0 0] 159)).heap.size ≤ b) →
      ∃ g gcap, ev' = .slice (some ⟨g, 0, none⟩) (C.length + 1) gcap ∧ (∀ (i : Nat) c e, C[i]? = some c → E[i]? = some e → EvIn W' c e) ∧ (∀ c ∈ C, EvT W' c) ∧ EvPre W' (⟨num, time, ao2, A.length, ac2, none, 0, 0⟩ : EvC) (⟨nextN C, time, A, []⟩ : Pe) ∧ (∀ a, ao2 = some a → ∃ cs m, W'.heap[a.block]? = some (.cells cs 9 m)) ∧ NodesIn W' no K ∧ (∀ a, no = some a → ∃ cs m, W'.heap[a.block]? = some (.cells cs 226 m)) ∧ W'.heap[w.heap.size]? = some (.cells #[.int .i64 0, .int .i64 0, .slice none 0 0, .slice none 0 0] 159 (0, 0)) ∧ w.heap.size ≠ g ∧
      ∀ (sb sc : Nat) (cur : Array Value) (W'' : World), W'.heap.size ≤ sb → W''.heap[sb]? = some (.cells cur 4 (0, 0)) → Spare (fun b => b = g ∨ b = w.heap.size) W' W'' → EvsAt W'' (.slice (some ⟨g, 0, none⟩) (C.length + 1) gcap) (C ++ [(⟨num, time, ao2, A.length, ac2, none, 0, 0⟩ : EvC).withSo sb (K.length + 1) sc]) → EvIn W'' ((⟨num, time, ao2, A.length, ac2, none, 0, 0⟩ : EvC).withSo sb (K.length + 1) sc) (workF E.reverse K (⟨nextN C, time, A, []⟩ : Pe).bare) →
        TakePost wtb retain rm no ncap K ea ecap pv C E time A w (.returned (evVal ((⟨num, time, ao2, A.length, ac2, none, 0, 0⟩ : EvC).withSo sb (K.length + 1) sc))) W'' := by
    intro num hnumE ev' W' f1 f2 f3 f4
    have hbW : Below w.heap.size w (w1.alloc (.cells #[.int .i64 num, .int .i64 time, .slice ao2 A.length ac2, .slice none 0 0] 159)) := hbw1.al _
    have hWs : (w1.alloc (.cells #[.int .i64 num, .int .i64 time, .slice ao2 A.length ac2, .slice none 0 0] 159)).heap.size = w1.heap.size + 1 := by simp
    have hW1 : ∀ b o, w1.heap[b]? = some o → (w1.alloc (.cells #[.int .i64 num, .int .i64 time, .slice ao2 A.length ac2, .slice none 0 0] 159)).heap[b]? = some o := fun b o hb => (Below.heap_alloc _ _ _ (heap_lt hb)).trans hb
    generalize (w1.alloc (.cells #[.int .i64 num, .int .i64 time, .slice ao2 A.length ac2, .slice none 0 0] 159)) = W at *
    have hws := hbw1.size
    have hrl := heap_lt hres1
    have sp : Spare (fun b => b = wtb ∨ (Value.slice ea C.length ecap).ownBlock = some b) w W' := (Spare.of_below hbW).trans f3
    have el : (C ++ [(⟨num, time, ao2, A.length, ac2, none, 0, 0⟩ : EvC)]).length = C.length + 1 := by simp
    obtain ⟨g, gcap, rfl⟩ : ∃ g gcap, ev' = .slice (some ⟨g, 0, none⟩) (C.length + 1) gcap := by
      rcases f2.cases with ⟨_, h2⟩ | ⟨g, cp, hev, _⟩
      · simp at h2
      · rw [el] at hev; exact ⟨g, cp, hev⟩
    have hgt : ∃ cg, W'.heap[g]? = some (.cells cg 159 (0, 0)) := own_tag f2 rfl
    obtain ⟨cg, hgt⟩ := hgt
    have hgf := f4 g rfl
    have hao3 : ∀ a, ao2 = some a → ∃ cs m, W'.heap[a.block]? = some (.cells cs 9 m) := fun a ha => by
      obtain ⟨h1, cs, h2⟩ := hrowN a ha
      refine ⟨cs, (0, 0), (f3.block _ (heap_lt (hW1 _ _ h2)) (fun hp => ?_)).trans (hW1 _ _ h2)⟩
      rcases hp with e | e
      · omega
      · have := hown_lt _ e; omega
    refine ⟨g, gcap, rfl, fun i c e h1 h2 => ?_, fun c hc => ?_, ⟨hnumE, rfl, ⟨by show -1000000000000 ≤ time; omega, ht.2⟩, rfl, by show A.length ≤ _; omega, fun hne => ?_⟩, hao3, hN.spare sp (fun a ha => ?_), fun a ha => ?_, ?_, ?_, ?_⟩
    · have ht := hT c (List.mem_of_getElem? h1)
      exact (hIn i c e h1 h2).spare sp (fun a ha => by obtain ⟨cs, m, k⟩ := ht.so a ha; exact hnotP _ _ _ _ k (by decide) (by decide)) (fun a ha => by obtain ⟨cs, m, k⟩ := ht.ao a ha; exact hnotP _ _ _ _ k (by decide) (by decide))
    · have ht := hT c hc
      exact ht.spare sp (fun a ha => by obtain ⟨cs, m, k⟩ := ht.so a ha; exact hnotP _ _ _ _ k (by decide) (by decide)) (fun a ha => by obtain ⟨cs, m, k⟩ := ht.ao a ha; exact hnotP _ _ _ _ k (by decide) (by decide))
    · obtain ⟨b, off, h1, h2, h3⟩ := hst2 hne
      obtain ⟨k1, cs, k2⟩ := hrowN _ h1
      have hb : W'.heap[b]? = w1.heap[b]? := ((f3.block b (by omega) (fun hp => by
        rcases hp with e | e
        · have : w.heap.size + 1 ≤ b := k1; omega
        · have := hown_lt _ e; have : w.heap.size + 1 ≤ b := k1; omega)).trans (hW1 b _ k2)).trans k2.symm
      exact ⟨b, off, h1, by have := f3.size; omega, fun j hj => by rw [World.cell?_of_block hb]; exact h3 j hj⟩
    · obtain ⟨cs, m, k⟩ := hNt a ha; exact hnotP _ _ _ _ k (by decide) (by decide)
    · obtain ⟨cs, m, k⟩ := hNt a ha; exact ⟨cs, m, (sp.block _ (heap_lt k) (hnotP _ _ _ _ k (by decide) (by decide))).trans k⟩
    · refine (f3.block _ (by omega) (fun hp => ?_)).trans (hW1 _ _ hres1)
      rcases hp with e | e
      · omega
      · have := hown_lt _ e; omega
    · rcases hgf with e | e
      · have := hown_lt _ e; omega
      · omega
    · intro sb sc cur W'' a1 a2 a3 a4 a5
      have hss := f3.size
      have hgw : g ≠ wtb := by rintro rfl; rw [f1] at hgt; cases hgt
      refine ⟨_, _, sb, cur, rfl, rfl, by omega, a2, (a3.block wtb (heap_lt f1) (fun hp => hp.elim (fun e => hgw e.symm) (fun e => by omega))).trans f1, a4, a5, ⟨fun a ha => ?_, fun a ha => ?_⟩, ⟨a3.os.trans sp.os, a3.tape.trans sp.tape, a3.output.trans sp.output, Nat.le_trans sp.size a3.size, fun b hb hp => (a3.block b (Nat.lt_of_lt_of_le hb sp.size) (fun e => ?_)).trans (sp.block b hb hp)⟩, fun b hb => ?_⟩
      · have : some (⟨sb, 0, none⟩ : Addr) = some a := ha
        cases this
        exact ⟨cur, (0, 0), a2⟩
      · obtain ⟨cs, m, k⟩ := hao3 a ha
        obtain ⟨k1, _⟩ := hrowN a ha
        refine ⟨cs, m, (a3.block _ (heap_lt k) (fun hp => ?_)).trans k⟩
        rcases hp with e | e
        · rw [e, hgt] at k; cases k
        · omega
      · rcases e with e | e
        · rcases hgf with e2 | e2
          · exact hp (.inr (e ▸ e2))
          · omega
        · omega
      · exact (f4 b hb).imp id (fun x => by omega)
  rcases List.eq_nil_or_concat C with rfl | ⟨C0, cl, rfl⟩
  · go_wp2_with fail
    refine region5_any _ ?hq5a wtb w1.heap.size retain rm (.slice no K.length ncap) _ _ pv _ _ time ao2 A.length ac2 _ _ _ _ _ _ _ _ _ _ _ _ _ _ _ _ _ _ _ _ _ _ _ _ _ _ _ _ _ _ _ _ _ _ _ _ _ _ _ _ _ _ _ _ _ _ _ _ _ _ _ _ ((hbw1.al _).heapOf hw) (hE.below (hbw1.al _)) hn hecap ht hr hold (heap_new _ _ _ rfl) (fun e => by have := hown_lt _ e; have := hbw1.size; omega) ?_
    case hq5a => exact fun _ _ d _ _ h => by cases d <;> exact h
    intro ev' W' v41 f1 f2 f3 f4
    obtain ⟨g, gcap, rfl, k1, k2, k3, k4, k5, k6, k7, k8, k9⟩ := fin 1 rfl _ _ f1 f2 f3 f4
    go_wp2_with fail
    refine region6_any _ ?hq6a wtb w.heap.size g gcap (.int .i64 retain) rm no ncap K pv _ _ E _ W' _ _ _ _ _ _ _ _ _ _ _ _ _ _ _ _ _ _ _ _ _ _ _ _ _ _ _ _ _ _ _ _ _ _ _ _ _ _ _ _ _ _ _ _ _ _ _ _ _ _ _ _ f1 f2 hn Hlen.out k1 k2 k3 k4 hK hnc k5 k6 hop hAh hrow k7 k8 ?_
    case hq6a => exact fun _ _ d _ _ h => by cases d <;> exact h
    intro sb sc cur W'' a1 a2 a3 a4 a5 a6
    have q0 := cell_at (i := 0) a6 rfl
    have q1 := cell_at (i := 1) a6 rfl
    have q2 := cell_at (i := 2) a6 rfl
    have q3 := cell_at (i := 3) a6 rfl
    have K9 := k9 sb sc cur W'' a1 a2 a3 a4 a5
    clear k1 k2 k3 k4 k5 k6 k7 k9 f1 f2 f3 f4 a1 a2 a3 a4 a5
    go_wp2_with fail
    refine ⟨rfl, _, ?_, K9⟩
    simp [results, Tryz.f87, go_sem, loadVar, evVal, EvC.withSo, q0, q1, q2, q3]
  · rw [List.concat_eq_append] at *
    have hcl : (C0 ++ [cl])[C0.length]? = some cl := by simp
    have hlen1 : (C0 ++ [cl]).length = C0.length + 1 := by simp
    rcases hE.cases with ⟨_, h2⟩ | ⟨g0, cp, hev, _, _, hgl⟩
    · simp at h2
    cases hev
    have hq := hE.cell (k := 0) hcl rfl
    have y0 : (w1.alloc (.cells #[.int .i64 1, .int .i64 time, .slice ao2 A.length ac2, .slice none 0 0] 159)).cell? ⟨g0, C0.length * 4, none⟩ = some (.int .i64 cl.number) := (hbN.cell (p := ⟨g0, C0.length * 4, none⟩) hgl).trans hq
    have hnb := hnum cl (by simp)
    have hnn : cl.number + 1 = nextN (C0 ++ [cl]) := by simp [nextN]
    rw [hlen1] at y3
    go_wp2_with fail
    refine region5_any _ ?hq5b wtb w1.heap.size retain rm (.slice no K.length ncap) _ _ pv _ _ time ao2 A.length ac2 _ _ _ _ _ _ _ _ _ _ _ _ _ _ _ _ _ _ _ _ _ _ _ _ _ _ _ _ _ _ _ _ _ _ _ _ _ _ _ _ _ _ _ _ _ _ _ _ _ _ _ _ ((hbw1.al _).heapOf hw) (hE.below (hbw1.al _)) hn hecap ht hr hold (heap_new _ _ _ rfl) (fun e => by have := hown_lt _ e; have := hbw1.size; omega) ?_
    case hq5b => exact fun _ _ d _ _ h => by cases d <;> exact h
    intro ev' W' v41 f1 f2 f3 f4
    obtain ⟨g, gcap, rfl, k1, k2, k3, k4, k5, k6, k7, k8, k9⟩ := fin (nextN (C0 ++ [cl])) rfl _ _ f1 f2 f3 f4
    go_wp2_with fail
    refine region6_any _ ?hq6b wtb w.heap.size g gcap (.int .i64 retain) rm no ncap K pv _ _ E _ W' _ _ _ _ _ _ _ _ _ _ _ _ _ _ _ _ _ _ _ _ _ _ _ _ _ _ _ _ _ _ _ _ _ _ _ _ _ _ _ _ _ _ _ _ _ _ _ _ _ _ _ _ f1 f2 hn Hlen.out k1 k2 k3 k4 hK hnc k5 k6 hop hAh hrow k7 k8 ?_
    case hq6b => exact fun _ _ d _ _ h => by cases d <;> exact h
    intro sb sc cur W'' a1 a2 a3 a4 a5 a6
    have q0 := cell_at (i := 0) a6 rfl
    have q1 := cell_at (i := 1) a6 rfl
    have q2 := cell_at (i := 2) a6 rfl
    have q3 := cell_at (i := 3) a6 rfl
    have K9 := k9 sb sc cur W'' a1 a2 a3 a4 a5
    clear k1 k2 k3 k4 k5 k6 k7 k9 f1 f2 f3 f4 a1 a2 a3 a4 a5
    go_wp2_with fail
    refine ⟨rfl, _, ?_, K9⟩
    simp [results, Tryz.f87, go_sem, loadVar, evVal, EvC.withSo, q0, q1, q2, q3]
end Go.Proofs.YtpbbmagjhkakgaaGreatDoor.Ev
