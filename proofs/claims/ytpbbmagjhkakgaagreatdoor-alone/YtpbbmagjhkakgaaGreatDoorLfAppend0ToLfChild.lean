import Derived.Test.YtpbbmagjhkakgaaGreatDoorLfHeldToLfHeld0
import Derived.Test.YtpbbmagjhkakgaaGreatDoorPureToPurePrint
import Derived.Maps.AppendAt
import Derived.Conc.AppendEvents3
import Derived.Test.YtpbbmagjhkakgaaGreatDoorProg
import Derived.Conc.DeferLaws
namespace Go.Proofs.YtpbbmagjhkakgaaGreatDoor
namespace Lf
open Go Go.Conc
section
variable {B : Nat} {M : Nat → Prop}
theorem EvK.at {C:Touch->Prop} {e:Event} {ad:Addr} (hl:e.loc=.cell ad) (h:∀ k,C ⟨.cell ad,e.write,k⟩):EvK C e:=by
 obtain ⟨loc,wr,sy⟩:=e
 simp only at hl h
 subst hl
 refine ⟨fun x hx _=>?_,by simp,by simp⟩
 cases wr<;>cases sy<;>(simp [MemAct.ofEvent,MemAct.touch?] at hx;subst hx;exact h _)
theorem EvK.neutral {C:Touch->Prop} {m:Mark} (h:Neutral m):EvK C ⟨.mark m,false,true⟩:=by
 refine ⟨fun x hx _=>?_,?_,?_⟩
 ·have e1:MemAct.ofEvent ⟨.mark m,false,true⟩=.mark m:=rfl
  rw [e1,h.touch] at hx;cases hx
 ·rintro e;cases e;simp [Neutral] at h
 ·rintro e;cases e;simp [Neutral] at h
theorem tu.append {S:Nat->Prop} {w w':World} {v:Value} {a:Addr} {es:Array Event} (hg:w.grownBy w' v.ownBlock) (js:∀ ev∈es,(∃ ad,ev.loc=.cell ad/\((ev.write=false/\ad.block=a.block)\/some ad.block=v.ownBlock))\/∃ m,ev=⟨.mark m,false,true⟩/\Neutral m)
  (ha:S a.block) (hv:∀ g,v.ownBlock=some g->g<B/\M g):tu B M S w w' es:=by
 refine ⟨hg.size,fun b hb hS hm=>hg.block b hb fun e=>hm (hv b e.symm).2,fun e he=>?_⟩
 rcases js e he with ⟨ad,h1,h2⟩ | ⟨m,rfl,hm⟩
 ·refine EvK.at h1 fun k=>⟨ad,rfl,?_⟩
  rcases h2 with ⟨_,h2⟩ | h2
  ·exact .inl (.inl (h2▸ha))
  ·exact .inr ⟨(hv _ h2.symm).1,fun _=>(hv _ h2.symm).2⟩
 ·exact EvK.neutral hm
end
end Lf
namespace Lf
open Go Go.Conc Go.RowKit
open Go.Proofs (Tryz.f89 Tryz.prog Tryz.func89 Tryz.ntmps89)
variable {c B : Nat} {M Ro : Nat → Prop}
theorem rF:(Tryz.prog.info? 59).map (fun i=>(i.zero,i.size,i.bytes))=some (some (.agg #[.int .i64 0,.int .i64 0,.int .i64 0,.bool false]),4,32):=by kernel_rfl
def bO (ev time cu:Int) (h:Bool):List Value:=[.int .i64 ev,.int .i64 time,.int .i64 cu,.bool h]
theorem oV {w w':World} {base size n:Nat} {e:TypeId} {v:Value} {xs:List Value} (h:w.ownsRow base e size v n xs) (hh:∀ k,v.ownBlock=some k->k<w.heap.size->w'.heap[k]? = w.heap[k]?):w'.ownsRow base e size v n xs:=by
 have hl:=h.lt
 obtain ⟨h1,⟨rfl,h2⟩ | ⟨g,cap,cur,rfl,h3,h4,h5⟩⟩:=h
 ·exact ⟨h1,.inl ⟨rfl,h2⟩⟩
 ·exact ⟨h1,.inr ⟨g,cap,cur,rfl,h3,by rw [hh g rfl (hl g rfl).2];exact h4,h5⟩⟩
theorem ku {w w':World} {S:Nat->Prop} {size n:Nat} {e:TypeId} {v:Value} {xs:List Value} (h:w.ownsRow 0 e size v n xs) (hv:∀ g,v.ownBlock=some g->(S g\/g<B)/\g≠c) (r:R0w c B S w w'):w'.ownsRow 0 e size v n xs :=
 oV h fun k hk hl=>r.block k (hv k hk).2 hl (hv k hk).1
theorem pj.append0 {P:Program} {cc:Nat} {fn:FuncId} {ops:Array Oper} {i:Nat} {o:Oper} {K:Act->List Value->(Nat->Prop)->World->Prop} {a:Act} {L:List Value} {S:Nat->Prop} {w:World} (ho:ops[i]? = some o)
  (hg:o.guard=none) (s x:Operand) (t:TypeId) (aN:o.op=Op.call { callee:=Callee.builtin Builtin.append,args:=#[s,x],argTypes:=#[t,t] })
  (e:TypeId) (ti:TypeInfo) (z:Value) (size bytes:Nat) (h1:P.underlying t=some (.slice e)) (h2:P.info? e=some ti) (h3:ti.zero=some z) (h4:ti.size=size) (h5:ti.bytes=bytes) (h6:z.cells.size=size) (h7:0<size)
  (v:Value) (n:Nat) (xs:List Value) (ad:Addr) (m cap:Nat) (news:List Value) (hs:a.eval s=v) (hx:a.eval x=.slice (some ad) m cap) (hn:news.length=m*size) (h1c:∀ u∈news,u.oneCell'=true)
  (b1:n+m<=maxLen) (b2:(n+m)*bytes<=140737488355328) (ha:S ad.block) (hv:∀ g,v.ownBlock=some g->g<B/\M g)
  (h:∀ w₁,R0w c B S w w₁->w₁.ownsRow 0 e size v n xs/\(∀ j u,news[j]? = some u->w₁.cell? (ad.add j)=some u)/\∀ v' w',w'.ownsRow 0 e size v' (n+m) (xs++news)->w₁.grownBy w' v.ownBlock->(v'.ownBlock=v.ownBlock\/v'.ownBlock=some w₁.heap.size)->K (a.put o.dst v') L (grow S w₁ w') w') :
  pj P true (R0w c B) (tu B M) cc fn ops i K a L S w:=by
 refine pj.op ho (by simp [Region.wanted,hg]) (by intro ch y;rw [aN];simp) (fun w₁ hR K' hK=>?_)
 obtain ⟨cE,hc,hk⟩:=h w₁ hR
 obtain ⟨v',w',dQ,r1,r2,_,r3⟩:=run_append_own_at (P:=P) w₁ 0 t o.type e ti z size bytes h1 h2 h3 h4 h5 h6 h7 v n xs cE ad m cap news hn hc h1c b1 b2 (Nat.zero_le _)
 have js:=events_append_where (P:=P) w₁ 0 t o.type e ti z size bytes h1 h2 h3 h4 h5 v n xs cE ad m cap news hn hc h1c b1 b2
 have hr:(execOp a.eval o).run P w₁=.ok (.value v') w':=by
  simp [execOp,aN,resolve,invoke,builtin,hs,hx,dQ,Result.andThen]
 rw [hr]
 refine hK _ _ ⟨tu.append r2 (fun ev hm=>?_) ha hv,hk v' w' r1 r2 r3⟩
 have hm:=mem_listed hm
 refine js ev ?_
 simp [execOp,aN,resolve,invoke,builtin,hs,hx] at hm
 exact hm
set_option maxRecDepth 100000 in
set_option maxHeartbeats 1000000 in
theorem take_c (H : qJ c B M Ro) (cj : Nat) (sv : Value) (n : Nat) (xs : List Value) (ev time cu : Int) (h : Bool) (S : Nat → Prop) (w : World)
  (hS : ∀ b, S b → B ≤ b ∧ b < w.heap.size) (hB : B ≤ w.heap.size) (df : cj < B) (hM : M cj) (hstw : w.heap[cj]? = some (.cells #[sv] 177 (0, 0))) (bT : w.ownsRow 0 59 4 sv n xs) (hgM : ∀ g, sv.ownBlock = some g → g < B ∧ M g) (hn : n ≤ 1000000) :
  ic Tryz.prog true (R0w c B) (tu B M) 89 #[.pointer (some ⟨cj, 0, none⟩), .agg #[.int .i64 ev, .int .i64 time, .int .i64 cu, .bool h]] S w
   (fun _ S' w' => ∃ tq, H0 c B (fun b => b = cj ∨ sv.ownBlock = some b) S w S' w' [(cj, .cells #[tq] 177 (0, 0))] ∧ w'.ownsRow 0 59 4 tq (n + 1) (xs ++ bO ev time cu h) ∧ (tq.ownBlock = sv.ownBlock ∨ ∃ g, tq.ownBlock = some g ∧ S' g ∧ w.heap.size ≤ g)) := by
 have TT := (gI c B M Ro H).t0
 have hF : H0 c B (fun b => b = cj ∨ sv.ownBlock = some b) S w S w [(cj, .cells #[sv] 177 (0, 0))] := H0.start hS H.chan hB (by
  intro p hp; simp at hp; subst hp; exact ⟨.inr df, (H.m _ hM).2, hstw⟩)
 have hne : sv.ownBlock ≠ some cj := fun e => by
  obtain ⟨h1, h2 | ⟨g, cap, cur, e1, _, e2, _⟩⟩ := bT
  ·rw [h2.1] at e; cases e
  ·rw [e1] at e; cases e; rw [hstw] at e2; cases e2
 have hgc : ∀ (S : Nat → Prop) g, sv.ownBlock = some g → (S g ∨ g < B) ∧ g ≠ c := fun S g hg => ⟨.inr (hgM g hg).1, (H.m g (hgM g hg).2).2⟩
 generalize hPost : (fun (_ : Value) (S' : Nat → Prop) (w' : World) => ∃ tq, H0 c B (fun b => b = cj ∨ sv.ownBlock = some b) S w S' w' [(cj, .cells #[tq] 177 (0, 0))] ∧ w'.ownsRow 0 59 4 tq (n + 1) (xs ++ bO ev time cu h) ∧ (tq.ownBlock = sv.ownBlock ∨ ∃ g, tq.ownBlock = some g ∧ S' g ∧ w.heap.size ≤ g)) = Post
 obtain ⟨ju, hS₀⟩ : ∃ ju, ju = S := ⟨_, rfl⟩
 obtain ⟨bW, hw₀⟩ : ∃ bW, bW = w := ⟨_, rfl⟩
 rw [← hS₀, ← hw₀] at hF hPost
 have hF : H0 c B (fun b => b = cj ∨ sv.ownBlock = some b) ju bW S w [(cj, .cells #[sv] 177 (0, 0))] := by rw [hS₀, hw₀] at hF ⊢; exact hF
 clear hS₀ hw₀ hstw hS hB
 intro Stop cf cs hk
 rw [enter_at _ Tryz.func89 rfl]
 simp only [Tryz.ntmps89, List.size_toArray, List.length_cons, List.length_nil, Nat.reduceAdd, Nat.reduceSub, Array.replicate_succ, Array.replicate_zero, List.push_toArray, List.append_toArray, List.nil_append, List.cons_append]
 refine RT.seq TT ?_
 refine RT.region TT ?_
 simp only [List.size_toArray, List.length_cons, List.length_nil, Nat.zero_add, List.range, List.range.loop]
 refine RT.op rfl (by rfl) (by simp [base]) (fun v1 hR K hK => ?_)
 replace hF := hF.rely hR
 replace bT := ku bT (hgc S) hR
 go_simp
 refine hK _ _ ⟨by rw [listed_nil (by simp [go_sem])]; exact tu.alloc _ _ _, ?_⟩
 clear hK K hR
 replace bT := oV (w' := v1.alloc (.cells #[.int .i64 ev, .int .i64 time, .int .i64 cu, .bool h] 59)) bT (fun k _ hl => bw v1 _ hl)
 have hF0 := hF
 replace hF := hF.alloc (.cells #[.int .i64 ev, .int .i64 time, .int .i64 cu, .bool h] 59)
 generalize grow _ v1 (v1.alloc (.cells #[.int .i64 ev, .int .i64 time, .int .i64 cu, .bool h] 59)) = T1 at hF ⊢
 have nY : B ≤ v1.heap.size := Nat.le_trans hF.low (hF0.size)
 generalize a_ : v1.heap.size = b1 at hF nY ⊢
 generalize v1.alloc (.cells #[.int .i64 ev, .int .i64 time, .int .i64 cu, .bool h] 59) = u1 at hF bT ⊢
 clear a_ hF0 v1
 refine RT.nil TT ?_
 have oF : ∀ (S : Nat → Prop) (x y : World), H0 c B (fun b => b = cj ∨ sv.ownBlock = some b) ju bW S x [(b1, .cells #[.int .i64 ev, .int .i64 time, .int .i64 cu, .bool h] 59), (cj, .cells #[sv] 177 (0, 0))] → R0w c B S x y → H0 c B (fun b => b = cj ∨ sv.ownBlock = some b) ju bW S y [(b1, .cells #[.int .i64 ev, .int .i64 time, .int .i64 cu, .bool h] 59), (cj, .cells #[sv] 177 (0, 0))] := fun S x y h r => h.rely r
 let Qv : Act → List Value → (Nat → Prop) → World → Prop := fun a L S w' => RT Tryz.prog true (R0w c B) (tu B M) Stop S (G ((base 89).at a []) (cf :: cs)) w'
 have uk : ∀ a L S x y, Qv a L S x → R0w c B S x y → Qv a L S y := fun a L S x y h r => RT.rely TT h r
 refine RT.drawn (Stop := fun _ => Stop) (L := []) (c := c) (Q := Qv) (I := fun S w' => H0 c B (fun b => b = cj ∨ sv.ownBlock = some b) ju bW S w' [(b1, .cells #[.int .i64 ev, .int .i64 time, .int .i64 cu, .bool h] 59), (cj, .cells #[sv] 177 (0, 0))]) (fn := 89) (fin := 10) TT (.inl (by intro o ho ch x; simp at ho; rcases ho with rfl | rfl | rfl | rfl | rfl | rfl | rfl | rfl | rfl | rfl | rfl <;> simp)) rfl (by simp [base]) (by kernel_rfl) (fun a L S w' hq => hq) (fun w₁ hR => ?_)
 replace hF := hF.rely hR
 replace bT := ku bT (hgc _) hR
 have hRd : R0w c B T1 w₁ { w₁ with drawn := w₁.drawn + 1 } := ⟨Nat.le_refl _, fun _ _ _ _ => rfl, rfl, rfl, rfl⟩
 replace hF := hF.rely hRd
 replace bT := ku bT (hgc _) hRd
 clear hRd
 simp only [List.size_toArray, List.length_cons, List.length_nil, Nat.reduceAdd, Nat.zero_add]
 generalize ({ w₁ with drawn := w₁.drawn + 1 } : World) = x1 at hF bT ⊢
 clear hR
 have hI := hF
 refine bU TT oF uk 0 (v := ?v0) rfl (by decide +kernel) (by decide +kernel) (by decide +kernel) (by decide +kernel) ⟨by simp, by rfl, fun S' w' hw => ⟨run_eq_of ?r0, ?g0⟩⟩ hI ?_
 case r0 =>
  intro K hK
  go_simp
  exact hK
 case g0 =>
  rw [listed_nil (by simp [go_sem])]; exact TT.idle _ _
 try walk_nrm
 refine bU TT oF uk 1 (v := ?v1) rfl (by decide +kernel) (by decide +kernel) (by decide +kernel) (by decide +kernel) ⟨by simp, by rfl, fun S' w' hw => ⟨run_eq_of ?r1, ?g1⟩⟩ hI ?_
 case r1 =>
  intro K hK
  go_simp
  exact hK
 case g1 =>
  rw [listed_nil (by simp [go_sem])]; exact TT.idle _ _
 try walk_nrm
 refine bU TT oF uk 2 (v := ?v2) rfl (by decide +kernel) (by decide +kernel) (by decide +kernel) (by decide +kernel) ⟨by simp, by rfl, fun S' w' hw => ⟨run_eq_of ?r2, ?g2⟩⟩ hI ?_
 case r2 =>
  intro K hK
  go_simp
  exact hK
 case g2 =>
  rw [listed_nil (by simp [go_sem])]; exact TT.idle _ _
 try walk_nrm
 refine bU TT oF uk 3 (v := ?v3) rfl (by decide +kernel) (by decide +kernel) (by decide +kernel) (by decide +kernel) ⟨by simp, by rfl, fun S' w' hw => ⟨run_eq_of ?r3, ?g3⟩⟩ hI ?_
 case r3 =>
  intro K hK
  go_simp
  exact hK
 case g3 =>
  rw [listed_nil (by simp [go_sem])]; exact TT.idle _ _
 try walk_nrm
 refine bU TT oF uk 4 (v := ?v4) rfl (by decide +kernel) (by decide +kernel) (by decide +kernel) (by decide +kernel) ⟨by simp, by rfl, fun S' w' hw => ⟨run_eq_of ?r4, ?g4⟩⟩ hI ?_
 case r4 =>
  intro K hK
  have kJ := hw.cell (i := 0) (.tail _ (.head _)) rfl
  go_simp
  exact hK
 case g4 =>
  have kJ := hw.cell (i := 0) (.tail _ (.head _)) rfl
  refine tu.reads fun e he => ?_
  have hm := mem_listed he
  simp [go_sem, *] at hm
  rcases hm with rfl <;> exact hw.read (.tail _ (.head _)) rfl
 try walk_nrm
 refine bU TT oF uk 5 (v := ?v5) rfl (by decide +kernel) (by decide +kernel) (by decide +kernel) (by decide +kernel) ⟨by simp, by rfl, fun S' w' hw => ⟨run_eq_of ?r5, ?g5⟩⟩ hI ?_
 case r5 =>
  intro K hK
  have lj := hw.cell (i := 0) (.head _) rfl
  have kJ := hw.cell (i := 1) (.head _) rfl
  have hc2 := hw.cell (i := 2) (.head _) rfl
  have r_ := hw.cell (i := 3) (.head _) rfl
  go_simp
  exact hK
 case g5 =>
  have lj := hw.cell (i := 0) (.head _) rfl
  have kJ := hw.cell (i := 1) (.head _) rfl
  have hc2 := hw.cell (i := 2) (.head _) rfl
  have r_ := hw.cell (i := 3) (.head _) rfl
  refine tu.reads fun e he => ?_
  have hm := mem_listed he
  simp [go_sem, *] at hm
  rcases hm with rfl | rfl | rfl | rfl <;> exact hw.read (.head _) rfl
 try walk_nrm
 refine gu (i := 6) (by decide +kernel) (pj.op rfl (by rfl) (by simp) (fun bF hR2 K hK => ?_))
 replace hF := hF.rely hR2
 replace bT := ku bT (hgc _) hR2
 go_simp
 refine hK _ _ ⟨by rw [listed_nil (by simp [go_sem])]; exact tu.alloc _ _ _, ?_⟩
 clear hK K hR2 hI
 replace bT := oV (w' := bF.alloc (.cells #[.int .i64 ev, .int .i64 time, .int .i64 cu, .bool h] 59)) bT (fun k _ hl => bw bF _ hl)
 have hB2 : B ≤ bF.heap.size := hF.base
 have oJ : grow T1 bF (bF.alloc (.cells #[.int .i64 ev, .int .i64 time, .int .i64 cu, .bool h] 59)) bF.heap.size := .inr ⟨Nat.le_refl _, by rw [aG]; exact Nat.lt_succ_self _⟩
 replace hF := hF.alloc (.cells #[.int .i64 ev, .int .i64 time, .int .i64 cu, .bool h] 59)
 generalize grow T1 bF (bF.alloc (.cells #[.int .i64 ev, .int .i64 time, .int .i64 cu, .bool h] 59)) = T2 at hF oJ ⊢
 generalize cB : bF.heap.size = b2 at hF oJ hB2 ⊢
 generalize bF.alloc (.cells #[.int .i64 ev, .int .i64 time, .int .i64 cu, .bool h] 59) = u2 at hF bT ⊢
 clear cB bF
 refine ⟨fun _ => hF.less (fun p hp => .tail _ hp), ?_⟩
 try walk_nrm
 obtain ⟨ti, hti, hti2⟩ := Option.map_eq_some_iff.1 rF
 simp only [Prod.mk.injEq] at hti2
 refine gu (i := 7) (by decide +kernel) (pj.append0 rfl rfl (.tmp 8) (.tmp 10) 54 rfl 59 ti _ 4 32 Tryz.underlying54 hti hti2.1 hti2.2.1 hti2.2.2 rfl (by decide) sv n xs ⟨b2, 0, none⟩ 1 1 (bO ev time cu h) rfl rfl rfl ?o7 (by simp only [maxLen]; omega) (by omega) oJ hgM (fun w₃ hR3 => ⟨ku bT (hgc _) hR3, ?c7, ?k7⟩))
 case o7 => intro u hu; simp [bO] at hu; rcases hu with rfl | rfl | rfl | rfl <;> rfl
 case c7 =>
  intro j u hj
  have hG := hF.rely hR3
  rcases j with _ | _ | _ | _ | j
  ·simp [bO] at hj; subst hj; simpa [Addr.add] using hG.cell (i := 0) (.head _) rfl
  ·simp [bO] at hj; subst hj; simpa [Addr.add] using hG.cell (i := 1) (.head _) rfl
  ·simp [bO] at hj; subst hj; simpa [Addr.add] using hG.cell (i := 2) (.head _) rfl
  ·simp [bO] at hj; subst hj; simpa [Addr.add] using hG.cell (i := 3) (.head _) rfl
  ·simp [bO] at hj
 intro tq w4 r1 r2 r3
 replace hF := hF.rely hR3
 have hsz3 := hF.size
 have hB3 := hF.base
 replace hF := hF.grown r2 (fun g hg => .inr hg) (by
  intro p hp e
  simp at hp
  rcases hp with rfl | rfl | rfl
  ·have := (hgM _ e.symm).1; simp at this; omega
  ·have := (hgM _ e.symm).1; simp at this; omega
  ·exact hne e.symm)
 have hsv : tq.ownBlock = sv.ownBlock ∨ ∃ g, tq.ownBlock = some g ∧ grow T2 w₃ w4 g ∧ bW.heap.size ≤ g := r3.imp id fun e => ⟨_, e, .inr ⟨Nat.le_refl _, (r1.lt _ e).2⟩, hsz3⟩
 have hgc2 : ∀ g, tq.ownBlock = some g → (grow T2 w₃ w4 g ∨ g < B) ∧ g ≠ c ∧ g ≠ cj := by
  intro g hg
  rcases hsv with e | ⟨g', e, e2, e3⟩
  ·rw [e] at hg; exact ⟨(hgc _ g hg).1, (hgc T2 g hg).2, fun x => hne (x ▸ hg)⟩
  ·rw [e] at hg; cases hg; have := hF.low; exact ⟨.inl e2, fun x => by have := H.chan; omega, fun x => by omega⟩
 refine ⟨fun _ => hF.less (fun p hp => .tail _ hp), ?_⟩
 generalize grow T2 w₃ w4 = T3 at hF hsv hgc2 ⊢
 clear r2 r3 bT hR3 hsz3 hB3
 try walk_nrm
 refine gu (i := 8) (by decide +kernel) (pj.op rfl (by rfl) (by simp) (fun w8 hR K hK => ?_))
 replace hF := hF.rely hR
 replace r1 := ku r1 (fun g hg => ⟨(hgc2 g hg).1, (hgc2 g hg).2.1⟩) hR
 go_simp
 refine hK _ _ ⟨by rw [listed_nil (by simp [go_sem])]; exact TT.idle _ _, ?_⟩
 clear hK K hR
 rw [aD]
 refine ⟨fun _ => hF.less (fun p hp => .tail _ hp), ?_⟩
 try walk_nrm
 refine gu (i := 9) (by decide +kernel) (pj.op rfl (by rfl) (by simp) (fun w9 hR K hK => ?_))
 replace hF := hF.rely hR
 replace r1 := ku r1 (fun g hg => ⟨(hgc2 g hg).1, (hgc2 g hg).2.1⟩) hR
 go_simp
 refine hK _ _ ⟨by rw [listed_nil (by simp [go_sem])]; exact TT.idle _ _, ?_⟩
 clear hK K hR
 rw [aD]
 refine ⟨fun _ => hF.less (fun p hp => .tail _ hp), ?_⟩
 try walk_nrm
 refine gu (i := 10) (by decide +kernel) (pj.op rfl (by rfl) (by simp) (fun w10 hR K hK => ?_))
 replace hF := hF.rely hR
 replace r1 := ku r1 (fun g hg => ⟨(hgc2 g hg).1, (hgc2 g hg).2.1⟩) hR
 have hG : H0 c B (fun b => b = cj ∨ sv.ownBlock = some b) ju bW T3 w10 [(cj, .cells #[sv] 177 (0, 0))] := hF.less (fun p hp => by simp at hp; subst hp; simp)
 have hb := hG.get (.head _)
 have lj := hG.cell (i := 0) (.head _) rfl
 have hz : w10.frozen? ⟨cj, 0, none⟩ = false := by simp [World.frozen?, hb]
 have hov : ∃ (o : Option Addr) (l k : Nat), tq = .slice o l k := by rcases r1.2 with ⟨e, _⟩ | ⟨_, _, _, e, _⟩ <;> exact ⟨_, _, _, e⟩
 obtain ⟨oo, ll, kk, rfl⟩ := hov
 go_simp
 refine hK _ _ ⟨?_, ?_⟩
 ·refine tu.sets (b := cj) (.inr ⟨df, hM⟩) (by simp only [cn]) (fun k hk => aT _ _ _ hk) (fun e he => ?_)
  have hm := mem_listed he
  simp [go_sem, events_store (v := Value.slice oo ll kk) (hv := rfl), *] at hm
  rcases hm with rfl <;> exact ⟨_, rfl, rfl⟩
 clear hK K
 rw [l7 _ (by simp only [cn])]
 replace hG := hG.set (i := 0) (v := .slice oo ll kk) (.inr (.inl rfl)) (by intro p hp; simp at hp)
 replace r1 := oV (w' := w10.setCell ⟨cj, 0, none⟩ (.slice oo ll kk)) r1 (fun k hk _ => aT _ _ _ (hgc2 k hk).2.2)
 refine ⟨fun x => absurd rfl x, ?_⟩
 refine anyR_done (by decide +kernel) (RT.ends TT (RT.leave TT (v := .tuple #[]) rfl rfl Tryz.func89 (fun w₉ hR9 => ?_) (hk _ _ _ (hPost ▸ ⟨_, hG, r1, hsv⟩)))) _
 refine ⟨by simp [results, go_sem], ?_⟩
 rw [show ∀ t, Sem.events Tryz.prog (results Tryz.f89 t) w₉ #[] = #[] from fun t => by simp [results, go_sem], seen_none]
 exact TT.idle _ _
end Lf
namespace Lf
open Go Go.Conc Go.RowKit
open Go.Proofs (Tryz.f170 Tryz.prog Tryz.func170 Tryz.ntmps170)
variable {main : Bool} {c B : Nat} {M Ro : Nat → Prop}
set_option maxRecDepth 100000 in
theorem says_c (H : qJ c B M Ro) (num time at_ : Value) (sb so n cap : Nat) (i : Nat) (arr : Array Value) (m : Nat × Nat) (v : Bool) (T : Nat → Prop) (w : World) (hc : c < w.heap.size) (hs : (T sb ∨ Ro sb) ∧ sb ≠ c ∧ w.heap[sb]? = some (.cells arr 4 m)) (hv : arr[so + i]? = some (.bool v)) (hi : i < n) :
  ic Tryz.prog main (RBw c Ro) (mY c Ro) 170 #[.agg #[num, time, at_, .slice (some ⟨sb, so, none⟩) n cap], .int .i64 i] T w fun r T' w' => r = .bool v ∧ (∀ b, T b → T' b) ∧ RBw c Ro T w w' := by
 have TT := (gI c B M Ro H).tB
 intro Stop cf cs hk
 have hF : HB c Ro T w T w [(sb, .cells arr 4 m)] := .start hc (fun p hp => by simp at hp; subst hp; exact hs)
 rw [enter_at _ Tryz.func170 rfl]
 simp only [Tryz.ntmps170, List.size_toArray, List.length_cons, List.length_nil, Nat.reduceAdd, Nat.reduceSub, Array.replicate_succ, Array.replicate_zero, List.push_toArray, List.append_toArray, List.nil_append, List.cons_append]
 refine RT.seq TT ?_
 refine RT.region TT ?_
 simp only [List.size_toArray, List.length_cons, List.length_nil, Nat.reduceAdd, Nat.zero_add, List.range, List.range.loop]
 refine RT.op rfl (by rfl) (by simp [base]) (fun v1 hR K hK => ?_)
 replace hF := hF.rely hR
 go_simp
 refine hK _ _ ⟨by rw [listed_nil (by simp [go_sem])]; exact mY.alloc _ _ _, ?_⟩
 clear hK K hR
 replace hF := hF.alloc (.cells #[num, time, at_, .slice (some ⟨sb, so, none⟩) n cap] 159)
 generalize grow _ v1 (v1.alloc (.cells #[num, time, at_, .slice (some ⟨sb, so, none⟩) n cap] 159)) = T1 at hF ⊢
 generalize a_ : v1.heap.size = b1 at hF ⊢
 generalize v1.alloc (.cells #[num, time, at_, .slice (some ⟨sb, so, none⟩) n cap] 159) = u1 at hF ⊢
 clear a_ v1
 refine RT.op rfl (by rfl) (by simp [base]) (fun v2 hR K hK => ?_)
 replace hF := hF.rely hR
 go_simp
 refine hK _ _ ⟨by rw [listed_nil (by simp [go_sem])]; exact TT.idle _ _, ?_⟩
 clear hK K hR
 rw [aD]
 refine RT.nil TT ?_
 refine RT.seq TT ?_
 refine RT.region TT ?_
 simp only [List.size_toArray, List.length_cons, List.length_nil, Nat.reduceAdd, Nat.zero_add, List.range, List.range.loop]
 refine RT.op rfl (by rfl) (by simp [base]) (fun v3 hR K hK => ?_)
 replace hF := hF.rely hR
 go_simp
 refine hK _ _ ⟨by rw [listed_nil (by simp [go_sem])]; exact TT.idle _ _, ?_⟩
 clear hK K hR
 rw [aD]
 refine RT.op rfl (by rfl) (by simp [base]) (fun v4 hR K hK => ?_)
 replace hF := hF.rely hR
 have kJ := hF.cell (i := 3) (.head _) rfl
 go_simp
 refine hK _ _ ⟨?_, ?_⟩
 ·refine mY.reads fun e he => ?_
  have hm := mem_listed he
  simp [go_sem, *] at hm
  rcases hm with rfl <;> exact hF.read (.head _) rfl
 clear hK K hR
 rw [aD]
 refine RT.op rfl (by rfl) (by simp [base]) (fun v5 hR K hK => ?_)
 replace hF := hF.rely hR
 go_simp
 refine hK _ _ ⟨by rw [listed_nil (by simp [go_sem])]; exact TT.idle _ _, ?_⟩
 clear hK K hR
 rw [aD]
 refine RT.op rfl (by rfl) (by simp [base]) (fun v6 hR K hK => ?_)
 replace hF := hF.rely hR
 have hi' : (i : Int) < (n : Int) := by omega
 go_simp
 refine hK _ _ ⟨by rw [listed_nil (by simp [go_sem, *])]; exact TT.idle _ _, ?_⟩
 clear hK K hR
 rw [aD]
 refine RT.op rfl (by rfl) (by simp [base]) (fun v7 hR K hK => ?_)
 replace hF := hF.rely hR
 have hc2 := hF.cell (i := so + i) (.tail _ (.head _)) hv
 go_simp
 refine hK _ _ ⟨?_, ?_⟩
 ·refine mY.reads fun e he => ?_
  have hm := mem_listed he
  simp [go_sem, *] at hm
  rcases hm with rfl <;> exact hF.read (.tail _ (.head _)) rfl
 clear hK K hR
 rw [aD]
 refine RT.op rfl (by rfl) (by simp [base]) (fun v8 hR K hK => ?_)
 replace hF := hF.rely hR
 go_simp
 refine hK _ _ ⟨by rw [listed_nil (by simp [go_sem])]; exact TT.idle _ _, ?_⟩
 clear hK K hR
 rw [aD]
 refine RT.nil TT ?_
 refine RT.ret TT ?_
 refine RT.leave TT (v := .bool v) rfl rfl Tryz.func170 (fun v9 _ => ?_) (hk _ _ _ ⟨rfl, hF.sub, hF.keep⟩)
 rw [events_results_tmp rfl, seen_none]
 exact ⟨results_tmp (fn := Tryz.f170) (t := 4) rfl _ _ _, TT.idle _ _⟩
end Lf
namespace Lf
open Go Go.Conc Go.RowKit
open Go.Proofs (Tryz.f134 Tryz.prog Tryz.func134 Tryz.ntmps134)
variable {main : Bool} {c B : Nat} {M Ro : Nat → Prop}
set_option maxRecDepth 100000 in
set_option maxHeartbeats 1000000 in
theorem verdict_c (H : qJ c B M Ro) (name bV cG at_ : Value) (cu num time : Int) (sb so n cap : Nat) (node : Nat) (arr : Array Value) (m : Nat × Nat) (v : Bool) (T : Nat → Prop) (w : World) (hc : c < w.heap.size) (hs : (T sb ∨ Ro sb) ∧ sb ≠ c ∧ w.heap[sb]? = some (.cells arr 4 m)) (hv : arr[so + node]? = some (.bool v)) (hi : node < n) :
  ic Tryz.prog main (RBw c Ro) (mY c Ro) 134 #[.agg #[name, bV, .int .i64 node, .int .i64 cu, cG], .agg #[.int .i64 num, .int .i64 time, at_, .slice (some ⟨sb, so, none⟩) n cap]] T w fun r T' w' => r = .agg #[.int .i64 num, .int .i64 time, .int .i64 cu, .bool v] ∧ (∀ b, T b → T' b) ∧ RBw c Ro T w w' := by
 have TT := (gI c B M Ro H).tB
 intro Stop cf cs hk
 have hF : HB c Ro T w T w [(sb, .cells arr 4 m)] := .start hc (fun p hp => by simp at hp; subst hp; exact hs)
 rw [enter_at _ Tryz.func134 rfl]
 simp only [Tryz.ntmps134, List.size_toArray, List.length_cons, List.length_nil, Nat.reduceAdd, Nat.reduceSub, Array.replicate_succ, Array.replicate_zero, List.push_toArray, List.append_toArray, List.nil_append, List.cons_append]
 refine RT.seq TT ?_
 refine RT.region TT ?_
 simp only [List.size_toArray, List.length_cons, List.length_nil, Nat.reduceAdd, Nat.zero_add, List.range, List.range.loop]
 refine RT.op rfl (by rfl) (by simp [base]) (fun v1 hR K hK => ?_)
 replace hF := hF.rely hR
 go_simp
 refine hK _ _ ⟨by rw [listed_nil (by simp [go_sem])]; exact mY.alloc _ _ _, ?_⟩
 clear hK K hR
 replace hF := hF.alloc (.cells #[name, bV, .int .i64 node, .int .i64 cu, cG] 183)
 generalize grow _ v1 (v1.alloc (.cells #[name, bV, .int .i64 node, .int .i64 cu, cG] 183)) = T1 at hF ⊢
 generalize a_ : v1.heap.size = b1 at hF ⊢
 generalize v1.alloc (.cells #[name, bV, .int .i64 node, .int .i64 cu, cG] 183) = u1 at hF ⊢
 clear a_ v1
 refine RT.op rfl (by rfl) (by simp [base]) (fun v2 hR K hK => ?_)
 replace hF := hF.rely hR
 go_simp
 refine hK _ _ ⟨by rw [listed_nil (by simp [go_sem])]; exact mY.alloc _ _ _, ?_⟩
 clear hK K hR
 replace hF := hF.alloc (.cells #[.int .i64 num, .int .i64 time, at_, .slice (some ⟨sb, so, none⟩) n cap] 159)
 generalize grow _ v2 (v2.alloc (.cells #[.int .i64 num, .int .i64 time, at_, .slice (some ⟨sb, so, none⟩) n cap] 159)) = T2 at hF ⊢
 generalize cB : v2.heap.size = b2 at hF ⊢
 generalize v2.alloc (.cells #[.int .i64 num, .int .i64 time, at_, .slice (some ⟨sb, so, none⟩) n cap] 159) = u2 at hF ⊢
 clear cB v2
 refine RT.op rfl (by rfl) (by simp [base]) (fun v3 hR K hK => ?_)
 replace hF := hF.rely hR
 go_simp
 refine hK _ _ ⟨by rw [listed_nil (by simp [go_sem])]; exact mY.alloc _ _ _, ?_⟩
 clear hK K hR
 have n_ := hF.fresh
 have ht3 : grow T2 v3 (v3.alloc (.cells #[.int .i64 0, .int .i64 0, .int .i64 0, .bool false] 59)) v3.heap.size := .inr ⟨Nat.le_refl _, by rw [aG]; exact Nat.lt_succ_self _⟩
 replace hF := hF.alloc (.cells #[.int .i64 0, .int .i64 0, .int .i64 0, .bool false] 59)
 generalize grow _ v3 (v3.alloc (.cells #[.int .i64 0, .int .i64 0, .int .i64 0, .bool false] 59)) = T3 at hF ht3 ⊢
 generalize pU : v3.heap.size = b3 at hF n_ ht3 ⊢
 generalize v3.alloc (.cells #[.int .i64 0, .int .i64 0, .int .i64 0, .bool false] 59) = u3 at hF ⊢
 clear pU v3
 refine RT.nil TT ?_
 refine RT.seq TT ?_
 have oF : ∀ (S : Nat → Prop) (x y : World), HB c Ro T w S x [(b2, .cells #[.int .i64 num, .int .i64 time, at_, .slice (some ⟨sb, so, none⟩) n cap] 159), (b1, .cells #[name, bV, .int .i64 node, .int .i64 cu, cG] 183), (sb, .cells arr 4 m)] → RBw c Ro S x y → HB c Ro T w S y [(b2, .cells #[.int .i64 num, .int .i64 time, at_, .slice (some ⟨sb, so, none⟩) n cap] 159), (b1, .cells #[name, bV, .int .i64 node, .int .i64 cu, cG] 183), (sb, .cells arr 4 m)] := fun S x y h r => h.rely r
 let Qv : Act → List Value → (Nat → Prop) → World → Prop := fun a L S w' => ∃ t5 t6 t7 t8 t9 t10 t11 t12 t13 t14 t15, a = { tmps := #[.agg #[name, bV, .int .i64 node, .int .i64 cu, cG], .agg #[.int .i64 num, .int .i64 time, at_, .slice (some ⟨sb, so, none⟩) n cap], .pointer (some ⟨b1, 0, none⟩), .pointer (some ⟨b2, 0, none⟩), .pointer (some ⟨b3, 0, none⟩), t5, t6, t7, t8, t9, t10, t11, t12, t13, t14, t15], defers := [] } ∧ HB c Ro T w S w' [(b3, .cells #[.int .i64 num, .int .i64 time, .int .i64 cu, .bool v] 59)]
 have uk : ∀ a L S x y, Qv a L S x → RBw c Ro S x y → Qv a L S y := by
  rintro a L S x y ⟨t5, t6, t7, t8, t9, t10, t11, t12, t13, t14, t15, h1, h2⟩ r
  exact ⟨t5, t6, t7, t8, t9, t10, t11, t12, t13, t14, t15, h1, h2.rely r⟩
 refine RT.drawn (Stop := fun _ => Stop) (L := []) (c := c) (Q := Qv) (I := fun S w' => HB c Ro T w S w' [(b2, .cells #[.int .i64 num, .int .i64 time, at_, .slice (some ⟨sb, so, none⟩) n cap] 159), (b1, .cells #[name, bV, .int .i64 node, .int .i64 cu, cG] 183), (sb, .cells arr 4 m)]) (fn := 134) (fin := 99) TT (.inl (by intro o ho ch x; simp at ho; rcases ho with rfl | rfl | rfl | rfl | rfl | rfl | rfl | rfl | rfl | rfl | rfl | rfl <;> simp)) rfl (by simp [base]) (by kernel_rfl) (fun a L S w' hq => ?_) (fun w₁ hR => ?_)
 case refine_2 =>
  replace hF := hF.rely hR
  replace hF := hF.rely (w' := { w₁ with drawn := w₁.drawn + 1 }) ⟨Nat.le_refl _, fun _ _ _ _ => rfl⟩
  simp only [List.size_toArray, List.length_cons, List.length_nil, Nat.reduceAdd, Nat.zero_add]
  generalize ({ w₁ with drawn := w₁.drawn + 1 } : World) = x1 at hF ⊢
  have hI : HB c Ro T w _ x1 _ := ⟨hF.sub, hF.keep, hF.lt, fun p hp => hF.facts p (.tail _ hp)⟩
  refine bU TT oF uk 0 (v := ?v0) rfl (by decide +kernel) (by decide +kernel) (by decide +kernel) (by decide +kernel) ⟨by simp, by rfl, fun S' w' hw => ⟨run_eq_of ?r0, ?g0⟩⟩ hI ?_
  case r0 =>
   intro K hK
   go_simp
   exact hK
  case g0 =>
   rw [listed_nil (by simp [go_sem])]; exact TT.idle _ _
  refine bU TT oF uk 1 (v := ?v1) rfl (by decide +kernel) (by decide +kernel) (by decide +kernel) (by decide +kernel) ⟨by simp, by rfl, fun S' w' hw => ⟨run_eq_of ?r1, ?g1⟩⟩ hI ?_
  case r1 =>
   intro K hK
   have kJ := hw.cell (i := 0) (.head _) rfl
   go_simp
   exact hK
  case g1 =>
   have kJ := hw.cell (i := 0) (.head _) rfl
   refine mY.reads fun e he => ?_
   have hm := mem_listed he
   simp [go_sem, *] at hm
   rcases hm with rfl <;> exact hw.read (.head _) rfl
  refine bU TT oF uk 2 (v := ?v2) rfl (by decide +kernel) (by decide +kernel) (by decide +kernel) (by decide +kernel) ⟨by simp, by rfl, fun S' w' hw => ⟨run_eq_of ?r2, ?g2⟩⟩ hI ?_
  case r2 =>
   intro K hK
   go_simp
   exact hK
  case g2 =>
   rw [listed_nil (by simp [go_sem])]; exact TT.idle _ _
  try walk_nrm
  refine bU TT oF uk 3 (v := ?v3) rfl (by decide +kernel) (by decide +kernel) (by decide +kernel) (by decide +kernel) ⟨by simp, by rfl, fun S' w' hw => ⟨run_eq_of ?r3, ?g3⟩⟩ hI ?_
  case r3 =>
   intro K hK
   have kJ := hw.cell (i := 1) (.head _) rfl
   go_simp
   exact hK
  case g3 =>
   have kJ := hw.cell (i := 1) (.head _) rfl
   refine mY.reads fun e he => ?_
   have hm := mem_listed he
   simp [go_sem, *] at hm
   rcases hm with rfl <;> exact hw.read (.head _) rfl
  try walk_nrm
  refine bU TT oF uk 4 (v := ?v4) rfl (by decide +kernel) (by decide +kernel) (by decide +kernel) (by decide +kernel) ⟨by simp, by rfl, fun S' w' hw => ⟨run_eq_of ?r4, ?g4⟩⟩ hI ?_
  case r4 =>
   intro K hK
   go_simp
   exact hK
  case g4 =>
   rw [listed_nil (by simp [go_sem])]; exact TT.idle _ _
  try walk_nrm
  refine bU TT oF uk 5 (v := ?v5) rfl (by decide +kernel) (by decide +kernel) (by decide +kernel) (by decide +kernel) ⟨by simp, by rfl, fun S' w' hw => ⟨run_eq_of ?r5, ?g5⟩⟩ hI ?_
  case r5 =>
   intro K hK
   have kJ := hw.cell (i := 3) (.tail _ (.head _)) rfl
   go_simp
   exact hK
  case g5 =>
   have kJ := hw.cell (i := 3) (.tail _ (.head _)) rfl
   refine mY.reads fun e he => ?_
   have hm := mem_listed he
   simp [go_sem, *] at hm
   rcases hm with rfl <;> exact hw.read (.tail _ (.head _)) rfl
  try walk_nrm
  refine bU TT oF uk 6 (v := ?v6) rfl (by decide +kernel) (by decide +kernel) (by decide +kernel) (by decide +kernel) ⟨by simp, by rfl, fun S' w' hw => ⟨run_eq_of ?r6, ?g6⟩⟩ hI ?_
  case r6 =>
   intro K hK
   have kJ := hw.cell (i := 0) (.head _) rfl
   have hc2 := hw.cell (i := 1) (.head _) rfl
   have r_ := hw.cell (i := 2) (.head _) rfl
   have hc4 := hw.cell (i := 3) (.head _) rfl
   go_simp
   exact hK
  case g6 =>
   have kJ := hw.cell (i := 0) (.head _) rfl
   have hc2 := hw.cell (i := 1) (.head _) rfl
   have r_ := hw.cell (i := 2) (.head _) rfl
   have hc4 := hw.cell (i := 3) (.head _) rfl
   refine mY.reads fun e he => ?_
   have hm := mem_listed he
   simp [go_sem, *] at hm
   rcases hm with rfl | rfl | rfl | rfl <;> exact hw.read (.head _) rfl
  try walk_nrm
  refine bU TT oF uk 7 (v := ?v7) rfl (by decide +kernel) (by decide +kernel) (by decide +kernel) (by decide +kernel) ⟨by simp, by rfl, fun S' w' hw => ⟨run_eq_of ?r7, ?g7⟩⟩ hI ?_
  case r7 =>
   intro K hK
   go_simp
   exact hK
  case g7 =>
   rw [listed_nil (by simp [go_sem])]; exact TT.idle _ _
  try walk_nrm
  refine bU TT oF uk 8 (v := ?v8) rfl (by decide +kernel) (by decide +kernel) (by decide +kernel) (by decide +kernel) ⟨by simp, by rfl, fun S' w' hw => ⟨run_eq_of ?r8, ?g8⟩⟩ hI ?_
  case r8 =>
   intro K hK
   have kJ := hw.cell (i := 2) (.tail _ (.head _)) rfl
   go_simp
   exact hK
  case g8 =>
   have kJ := hw.cell (i := 2) (.tail _ (.head _)) rfl
   refine mY.reads fun e he => ?_
   have hm := mem_listed he
   simp [go_sem, *] at hm
   rcases hm with rfl <;> exact hw.read (.tail _ (.head _)) rfl
  try walk_nrm
  refine gu (i := 9) (by decide +kernel) (pj.call TT rfl (by rfl) rfl Go.Proofs.Tryz.func170 (by rfl) rfl (fun bF hR2 => ?_))
  replace hF := hF.rely hR2
  simp only [List.map_toArray, List.map_cons, List.map_nil]
  change ic Tryz.prog main (RBw c Ro) (mY c Ro) 170 #[.agg #[.int .i64 num, .int .i64 time, at_, .slice (some ⟨sb, so, none⟩) n cap], .int .i64 node] _ bF _
  refine ic.mono (says_c H (.int .i64 num) (.int .i64 time) at_ sb so n cap node arr m v _ bF hF.lt (hF.facts _ (.tail _ (.tail _ (.tail _ (.head _))))) hv hi) ?_
  rintro r S' w3 ⟨rfl, qp, hr'⟩
  replace hF := hF.call qp hr'
  refine ⟨fun _ => ⟨hF.sub, hF.keep, hF.lt, fun p hp => hF.facts p (.tail _ hp)⟩, ?_⟩
  try walk_nrm
  refine gu (i := 10) (by decide +kernel) (pj.op rfl (by rfl) (by simp) (fun w₄ hR4 K hK => ?_))
  replace hF := hF.rely hR4
  go_simp
  refine hK _ _ ⟨by rw [listed_nil (by simp [go_sem])]; exact TT.idle _ _, ?_⟩
  clear hK K
  rw [aD]
  refine ⟨fun _ => ⟨hF.sub, hF.keep, hF.lt, fun p hp => hF.facts p (.tail _ hp)⟩, ?_⟩
  try walk_nrm
  refine gu (i := 11) (by decide +kernel) (pj.op rfl (by rfl) (by simp) (fun w₅ hR5 K hK => ?_))
  replace hF := hF.rely hR5
  have hb := hF.get (.head _)
  have lj := hF.cell (i := 0) (.head _) rfl
  have kJ := hF.cell (i := 1) (.head _) rfl
  have hc2 := hF.cell (i := 2) (.head _) rfl
  have r_ := hF.cell (i := 3) (.head _) rfl
  have hz : ∀ i, w₅.frozen? ⟨b3, i, none⟩ = false := fun i => by simp [World.frozen?, hb]
  go_simp
  refine hK _ _ ⟨?_, ?_⟩
  ·refine mY.sets (b := b3) (qp _ ht3) (by simp only [cn]) (fun k hk => (aT _ _ _ hk).trans ((aT _ _ _ hk).trans ((aT _ _ _ hk).trans (aT _ _ _ hk)))) rfl rfl rfl (fun e he => ?_)
   have hm := mem_listed he
   simp [go_sem, events_store (v := Value.bool v) (hv := rfl), *] at hm
   rcases hm with rfl | rfl | rfl | rfl <;> exact ⟨_, rfl, rfl⟩
  clear hK K
  rw [l7 _ (by simp only [cn])]
  replace hF := (((hF.set (i := 0) (v := .int .i64 num) n_.1 n_.2).set (i := 1) (v := .int .i64 time) n_.1 n_.2).set (i := 2) (v := .int .i64 cu) n_.1 n_.2).set (i := 3) (v := .bool v) n_.1 n_.2
  refine ⟨fun _ => ⟨hF.sub, hF.keep, hF.lt, fun p hp => hF.facts p (.tail _ hp)⟩, ?_⟩
  exact anyR_done (by decide +kernel) ⟨_, _, _, _, _, _, _, _, _, _, _, rfl, hF.sub, hF.keep, hF.lt, fun p hp => by simp at hp; subst hp; exact hF.facts _ (.head _)⟩ _
 obtain ⟨t5, t6, t7, t8, t9, t10, t11, t12, t13, t14, t15, rfl, hG⟩ := hq
 refine RT.ret TT ?_
 refine RT.leave TT (v := .agg #[.int .i64 num, .int .i64 time, .int .i64 cu, .bool v]) rfl rfl Tryz.func134 (fun w₉ hR9 => ?_) (hk _ _ _ ⟨rfl, hG.sub, hG.keep⟩)
 replace hG := hG.rely hR9
 have lj := hG.cell (i := 0) (.head _) rfl
 have kJ := hG.cell (i := 1) (.head _) rfl
 have hc2 := hG.cell (i := 2) (.head _) rfl
 have r_ := hG.cell (i := 3) (.head _) rfl
 have hload : (loadVar 59 ⟨b3, 0, none⟩).run Tryz.prog w₉ = .ok (.agg #[.int .i64 num, .int .i64 time, .int .i64 cu, .bool v]) w₉ := by
  simp [go_sem, loadVar, *]
 obtain ⟨e1, e2⟩ := results_cell (P := Tryz.prog) (fn := Tryz.f134) (a := 4) (t := 59) rfl (tmps := #[.agg #[name, bV, .int .i64 node, .int .i64 cu, cG], .agg #[.int .i64 num, .int .i64 time, at_, .slice (some ⟨sb, so, none⟩) n cap], .pointer (some ⟨b1, 0, none⟩), .pointer (some ⟨b2, 0, none⟩), .pointer (some ⟨b3, 0, none⟩), t5, t6, t7, t8, t9, t10, t11, t12, t13, t14, t15]) rfl hload
 refine ⟨e1, ?_⟩
 rw [e2]
 refine mY.reads fun e he => ?_
 have hm := mem_seen he
 simp [go_sem, loadVar, *] at hm
 rcases hm with rfl | rfl | rfl | rfl <;> exact hG.read (.head _) rfl
end Lf
namespace Lf
open Go Go.Conc Go.RowKit
open Go.Proofs (Tryz.f133 Tryz.prog Tryz.func133 Tryz.ntmps133)
theorem RT.defer {P:Program} {main:Bool} {R:(Nat->Prop)->World->World->Prop} {D:(Nat->Prop)->World->World->Array Event->Prop} {Stop:(Nat->Prop)->Goroutine->World->Prop} {S:Nat->Prop} {b:Frame} {a:Act} {k:List Item} {cs:List Frame} {w:World} (T:dh R D) {ops:Array Oper} {i:Nat} {rest:List Nat} {o:Oper} (ho:ops[i]? = some o) (hw:Region.wanted o (yielded ops a.tmps)=true) (hk:b.kind≠.early) (d:Deferred)
  (hr:∀ w₁,(execOp a.eval o).run P w₁=.ok (.defer d) w₁) (he:∀ w₁,(execOp a.eval o).events P w₁ #[]=#[]) (h:RT P main R D Stop S (G (b.at (Act.put ⟨a.tmps,d::a.defers⟩ o.dst undef) (.inRegion ops rest::k)) cs) w) :
  RT P main R D Stop S (G (b.at a (.inRegion ops (i::rest)::k)) cs) w:=by
 refine .one rfl fun w₁ h₁=>?_
 have bH:(b.at ⟨a.tmps,d::a.defers⟩ (.inRegion ops (i::rest)::k)).finish undef=b.at (Act.put ⟨a.tmps,d::a.defers⟩ o.dst undef) (.inRegion ops rest::k):=by rw [Frame.finish_at,ho];rfl
 have hk':(b.kind==CallKind.early)=false:=by simpa using hk
 have df:stepG P main (G (b.at a (.inRegion ops (i::rest)::k)) cs) w₁=.go (G (b.at (Act.put ⟨a.tmps,d::a.defers⟩ o.dst undef) (.inRegion ops rest::k)) cs) w₁ #[]:=by
  rw [stepG_oper ho hw,<- bH]
  simp [stepG.apply,hr,he,G,Frame.at,hk',GStep.after,seen_none]
 rw [df,goes_go,aD]
 exact ⟨T.idle _ _,h.rely T h₁⟩
noncomputable def bot:Frame:={ (default:Frame) with fn:=Tryz.prog.funcs.size,defers:=[],mode:=.panicking [goexitEntry] }
def call133 (p5 p2 p3:Nat):Deferred:={ target:=.fn (.func 133) #[.pointer (some ⟨p5,0,none⟩),.pointer (some ⟨p2,0,none⟩),.pointer (some ⟨p3,0,none⟩)],args:=#[] }
noncomputable def lf:Code:=Tryz.f133.body.getD .skip
theorem born_step (p5 p2 p3:Nat) (w:World):stepG Tryz.prog false (born Tryz.prog (call133 p5 p2 p3)) w =
  .go (G ((baseD 133).at ⟨#[.pointer (some ⟨p5,0,none⟩),.pointer (some ⟨p2,0,none⟩),.pointer (some ⟨p3,0,none⟩),undef,undef,undef,undef,undef,undef,undef,undef,undef,undef,undef,undef,undef,undef,undef,undef,undef],[]⟩ [.code lf]) [bot]) w #[]:=by
 have h1:¬ Tryz.f133.name = "runtime.NumGoroutine":=by decide
 have h2:¬ Tryz.f133.body=none:=by simp [Tryz.f133]
 simp [born,call133,stepG,unwind,callDeferred,invoke,callFunc,Tryz.func133,h1,h2,seen,GStep.after,G,Frame.enter,Frame.at,baseD,bot,lf,Tryz.ntmps133]
 rfl
def qT (c:Nat):Deferred:={ target:=.builtin .close #[235] 0 #[false],args:=#[.chan (some c)] }
theorem close_step {c n s r:Nat} {buf:Array Value} (tmps:Array Value) (todo:List Item) (w:World) (hc:w.heap[c]? = some (.chan n buf false s r false)) :
  stepG Tryz.prog false (G { (baseD 133).at ⟨tmps,[qT c]⟩ todo with mode:=.returning } [bot]) w=.go (G { (baseD 133).at ⟨tmps,[]⟩ todo with mode:=.returning } [bot]) (w.setChan c n buf true s r false) (#[⟨.obj c,false,true⟩].push ⟨.obj c,true,true⟩):=by
 have hr:=run_close_open (P:=Tryz.prog) #[235] 0 hc
 have he:=events_close_open (P:=Tryz.prog) (es:=#[]) #[235] 0 hc
 simp [G,stepG,unwind,callDeferred,Frame.at,qT,invoke,builtin,hr,he,GStep.after,World.setChan]
 exact seen_eq (by simp [baseD,Tryz.func133];rfl) (by simp)
theorem quits_tail (tmps:Array Value) (todo:List Item):QuitsD Tryz.prog 2 0 (G { (baseD 133).at ⟨tmps,[]⟩ todo with mode:=.returning } [bot]):=by
 refine QuitsD.ctl (g':=G bot []) rfl (fun w=>?_) ?_
 ·simp [G,stepG,unwind,doReturn,results,Frame.at,baseD,bot,Tryz.func133,seen,GStep.after,goexitEntry]
 refine QuitsD.ctl (g':={ G bot [] with status:=.finished }) rfl (fun w=>?_) ⟨rfl,rfl⟩
 simp [G,stepG,unwind,bot,goexitEntry,Frame.catches]
 rfl
end Lf
end Go.Proofs.YtpbbmagjhkakgaaGreatDoor
