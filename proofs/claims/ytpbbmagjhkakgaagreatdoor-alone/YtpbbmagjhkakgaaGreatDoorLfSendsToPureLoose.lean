import Derived.Test.YtpbbmagjhkakgaaGreatDoorLfChildToLfRound
import Derived.Test.YtpbbmagjhkakgaaGreatDoorLfScriptToLfEnd
import Derived.Test.YtpbbmagjhkakgaaGreatDoorLfPlain
import Derived.Test.YtpbbmagjhkakgaaGreatDoorPureSemToEvBack
import Derived.Test.YtpbbmagjhkakgaaGreatDoorPut
import Derived.Test.YtpbbmagjhkakgaaGreatDoorPureEndsToFace2
import Derived.Conc.SmallLaws
import Derived.WalkSpells
namespace Go.Proofs.YtpbbmagjhkakgaaGreatDoor
namespace Lf
open Go Go.Conc Go.RowKit
open Go.Proofs (Tryz.f133 Tryz.prog Tryz.func133 Tryz.ntmps133)
variable {c B : Nat} {M Ro : Nat → Prop}
set_option maxRecDepth 100000 in
theorem last_c (H:qJ c B M Ro) (p5 p2 p3:Nat) (sv:Value) (N:Nat) (nn:Nat) (u3 u4 u9 u10 u11 u12 u13 u14 u15 u16 u17 u18 u19:Value) (T:Nat->Prop) (w:World) :
  SB Tryz.prog c (RBw c Ro) (mY c Ro) (CB1 c Ro) nn [] T (headX c p5 p2 p3 sv N N u3 u4 u9 u10 u11 u12 u13 u14 u15 u16 u17 u18 u19) w:=by
 have PP:=gI c B M Ro H
 have TT:=PP.tB
 refine SB.kh PP ?_
 simp only [headX,loopX,lf,Tryz.f133,Option.getD_some]
 refine RT.seq TT ?_
 refine RT.region TT ?_
 simp only [List.size_toArray,List.length_cons,List.length_nil,Nat.zero_add,List.range,List.range.loop]
 refine RT.op rfl (by rfl) (by simp [baseD]) (fun v1 hR K hK=>?_)
 go_simp
 refine hK _ _ ⟨by rw [listed_nil (by simp [go_sem])];exact TT.idle _ _,?_⟩
 clear hK K hR
 rw [aD]
 refine RT.nil TT ?_
 refine RT.seq TT ?_
 refine RT.cond TT false (by simp [Act.eval]) ?_
 simp only [if_false,Bool.false_eq_true]
 refine RT.exit TT rfl ?_
 refine RT.ends TT ?_
 refine SB.walk PP ?_
 refine .close rfl (by simp [mayWake,G,Frame.at]) (fun w₁ buf s r _ hc=>⟨#[⟨.obj c,false,true⟩],close_step _ _ w₁ hc,fun e he=>?_⟩) (quits_tail _ _)
 simp at he
 subst he
 exact ⟨fun x hx _=>(by simp [MemAct.ofEvent,MemAct.touch?] at hx;subst hx;exact .inr rfl),by simp,by simp⟩
theorem from_c (H:qJ c B M Ro) (p5 p2 p3 pb po cap sb so n cp:Nat) (num time:Int) (at_:Value) (fA:Array Value) (mp:Nat×Nat) (arr:Array Value) (m:Nat×Nat) (ps:List bC) (hps:b5 fA po ps) (hn:ps.length<9223372036854775807) (jh:∀ p∈ps,arr[so+p.node]? = some (.bool p.v)/\p.node<n) (nn:Nat) (jO:Nat->Prop) (bW:World) :
  ∀ (j k:Nat),k+j=ps.length->∀ (u3 u4 u9 u10 u11 u12 u13 u14 u15 u16 u17 u18 u19:Value) (T:Nat->Prop) (w:World),HB c Ro jO bW T w (FSc c p5 p2 p3 pb po ps.length cap sb so n cp num time at_ fA mp arr m)->
   SB Tryz.prog c (RBw c Ro) (mY c Ro) (CB1 c Ro) nn ((ps.drop k).map (letter num time)) T (headX c p5 p2 p3 (.slice (some ⟨pb,po,none⟩) ps.length cap) ps.length k u3 u4 u9 u10 u11 u12 u13 u14 u15 u16 u17 u18 u19) w:=by
 intro j
 induction j with
 | zero =>
  intro k hk u3 u4 u9 u10 u11 u12 u13 u14 u15 u16 u17 u18 u19 T w _
  obtain rfl:k=ps.length:=by omega
  rw [List.drop_length,List.map_nil]
  exact last_c H _ _ _ _ _ _ _ _ _ _ _ _ _ _ _ _ _ _ _ _ _
 | succ j ih =>
  intro k hk u3 u4 u9 u10 u11 u12 u13 u14 u15 u16 u17 u18 u19 T w hF
  have cz:k<ps.length:=by omega
  rw [List.drop_eq_getElem_cons cz,List.map_cons]
  exact round_c H _ p5 p2 p3 pb po cap sb so n cp num time at_ fA mp arr m ps hps hn jh nn k _ (List.getElem?_eq_getElem cz) _ _ _ _ _ _ _ _ _ _ _ _ _ jO bW T w hF (fun u3 u4 u9 u10 u11 u12 u13 u14 u15 u16 u17 u18 u19 T w h=>ih (k+1) (by omega) u3 u4 u9 u10 u11 u12 u13 u14 u15 u16 u17 u18 u19 T w h)
set_option maxRecDepth 100000 in
theorem child_c (H : qJ c B M Ro) (p5 p2 p3 pb po cap sb so n cp : Nat) (num time : Int) (at_ : Value) (fA : Array Value) (mp : Nat × Nat) (arr : Array Value) (m : Nat × Nat) (ps : List bC) (hps : b5 fA po ps) (hn : ps.length < 9223372036854775807) (jh : ∀ p ∈ ps, arr[so + p.node]? = some (.bool p.v) ∧ p.node < n) (nn : Nat) (T : Nat → Prop) (w : World) (hc : c < w.heap.size)
  (hfs : ∀ q ∈ FSc c p5 p2 p3 pb po ps.length cap sb so n cp num time at_ fA mp arr m, (T q.1 ∨ Ro q.1) ∧ q.1 ≠ c ∧ w.heap[q.1]? = some q.2) :
  SB Tryz.prog c (RBw c Ro) (mY c Ro) (CB1 c Ro) nn (ps.map (letter num time)) T (born Tryz.prog (call133 p5 p2 p3)) w := by
 have PP := gI c B M Ro H
 have TT := PP.tB
 have hF : HB c Ro T w T w (FSc c p5 p2 p3 pb po ps.length cap sb so n cp num time at_ fA mp arr m) := .start hc hfs
 have nh := from_c H p5 p2 p3 pb po cap sb so n cp num time at_ fA mp arr m ps hps hn jh nn T w ps.length 0 (by omega)
 simp only [headX, loopX, lf, Tryz.f133, Option.getD_some, List.drop_zero, Int.natCast_zero] at nh
 refine SB.kh PP (RT.one rfl fun v0 hR0 => ?_)
 rw [born_step, goes_go, aD]
 refine ⟨TT.idle _ _, ?_⟩
 replace hF := hF.rely hR0
 simp only [lf, Tryz.f133, Option.getD_some]
 refine RT.seq TT ?_
 refine RT.region TT ?_
 simp only [List.size_toArray, List.length_cons, List.length_nil, Nat.reduceAdd, Nat.zero_add, List.range, List.range.loop]
 refine RT.op rfl (by rfl) (by simp [baseD]) (fun v1 hR K hK => ?_)
 replace hF := hF.rely hR
 have kJ := hF.cell (i := 0) (.head _) rfl
 go_simp
 refine hK _ _ ⟨?_, ?_⟩
 ·refine mY.reads fun e he => ?_
  have hm := mem_listed he
  simp [go_sem, *] at hm
  rcases hm with rfl <;> exact hF.read (.head _) rfl
 clear hK K hR
 rw [aD]
 refine RT.defer TT rfl (by rfl) (by simp [baseD]) (qT c) (fun v2 => by simp [execOp, resolve, Act.eval, qT]) (fun v2 => by simp [execOp, resolve, Act.eval]) ?_
 simp only [Act.put]
 refine RT.nil TT ?_
 refine RT.seq TT ?_
 refine RT.region TT ?_
 simp only [List.size_toArray, List.length_cons, List.length_nil, Nat.reduceAdd, Nat.zero_add, List.range, List.range.loop]
 refine RT.op rfl (by rfl) (by simp [baseD]) (fun v2 hR K hK => ?_)
 replace hF := hF.rely hR
 have kJ := hF.cell (i := 0) (.tail _ (.head _)) rfl
 go_simp
 refine hK _ _ ⟨?_, ?_⟩
 ·refine mY.reads fun e he => ?_
  have hm := mem_listed he
  simp [go_sem, *] at hm
  rcases hm with rfl <;> exact hF.read (.tail _ (.head _)) rfl
 clear hK K hR
 rw [aD]
 refine RT.op rfl (by rfl) (by simp [baseD]) (fun v3 hR K hK => ?_)
 replace hF := hF.rely hR
 go_simp
 refine hK _ _ ⟨by rw [listed_nil (by simp [go_sem])]; exact TT.idle _ _, ?_⟩
 clear hK K hR
 rw [aD]
 refine RT.op rfl (by rfl) (by simp [baseD]) (fun v4 hR K hK => ?_)
 replace hF := hF.rely hR
 go_simp
 refine hK _ _ ⟨by rw [listed_nil (by simp [go_sem])]; exact TT.idle _ _, ?_⟩
 clear hK K hR
 rw [aD]
 refine RT.nil TT ?_
 refine RT.block TT ?_
 refine RT.loop TT ?_
 exact SB.walk PP (nh _ _ _ _ _ _ _ _ _ _ _ _ _ _ _ hF)
set_option maxRecDepth 100000 in
theorem child0_c (H : qJ c B M Ro) (p5 p2 p3 : Nat) (nn : Nat) (T : Nat → Prop) (w : World) (hc : c < w.heap.size)
  (hfs : ∀ q ∈ ([(p5, .cells #[.chan (some c)] 235), (p2, .cells #[.slice none 0 0] 151)] : List (Nat × Obj)), (T q.1 ∨ Ro q.1) ∧ q.1 ≠ c ∧ w.heap[q.1]? = some q.2) :
  SB Tryz.prog c (RBw c Ro) (mY c Ro) (CB1 c Ro) nn [] T (born Tryz.prog (call133 p5 p2 p3)) w := by
 have PP := gI c B M Ro H
 have TT := PP.tB
 have hF : HB c Ro T w T w [(p5, .cells #[.chan (some c)] 235), (p2, .cells #[.slice none 0 0] 151)] := .start hc hfs
 have nh := last_c (nn := nn) H p5 p2 p3 (.slice none 0 0) 0
 simp only [headX, loopX, lf, Tryz.f133, Option.getD_some, Int.natCast_zero] at nh
 refine SB.kh PP (RT.one rfl fun v0 hR0 => ?_)
 rw [born_step, goes_go, aD]
 refine ⟨TT.idle _ _, ?_⟩
 replace hF := hF.rely hR0
 simp only [lf, Tryz.f133, Option.getD_some]
 refine RT.seq TT ?_
 refine RT.region TT ?_
 simp only [List.size_toArray, List.length_cons, List.length_nil, Nat.reduceAdd, Nat.zero_add, List.range, List.range.loop]
 refine RT.op rfl (by rfl) (by simp [baseD]) (fun v1 hR K hK => ?_)
 replace hF := hF.rely hR
 have kJ := hF.cell (i := 0) (.head _) rfl
 go_simp
 refine hK _ _ ⟨?_, ?_⟩
 ·refine mY.reads fun e he => ?_
  have hm := mem_listed he
  simp [go_sem, *] at hm
  rcases hm with rfl <;> exact hF.read (.head _) rfl
 clear hK K hR
 rw [aD]
 refine RT.defer TT rfl (by rfl) (by simp [baseD]) (qT c) (fun v2 => by simp [execOp, resolve, Act.eval, qT]) (fun v2 => by simp [execOp, resolve, Act.eval]) ?_
 simp only [Act.put]
 refine RT.nil TT ?_
 refine RT.seq TT ?_
 refine RT.region TT ?_
 simp only [List.size_toArray, List.length_cons, List.length_nil, Nat.reduceAdd, Nat.zero_add, List.range, List.range.loop]
 refine RT.op rfl (by rfl) (by simp [baseD]) (fun v2 hR K hK => ?_)
 replace hF := hF.rely hR
 have kJ := hF.cell (i := 0) (.tail _ (.head _)) rfl
 go_simp
 refine hK _ _ ⟨?_, ?_⟩
 ·refine mY.reads fun e he => ?_
  have hm := mem_listed he
  simp [go_sem, *] at hm
  rcases hm with rfl <;> exact hF.read (.tail _ (.head _)) rfl
 clear hK K hR
 rw [aD]
 refine RT.op rfl (by rfl) (by simp [baseD]) (fun v3 hR K hK => ?_)
 replace hF := hF.rely hR
 go_simp
 refine hK _ _ ⟨by rw [listed_nil (by simp [go_sem])]; exact TT.idle _ _, ?_⟩
 clear hK K hR
 rw [aD]
 refine RT.op rfl (by rfl) (by simp [baseD]) (fun v4 hR K hK => ?_)
 replace hF := hF.rely hR
 go_simp
 refine hK _ _ ⟨by rw [listed_nil (by simp [go_sem])]; exact TT.idle _ _, ?_⟩
 clear hK K hR
 rw [aD]
 refine RT.nil TT ?_
 refine RT.block TT ?_
 refine RT.loop TT ?_
 exact SB.walk PP (nh _ _ _ _ _ _ _ _ _ _ _ _ _ _ _)
end Lf
namespace Lf
open Go Go.Conc Go.RowKit
open Go.Proofs (Tryz.f46 Tryz.prog Tryz.func46 Tryz.ntmps46 Tryz.func89)
structure bt where
 cj:Nat
 sv:Value
 n:Nat
 xs:List Value
def eG (w:World) (s:bt):Prop:=w.heap[s.cj]? = some (.cells #[s.sv] 177 (0,0))/\w.ownsRow 0 59 4 s.sv s.n s.xs
def Apart (ss:List bt):Prop:=∀ (i j:Nat) (s t:bt),ss[i]? = some s->ss[j]? = some t->i≠j->s.cj≠t.cj/\∀ g,s.sv.ownBlock=some g->t.sv.ownBlock≠some g
def Ms (ss:List bt) (b:Nat):Prop:=∃ s∈ss,b=s.cj\/s.sv.ownBlock=some b
theorem eG.ne {w:World} {s t:bt} (h:eG w s) (k:eG w t):s.sv.ownBlock≠some t.cj:=fun e=>by
 obtain ⟨h1,h2 | ⟨g,cap,cur,e1,_,e2,_⟩⟩:=h.2
 ·rw [h2.1] at e;cases e
 ·rw [e1] at e;cases e;have:=k.1;rw [e2] at this;cases this
theorem eG.heap {w w':World} {s:bt} (h:eG w s) (hh:∀ b,b<w.heap.size->(b=s.cj\/s.sv.ownBlock=some b)->w'.heap[b]? = w.heap[b]?):eG w' s :=
 ⟨by rw [hh s.cj (aw h.1) (.inl rfl)];exact h.1,oV h.2 fun k hk hl=>hh k hl (.inr hk)⟩
structure gP (B:Nat) (ss:List bt) (num time:Int) (ps:List bC) (k:Nat) (S:Nat->Prop) (w:World) (now:List bt):Prop where
 len:now.length=ss.length
 rest:∀ i,k<=i->now[i]? = ss[i]?
 done:∀ i s p,i<k->ss[i]? = some s->ps[i]? = some p->∃ t,now[i]? = some t/\t.cj=s.cj/\t.n=s.n+1/\t.xs=s.xs++bO num time p.cu p.v/\(t.sv.ownBlock=s.sv.ownBlock\/∃ g,t.sv.ownBlock=some g/\S g)
 ok:∀ t∈now,eG w t
 apart:Apart now
 mine:∀ t∈now,(∃ s∈ss,s.cj=t.cj)/\∀ g,t.sv.ownBlock=some g->S g\/Ms ss g
section
variable {c B : Nat} {ss : List bt} {num time : Int} {ps : List bC} {k : Nat} {S S' : Nat → Prop} {w w' : World} {now : List bt}
theorem gP.heap (h:gP B ss num time ps k S w now) (hS:∀ b,S b->S' b) (hM:∀ b,Ms ss b->b<B/\b≠c) (ko:∀ b,S b->b≠c) (hh:∀ b,(S b\/b<B)->b<w.heap.size->b≠c->w'.heap[b]? = w.heap[b]?):gP B ss num time ps k S' w' now :=
 ⟨h.len,h.rest,fun i s p a b d=>by
  obtain ⟨t,t1,t2,t3,t4,t5⟩:=h.done i s p a b d
  exact ⟨t,t1,t2,t3,t4,t5.imp id fun ⟨g,g1,g2⟩=>⟨g,g1,hS g g2⟩⟩,fun t ht=>(h.ok t ht).heap fun b hb hm=>by
   rcases hm with rfl | hm
   ·obtain ⟨s,hs,e⟩:=(h.mine t ht).1
    have:=hM t.cj ⟨s,hs,.inl e.symm⟩
    exact hh _ (.inr this.1) hb this.2
   ·rcases (h.mine t ht).2 b hm with x | x
    ·exact hh _ (.inl x) hb (ko b x)
    ·exact hh _ (.inr (hM b x).1) hb (hM b x).2,h.apart,fun t ht=>⟨(h.mine t ht).1,fun g hg=>((h.mine t ht).2 g hg).imp (hS g) id⟩⟩
theorem gP.start (se:∀ s∈ss,eG w s) (jD:Apart ss):gP B ss num time ps 0 S w ss :=
 ⟨rfl,fun _ _=>rfl,fun _ _ _ h=>absurd h (Nat.not_lt_zero _),se,jD,fun t ht=>⟨⟨t,ht,rfl⟩,fun _ hg=>.inr ⟨t,ht,.inr hg⟩⟩⟩
theorem gP.step (h:gP B ss num time ps k S w now) {s:bt} {p:bC} (hs:ss[k]? = some s) (hp:ps[k]? = some p) (hM:∀ b,Ms ss b->b<B/\b≠c) {tq:Value}
  (hF:H0 c B (fun b=>b=s.cj\/s.sv.ownBlock=some b) S w S' w' [(s.cj,.cells #[tq] 177 (0,0))]) (hr:w'.ownsRow 0 59 4 tq (s.n+1) (s.xs++bO num time p.cu p.v)) (hv:tq.ownBlock=s.sv.ownBlock\/∃ g,tq.ownBlock=some g/\S' g/\w.heap.size<=g) :
  ∃ now',gP B ss num time ps (k+1) S' w' now':=by
 have hnk:now[k]? = some s:=(h.rest k (Nat.le_refl _)).trans hs
 have hkl:k<now.length:=(List.getElem?_eq_some_iff.1 hnk).1
 have hsm:s∈now:=List.mem_of_getElem? hnk
 have hss:s∈ss:=List.mem_of_getElem? hs
 have own_lt:∀ t∈now,∀ g,t.sv.ownBlock=some g->g<w.heap.size:=fun t ht g hg=>((h.ok t ht).2.lt g hg).2
 refine ⟨now.set k ⟨s.cj,tq,s.n+1,s.xs++bO num time p.cu p.v⟩,by simp [h.len],fun i hi=>?_,fun i s' p' hi qp hp'=>?_,fun t ht=>?_,fun i j t u hi hj hij=>?_,fun t ht=>?_⟩
 ·rw [List.getElem?_set_ne (by omega)];exact h.rest i (by omega)
 ·by_cases hik:i=k
  ·subst hik
   rw [hs] at qp;cases qp
   rw [hp] at hp';cases hp'
   exact ⟨⟨s.cj,tq,s.n+1,s.xs++bO num time p.cu p.v⟩,by rw [List.getElem?_set_self hkl],rfl,rfl,rfl,hv.imp id fun ⟨g,g1,g2,_⟩=>⟨g,g1,g2⟩⟩
  ·obtain ⟨t,t1,t2,t3,t4,t5⟩:=h.done i s' p' (by omega) qp hp'
   exact ⟨t,by rw [List.getElem?_set_ne (by omega)];exact t1,t2,t3,t4,t5.imp id fun ⟨g,g1,g2⟩=>⟨g,g1,hF.mine g g2⟩⟩
 ·obtain ⟨i,hi⟩:=List.mem_iff_getElem?.1 ht
  by_cases hik:i=k
  ·subst hik
   rw [List.getElem?_set_self hkl] at hi
   cases hi
   exact ⟨hF.get (.head _),hr⟩
  ·rw [List.getElem?_set_ne (by omega)] at hi
   have htm:t∈now:=List.mem_of_getElem? hi
   have jD:=h.apart i k t s hi hnk hik
   refine (h.ok t htm).heap fun b hb hm=>?_
   have hkeep:=hF.keep b
   rcases hm with rfl | hm
   ·obtain ⟨s',qp,e⟩:=(h.mine t htm).1
    have:=hM t.cj ⟨s',qp,.inl e.symm⟩
    exact hkeep (.inr this.1) hb this.2 (fun x=>x.elim jD.1 (fun e=>(h.ok s hsm).ne (h.ok t htm) e))
   ·refine hkeep ?_ hb ?_ (fun x=>x.elim (fun e=>(h.ok t htm).ne (h.ok s hsm) (e▸hm)) (fun e=>jD.2 b hm e))
    ·exact ((h.mine t htm).2 b hm).imp id fun x=>(hM b x).1
    ·rcases (h.mine t htm).2 b hm with x | x
     ·have:=hF.own b (hF.mine b x);have:=hF.chan;omega
     ·exact (hM b x).2
 ·have key:∀ i j t u,(now.set k ⟨s.cj,tq,s.n+1,s.xs++bO num time p.cu p.v⟩)[i]? = some t->now[j]? = some u->i=k->j≠k->t.cj≠u.cj/\∀ g,t.sv.ownBlock=some g->u.sv.ownBlock≠some g:=by
   intro i' j' t' u' hi' hj' e n9
   rw [e,List.getElem?_set_self hkl] at hi'
   cases hi'
   have jD:=h.apart k j' s u' hnk hj' (fun e=>n9 e.symm)
   refine ⟨jD.1,fun g hg hu=>?_⟩
   rcases hv with e | ⟨g',e1,_,e3⟩
   ·exact jD.2 g (by rw [<- e];exact hg) hu
   ·have e2:tq.ownBlock=some g:=hg
    rw [e1] at e2;cases e2
    have:=own_lt u' (List.mem_of_getElem? hj') g hu
    omega
  by_cases hik:i=k
  ·have n9:j≠k:=by omega
   rw [List.getElem?_set_ne (by omega)] at hj
   exact key i j t u hi hj hik n9
  ·rw [List.getElem?_set_ne (by omega)] at hi
   by_cases n9:j=k
   ·have:=key j i u t hj hi n9 hik
    exact ⟨fun e=>this.1 e.symm,fun g hg hu=>this.2 g hu hg⟩
   ·rw [List.getElem?_set_ne (by omega)] at hj
    exact h.apart i j t u hi hj hij
 ·obtain ⟨i,hi⟩:=List.mem_iff_getElem?.1 ht
  by_cases hik:i=k
  ·subst hik
   rw [List.getElem?_set_self hkl] at hi
   cases hi
   refine ⟨⟨s,hss,rfl⟩,fun g hg=>?_⟩
   rcases hv with e | ⟨g',e1,e2,_⟩
   ·exact .inr ⟨s,hss,.inr (by rw [<- e];exact hg)⟩
   ·have e3:tq.ownBlock=some g:=hg
    rw [e1] at e3;cases e3
    exact .inl e2
  ·rw [List.getElem?_set_ne (by omega)] at hi
   have htm:t∈now:=List.mem_of_getElem? hi
   exact ⟨(h.mine t htm).1,fun g hg=>((h.mine t htm).2 g hg).imp (hF.mine g) id⟩
end
theorem served_at {b:Frame} {a:Act} {ops:Array Oper} {i:Nat} {rest:List Nat} {k:List Item} {cs:List Frame} {o:Oper} (ho:ops[i]? = some o) (v:Value):Go.Conc.served (G (b.at a (.inRegion ops (i::rest)::k)) cs) v=G (b.at (a.put o.dst v) (.inRegion ops rest::k)) cs:=by
 show { (G (b.at a (.inRegion ops (i::rest)::k)) cs) with frame:=(b.at a (.inRegion ops (i::rest)::k)).finish v,status:=.running,offers:=Option.none }=_
 rw [Frame.finish_at,ho]
 rfl
noncomputable def jR:Code:=Tryz.f46.body.getD .skip
noncomputable def vh:Code:=match jR with
 | .seq _ (.seq _ (.seq _ (.seq (.seq _ (.block _ (.loop x))) _)))=>x
 | _=>.skip
noncomputable def o6:Code:=match jR with
 | .seq _ (.seq _ (.seq _ (.seq _ x)))=>x
 | _=>.skip
noncomputable def opsE:Array Oper:=match vh with
 | .seq (.region _ o _) _=>o
 | _=>#[]
noncomputable def headE (c:Nat) (x0 x1 x2 x3 x4 x5 x6 x7 x8 kX lD lF lG lH lI lJ lK lM lN lO lQ lR lU lV lW lX nk nt nu nw qE:Value) (cs:List Frame) (u9 ki jH jI jJ jK jL jM jN:Value):Goroutine :=
 G ((base 46).at ⟨#[x0,x1,x2,x3,x4,x5,x6,x7,x8,u9,kX,lD,lF,lG,lH,lI,lJ,lK,lM,lN,lO,lQ,lR,lU,lV,lW,lX,nk,nt,nu,nw,qE,.chan (some c),ki,jH,jI,jJ,jK,jL,jM,jN],[]⟩ [.code vh,.inLoop vh,.inBlock 0,.code o6]) cs
abbrev zE:Value:=(.agg #[.pointer none,.int .i64 0,.int .i64 0,.int .i64 0,.bool false])
noncomputable def endE (c:Nat) (x0 x1 x2 x3 x4 x5 x6 x7 x8 kX lD lF lG lH lI lJ lK lM lN lO lQ lR lU lV lW lX nk nt nu nw qE:Value) (cs:List Frame) (u9 _u33 jH jI jJ jK jL jM jN:Value):Goroutine :=
 G ((base 46).at ⟨#[x0,x1,x2,x3,x4,x5,x6,x7,x8,u9,kX,lD,lF,lG,lH,lI,lJ,lK,lM,lN,lO,lQ,lR,lU,lV,lW,lX,nk,nt,nu,nw,qE,.chan (some c),(.tuple #[zE,.bool false]),jH,jI,jJ,jK,jL,jM,jN],[]⟩ [.inRegion opsE [1],.code (match vh with | .seq _ y=>y | _=>.skip),.inLoop vh,.inBlock 0,.code o6]) cs
variable {c B : Nat} {M Ro : Nat → Prop}
set_option maxRecDepth 100000 in
set_option maxHeartbeats 2000000 in
theorem fin_e (H:qJ c B M Ro) (x0 x1 x2 x3 x4 x5 x6 x7 x8 kX lD lF lG lH lI lJ lK lM lN lO lQ lR lU lV lW lX nk nt nu nw qE:Value) (cs:List Frame) (u9 ki jH jI jJ jK jL jM jN:Value) (K:Goroutine->World->Prop) (S:Nat->Prop) (w:World)
  (hk:∀ w',R0w c B S w w'->K (endE c x0 x1 x2 x3 x4 x5 x6 x7 x8 kX lD lF lG lH lI lJ lK lM lN lO lQ lR lU lV lW lX nk nt nu nw qE cs u9 ki jH jI jJ jK jL jM jN) w'):SA Tryz.prog c zE (R0w c B) (tu B M) (CA1 B M) K [] S (headE c x0 x1 x2 x3 x4 x5 x6 x7 x8 kX lD lF lG lH lI lJ lK lM lN lO lQ lR lU lV lW lX nk nt nu nw qE cs u9 ki jH jI jJ jK jL jM jN) w:=by
 have PP:=gI c B M Ro H
 have TT:=PP.t0
 refine SA.kh PP ?_
 simp only [headE,endE,vh,o6,opsE,jR,Tryz.f46,Option.getD_some] at hk ⊢
 refine RT.seq TT ?_
 refine RT.region TT ?_
 simp only [List.size_toArray,List.length_cons,List.length_nil,Nat.reduceAdd,Nat.zero_add,List.range,List.range.loop]
 refine .stop fun w₁ h₁=>SA.fin rfl (fun bF h₂=>⟨_,stepG_comm (P:=Tryz.prog) (cases:=#[rcase c zE]) (blocking:=true) (shape:=.recv true) (w':=bF) rfl (by rfl) (by simp [base]) (by simp [execOp,go_sem];rfl),by rw [listed_nil (by simp [go_sem])];simp⟩) (fun bF h₂=>hk bF (TT.trans _ _ _ _ h₁ h₂))
set_option maxRecDepth 100000 in
set_option maxHeartbeats 2000000 in
theorem round_e (H : qJ c B M Ro) (x0 x1 x2 x3 x4 x5 x6 x7 x8 kX lD lF lG lH lI lJ lK lM lN lO lQ lR lU lV lW lX nk nt nu nw qE : Value) (cs : List Frame) (K : Goroutine → World → Prop) (L : List Value) (ss : List bt) (num time : Int) (ps : List bC) (hMs : ∀ b, Ms ss b → M b) (hn : ∀ s ∈ ss, s.n ≤ 1000000)
  (k : Nat) (s : bt) (p : bC) (hs : ss[k]? = some s) (hp : ps[k]? = some p) (hps : p.cG = some ⟨s.cj, 0, none⟩) (bW : World) (u9 ki jH jI jJ jK jL jM jN : Value) (S : Nat → Prop) (w : World) (now : List bt)
  (hG : H0 c B M (fun _ => False) bW S w []) (hT : gP B ss num time ps k S w now)
  (next : ∀ (u9 ki jH jI jJ jK jL jM jN : Value) (S : Nat → Prop) (w : World) (now : List bt), H0 c B M (fun _ => False) bW S w [] → gP B ss num time ps (k + 1) S w now → SA Tryz.prog c zE (R0w c B) (tu B M) (CA1 B M) K L S (headE c x0 x1 x2 x3 x4 x5 x6 x7 x8 kX lD lF lG lH lI lJ lK lM lN lO lQ lR lU lV lW lX nk nt nu nw qE cs u9 ki jH jI jJ jK jL jM jN) w) :
  SA Tryz.prog c zE (R0w c B) (tu B M) (CA1 B M) K (letter num time p :: L) S (headE c x0 x1 x2 x3 x4 x5 x6 x7 x8 kX lD lF lG lH lI lJ lK lM lN lO lQ lR lU lV lW lX nk nt nu nw qE cs u9 ki jH jI jJ jK jL jM jN) w := by
 have PP := gI c B M Ro H
 have TT := PP.t0
 have hMc : ∀ b, Ms ss b → b < B ∧ b ≠ c := fun b hb => H.m b (hMs b hb)
 have nh := fun u9 ki jH jI jJ jK jL jM jN S w now h1 h2 => SA.walk PP (next u9 ki jH jI jJ jK jL jM jN S w now h1 h2)
 clear next
 refine SA.kh PP ?_
 simp only [headE, vh, o6, jR, Tryz.f46, Option.getD_some] at nh ⊢
 refine RT.seq TT ?_
 refine RT.region TT ?_
 simp only [List.size_toArray, List.length_cons, List.length_nil, Nat.reduceAdd, Nat.zero_add, List.range, List.range.loop]
 refine .stop fun w₁ h₁ => SA.recv rfl (fun bF h₂ => ⟨_, stepG_comm (P := Tryz.prog) (cases := #[rcase c zE]) (blocking := true) (shape := .recv true) (w' := bF) rfl (by rfl) (by simp [base]) (by simp [execOp, go_sem]; rfl), by rw [listed_nil (by simp [go_sem])]; simp⟩) (fun bF h₂ => ?_)
 have h12 := TT.trans _ _ _ _ h₁ h₂
 have hSc : ∀ b, S b → b ≠ c := fun b hb e => by have := (hG.own b hb).1; have := hG.chan; omega
 replace hT : gP B ss num time ps k S bF now := hT.heap (fun _ x => x) hMc hSc (fun b hb hl hc => h12.block b hc hl hb)
 replace hG := hG.rely h12
 clear h12 h₁ h₂ w₁ w
 have hF : H0 c B (fun _ => False) S bF S bF [] := H0.start hG.own H.chan hG.base (by simp)
 refine SA.kh PP ?_
 rw [served_at rfl]
 simp only [recvd, letter, if_true]
 try walk_nrm
 refine RT.op rfl (by rfl) (by simp [base]) (fun v1 hR K hK => ?_)
 replace hF := hF.rely hR
 go_simp
 refine hK _ _ ⟨by rw [listed_nil (by simp [go_sem])]; exact TT.idle _ _, ?_⟩
 clear hK K hR
 rw [aD]
 refine RT.nil TT ?_
 refine RT.seq TT ?_
 refine RT.cond TT true (by simp [Act.eval]) ?_
 simp only [if_true]
 refine RT.skip TT ?_
 refine RT.block TT ?_
 refine RT.seq TT ?_
 refine RT.region TT ?_
 simp only [List.size_toArray, List.length_cons, List.length_nil, Nat.reduceAdd, Nat.zero_add, List.range, List.range.loop]
 refine RT.op rfl (by rfl) (by simp [base]) (fun v2 hR K hK => ?_)
 replace hF := hF.rely hR
 go_simp
 refine hK _ _ ⟨by rw [listed_nil (by simp [go_sem])]; exact TT.idle _ _, ?_⟩
 clear hK K hR
 rw [aD]
 refine RT.op rfl (by rfl) (by simp [base]) (fun v3 hR K hK => ?_)
 replace hF := hF.rely hR
 go_simp
 refine hK _ _ ⟨by rw [listed_nil (by simp [go_sem])]; exact tu.alloc _ _ _, ?_⟩
 clear hK K hR
 have hz3 := hF.size
 have ht3 : grow S v3 (v3.alloc (.cells #[.pointer none, .int .i64 0, .int .i64 0, .int .i64 0, .bool false] 165)) v3.heap.size := .inr ⟨Nat.le_refl _, by rw [aG]; exact Nat.lt_succ_self _⟩
 replace hF := hF.alloc (.cells #[.pointer none, .int .i64 0, .int .i64 0, .int .i64 0, .bool false] 165)
 generalize grow _ v3 (v3.alloc (.cells #[.pointer none, .int .i64 0, .int .i64 0, .int .i64 0, .bool false] 165)) = T3 at hF ht3 ⊢
 generalize pU : v3.heap.size = b3 at hF ht3 hz3 ⊢
 generalize v3.alloc (.cells #[.pointer none, .int .i64 0, .int .i64 0, .int .i64 0, .bool false] 165) = u3 at hF ⊢
 clear pU v3
 refine RT.op rfl (by rfl) (by simp [base]) (fun w₅ hR K hK => ?_)
 replace hF := hF.rely hR
 have hb := hF.get (.head _)
 have lj := hF.cell (i := 0) (.head _) rfl
 have kJ := hF.cell (i := 1) (.head _) rfl
 have hc2 := hF.cell (i := 2) (.head _) rfl
 have r_ := hF.cell (i := 3) (.head _) rfl
 have hc4 := hF.cell (i := 4) (.head _) rfl
 have hz : ∀ i, w₅.frozen? ⟨b3, i, none⟩ = false := fun i => by simp [World.frozen?, hb]
 go_simp
 refine hK _ _ ⟨?_, ?_⟩
 ·refine tu.sets (b := b3) (.inl ht3) (by simp only [cn]) (fun k hk => (aT _ _ _ hk).trans ((aT _ _ _ hk).trans ((aT _ _ _ hk).trans ((aT _ _ _ hk).trans (aT _ _ _ hk))))) (fun e he => ?_)
  have hm := mem_listed he
  simp [go_sem, events_store (v := Value.bool p.v) (hv := rfl), events_store (v := Value.pointer (some ⟨s.cj, 0, none⟩)) (hv := rfl), *] at hm
  rcases hm with rfl | rfl | rfl | rfl | rfl <;> exact ⟨_, rfl, rfl⟩
 clear hK K hb lj kJ hc2 r_ hc4 hz hR
 rw [l7 _ (by simp only [cn])]
 replace hF := (((((hF.set (i := 0) (v := (.pointer (some ⟨s.cj, 0, none⟩))) (.inl hz3) (by simp)).set (i := 1) (v := (.int .i64 num)) (.inl hz3) (by simp)).set (i := 2) (v := (.int .i64 time)) (.inl hz3) (by simp)).set (i := 3) (v := (.int .i64 p.cu)) (.inl hz3) (by simp)).set (i := 4) (v := (.bool p.v)) (.inl hz3) (by simp))
 simp only [List.setIfInBounds_toArray, List.set_cons_zero, List.set_cons_succ] at hF
 generalize (((((w₅.setCell ⟨b3, 0, none⟩ (.pointer (some ⟨s.cj, 0, none⟩))).setCell ⟨b3, 1, none⟩ (.int .i64 num)).setCell ⟨b3, 2, none⟩ (.int .i64 time)).setCell ⟨b3, 3, none⟩ (.int .i64 p.cu)).setCell ⟨b3, 4, none⟩ (.bool p.v)) = u5 at hF ⊢
 clear w₅ u3
 refine RT.nil TT ?_
 refine RT.region TT ?_
 simp only [List.size_toArray, List.length_cons, List.length_nil, Nat.reduceAdd, Nat.zero_add, List.range, List.range.loop]
 refine RT.op rfl (by rfl) (by simp [base]) (fun v6 hR K hK => ?_)
 replace hF := hF.rely hR
 go_simp
 refine hK _ _ ⟨by rw [listed_nil (by simp [go_sem])]; exact TT.idle _ _, ?_⟩
 clear hK K hR
 rw [aD]
 refine RT.op rfl (by rfl) (by simp [base]) (fun v7 hR K hK => ?_)
 replace hF := hF.rely hR
 have lj := hF.cell (i := 0) (.head _) rfl
 go_simp
 refine hK _ _ ⟨?_, ?_⟩
 ·refine tu.reads fun e he => ?_
  have hm := mem_listed he
  simp [go_sem, *] at hm
  rcases hm with rfl <;> exact hF.read (.head _) rfl
 clear hK K hR
 rw [aD]
 refine RT.op rfl (by rfl) (by simp [base]) (fun v8 hR K hK => ?_)
 replace hF := hF.rely hR
 go_simp
 refine hK _ _ ⟨by rw [listed_nil (by simp [go_sem])]; exact TT.idle _ _, ?_⟩
 clear hK K hR
 rw [aD]
 refine RT.op rfl (by rfl) (by simp [base]) (fun v9 hR K hK => ?_)
 replace hF := hF.rely hR
 have kJ := hF.cell (i := 1) (.head _) rfl
 have hc2 := hF.cell (i := 2) (.head _) rfl
 have r_ := hF.cell (i := 3) (.head _) rfl
 have hc4 := hF.cell (i := 4) (.head _) rfl
 go_simp
 refine hK _ _ ⟨?_, ?_⟩
 ·refine tu.reads fun e he => ?_
  have hm := mem_listed he
  simp [go_sem, *] at hm
  rcases hm with rfl | rfl | rfl | rfl <;> exact hF.read (.head _) rfl
 clear hK K hR
 rw [aD]
 refine RT.call TT (f := 89) (Post := fun _ S' w' => ∃ y1 tq, H0 c B (fun _ => False) S bF T3 y1 [] ∧ H0 c B (fun b => b = s.cj ∨ s.sv.ownBlock = some b) T3 y1 S' w' [(s.cj, .cells #[tq] 177 (0, 0))] ∧ w'.ownsRow 0 59 4 tq (s.n + 1) (s.xs ++ bO num time p.cu p.v) ∧ (tq.ownBlock = s.sv.ownBlock ∨ ∃ g, tq.ownBlock = some g ∧ S' g ∧ y1.heap.size ≤ g)) rfl (by rfl) (by simp [base]) rfl Tryz.func89 (by decide) (by rfl) (fun y1 hR => ?call) ?next
 case call =>
  replace hF := (hF.rely hR).less (fs' := []) (by simp)
  have hT1 : gP B ss num time ps k T3 y1 now := hT.heap hF.mine hMc hSc (fun b hb hl hc => hF.keep b hb hl hc (fun x => x))
  have hnk : now[k]? = some s := (hT1.rest k (Nat.le_refl _)).trans hs
  have se := hT1.ok s (List.mem_of_getElem? hnk)
  have hsm : s ∈ ss := List.mem_of_getElem? hs
  have hm1 := hMs s.cj ⟨s, hsm, .inl rfl⟩
  have := take_c H s.cj s.sv s.n s.xs num time p.cu p.v T3 y1 hF.own hF.base (H.m _ hm1).1 hm1 se.1 se.2 (fun g hg => ⟨(hMc g ⟨s, hsm, .inr hg⟩).1, hMs g ⟨s, hsm, .inr hg⟩⟩) (hn s hsm)
  simp only [List.map_toArray, List.map_cons, List.map_nil]
  change ic Tryz.prog true (R0w c B) (tu B M) 89 #[.pointer (some ⟨s.cj, 0, none⟩), .agg #[.int .i64 num, .int .i64 time, .int .i64 p.cu, .bool p.v]] _ y1 _
  refine ic.mono this ?_
  rintro _ S' w' ⟨tq, r1, r2, r3⟩
  exact ⟨y1, tq, hF, r1, r2, r3⟩
 rintro v S' w' ⟨y1, tq, hF1, r1, r2, r3⟩
 have hT1 : gP B ss num time ps k T3 y1 now := hT.heap hF1.mine hMc hSc (fun b hb hl hc => hF1.keep b hb hl hc (fun x => x))
 obtain ⟨now', rZ⟩ := hT1.step hs hp hMc r1 r2 r3
 have hsm : s ∈ ss := List.mem_of_getElem? hs
 have hG2 : H0 c B M (fun _ => False) bW S' w' [] := (hG.step hF1 (fun _ x => x.elim) (by simp)).step r1 (fun b hb => hb.elim (fun e => hMs b ⟨s, hsm, .inl e⟩) (fun e => hMs b ⟨s, hsm, .inr e⟩)) (by simp)
 try walk_nrm
 refine RT.nil TT ?_
 refine RT.inBlock TT ?_
 refine RT.inLoop TT ?_
 exact nh _ _ _ _ _ _ _ _ _ S' w' now' hG2 rZ
theorem from_e (H:qJ c B M Ro) (x0 x1 x2 x3 x4 x5 x6 x7 x8 kX lD lF lG lH lI lJ lK lM lN lO lQ lR lU lV lW lX nk nt nu nw qE:Value) (cs:List Frame) (K:Goroutine->World->Prop) (ss:List bt) (num time:Int) (ps:List bC) (hMs:∀ b,Ms ss b->M b) (hn:∀ s∈ss,s.n<=1000000)
  (hlen:ss.length=ps.length) (hps:∀ (i:Nat) (s:bt) (p:bC),ss[i]? = some s->ps[i]? = some p->p.cG=some ⟨s.cj,0,none⟩) (bW:World)
  (hk:∀ (u9 ki jH jI jJ jK jL jM jN:Value) (S:Nat->Prop) (w:World) (now:List bt),H0 c B M (fun _=>False) bW S w []->gP B ss num time ps ps.length S w now->K (endE c x0 x1 x2 x3 x4 x5 x6 x7 x8 kX lD lF lG lH lI lJ lK lM lN lO lQ lR lU lV lW lX nk nt nu nw qE cs u9 ki jH jI jJ jK jL jM jN) w) :
  ∀ (m k:Nat),k+m=ps.length->∀ (u9 ki jH jI jJ jK jL jM jN:Value) (S:Nat->Prop) (w:World) (now:List bt),H0 c B M (fun _=>False) bW S w []->gP B ss num time ps k S w now->
   SA Tryz.prog c zE (R0w c B) (tu B M) (CA1 B M) K ((ps.drop k).map (letter num time)) S (headE c x0 x1 x2 x3 x4 x5 x6 x7 x8 kX lD lF lG lH lI lJ lK lM lN lO lQ lR lU lV lW lX nk nt nu nw qE cs u9 ki jH jI jJ jK jL jM jN) w
 | 0,k,hkm,u9,ki,jH,jI,jJ,jK,jL,jM,jN,S,w,now,hG,hT=>by
  have hkl:k=ps.length:=by omega
  subst hkl
  rw [List.drop_length]
  refine fin_e H x0 x1 x2 x3 x4 x5 x6 x7 x8 kX lD lF lG lH lI lJ lK lM lN lO lQ lR lU lV lW lX nk nt nu nw qE cs u9 ki jH jI jJ jK jL jM jN K S w fun w' hR=>?_
  have hSc:∀ b,S b->b≠c:=fun b hb e=>by have:=(hG.own b hb).1;have:=hG.chan;omega
  exact hk u9 ki jH jI jJ jK jL jM jN S w' now (hG.rely hR) (hT.heap (fun _ x=>x) (fun b hb=>H.m b (hMs b hb)) hSc (fun b hb hl hc=>hR.block b hc hl hb))
 | m+1,k,hkm,u9,ki,jH,jI,jJ,jK,jL,jM,jN,S,w,now,hG,hT=>by
  have hkl:k<ps.length:=by omega
  rw [List.drop_eq_getElem_cons hkl,List.map_cons]
  have hks:k<ss.length:=by omega
  exact round_e H x0 x1 x2 x3 x4 x5 x6 x7 x8 kX lD lF lG lH lI lJ lK lM lN lO lQ lR lU lV lW lX nk nt nu nw qE cs K _ ss num time ps hMs hn k ss[k] ps[k] (List.getElem?_eq_getElem hks) (List.getElem?_eq_getElem hkl) (hps k _ _ (List.getElem?_eq_getElem hks) (List.getElem?_eq_getElem hkl)) bW u9 ki jH jI jJ jK jL jM jN S w now hG hT
   fun u9 ki jH jI jJ jK jL jM jN S w now h1 h2=>from_e H x0 x1 x2 x3 x4 x5 x6 x7 x8 kX lD lF lG lH lI lJ lK lM lN lO lQ lR lU lV lW lX nk nt nu nw qE cs K ss num time ps hMs hn hlen hps bW hk m (k+1) (by omega) u9 ki jH jI jJ jK jL jM jN S w now h1 h2
end Lf
namespace Lf
open Go Go.Conc Go.RowKit
open Go.Proofs (Tryz.f46 Tryz.f88 Tryz.prog Tryz.func46 Tryz.ntmps46 Tryz.func88 Tryz.ntmps88 Tryz.func89)
noncomputable def wGo (w:World) (pv:Value) (num time:Int) (at_ sv:Value) (N:Nat):World :=
 ((((w.alloc (.cells #[pv] 151)).alloc (.cells #[.int .i64 num,.int .i64 time,at_,sv] 159)).alloc (.chan N #[] false 0 0 false)).alloc (.cells #[.chan none] 235)).setCell ⟨w.heap.size+3,0,none⟩ (.chan (some (w.heap.size+2)))
section
variable (w : World) (pv : Value) (num time : Int) (at_ sv : Value) (N : Nat)
theorem vW:(wGo w pv num time at_ sv N).heap.size=w.heap.size+4:=by unfold wGo;rw [cn,aG,aG,aG,aG]
theorem wGo_old {k:Nat} (hk:k<w.heap.size):(wGo w pv num time at_ sv N).heap[k]? = w.heap[k]?:=by
 unfold wGo
 rw [aT _ _ _ (show k≠w.heap.size+3 by omega),bw _ _ (by rw [aG,aG,aG];omega),bw _ _ (by rw [aG,aG];omega),bw _ _ (by rw [aG];omega),bw _ _ hk]
theorem wGo_p2:(wGo w pv num time at_ sv N).heap[w.heap.size]? = some (.cells #[pv] 151):=by
 unfold wGo
 rw [aT _ _ _ (show w.heap.size≠w.heap.size+3 by omega),bw _ _ (by rw [aG,aG,aG];omega),bw _ _ (by rw [aG,aG];omega),bw _ _ (by rw [aG];omega)]
 exact iF w _
theorem wGo_p3:(wGo w pv num time at_ sv N).heap[w.heap.size+1]? = some (.cells #[.int .i64 num,.int .i64 time,at_,sv] 159):=by
 unfold wGo
 rw [aT _ _ _ (show w.heap.size+1≠w.heap.size+3 by omega),bw _ _ (by rw [aG,aG,aG];omega),bw _ _ (by rw [aG,aG];omega)]
 have:=iF (w.alloc (.cells #[pv] 151)) (.cells #[.int .i64 num,.int .i64 time,at_,sv] 159)
 rwa [aG] at this
theorem wGo_c:(wGo w pv num time at_ sv N).heap[w.heap.size+2]? = some (.chan N #[] false 0 0 false):=by
 unfold wGo
 rw [aT _ _ _ (show w.heap.size+2≠w.heap.size+3 by omega),bw _ _ (by rw [aG,aG,aG];omega)]
 have:=iF ((w.alloc (.cells #[pv] 151)).alloc (.cells #[.int .i64 num,.int .i64 time,at_,sv] 159)) (.chan N #[] false 0 0 false)
 rwa [aG,aG] at this
theorem wGo_p5:(wGo w pv num time at_ sv N).heap[w.heap.size+3]? = some (.cells #[.chan (some (w.heap.size+2))] 235):=by
 unfold wGo
 have:=iF (((w.alloc (.cells #[pv] 151)).alloc (.cells #[.int .i64 num,.int .i64 time,at_,sv] 159)).alloc (.chan N #[] false 0 0 false)) (.cells #[.chan none] 235)
 rw [aG,aG,aG] at this
 exact qc (i:=0) (v:=.chan (some (w.heap.size+2))) this
end
noncomputable def body88:Code:=Tryz.f88.body.getD .skip
noncomputable def blockE:Code:=match jR with
 | .seq _ (.seq _ (.seq _ (.seq (.seq _ x) _)))=>x
 | _=>.skip
noncomputable def sR:Array Oper:=match jR with
 | .seq _ (.seq _ (.seq _ (.seq (.seq (.region _ x _) _) _)))=>x
 | _=>#[]
noncomputable def ops2S:Array Oper:=match body88 with
 | .seq _ (.seq _ (.seq (.region _ x _) _))=>x
 | _=>#[]
noncomputable def tailS:Code:=match body88 with
 | .seq _ (.seq _ (.seq _ x))=>x
 | _=>.skip
variable {w : World} {Ro : Nat → Prop}
set_option maxRecDepth 100000 in
set_option maxHeartbeats 2000000 in
theorem behind_go (pa : Option Addr) (cap : Nat) (num time : Int) (at_ sv : Value) (ss : List bt) (ps : List bC) (H : qJ (w.heap.size + 2) (w.heap.size + 4) (Ms ss) Ro) (hn : ∀ s ∈ ss, s.n ≤ 1000000)
  (hlen : ss.length = ps.length) (hps : ∀ (i : Nat) (s : bt) (p : bC), ss[i]? = some s → ps[i]? = some p → p.cG = some ⟨s.cj, 0, none⟩) (se : ∀ s ∈ ss, eG w s) (jD : Apart ss) (x0 x1 x2 x3 x4 x5 x6 x7 x8 kX lD lF lG lH lI lJ lK lM lN lO lQ lR lU lV lW lX nk nt nu nw qE x32 : Value) (cs : List Frame) (u9 ki jH jI jJ jK jL jM jN y6 y7 y9 : Value) (w₁ : World) (hw₁ : w₁.heap = (wGo w (.slice pa ps.length cap) num time at_ sv ps.length).heap)
  (K : Goroutine → World → Prop) (hK : ∀ (u9 ki jH jI jJ jK jL jM jN : Value) (S : Nat → Prop) (w' : World) (now : List bt), H0 (w.heap.size + 2) (w.heap.size + 4) (Ms ss) (fun _ => False) w₁ S w' [] → gP (w.heap.size + 4) ss num time ps ps.length S w' now → K (endE (w.heap.size + 2) x0 x1 x2 x3 x4 x5 x6 x7 x8 kX lD lF lG lH lI lJ lK lM lN lO lQ lR lU lV lW lX nk nt nu nw qE cs u9 ki jH jI jJ jK jL jM jN) w') :
  SA Tryz.prog (w.heap.size + 2) zE (R0w (w.heap.size + 2) (w.heap.size + 4)) (tu (w.heap.size + 4) (Ms ss)) (CA1 (w.heap.size + 4) (Ms ss)) K (ps.map (letter num time)) (fun _ => False)
   (G ((base 88).at ⟨#[.slice pa ps.length cap, .agg #[.int .i64 num, .int .i64 time, at_, sv], .pointer (some ⟨w.heap.size, 0, none⟩), .pointer (some ⟨w.heap.size + 1, 0, none⟩), .chan none, .pointer (some ⟨w.heap.size + 3, 0, none⟩), y6, y7, .chan (some (w.heap.size + 2)), y9, undef], []⟩ [.inRegion ops2S [], .code tailS]) (((base 46).at ⟨#[x0, x1, x2, x3, x4, x5, x6, x7, x8, u9, kX, lD, lF, lG, lH, lI, lJ, lK, lM, lN, lO, lQ, lR, lU, lV, lW, lX, nk, nt, nu, nw, qE, x32, ki, jH, jI, jJ, jK, jL, jM, jN], []⟩ [.inRegion sR [5], .code blockE, .code o6]) :: cs)) w₁ := by
 have oK : w₁.heap.size = w.heap.size + 4 := by rw [hw₁]; exact vW _ _ _ _ _ _ _
 have hold : ∀ k, k < w.heap.size → w₁.heap[k]? = w.heap[k]? := fun k hk => by rw [hw₁]; exact wGo_old _ _ _ _ _ _ _ hk
 have hp5 : w₁.heap[w.heap.size + 3]? = some (.cells #[.chan (some (w.heap.size + 2))] 235) := by rw [hw₁]; exact wGo_p5 _ _ _ _ _ _ _
 have PP := gI _ _ _ _ H
 have TT := PP.t0
 generalize hc : w.heap.size + 2 = c at *
 generalize hB : w.heap.size + 4 = B at *
 generalize hq : w.heap.size + 3 = p5 at *
 have hF : H0 c B (fun _ => False) (fun _ => False) w₁ (fun _ => False) w₁ [(p5, .cells #[.chan (some c)] 235)] := H0.start (fun _ x => x.elim) H.chan (by omega) (by intro p hp; simp at hp; subst hp; exact ⟨.inr (show p5 < B by omega), (show p5 ≠ c by omega), hp5⟩)
 have hT : gP B ss num time ps 0 (fun _ => False) w₁ ss := gP.start (fun s hs => (se s hs).heap fun b hb _ => hold b hb) jD
 have hgo := from_e H x0 x1 x2 x3 x4 x5 x6 x7 x8 kX lD lF lG lH lI lJ lK lM lN lO lQ lR lU lV lW lX nk nt nu nw qE cs K ss num time ps (fun _ x => x) hn hlen hps w₁ hK ps.length 0 (by omega)
 rw [List.drop_zero] at hgo
 refine SA.kh PP ?_
 simp only [headE, vh, o6, ops2S, tailS, body88, Tryz.f88, sR, blockE, jR, Tryz.f46, Option.getD_some] at hgo ⊢
 refine RT.nil TT ?_
 refine RT.seq TT ?_
 refine RT.region TT ?_
 simp only [List.size_toArray, List.length_cons, List.length_nil, Nat.reduceAdd, Nat.zero_add, List.range, List.range.loop]
 refine RT.op rfl (by rfl) (by simp [base]) (fun v1 hR K hK => ?_)
 replace hF := hF.rely hR
 have lj := hF.cell (i := 0) (.head _) rfl
 go_simp
 refine hK _ _ ⟨?_, ?_⟩
 ·refine tu.reads fun e he => ?_
  have hm := mem_listed he
  simp [go_sem, *] at hm
  rcases hm with rfl <;> exact hF.read (.head _) rfl
 clear hK K hR
 rw [aD]
 refine RT.op rfl (by rfl) (by simp [base]) (fun v2 hR K hK => ?_)
 replace hF := hF.rely hR
 go_simp
 refine hK _ _ ⟨by rw [listed_nil (by simp [go_sem])]; exact TT.idle _ _, ?_⟩
 clear hK K hR
 rw [aD]
 refine RT.nil TT ?_
 refine RT.ret TT ?_
 refine RT.leave TT (v := .chan (some c)) rfl rfl Tryz.func88 (fun w₉ hR9 => ⟨by simp [results, go_sem, Tryz.f88], ?_⟩) ?_
 ·rw [show ∀ t, Sem.events Tryz.prog (results Tryz.f88 t) w₉ #[] = #[] from fun t => by simp [results, go_sem, Tryz.f88], seen_none]; exact TT.idle _ _
 rw [Frame.finish_at]
 change RT Tryz.prog true (R0w c B) (tu B (Ms ss)) _ _ (G ((base 46).at ⟨#[x0, x1, x2, x3, x4, x5, x6, x7, x8, u9, kX, lD, lF, lG, lH, lI, lJ, lK, lM, lN, lO, lQ, lR, lU, lV, lW, lX, nk, nt, nu, nw, qE, .chan (some c), ki, jH, jI, jJ, jK, jL, jM, jN], []⟩ _) cs) _
 refine RT.nil TT ?_
 refine RT.block TT ?_
 refine RT.loop TT ?_
 have hG : H0 c B (Ms ss) (fun _ => False) w₁ (fun _ => False) v2 [] := (H0.start (fs := []) (fun _ x => x.elim) H.chan (by omega) (by simp)).step hF (fun _ x => x.elim) (by simp)
 have rZ : gP B ss num time ps 0 (fun _ => False) v2 ss := hT.heap (c := c) (fun _ x => x) (fun b hb => H.m b hb) (fun _ x => x.elim) (fun b hb hl hc => hF.keep b hb hl hc (fun x => x))
 exact SA.walk PP (hgo u9 ki jH jI jJ jK jL jM jN _ _ _ hG rZ)
end Lf
namespace Lf
open Go Go.Conc Go.RowKit
open Go.Proofs (Tryz.f46 Tryz.f88 Tryz.prog Tryz.func46 Tryz.ntmps46 Tryz.func88 Tryz.ntmps88 Tryz.func89)
theorem infoLetter:(Tryz.prog.info? 165).map (fun i=>i.bytes)=some 40:=by kernel_rfl
theorem skip_eq_of {r:Result Next} {w:World} (h:∀ K:Result Next->Prop,K (.ok .skip w)->K r):r=.ok .skip w:=h (·=.ok .skip w) rfl
variable {w : World} {Ro : Nat → Prop}
set_option maxRecDepth 100000 in
set_option maxHeartbeats 2000000 in
theorem send_e (pa:Option Addr) (cap:Nat) (num time:Int) (at_ sv:Value) (ss:List bt) (ps:List bC) (H:qJ (w.heap.size+2) (w.heap.size+4) (Ms ss) Ro) (hn:∀ s∈ss,s.n<=1000000) (hN:ps.length<=1000000)
  (hlen:ss.length=ps.length) (hps:∀ (i:Nat) (s:bt) (p:bC),ss[i]? = some s->ps[i]? = some p->p.cG=some ⟨s.cj,0,none⟩) (se:∀ s∈ss,eG w s) (jD:Apart ss) (x0 x1 x2 x3 x4 x5 x6 x7 x8 kX lD lF lG lH lI lJ lK lM lN lO lQ lR lU lV lW lX nk nt nu nw qE x32:Value) (cs:List Frame) (bn:∀ fr∈cs,aA fr) (u9 ki jH jI jJ jK jL jM jN:Value)
  (hB:∀ w₁:World,w₁.heap=(wGo w (.slice pa ps.length cap) num time at_ sv ps.length).heap->SB Tryz.prog (w.heap.size+2) (RBw (w.heap.size+2) Ro) (mY (w.heap.size+2) Ro) (CB1 (w.heap.size+2) Ro) ps.length (ps.map (letter num time)) (fun _=>False) (born Tryz.prog (call133 (w.heap.size+3) w.heap.size (w.heap.size+1))) w₁) :
  af Tryz.prog (fun g w'=>∃ (u9 ki jH jI jJ jK jL jM jN:Value) (S:Nat->Prop) (now:List bt) (w₁:World),w₁.heap=(wGo w (.slice pa ps.length cap) num time at_ sv ps.length).heap/\w₁.os=w.os/\w₁.output=w.output/\H0 (w.heap.size+2) (w.heap.size+4) (Ms ss) (fun _=>False) w₁ S w' []/\gP (w.heap.size+4) ss num time ps ps.length S w' now/\g=endE (w.heap.size+2) x0 x1 x2 x3 x4 x5 x6 x7 x8 kX lD lF lG lH lI lJ lK lM lN lO lQ lR lU lV lW lX nk nt nu nw qE cs u9 ki jH jI jJ jK jL jM jN)
   (G (Frame.enter Tryz.prog 88 #[.slice pa ps.length cap,.agg #[.int .i64 num,.int .i64 time,at_,sv]] .normal) (((base 46).at ⟨#[x0,x1,x2,x3,x4,x5,x6,x7,x8,u9,kX,lD,lF,lG,lH,lI,lJ,lK,lM,lN,lO,lQ,lR,lU,lV,lW,lX,nk,nt,nu,nw,qE,x32,ki,jH,jI,jJ,jK,jL,jM,jN],[]⟩ [.inRegion sR [5],.code blockE,.code o6])::cs)) w:=by
 have hP:=bk
 have hfr:aA ((base 46).at ⟨#[x0,x1,x2,x3,x4,x5,x6,x7,x8,u9,kX,lD,lF,lG,lH,lI,lJ,lK,lM,lN,lO,lQ,lR,lU,lV,lW,lX,nk,nt,nu,nw,qE,x32,ki,jH,jI,jJ,jK,jL,jM,jN],[]⟩ [.inRegion sR [5],.code blockE,.code o6]):=iz (aJ trivial (aJ trivial (aJ trivial (by simp))))
 have ry:=og hfr bn
 have ix:∀ it∈([]:List Item),aR it:=by simp
 have dY:∀ (c:Code),∀ it∈[Item.code c],aR it:=fun c=>aJ trivial (by simp)
 have rC:∀ (c d:Code),∀ it∈[Item.code c,Item.code d],aR it:=fun c d=>aJ trivial (aJ trivial (by simp))
 obtain ⟨ti,hti,hti2⟩:=Option.map_eq_some_iff.1 infoLetter
 have hmk:∀ w:World,(Instr.makeChan 235 (.int .i64 ps.length)).run Tryz.prog w=.ok (.chan (some w.heap.size)) (w.alloc (.chan ps.length #[] false 0 0 false)):=fun w=>run_makeChan Tryz.underlying235 hti .i64 ps.length (by omega) (by rw [hti2];omega)
 rw [enter_at _ Tryz.func88 rfl]
 simp only [Tryz.ntmps88,List.size_toArray,List.length_cons,List.length_nil,Nat.reduceAdd,Nat.reduceSub,Array.replicate_succ,Array.replicate_zero,List.push_toArray,List.append_toArray,List.nil_append,List.cons_append]
 refine af.seq hP ix ry ?_
 refine af.region hP (dY _) ry ?_
 simp only [List.size_toArray,List.length_cons,List.length_nil,Nat.reduceAdd,Nat.zero_add,List.range,List.range.loop]
 refine af.val hP (w':=w.alloc (.cells #[.slice pa ps.length cap] 151)) (v:=.pointer (some ⟨w.heap.size,0,none⟩)) rfl (by rfl) (fun τ d=>run_eq_of ?r0) (dY _) ry ?_
 case r0 =>
  intro K hK
  go_simp
  exact hK
 try walk_nrm
 have s1:(w.alloc (.cells #[.slice pa ps.length cap] 151)).heap.size=w.heap.size+1:=aG _ _
 refine af.val hP (w':=(w.alloc (.cells #[.slice pa ps.length cap] 151)).alloc (.cells #[.int .i64 num,.int .i64 time,at_,sv] 159)) (v:=.pointer (some ⟨(w.alloc (.cells #[.slice pa ps.length cap] 151)).heap.size,0,none⟩)) rfl (by rfl) (fun τ d=>run_eq_of ?r1) (dY _) ry ?_
 case r1 =>
  intro K hK
  go_simp
  exact hK
 try walk_nrm
 rw [s1]
 have s2:((w.alloc (.cells #[.slice pa ps.length cap] 151)).alloc (.cells #[.int .i64 num,.int .i64 time,at_,sv] 159)).heap.size=w.heap.size+2:=by rw [aG,s1]
 refine af.val hP (w':=(w.alloc (.cells #[.slice pa ps.length cap] 151)).alloc (.cells #[.int .i64 num,.int .i64 time,at_,sv] 159)) (v:=.chan none) rfl (by rfl) (fun τ d=>run_eq_of ?r2) (dY _) ry ?_
 case r2 =>
  intro K hK
  go_simp
  exact hK
 try walk_nrm
 refine af.nil hP (dY _) ry ?_
 refine af.seq hP ix ry ?_
 refine af.region hP (dY _) ry ?_
 simp only [List.size_toArray,List.length_cons,List.length_nil,Nat.reduceAdd,Nat.zero_add,List.range,List.range.loop]
 have hp2:((w.alloc (.cells #[.slice pa ps.length cap] 151)).alloc (.cells #[.int .i64 num,.int .i64 time,at_,sv] 159)).heap[w.heap.size]? = some (.cells #[.slice pa ps.length cap] 151):=by rw [bw _ _ (by rw [s1];omega)];exact iF _ _
 refine af.val hP (w':=(w.alloc (.cells #[.slice pa ps.length cap] 151)).alloc (.cells #[.int .i64 num,.int .i64 time,at_,sv] 159)) (v:=.slice pa ps.length cap) rfl (by rfl) (fun τ d=>run_eq_of ?r3) (dY _) ry ?_
 case r3 =>
  intro K hK
  have lj:(re ((w.alloc (.cells #[.slice pa ps.length cap] 151)).alloc (.cells #[.int .i64 num,.int .i64 time,at_,sv] 159)) τ d).cell? ⟨w.heap.size,0,none⟩=some (.slice pa ps.length cap):=ae (w:=re ((w.alloc (.cells #[.slice pa ps.length cap] 151)).alloc (.cells #[.int .i64 num,.int .i64 time,at_,sv] 159)) τ d) hp2 rfl
  go_simp
  exact hK
 try walk_nrm
 refine af.val hP (w':=(w.alloc (.cells #[.slice pa ps.length cap] 151)).alloc (.cells #[.int .i64 num,.int .i64 time,at_,sv] 159)) (v:=.int .i64 ps.length) rfl (by rfl) (fun τ d=>run_eq_of ?r4) (dY _) ry ?_
 case r4 =>
  intro K hK
  go_simp
  exact hK
 try walk_nrm
 refine af.val hP (w':=((w.alloc (.cells #[.slice pa ps.length cap] 151)).alloc (.cells #[.int .i64 num,.int .i64 time,at_,sv] 159)).alloc (.chan ps.length #[] false 0 0 false)) (v:=.chan (some ((w.alloc (.cells #[.slice pa ps.length cap] 151)).alloc (.cells #[.int .i64 num,.int .i64 time,at_,sv] 159)).heap.size)) rfl (by rfl) (fun τ d=>run_eq_of ?r5) (dY _) ry ?_
 case r5 =>
  intro K hK
  go_simp
  first | exact hK | (rw [hmk];exact hK)
 try walk_nrm
 rw [s2]
 have s3:(((w.alloc (.cells #[.slice pa ps.length cap] 151)).alloc (.cells #[.int .i64 num,.int .i64 time,at_,sv] 159)).alloc (.chan ps.length #[] false 0 0 false)).heap.size=w.heap.size+3:=by rw [aG,s2]
 refine af.val hP (w':=(((w.alloc (.cells #[.slice pa ps.length cap] 151)).alloc (.cells #[.int .i64 num,.int .i64 time,at_,sv] 159)).alloc (.chan ps.length #[] false 0 0 false)).alloc (.cells #[.chan none] 235)) (v:=.pointer (some ⟨(((w.alloc (.cells #[.slice pa ps.length cap] 151)).alloc (.cells #[.int .i64 num,.int .i64 time,at_,sv] 159)).alloc (.chan ps.length #[] false 0 0 false)).heap.size,0,none⟩)) rfl (by rfl) (fun τ d=>run_eq_of ?r6) (dY _) ry ?_
 case r6 =>
  intro K hK
  go_simp
  exact hK
 try walk_nrm
 rw [s3]
 have hp4:((((w.alloc (.cells #[.slice pa ps.length cap] 151)).alloc (.cells #[.int .i64 num,.int .i64 time,at_,sv] 159)).alloc (.chan ps.length #[] false 0 0 false)).alloc (.cells #[.chan none] 235)).heap[w.heap.size+3]? = some (.cells #[.chan none] 235):=by rw [<- s3];exact iF _ _
 refine af.non hP (w':=((((w.alloc (.cells #[.slice pa ps.length cap] 151)).alloc (.cells #[.int .i64 num,.int .i64 time,at_,sv] 159)).alloc (.chan ps.length #[] false 0 0 false)).alloc (.cells #[.chan none] 235)).setCell ⟨w.heap.size+3,0,none⟩ (.chan (some (w.heap.size+2)))) rfl (by rfl) (fun τ d=>skip_eq_of ?r7) (dY _) ry ?_
 case r7 =>
  intro K hK
  have lj:(re ((((w.alloc (.cells #[.slice pa ps.length cap] 151)).alloc (.cells #[.int .i64 num,.int .i64 time,at_,sv] 159)).alloc (.chan ps.length #[] false 0 0 false)).alloc (.cells #[.chan none] 235)) τ d).cell? ⟨w.heap.size+3,0,none⟩=some (.chan none):=ae (w:=re ((((w.alloc (.cells #[.slice pa ps.length cap] 151)).alloc (.cells #[.int .i64 num,.int .i64 time,at_,sv] 159)).alloc (.chan ps.length #[] false 0 0 false)).alloc (.cells #[.chan none] 235)) τ d) hp4 rfl
  have lr:(re ((((w.alloc (.cells #[.slice pa ps.length cap] 151)).alloc (.cells #[.int .i64 num,.int .i64 time,at_,sv] 159)).alloc (.chan ps.length #[] false 0 0 false)).alloc (.cells #[.chan none] 235)) τ d).frozen? ⟨w.heap.size+3,0,none⟩=false:=by simp [World.frozen?,show (re ((((w.alloc (.cells #[.slice pa ps.length cap] 151)).alloc (.cells #[.int .i64 num,.int .i64 time,at_,sv] 159)).alloc (.chan ps.length #[] false 0 0 false)).alloc (.cells #[.chan none] 235)) τ d).heap[w.heap.size+3]? = _ from hp4]
  go_simp
  exact hK
 try walk_nrm
 refine af.nil hP (dY _) ry ?_
 refine af.seq hP ix ry ?_
 refine af.region hP (dY _) ry ?_
 simp only [List.size_toArray,List.length_cons,List.length_nil,Nat.reduceAdd,Nat.zero_add,List.range,List.range.loop]
 have hw5:(((((w.alloc (.cells #[.slice pa ps.length cap] 151)).alloc (.cells #[.int .i64 num,.int .i64 time,at_,sv] 159)).alloc (.chan ps.length #[] false 0 0 false)).alloc (.cells #[.chan none] 235)).setCell ⟨w.heap.size+3,0,none⟩ (.chan (some (w.heap.size+2)))).heap=(wGo w (.slice pa ps.length cap) num time at_ sv ps.length).heap:=rfl
 have ho5:(((((w.alloc (.cells #[.slice pa ps.length cap] 151)).alloc (.cells #[.int .i64 num,.int .i64 time,at_,sv] 159)).alloc (.chan ps.length #[] false 0 0 false)).alloc (.cells #[.chan none] 235)).setCell ⟨w.heap.size+3,0,none⟩ (.chan (some (w.heap.size+2)))).os=w.os:=rfl
 have hu5:(((((w.alloc (.cells #[.slice pa ps.length cap] 151)).alloc (.cells #[.int .i64 num,.int .i64 time,at_,sv] 159)).alloc (.chan ps.length #[] false 0 0 false)).alloc (.cells #[.chan none] 235)).setCell ⟨w.heap.size+3,0,none⟩ (.chan (some (w.heap.size+2)))).output=w.output:=rfl
 generalize (((((w.alloc (.cells #[.slice pa ps.length cap] 151)).alloc (.cells #[.int .i64 num,.int .i64 time,at_,sv] 159)).alloc (.chan ps.length #[] false 0 0 false)).alloc (.cells #[.chan none] 235)).setCell ⟨w.heap.size+3,0,none⟩ (.chan (some (w.heap.size+2))))=w5 at hw5 ho5 hu5 ⊢
 refine af.val hP (w':=w5) (v:=.func (.func 133) #[] #[.pointer (some ⟨w.heap.size+3,0,none⟩),.pointer (some ⟨w.heap.size,0,none⟩),.pointer (some ⟨w.heap.size+1,0,none⟩)]) rfl (by rfl) (fun τ d=>run_eq_of ?r8) (dY _) ry ?_
 case r8 =>
  intro K hK
  go_simp
  exact hK
 try walk_nrm
 refine af.spawn rfl (fun τ d=>⟨_,_,_,_,stepG_spawn (d:=call133 (w.heap.size+3) w.heap.size (w.heap.size+1)) (w':=re w5 τ d) rfl (by rfl) (by simp [base]) ?_ rfl,?_,?_⟩)
 ·simp [execOp,go_sem,call133]
 ·intro e he
  have hm:=mem_listed he
  simp [go_sem] at hm
 refine ⟨w.heap.size+2,zE,R0w (w.heap.size+2) (w.heap.size+4),tu (w.heap.size+4) (Ms ss),RBw (w.heap.size+2) Ro,mY (w.heap.size+2) Ro,CA1 (w.heap.size+4) (Ms ss),CB1 (w.heap.size+2) Ro,ps.length,ps.map (letter num time),?_,hB _ hw5,?_,(show w5.heap[w.heap.size+2]? = _ from hw5▸wGo_c w _ num time at_ sv ps.length),by simp⟩
 ·have e:(re w5 τ d).heap.size=w.heap.size+4:=(congrArg Array.size hw5).trans (vW w (.slice pa ps.length cap) num time at_ sv ps.length)
  rw [e];exact gI _ _ _ _ H
 try walk_nrm
 have:=behind_go (w:=w) pa cap num time at_ sv ss ps H hn hlen hps se jD x0 x1 x2 x3 x4 x5 x6 x7 x8 kX lD lF lG lH lI lJ lK lM lN lO lQ lR lU lV lW lX nk nt nu nw qE x32 cs u9 ki jH jI jJ jK jL jM jN (.slice pa ps.length cap) (.int .i64 ps.length) (.func (.func 133) #[] #[.pointer (some ⟨w.heap.size+3,0,none⟩),.pointer (some ⟨w.heap.size,0,none⟩),.pointer (some ⟨w.heap.size+1,0,none⟩)]) (re w5 τ d) hw5 (fun g w'=>∃ (u9 ki jH jI jJ jK jL jM jN:Value) (S:Nat->Prop) (now:List bt) (w₁:World),w₁.heap=(wGo w (.slice pa ps.length cap) num time at_ sv ps.length).heap/\w₁.os=w.os/\w₁.output=w.output/\H0 (w.heap.size+2) (w.heap.size+4) (Ms ss) (fun _=>False) w₁ S w' []/\gP (w.heap.size+4) ss num time ps ps.length S w' now/\g=endE (w.heap.size+2) x0 x1 x2 x3 x4 x5 x6 x7 x8 kX lD lF lG lH lI lJ lK lM lN lO lQ lR lU lV lW lX nk nt nu nw qE cs u9 ki jH jI jJ jK jL jM jN)
  (fun u9 ki jH jI jJ jK jL jM jN S w' now h1 h2=>⟨u9,ki,jH,jI,jJ,jK,jL,jM,jN,S,now,re w5 τ d,hw5,ho5,hu5,h1,h2,rfl⟩)
 simp only [ops2S,tailS,body88,Tryz.f88,Option.getD_some] at this
 exact this
end Lf
namespace Lf
open Go Go.Conc Go.RowKit
open Go.Proofs (Tryz.f46 Tryz.f88 Tryz.prog Tryz.func46 Tryz.ntmps46 Tryz.func88 Tryz.ntmps88 Tryz.func89)
variable {w : World} {Ro : Nat → Prop}
structure qH (w w':World) (ss:List bt) (num time:Int) (ps:List bC):Prop where
 os:w'.os=w.os
 output:w'.output=w.output
 size:w.heap.size<=w'.heap.size
 keep:∀ b,b<w.heap.size->¬ Ms ss b->w'.heap[b]? = w.heap[b]?
 taken:∃ (S:Nat->Prop) (now:List bt),(∀ b,S b->w.heap.size<=b)/\gP (w.heap.size+4) ss num time ps ps.length S w' now
theorem qH.re {w':World} {ss:List bt} {num time:Int} {ps:List bC} (h:qH w w' ss num time ps) (τ:Tape) (d:Nat):qH w (re w' τ d) ss num time ps:=by
 obtain ⟨h1,h2,h3,h4,S,now,h5,h6⟩:=h
 exact ⟨h1,h2,h3,h4,S,now,h5,h6.len,h6.rest,h6.done,h6.ok,h6.apart,h6.mine⟩
noncomputable def midE:Code:=match jR with
 | .seq _ (.seq _ (.seq _ (.seq x _)))=>x
 | _=>.skip
set_option maxRecDepth 100000 in
set_option maxHeartbeats 2000000 in
theorem end_e (R:Ending->World->Prop) (c:Nat) (x0 x1 x2 x3 x4 x5 x6 x7 x8 kX lD lF lG lH lI lJ lK lM lN lO lQ lR lU lV lW lX nk nt nu nw qE:Value) (cs:List Frame) (bn:∀ fr∈cs,aA fr) (u9 ki jH jI jJ jK jL jM jN:Value) (w:World) (hR:∀ τ d,R (.returned .nilIface) (re w τ d)) :
  af Tryz.prog (fun g w'=>∃ e fr,g=G fr cs/\aA fr/\R e w'/\fr.fn=46/\fr.leaving Tryz.prog w' e) (endE c x0 x1 x2 x3 x4 x5 x6 x7 x8 kX lD lF lG lH lI lJ lK lM lN lO lQ lR lU lV lW lX nk nt nu nw qE cs u9 ki jH jI jJ jK jL jM jN) w:=by
 have hP:=bk
 have hi4:∀ (a b d:Code),∀ it∈[Item.code a,.inLoop b,.inBlock 0,.code d],aR it:=fun a b d=>aJ trivial (aJ trivial (aJ trivial (aJ trivial (by simp))))
 have hi3:∀ (b d:Code),∀ it∈[Item.inLoop b,.inBlock 0,.code d],aR it:=fun b d=>aJ trivial (aJ trivial (aJ trivial (by simp)))
 have dY:∀ (c:Code),∀ it∈[Item.code c],aR it:=fun c=>aJ trivial (by simp)
 have ix:∀ it∈([]:List Item),aR it:=by simp
 simp only [endE,vh,o6,opsE,jR,Tryz.f46,Option.getD_some]
 refine af.val hP (w':=w) (v:=.bool false) rfl (by rfl) (fun τ d=>run_eq_of ?r0) (hi4 _ _ _) bn ?_
 case r0=>intro K hK;go_simp;exact hK
 try walk_nrm
 refine af.nil hP (hi4 _ _ _) bn ?_
 refine af.seq hP (hi3 _ _) bn ?_
 refine af.code (Q:=fun e a' w'=>e=.exit 0/\a'=_/\∃ τ d,w'=re w τ d) (e_.cond hP (t:=false) rfl (e_.exit hP (fun τ d=>⟨rfl,rfl,τ,d,rfl⟩))) ⟨hi4 _ _ _,bn,fun id a w x=>by obtain ⟨x,_⟩:=x;cases x;exact ⟨_,rfl⟩,fun id a w x=>by cases x.1⟩ (fun e a' w' g x y=>?_)
 obtain ⟨rfl,rfl,τ,d,rfl⟩:=x
 obtain ⟨k',hk',rfl⟩:=y
 cases hk'
 refine af.other ?_ τ d
 refine af.seq hP ix bn ?_
 refine af.region hP (dY _) bn ?_
 simp only [List.size_toArray,List.length_cons,List.length_nil,Nat.zero_add,List.range,List.range.loop]
 refine af.val hP (w':=w) (v:=.nilIface) rfl (by rfl) (fun τ d=>run_eq_of ?r1) (dY _) bn ?_
 case r1=>intro K hK;go_simp;exact hK
 try walk_nrm
 refine af.nil hP (dY _) bn ?_
 exact af.ret hP ix bn Tryz.func46 rfl (fun τ d=>by simp [results,go_sem,Tryz.f46]) hR
set_option maxRecDepth 100000 in
set_option maxHeartbeats 4000000 in
theorem rest_e (aj nU:Nat) (pa:Option Addr) (cap:Nat) (num time:Int) (at_ sv:Value) (ss:List bt) (ps:List bC) (H:qJ (w.heap.size+2) (w.heap.size+4) (Ms ss) Ro) (hn:∀ s∈ss,s.n<=1000000) (hN:ps.length<=1000000)
  (hlen:ss.length=ps.length) (hps:∀ (i:Nat) (s:bt) (p:bC),ss[i]? = some s->ps[i]? = some p->p.cG=some ⟨s.cj,0,none⟩) (se:∀ s∈ss,eG w s) (jD:Apart ss) (x1 x2 x3 x4 x5 x6 x7 kX lD lF lG lH lI lJ lK lM lN lO lQ lR lU lV lW lX nk nt nu nw qE x32:Value) (cs:List Frame) (bn:∀ fr∈cs,aA fr) (u9 ki jH jI jJ jK jL jM jN:Value)
  (r1 r2 r3 r4:Value) (hwt:w.heap[aj]? = some (.cells #[r1,r2,r3,r4,.slice pa ps.length cap] 153 (0,0))) (js:w.heap[nU]? = some (.cells #[.int .i64 num,.int .i64 time,at_,sv] 159 (0,0)))
  (hB:∀ w₁:World,w₁.heap=(wGo w (.slice pa ps.length cap) num time at_ sv ps.length).heap->SB Tryz.prog (w.heap.size+2) (RBw (w.heap.size+2) Ro) (mY (w.heap.size+2) Ro) (CB1 (w.heap.size+2) Ro) ps.length (ps.map (letter num time)) (fun _=>False) (born Tryz.prog (call133 (w.heap.size+3) w.heap.size (w.heap.size+1))) w₁) :
  af Tryz.prog (fun g w'=>∃ e fr,g=G fr cs/\aA fr/\(e=.returned .nilIface/\qH w w' ss num time ps)/\fr.fn=46/\fr.leaving Tryz.prog w' e) (G ((base 46).at ⟨#[(.pointer (some ⟨aj,0,none⟩)),x1,x2,x3,x4,x5,x6,x7,(.pointer (some ⟨nU,0,none⟩)),u9,kX,lD,lF,lG,lH,lI,lJ,lK,lM,lN,lO,lQ,lR,lU,lV,lW,lX,nk,nt,nu,nw,qE,x32,ki,jH,jI,jJ,jK,jL,jM,jN],[]⟩ [.code midE,.code o6]) cs) w:=by
 have hP:=bk
 have ix:∀ it∈([]:List Item),aR it:=by simp
 have dY:∀ (c:Code),∀ it∈[Item.code c],aR it:=fun c=>aJ trivial (by simp)
 have rC:∀ (c d:Code),∀ it∈[Item.code c,Item.code d],aR it:=fun c d=>aJ trivial (aJ trivial (by simp))
 have last:af Tryz.prog (fun g w'=>∃ e fr,g=G fr cs/\aA fr/\(e=.returned .nilIface/\qH w w' ss num time ps)/\fr.fn=46/\fr.leaving Tryz.prog w' e) (G ((base 46).at ⟨#[(.pointer (some ⟨aj,0,none⟩)),x1,x2,x3,x4,x5,x6,x7,(.pointer (some ⟨nU,0,none⟩)),u9,kX,lD,lF,lG,lH,lI,lJ,lK,lM,lN,lO,lQ,lR,lU,lV,lW,lX,(.pointer (some ⟨aj,0,none⟩)),(.pointer (some ⟨aj,0,none⟩)),(.pointer (some ⟨aj,4,none⟩)),(.slice pa ps.length cap),(.agg #[.int .i64 num,.int .i64 time,at_,sv]),x32,ki,jH,jI,jJ,jK,jL,jM,jN],[]⟩ [.inRegion sR [5],.code blockE,.code o6]) cs) w:=by
  have hs:=send_e pa cap num time at_ sv ss ps H hn hN hlen hps se jD (.pointer (some ⟨aj,0,none⟩)) x1 x2 x3 x4 x5 x6 x7 (.pointer (some ⟨nU,0,none⟩)) kX lD lF lG lH lI lJ lK lM lN lO lQ lR lU lV lW lX (.pointer (some ⟨aj,0,none⟩)) (.pointer (some ⟨aj,0,none⟩)) (.pointer (some ⟨aj,4,none⟩)) (.slice pa ps.length cap) (.agg #[.int .i64 num,.int .i64 time,at_,sv]) x32 cs bn u9 ki jH jI jJ jK jL jM jN hB
  have hr:∀ τ d,(execOp (Act.eval ⟨#[(.pointer (some ⟨aj,0,none⟩)),x1,x2,x3,x4,x5,x6,x7,(.pointer (some ⟨nU,0,none⟩)),u9,kX,lD,lF,lG,lH,lI,lJ,lK,lM,lN,lO,lQ,lR,lU,lV,lW,lX,(.pointer (some ⟨aj,0,none⟩)),(.pointer (some ⟨aj,0,none⟩)),(.pointer (some ⟨aj,4,none⟩)),(.slice pa ps.length cap),(.agg #[.int .i64 num,.int .i64 time,at_,sv]),x32,ki,jH,jI,jJ,jK,jL,jM,jN],[]⟩) (sR.getD 5 default)).run Tryz.prog (re w τ d)=.ok (.enter 88 #[.slice pa ps.length cap,.agg #[.int .i64 num,.int .i64 time,at_,sv]]) (re w τ d):=fun τ d=>by rw [run_call_body (o:=sR.getD 5 default) (args:=#[.tmp 30,.tmp 31]) (ats:=#[151,159]) rfl Tryz.func88 (by decide) rfl];simp only [List.map_toArray,List.map_cons,List.map_nil];rfl
  refine af.enter hP (o:=sR.getD 5 default) (by simp [sR,jR,Tryz.f46]) (by simp [sR,jR,Tryz.f46,Region.wanted]) hr (rC _ _) bn (hs.trans ?_)
  rintro g w' ⟨u9,ki,jH,jI,jJ,jK,jL,jM,jN,S,now,w₁,e1,e2,e3,h1,h2,rfl⟩
  refine end_e (fun e w'=>e=.returned .nilIface/\qH w w' ss num time ps) _ (.pointer (some ⟨aj,0,none⟩)) x1 x2 x3 x4 x5 x6 x7 (.pointer (some ⟨nU,0,none⟩)) kX lD lF lG lH lI lJ lK lM lN lO lQ lR lU lV lW lX (.pointer (some ⟨aj,0,none⟩)) (.pointer (some ⟨aj,0,none⟩)) (.pointer (some ⟨aj,4,none⟩)) (.slice pa ps.length cap) (.agg #[.int .i64 num,.int .i64 time,at_,sv]) cs bn u9 ki jH jI jJ jK jL jM jN w' (fun τ d=>⟨rfl,qH.re ⟨h1.os.trans e2,h1.output.trans e3,?_,fun b hb hm=>?_,S,now,fun b hb=>?_,h2⟩ τ d⟩)
  ·have:=h1.base;omega
  ·rw [h1.keep b (.inr (by omega)) (by have:=h1.low;omega) (by omega) hm,e1];exact wGo_old _ _ _ _ _ _ _ hb
  ·have:=(h1.own b hb).1;omega
 simp only [midE,o6,blockE,sR,jR,Tryz.f46,Option.getD_some] at last ⊢
 refine af.seq hP (dY _) bn ?_
 refine af.draw hP (rC _ _) bn (fun t=>?_)
 have sP:=schedule_mem (P:=Tryz.prog) (by kernel_rfl) sR t
 rw [show jP .any sR sR.size (Array.replicate sR.size false)=[[0,1,2,3,4,5],[0,1,2,4,3,5],[0,1,4,2,3,5],[0,4,1,2,3,5],[4,0,1,2,3,5]] from by decide +kernel] at sP
 simp only [sR,jR,Tryz.f46,Option.getD_some,List.mem_cons,List.not_mem_nil,or_false] at sP
 rcases sP with hm | hm | hm | hm | hm<;>rw [hm]<;>clear hm
 ·refine af.val hP (w':=w) (v:=.pointer (some ⟨aj,0,none⟩)) rfl (by rfl) (fun τ d=>run_eq_of ?r0) (rC _ _) bn ?_
  case r0 =>
   intro K hK
   go_simp
   exact hK
  try walk_nrm
  refine af.val hP (w':=w) (v:=.pointer (some ⟨aj,0,none⟩)) rfl (by rfl) (fun τ d=>run_eq_of ?r1) (rC _ _) bn ?_
  case r1 =>
   intro K hK
   go_simp
   exact hK
  try walk_nrm
  refine af.val hP (w':=w) (v:=.pointer (some ⟨aj,4,none⟩)) rfl (by rfl) (fun τ d=>run_eq_of ?r2) (rC _ _) bn ?_
  case r2 =>
   intro K hK
   go_simp
   exact hK
  try walk_nrm
  refine af.val hP (w':=w) (v:=.slice pa ps.length cap) rfl (by rfl) (fun τ d=>run_eq_of ?r3) (rC _ _) bn ?_
  case r3 =>
   intro K hK
   have lj:(re w τ d).cell? ⟨aj,4,none⟩=some (.slice pa ps.length cap):=ae (w:=re w τ d) hwt rfl
   go_simp
   exact hK
  try walk_nrm
  refine af.val hP (w':=w) (v:=.agg #[.int .i64 num,.int .i64 time,at_,sv]) rfl (by rfl) (fun τ d=>run_eq_of ?r4) (rC _ _) bn ?_
  case r4 =>
   intro K hK
   have lj:(re w τ d).cell? ⟨nU,0,none⟩=some (.int .i64 num):=ae (w:=re w τ d) js rfl
   have kJ:(re w τ d).cell? ⟨nU,1,none⟩=some (.int .i64 time):=ae (w:=re w τ d) js rfl
   have hc2:(re w τ d).cell? ⟨nU,2,none⟩=some (at_):=ae (w:=re w τ d) js rfl
   have r_:(re w τ d).cell? ⟨nU,3,none⟩=some (sv):=ae (w:=re w τ d) js rfl
   go_simp
   exact hK
  try walk_nrm
  exact last
 ·refine af.val hP (w':=w) (v:=.pointer (some ⟨aj,0,none⟩)) rfl (by rfl) (fun τ d=>run_eq_of ?r0) (rC _ _) bn ?_
  case r0 =>
   intro K hK
   go_simp
   exact hK
  try walk_nrm
  refine af.val hP (w':=w) (v:=.pointer (some ⟨aj,0,none⟩)) rfl (by rfl) (fun τ d=>run_eq_of ?r1) (rC _ _) bn ?_
  case r1 =>
   intro K hK
   go_simp
   exact hK
  try walk_nrm
  refine af.val hP (w':=w) (v:=.pointer (some ⟨aj,4,none⟩)) rfl (by rfl) (fun τ d=>run_eq_of ?r2) (rC _ _) bn ?_
  case r2 =>
   intro K hK
   go_simp
   exact hK
  try walk_nrm
  refine af.val hP (w':=w) (v:=.agg #[.int .i64 num,.int .i64 time,at_,sv]) rfl (by rfl) (fun τ d=>run_eq_of ?r4) (rC _ _) bn ?_
  case r4 =>
   intro K hK
   have lj:(re w τ d).cell? ⟨nU,0,none⟩=some (.int .i64 num):=ae (w:=re w τ d) js rfl
   have kJ:(re w τ d).cell? ⟨nU,1,none⟩=some (.int .i64 time):=ae (w:=re w τ d) js rfl
   have hc2:(re w τ d).cell? ⟨nU,2,none⟩=some (at_):=ae (w:=re w τ d) js rfl
   have r_:(re w τ d).cell? ⟨nU,3,none⟩=some (sv):=ae (w:=re w τ d) js rfl
   go_simp
   exact hK
  try walk_nrm
  refine af.val hP (w':=w) (v:=.slice pa ps.length cap) rfl (by rfl) (fun τ d=>run_eq_of ?r3) (rC _ _) bn ?_
  case r3 =>
   intro K hK
   have lj:(re w τ d).cell? ⟨aj,4,none⟩=some (.slice pa ps.length cap):=ae (w:=re w τ d) hwt rfl
   go_simp
   exact hK
  try walk_nrm
  exact last
 ·refine af.val hP (w':=w) (v:=.pointer (some ⟨aj,0,none⟩)) rfl (by rfl) (fun τ d=>run_eq_of ?r0) (rC _ _) bn ?_
  case r0 =>
   intro K hK
   go_simp
   exact hK
  try walk_nrm
  refine af.val hP (w':=w) (v:=.pointer (some ⟨aj,0,none⟩)) rfl (by rfl) (fun τ d=>run_eq_of ?r1) (rC _ _) bn ?_
  case r1 =>
   intro K hK
   go_simp
   exact hK
  try walk_nrm
  refine af.val hP (w':=w) (v:=.agg #[.int .i64 num,.int .i64 time,at_,sv]) rfl (by rfl) (fun τ d=>run_eq_of ?r4) (rC _ _) bn ?_
  case r4 =>
   intro K hK
   have lj:(re w τ d).cell? ⟨nU,0,none⟩=some (.int .i64 num):=ae (w:=re w τ d) js rfl
   have kJ:(re w τ d).cell? ⟨nU,1,none⟩=some (.int .i64 time):=ae (w:=re w τ d) js rfl
   have hc2:(re w τ d).cell? ⟨nU,2,none⟩=some (at_):=ae (w:=re w τ d) js rfl
   have r_:(re w τ d).cell? ⟨nU,3,none⟩=some (sv):=ae (w:=re w τ d) js rfl
   go_simp
   exact hK
  try walk_nrm
  refine af.val hP (w':=w) (v:=.pointer (some ⟨aj,4,none⟩)) rfl (by rfl) (fun τ d=>run_eq_of ?r2) (rC _ _) bn ?_
  case r2 =>
   intro K hK
   go_simp
   exact hK
  try walk_nrm
  refine af.val hP (w':=w) (v:=.slice pa ps.length cap) rfl (by rfl) (fun τ d=>run_eq_of ?r3) (rC _ _) bn ?_
  case r3 =>
   intro K hK
   have lj:(re w τ d).cell? ⟨aj,4,none⟩=some (.slice pa ps.length cap):=ae (w:=re w τ d) hwt rfl
   go_simp
   exact hK
  try walk_nrm
  exact last
 ·refine af.val hP (w':=w) (v:=.pointer (some ⟨aj,0,none⟩)) rfl (by rfl) (fun τ d=>run_eq_of ?r0) (rC _ _) bn ?_
  case r0 =>
   intro K hK
   go_simp
   exact hK
  try walk_nrm
  refine af.val hP (w':=w) (v:=.agg #[.int .i64 num,.int .i64 time,at_,sv]) rfl (by rfl) (fun τ d=>run_eq_of ?r4) (rC _ _) bn ?_
  case r4 =>
   intro K hK
   have lj:(re w τ d).cell? ⟨nU,0,none⟩=some (.int .i64 num):=ae (w:=re w τ d) js rfl
   have kJ:(re w τ d).cell? ⟨nU,1,none⟩=some (.int .i64 time):=ae (w:=re w τ d) js rfl
   have hc2:(re w τ d).cell? ⟨nU,2,none⟩=some (at_):=ae (w:=re w τ d) js rfl
   have r_:(re w τ d).cell? ⟨nU,3,none⟩=some (sv):=ae (w:=re w τ d) js rfl
   go_simp
   exact hK
  try walk_nrm
  refine af.val hP (w':=w) (v:=.pointer (some ⟨aj,0,none⟩)) rfl (by rfl) (fun τ d=>run_eq_of ?r1) (rC _ _) bn ?_
  case r1 =>
   intro K hK
   go_simp
   exact hK
  try walk_nrm
  refine af.val hP (w':=w) (v:=.pointer (some ⟨aj,4,none⟩)) rfl (by rfl) (fun τ d=>run_eq_of ?r2) (rC _ _) bn ?_
  case r2 =>
   intro K hK
   go_simp
   exact hK
  try walk_nrm
  refine af.val hP (w':=w) (v:=.slice pa ps.length cap) rfl (by rfl) (fun τ d=>run_eq_of ?r3) (rC _ _) bn ?_
  case r3 =>
   intro K hK
   have lj:(re w τ d).cell? ⟨aj,4,none⟩=some (.slice pa ps.length cap):=ae (w:=re w τ d) hwt rfl
   go_simp
   exact hK
  try walk_nrm
  exact last
 ·refine af.val hP (w':=w) (v:=.agg #[.int .i64 num,.int .i64 time,at_,sv]) rfl (by rfl) (fun τ d=>run_eq_of ?r4) (rC _ _) bn ?_
  case r4 =>
   intro K hK
   have lj:(re w τ d).cell? ⟨nU,0,none⟩=some (.int .i64 num):=ae (w:=re w τ d) js rfl
   have kJ:(re w τ d).cell? ⟨nU,1,none⟩=some (.int .i64 time):=ae (w:=re w τ d) js rfl
   have hc2:(re w τ d).cell? ⟨nU,2,none⟩=some (at_):=ae (w:=re w τ d) js rfl
   have r_:(re w τ d).cell? ⟨nU,3,none⟩=some (sv):=ae (w:=re w τ d) js rfl
   go_simp
   exact hK
  try walk_nrm
  refine af.val hP (w':=w) (v:=.pointer (some ⟨aj,0,none⟩)) rfl (by rfl) (fun τ d=>run_eq_of ?r0) (rC _ _) bn ?_
  case r0 =>
   intro K hK
   go_simp
   exact hK
  try walk_nrm
  refine af.val hP (w':=w) (v:=.pointer (some ⟨aj,0,none⟩)) rfl (by rfl) (fun τ d=>run_eq_of ?r1) (rC _ _) bn ?_
  case r1 =>
   intro K hK
   go_simp
   exact hK
  try walk_nrm
  refine af.val hP (w':=w) (v:=.pointer (some ⟨aj,4,none⟩)) rfl (by rfl) (fun τ d=>run_eq_of ?r2) (rC _ _) bn ?_
  case r2 =>
   intro K hK
   go_simp
   exact hK
  try walk_nrm
  refine af.val hP (w':=w) (v:=.slice pa ps.length cap) rfl (by rfl) (fun τ d=>run_eq_of ?r3) (rC _ _) bn ?_
  case r3 =>
   intro K hK
   have lj:(re w τ d).cell? ⟨aj,4,none⟩=some (.slice pa ps.length cap):=ae (w:=re w τ d) hwt rfl
   go_simp
   exact hK
  try walk_nrm
  exact last
end Lf
namespace Lf
open Go Go.Conc Go.RowKit
open Go.Proofs (Tryz.f46 Tryz.f88 Tryz.prog)
variable {w : World}
def fg (w:World) (pa:Option Addr) (cap:Nat) (ps:List bC):Prop :=
 (pa=none/\ps=[]/\cap=0)\/∃ pb po fA mp,pa=some ⟨pb,po,none⟩/\w.heap[pb]? = some (.cells fA 183 mp)/\b5 fA po ps
def SoIn (w:World) (sv:Value) (ps:List bC):Prop:=∃ sb so n cp arr m,sv=.slice (some ⟨sb,so,none⟩) n cp/\w.heap[sb]? = some (.cells arr 4 m)/\∀ p∈ps,arr[so+p.node]? = some (.bool p.v)/\p.node<n
theorem Ms.tag {ss:List bt} (se:∀ s∈ss,eG w s) {b:Nat} (h:Ms ss b):∃ cs t,w.heap[b]? = some (.cells cs t (0,0))/\(t=177\/t=59):=by
 obtain ⟨s,hs,rfl | hb⟩:=h
 ·exact ⟨_,_,(se s hs).1,.inl rfl⟩
 ·obtain ⟨h1,h2 | ⟨g,cap,cur,e1,_,e2,_⟩⟩:=(se s hs).2
  ·rw [h2.1] at hb;cases hb
  ·rw [e1] at hb;cases hb;exact ⟨_,_,e2,.inr rfl⟩
theorem Ms.not {ss:List bt} (se:∀ s∈ss,eG w s) {b:Nat} {cs:Array Value} {t:TypeId} {m:Nat×Nat} (hb:w.heap[b]? = some (.cells cs t m)) (h1:t≠177) (h2:t≠59):¬ Ms ss b:=fun h=>by
 obtain ⟨cs',t',e,ht⟩:=Ms.tag se h
 rw [hb] at e
 injection e with e
 injection e with _ e _
 subst e
 exact ht.elim h1 h2
set_option maxRecDepth 100000 in
theorem rest_any (aj nU:Nat) (pa:Option Addr) (cap:Nat) (num time:Int) (at_ sv:Value) (ss:List bt) (ps:List bC) (hP:fg w pa cap ps) (hS:SoIn w sv ps) (hn:∀ s∈ss,s.n<=1000000) (hN:ps.length<=1000000)
  (hlen:ss.length=ps.length) (hps:∀ (i:Nat) (s:bt) (p:bC),ss[i]? = some s->ps[i]? = some p->p.cG=some ⟨s.cj,0,none⟩) (se:∀ s∈ss,eG w s) (jD:Apart ss) (x1 x2 x3 x4 x5 x6 x7 kX lD lF lG lH lI lJ lK lM lN lO lQ lR lU lV lW lX nk nt nu nw qE x32:Value) (cs:List Frame) (bn:∀ fr∈cs,aA fr) (u9 ki jH jI jJ jK jL jM jN:Value)
  (r1 r2 r3 r4:Value) (hwt:w.heap[aj]? = some (.cells #[r1,r2,r3,r4,.slice pa ps.length cap] 153 (0,0))) (js:w.heap[nU]? = some (.cells #[.int .i64 num,.int .i64 time,at_,sv] 159 (0,0))) :
  af Tryz.prog (fun g w'=>∃ e fr,g=G fr cs/\aA fr/\(e=.returned .nilIface/\qH w w' ss num time ps)/\fr.fn=46/\fr.leaving Tryz.prog w' e) (G ((base 46).at ⟨#[(.pointer (some ⟨aj,0,none⟩)),x1,x2,x3,x4,x5,x6,x7,(.pointer (some ⟨nU,0,none⟩)),u9,kX,lD,lF,lG,lH,lI,lJ,lK,lM,lN,lO,lQ,lR,lU,lV,lW,lX,nk,nt,nu,nw,qE,x32,ki,jH,jI,jJ,jK,jL,jM,jN],[]⟩ [.code midE,.code o6]) cs) w:=by
 have hMl:∀ b,Ms ss b->b<w.heap.size:=fun b hb=>by
  obtain ⟨cs,t,e,_⟩:=Ms.tag se hb
  exact aw e
 obtain ⟨sb,so,n,cp,arr,m,rfl,hsb,jh⟩:=hS
 rcases hP with ⟨rfl,rfl,rfl⟩ | ⟨pb,po,fA,mp,rfl,um,hpat⟩
 ·have H:qJ (w.heap.size+2) (w.heap.size+4) (Ms ss) (fun b=>b=w.heap.size+3\/b=w.heap.size):=by
   refine ⟨by omega,fun b hb=>by have:=hMl b hb;omega,fun b hb=>?_⟩
   rcases hb with rfl | rfl
   ·exact ⟨by omega,by omega,fun h=>by have:=hMl _ h;omega⟩
   ·exact ⟨by omega,by omega,fun h=>by have:=hMl _ h;omega⟩
  refine rest_e aj nU none 0 num time at_ _ ss [] H hn hN hlen hps se jD x1 x2 x3 x4 x5 x6 x7 kX lD lF lG lH lI lJ lK lM lN lO lQ lR lU lV lW lX nk nt nu nw qE x32 cs bn u9 ki jH jI jJ jK jL jM jN r1 r2 r3 r4 hwt js (fun w₁ hw=>?_)
  refine child0_c H _ _ _ _ _ w₁ (by rw [hw,vW];omega) (fun q hq=>?_)
  simp at hq
  rcases hq with rfl | rfl
  ·exact ⟨.inr (.inl rfl),by simp,by rw [hw];exact wGo_p5 _ _ _ _ _ _ _⟩
  ·exact ⟨.inr (.inr rfl),by simp,by rw [hw];exact wGo_p2 _ _ _ _ _ _ _⟩
 ·have l1:=aw um
  have l2:=aw hsb
  have H:qJ (w.heap.size+2) (w.heap.size+4) (Ms ss) (fun b=>b=w.heap.size+3\/b=w.heap.size\/b=w.heap.size+1\/b=pb\/b=sb):=by
   refine ⟨by omega,fun b hb=>by have:=hMl b hb;omega,fun b hb=>?_⟩
   rcases hb with rfl | rfl | rfl | rfl | rfl
   ·exact ⟨by omega,by omega,fun h=>by have:=hMl _ h;omega⟩
   ·exact ⟨by omega,by omega,fun h=>by have:=hMl _ h;omega⟩
   ·exact ⟨by omega,by omega,fun h=>by have:=hMl _ h;omega⟩
   ·exact ⟨by omega,by omega,Ms.not se um (by decide) (by decide)⟩
   ·exact ⟨by omega,by omega,Ms.not se hsb (by decide) (by decide)⟩
  refine rest_e aj nU (some ⟨pb,po,none⟩) cap num time at_ _ ss ps H hn hN hlen hps se jD x1 x2 x3 x4 x5 x6 x7 kX lD lF lG lH lI lJ lK lM lN lO lQ lR lU lV lW lX nk nt nu nw qE x32 cs bn u9 ki jH jI jJ jK jL jM jN r1 r2 r3 r4 hwt js (fun w₁ hw=>?_)
  refine child_c H _ _ _ pb po cap sb so n cp num time at_ fA mp arr m ps hpat (by omega) jh _ _ w₁ (by rw [hw,vW];omega) (fun q hq=>?_)
  simp at hq
  rcases hq with rfl | rfl | rfl | rfl | rfl
  ·exact ⟨.inr (.inl rfl),by simp,by rw [hw];exact wGo_p5 _ _ _ _ _ _ _⟩
  ·exact ⟨.inr (.inr (.inl rfl)),by simp,by rw [hw];exact wGo_p2 _ _ _ _ _ _ _⟩
  ·exact ⟨.inr (.inr (.inr (.inl rfl))),by simp,by rw [hw];exact wGo_p3 _ _ _ _ _ _ _⟩
  ·exact ⟨.inr (.inr (.inr (.inr (.inl rfl)))),by simp;omega,by rw [hw,wGo_old _ _ _ _ _ _ _ l1];exact um⟩
  ·exact ⟨.inr (.inr (.inr (.inr (.inr rfl)))),by simp;omega,by rw [hw,wGo_old _ _ _ _ _ _ _ l2];exact hsb⟩
end Lf
namespace Ev
open Go.RowKit Go.Deep Lf
def Roomy (w:World) (ps:List bC):Prop:=∀ (i:Nat) (p:bC),ps[i]? = some p->∃ cj o n cap,p.cG=some ⟨cj,0,none⟩/\w.heap[cj]? = some (.cells #[.slice o n cap] 177 (0,0))/\n<30
set_option maxHeartbeats 1000000 in
theorem checkEvent_ok (aj:Nat) (ai room:Int) (nv ev:Value) (pa:Option Addr) (aM:Nat) (ps:List bC) (E:List bx) (time:Int) (ao:Option Addr) (A:List ByteArray) (cap:Nat) (w:World) (hw:w.heap[aj]? = some (.cells #[.int .i64 ai,.int .i64 room,nv,ev,.slice pa ps.length aM] 153 (0,0))) (hE:bY w ev E) (hn:E.length<=1000000) (ht:0<=time/\time<=1000000000000) (hr:0<=ai/\ai<=1000000000)
  (hl:∀ e,E.getLast? = some e->e.time<time) (oI:(E.length:Int)-nj (time-ai) E+1<=room) (h:eI w ao A) (hA:A.length<=10) (cW:A.length<=cap) (hN:∀ j,j<A.length->eR (A.getD j ByteArray.empty)) (hD:∀ j,j<A.length->Lib.containsS (A.take j) (A.getD j ByteArray.empty)=false)
  (hP:fg w pa aM ps) (hps:ps.length<=1000000) (hpc:ps.length<=aM) (hS:Roomy w ps) :
  Calls Tryz.prog 86 #[.pointer (some ⟨aj,0,none⟩),.int .i64 time,.slice ao A.length cap] w fun e w'=>e=.returned .nilIface/\Below w.heap.size w w':=by
 have hT:=checkTime_ok aj (.int .i64 ai) (.int .i64 room) nv ev (.slice pa ps.length aM) E time w hw hE hn ht hl
 have hAt:Hid (∀ w',Below w.heap.size w w'->Calls Tryz.prog 126 #[.slice ao A.length cap] w' fun e w''=>e=.returned .nilIface/\Below w'.heap.size w' w''):=fun w' hb=>checkAtoms_ok ao A cap w' (h.below hb) hA cW hN hD
 have hRm:Hid (∀ w',Below w.heap.size w w'->Calls Tryz.prog 128 #[.pointer (some ⟨aj,0,none⟩),.int .i64 time] w' fun e w''=>e=.returned .nilIface/\Below w'.heap.size w' w''):=fun w' hb=>checkRoom_ok aj ai room nv ev (.slice pa ps.length aM) E time w' (hb.aE hw) (hE.below hb) hn ht hr oI
 have cz:=aw hw
 have hc4:Hid (∀ w',Below w.heap.size w w'->w'.cell? ⟨aj,4,none⟩=some (.slice pa ps.length aM)):=fun w' hb=>ae (hb.aE hw) rfl
 generalize hlen:ps.length=n at *
 clear hw hE hl oI h hA cW hN hD hr hn
 go_enter Tryz.func86,Tryz.ntmps86
 go_wp2_with fail
 refine hT.mono ?_
 rintro e w0 ⟨rfl,hw0⟩
 have hw0:=hw0.symm
 subst hw0
 clear hT
 go_wp2_with fail
 refine (hAt.out _ (Below.refl _ _)).mono ?_
 rintro e w1 ⟨rfl,a_⟩
 have q4:=hc4.out w1 a_
 go_wp2_with fail
 go_loopw [29] (fun iv wr=>∃ i:Nat,iv=.int .i64 i/\i<=n/\Below w.heap.size w wr) (fun iv _=>n-(intOf iv).toNat)
 case atStart=>exact ⟨0,rfl,Nat.zero_le _,a_⟩
 case round =>
  clear a_ q4
  obtain ⟨i,rfl,tP,h_⟩:=hrel
  by_cases hi:i<n
  ·have fD:ps[i]? = some ps[i]:=List.getElem?_eq_getElem (by omega)
   obtain ⟨cj,o,k,c,df,hsb,hk⟩:=hS i _ fD
   rcases hP with ⟨_,rfl,_⟩ | ⟨pb,po,fA,mp,rfl,um,hpat⟩
   ·simp at hlen;omega
   ·obtain ⟨p0,p1,p2,p3,p4⟩:=hpat i _ fD
    generalize ps[i]=p at *
    rw [df] at p4
    have hpb':=h_.aE um
    have z0:=ae hpb' p0
    have z1:=ae hpb' p1
    have z2:=ae hpb' p2
    have z3:=ae hpb' p3
    have z4:=ae hpb' p4
    have hF:=isFull_any cj o k c (wr.alloc (.cells #[.string p.name,.pointer p.bV,.int .i64 p.node,.int .i64 p.cu,.pointer (some ⟨cj,0,none⟩)] 183)) ((h_.al _).aE hsb)
    rw [show decide ((k:Int)>=30)=false from decide_eq_false (by omega)] at hF
    have cB:Below w.heap.size w (wr.alloc (.cells #[.string p.name,.pointer p.bV,.int .i64 p.node,.int .i64 p.cu,.pointer (some ⟨cj,0,none⟩)] 183)):=h_.al _
    clear hS hpat um hpb' p0 p1 p2 p3 p4 fD
    go_wp2_with fail
    refine hF.mono ?_
    rintro e w2 ⟨rfl,rfl⟩
    go_wp2_with fail
    go_roundw
    case rel=>exact ⟨i+1,by go_num,by omega,cB⟩
    case measure=>simp only [intOf];omega
  ·obtain rfl:i=n:=by omega
   go_wp2_with fail
   refine (hRm.out _ h_).mono ?_
   rintro e w2 ⟨rfl,cB⟩
   go_wp2_with fail
   go_ret
   exact ⟨rfl,h_.tr cB⟩
end Ev
section
open Go.RowKit Go.Deep Go.Maps
theorem key_ok (a:aO) (p q:Int) (aN:oa a.op\/a.op=116\/a.op=97) (hn:a.name.size<=8) (h0:0<=a.lo/\a.lo<=a.hi/\a.hi<=1000000) (hp:0<=p/\p<=1000000000000000000) (hq:0<=q/\q<=1000000000000000000):Key.OK ⟨a.op,a.name,a.lo,a.hi,p,q⟩ :=
 ⟨by rcases aN with (e | e | e | e | e | e | e) | e | e<;>(show (Lit.int .i32 a.op).wf=true;rw [e];decide),Nat.le_trans hn (by decide),(show (Lit.int .i64 (a.lo)).wf=true from WalkArith.wf_i64 (by omega)),(show (Lit.int .i64 (a.hi)).wf=true from WalkArith.wf_i64 (by omega)),(show (Lit.int .i64 (p)).wf=true from WalkArith.wf_i64 (by omega)),(show (Lit.int .i64 (q)).wf=true from WalkArith.wf_i64 (by omega))⟩
theorem qX:ByteArray.empty.size<=8:=by decide
theorem put_any:∀ x:BT aO,PutOK x:=by
 intro x
 induction x with
 | nil =>
  intro v Bt B tb mb nv K w hs _ ht _
  obtain rfl:v=.pointer none:=hs
  refine (put_nil _ w).mono ?_
  rintro e w' ⟨rfl,rfl⟩
  exact ⟨rfl,nv,ht,bu.refl _ _ _ _ _⟩
 | node b0 o0 a l r il ir =>
  intro v Bt B tb mb nv K w hs hg ht hlen
  have hg:Good (.node b0 o0 a l r):=by
   rcases hg with hg | hg
   ·cases hg
   ·exact hg
  have hlen2:K.length+(aV l+aV r+1)<=1000000000000:=hlen
  rcases hg with ⟨h1,h2,h3,h4,rfl,rfl⟩ | ⟨h1,⟨_,n2,_⟩,h3,h4,rfl,rfl⟩ | ⟨h1,h2,h3,h4,gl,gr⟩ | ⟨h1,h2,h3,h4,gl,rfl⟩
  ·exact vE b0 o0 a _ _ il ir (.inl rfl) (.inl rfl) v Bt B tb mb nv K w hs (fun p q a1 a2 a3 a4=>key_ok a p q (.inr (.inl h1)) (by rw [h2];exact qX) (by omega) ⟨a1,a2⟩ ⟨a3,a4⟩) ht hlen2
  ·exact vE b0 o0 a _ _ il ir (.inl rfl) (.inl rfl) v Bt B tb mb nv K w hs (fun p q a1 a2 a3 a4=>key_ok a p q (.inr (.inr h1)) n2 (by omega) ⟨a1,a2⟩ ⟨a3,a4⟩) ht hlen2
  ·exact vE b0 o0 a _ _ il ir (.inr gl) (.inr gr) v Bt B tb mb nv K w hs (fun p q a1 a2 a3 a4=>key_ok a p q (.inl (by unfold oa;omega)) (by rw [h2];exact qX) h3 ⟨a1,a2⟩ ⟨a3,a4⟩) ht hlen2
  ·exact vE b0 o0 a _ _ il ir (.inr gl) (.inl rfl) v Bt B tb mb nv K w hs (fun p q a1 a2 a3 a4=>key_ok a p q (.inl (by unfold oa;omega)) (by rw [h2];exact qX) h3 ⟨a1,a2⟩ ⟨a3,a4⟩) ht hlen2
def sC (B tb:Nat) (w:World) (K:List Key):Prop:=(w.heap[tb]? = some (.cells #[.map none,.slice none 0 0] 97 (0,0))/\K=[]/\B<=tb)\/∃ mb nv,c_ B tb mb nv w K
theorem sC.new (B:Nat) (w:World) (hB:B<=w.heap.size):sC B w.heap.size (w.alloc (.cells #[.map none,.slice none 0 0] 97 (0,0))) []:=.inl ⟨aB _ _ _ rfl,rfl,hB⟩
theorem sC.below {B tb:Nat} {w w':World} {K:List Key} (h:sC B tb w K) (hb:Below w.heap.size w w'):sC B tb w' K:=by
 rcases h with ⟨h1,h2,h3⟩ | ⟨mb,nv,h2⟩
 ·exact .inl ⟨hb.aE h1,h2,h3⟩
 ·exact .inr ⟨mb,nv,h2.below hb⟩
theorem heap_set1 {w:World} {k:Nat} {u v x:Value} {e:TypeId} {m:Nat×Nat} (h:w.heap[k]? = some (.cells #[u,x] e m)):(w.setCell ⟨k,0,none⟩ v).heap[k]? = some (.cells #[v,x] e m):=by
 simp [World.setCell,Array.getElem?_modify,h]
set_option maxHeartbeats 400000 in
theorem count_any (B tb:Nat) (K:List Key) (w:World) (ht:sC B tb w K) :
  Calls Tryz.prog 44 #[.pointer (some ⟨tb,0,none⟩)] w fun e w'=>e=.returned (.int .i64 (K.length:Int))/\w'=w:=by
 rcases ht with ⟨h1,rfl,_⟩ | ⟨mb,nv,h2⟩
 ·have lj:w.cell? ⟨tb,1,none⟩=some (.slice none 0 0):=ae h1 rfl
  go_enter Tryz.func44,Tryz.ntmps44
  go_wp2_with fail
  go_ret
  exact ⟨rfl,rfl⟩
 ·obtain ⟨h1,_,⟨_,⟨rfl,h3⟩ | ⟨g,cap,cur,rfl,_⟩⟩,_⟩:=h2
  ·have lj:w.cell? ⟨tb,1,none⟩=some (.slice none 0 0):=ae h1 rfl
   rw [h3]
   go_enter Tryz.func44,Tryz.ntmps44
   go_wp2_with fail
   go_ret
   exact ⟨rfl,rfl⟩
  ·have lj:w.cell? ⟨tb,1,none⟩=some (.slice (some ⟨g,0,none⟩) K.length cap):=ae h1 rfl
   go_enter Tryz.func44,Tryz.ntmps44
   go_wp2_with fail
   go_ret
   exact ⟨rfl,rfl⟩
end
section
open Go.Deep (BT)
theorem scan_print (x:BT aO) (hg:Good x):∃ A,A.map strip=tk x/\cJ ⟨(aS x).toArray⟩ (aS x).length 0 32 []=some (A++[eS ⟨(aS x).toArray⟩]):=by
 have hs:(⟨(aS x).toArray⟩:ByteArray).size=(aS x).length:=by simp [ByteArray.size]
 obtain ⟨n,rJ,hn,hE⟩:=eats_tree (s:=⟨(aS x).toArray⟩) x hg 0 32 [] (by simp) (by decide)
 obtain ⟨A,hA,e⟩:=hE ((aS x).length-n) []
 have e0:(aS x).length-n+n=(aS x).length:=by omega
 rw [e0] at e
 refine ⟨A,hA,e.trans ?_⟩
 rw [mg _ _ _ _ _ (by rw [hs];omega),List.nil_append]
theorem print_inj {x y:BT aO} (gx:Good x) (gy:Good y) (zx:mn x) (zy:mn y) (h:aS x=aS y):x=y:=by
 obtain ⟨A,hA,e1⟩:=scan_print x gx
 obtain ⟨B,hB,e2⟩:=scan_print y gy
 rw [h] at e1
 rw [e1] at e2
 have e3:A=B:=by
  have:=Option.some.inj e2
  exact List.append_cancel_right this
 subst e3
 have p1:=su x gx zx (max (aK x) (aK y)) (by omega) A [] hA
 have p2:=su y gy zy (max (aK x) (aK y)) (by omega) A [] hB
 rw [p1] at p2
 have:=Option.some.inj p2
 exact congrArg Prod.fst this
theorem o9 {x:BT aO} (h:mn x):mn (bQ x):=by
 cases x with
 | nil=>exact h
 | node b o a l r =>
  simp only [bQ]
  split
  ·exact h.2.2.1
  ·exact ⟨rfl,rfl,h,trivial⟩
theorem zero_core:∀ {x:BT aO},mn x->mn (ak x):=by
 intro x
 induction x with
 | nil=>intro h;exact h
 | node b o a l r il ir =>
  intro h
  have hl:=il h.2.2.1
  have hr:=ir h.2.2.2
  simp only [ak]
  repeat' split
  ·exact h
  ·exact o9 hl
  ·exact o9 ⟨rfl,rfl,o9 hl,o9 hr⟩
  ·exact o9 ⟨rfl,rfl,o9 hl,trivial⟩
  ·exact ⟨rfl,rfl,hl,trivial⟩
  ·exact ⟨rfl,rfl,hl,hr⟩
def fI:List (List UInt8)->BT aO->List (List UInt8)
 | L,.nil=>L
 | L,.node b o a l r=>if aS (.node b o a l r)∈fI (fI L l) r then fI (fI L l) r else fI (fI L l) r++[aS (.node b o a l r)]
def vt (L:List (List UInt8)):BT aO->Int
 | .nil=>0
 | .node b o a l r=>match L.findIdx? (·==aS (.node b o a l r)) with | some i=>(i:Int)+1 | none=>0
def Has (L:List (List UInt8)):BT aO->Prop
 | .nil=>True
 | .node b o a l r=>aS (.node b o a l r)∈L
def qC (L:List (List UInt8)):BT aO->Key
 | .nil=>⟨0,ByteArray.empty,0,0,0,0⟩
 | .node _ _ a l r=>⟨a.op,a.name,a.lo,a.hi,vt L l,vt L r⟩
def dx (x:BT aO):Prop:=Good x/\mn x
def FineN (x:BT aO):Prop:=x=.nil\/dx x
def uq (L:List (List UInt8)):BT aO->Prop
 | .nil=>True
 | .node _ _ _ l r=>Has L l/\Has L r
theorem dx.parts {b o:Nat} {a:aO} {l r:BT aO} (h:dx (.node b o a l r)):FineN l/\FineN r/\b=0/\o=0:=by
 obtain ⟨hg,hz⟩:=h
 obtain ⟨rfl,rfl,zl,zr⟩:=hz
 rcases hg with ⟨_,_,_,_,rfl,rfl⟩ | ⟨_,_,_,_,rfl,rfl⟩ | ⟨_,_,_,_,gl,gr⟩ | ⟨_,_,_,_,gl,rfl⟩
 ·exact ⟨.inl rfl,.inl rfl,rfl,rfl⟩
 ·exact ⟨.inl rfl,.inl rfl,rfl,rfl⟩
 ·exact ⟨.inr ⟨gl,zl⟩,.inr ⟨gr,zr⟩,rfl,rfl⟩
 ·exact ⟨.inr ⟨gl,zl⟩,.inl rfl,rfl,rfl⟩
theorem numL_has {L:List (List UInt8)} {b o:Nat} {a:aO} {l r:BT aO} (h:Has L (.node b o a l r)):∃ i:Nat,vt L (.node b o a l r)=(i:Int)+1/\L[i]? = some (aS (.node b o a l r)):=by
 have h':aS (.node b o a l r)∈L:=h
 simp only [vt]
 cases hf:L.findIdx? (·==aS (.node b o a l r)) with
 | none =>
  rw [List.findIdx?_eq_none_iff] at hf
  have:=hf _ h'
  simp at this
 | some i =>
  obtain ⟨hi,h2,_⟩:=List.findIdx?_eq_some_iff_getElem.1 hf
  refine ⟨i,rfl,?_⟩
  rw [List.getElem?_eq_getElem hi]
  simpa using h2
theorem numL_inj {L:List (List UInt8)} {x y:BT aO} (fx:FineN x) (fy:FineN y) (hx:Has L x) (hy:Has L y) (h:vt L x=vt L y):x=y:=by
 cases x with
 | nil =>
  cases y with
  | nil=>rfl
  | node b o a l r =>
   obtain ⟨i,h1,_⟩:=numL_has hy
   rw [h1] at h
   have:vt L .nil=0:=rfl
   omega
 | node b o a l r =>
  obtain ⟨i,h1,h2⟩:=numL_has hx
  cases y with
  | nil =>
   rw [h1] at h
   have:vt L .nil=0:=rfl
   omega
  | node b' o' a' l' r' =>
   obtain ⟨j,h3,h4⟩:=numL_has hy
   have hij:i=j:=by omega
   subst hij
   rw [h2] at h4
   have fx':dx (.node b o a l r):=by
    rcases fx with e | e
    ·cases e
    ·exact e
   have fy':dx (.node b' o' a' l' r'):=by
    rcases fy with e | e
    ·cases e
    ·exact e
   exact print_inj fx'.1 fy'.1 fx'.2 fy'.2 (Option.some.inj h4)
theorem keyL_inj {L:List (List UInt8)} {x y:BT aO} (fx:dx x) (fy:dx y) (px:uq L x) (py:uq L y) (h:qC L x=qC L y):x=y:=by
 cases x with
 | nil=>exact absurd fx.1 id
 | node b o a l r =>
  cases y with
  | nil=>exact absurd fy.1 id
  | node b' o' a' l' r' =>
   obtain ⟨fl,fr,rfl,rfl⟩:=fx.parts
   obtain ⟨fl',fr',rfl,rfl⟩:=fy.parts
   simp only [qC,Key.mk.injEq] at h
   obtain ⟨e1,e2,e3,e4,e5,e6⟩:=h
   have el:=numL_inj fl fl' px.1 py.1 e5
   have er:=numL_inj fr fr' px.2 py.2 e6
   subst el;subst er
   cases a;cases a'
   simp only at e1 e2 e3 e4
   subst e1;subst e2;subst e3;subst e4
   rfl
structure Twin (K:List Key) (L:List (List UInt8)):Prop where
 len:K.length=L.length
 each:∀ i (h:i<L.length),∃ x,L[i]=aS x/\dx x/\uq L x/\K[i]? = some (qC L x)
theorem Twin.nil:Twin [] []:=⟨rfl,fun i h=>absurd h (Nat.not_lt_zero i)⟩
theorem Twin.find {K:List Key} {L:List (List UInt8)} (h:Twin K L) {x:BT aO} (fx:dx x) (px:uq L x):kL K (qC L x)=L.findIdx? (·==aS x):=by
 have hp:∀ i (hk:i<K.length) (hl:i<L.length),keyEq (qC L x) K[i]=(L[i]==aS x):=by
  intro i hk hl
  obtain ⟨y,e1,fy,py,e2⟩:=h.each i hl
  rw [List.getElem?_eq_getElem hk] at e2
  have e3:K[i]=qC L y:=Option.some.inj e2
  rw [e3,e1]
  by_cases hxy:x=y
  ·subst hxy
   rw [oO.2 rfl]
   simp
  ·have n1:keyEq (qC L x) (qC L y)=false:=by
    cases hb:keyEq (qC L x) (qC L y) with
    | true=>exact absurd (keyL_inj fx fy px py (oO.1 hb)) hxy
    | false=>rfl
   have n2:(aS y==aS x)=false:=by
    simp
    exact fun e=>hxy (print_inj fx.1 fy.1 fx.2 fy.2 e.symm)
   rw [n1,n2]
 unfold kL
 cases hf:L.findIdx? (·==aS x) with
 | none =>
  rw [List.findIdx?_eq_none_iff] at hf ⊢
  intro k hk
  obtain ⟨i,hi,rfl⟩:=List.getElem_of_mem hk
  have hl:i<L.length:=by rw [<- h.len];exact hi
  rw [hp i hi hl]
  exact hf _ (List.getElem_mem hl)
 | some i =>
  obtain ⟨hi,h2,h3⟩:=List.findIdx?_eq_some_iff_getElem.1 hf
  have hk:i<K.length:=by rw [h.len];exact hi
  refine List.findIdx?_eq_some_iff_getElem.2 ⟨hk,by rw [hp i hk hi];exact h2,fun j hj=>?_⟩
  have hl2:j<L.length:=by omega
  have hk2:j<K.length:=by omega
  rw [hp j hk2 hl2]
  exact h3 j hj
def Pre (L M:List (List UInt8)):Prop:=∃ N,M=L++N
theorem Pre.refl (L:List (List UInt8)):Pre L L:=⟨[],by simp⟩
theorem Pre.trans {L M N:List (List UInt8)} (h:Pre L M) (g:Pre M N):Pre L N:=by
 obtain ⟨A,rfl⟩:=h;obtain ⟨B,rfl⟩:=g;exact ⟨A++B,by simp⟩
theorem Has.pre {L M:List (List UInt8)} {x:BT aO} (h:Has L x) (g:Pre L M):Has M x:=by
 obtain ⟨N,rfl⟩:=g
 cases x with
 | nil=>trivial
 | node b o a l r=>exact List.mem_append_left _ h
theorem numL_pre {L M:List (List UInt8)} {x:BT aO} (h:Has L x) (g:Pre L M):vt M x=vt L x:=by
 obtain ⟨N,rfl⟩:=g
 cases x with
 | nil=>rfl
 | node b o a l r =>
  simp only [vt]
  rw [List.findIdx?_append]
  cases hf:L.findIdx? (·==aS (.node b o a l r)) with
  | some i=>rfl
  | none =>
   exfalso
   rw [List.findIdx?_eq_none_iff] at hf
   have:=hf _ (show aS (.node b o a l r)∈L from h)
   simp at this
def addB (L:List (List UInt8)) (s:List UInt8):List (List UInt8):=if s∈L then L else L++[s]
theorem addB_pre (L:List (List UInt8)) (s:List UInt8):Pre L (addB L s):=by
 unfold addB
 split
 ·exact Pre.refl L
 ·exact ⟨[s],rfl⟩
theorem Twin.add {K:List Key} {L:List (List UInt8)} (h:Twin K L) {b o:Nat} {a:aO} {l r:BT aO} (fx:dx (.node b o a l r)) (px:uq L (.node b o a l r)) :
  Twin (mo K (qC L (.node b o a l r))).2 (addB L (aS (.node b o a l r)))/\(mo K (qC L (.node b o a l r))).1=vt (addB L (aS (.node b o a l r))) (.node b o a l r)/\Has (addB L (aS (.node b o a l r))) (.node b o a l r):=by
 have hf:=h.find fx px
 have lq:∀ M,vt M (.node b o a l r)=match M.findIdx? (·==aS (.node b o a l r)) with | some i=>(i:Int)+1 | none=>0:=fun _=>rfl
 have hhas:∀ M,Has M (.node b o a l r)=(aS (.node b o a l r)∈M):=fun _=>rfl
 have hparts:∀ M,Pre L M->uq M (.node b o a l r):=fun M g=>⟨px.1.pre g,px.2.pre g⟩
 have hkey:∀ M,Pre L M->∀ y,uq L y->qC M y=qC L y:=by
  intro M g y py
  cases y with
  | nil=>rfl
  | node b o a l r=>simp only [qC];rw [numL_pre py.1 g,numL_pre py.2 g]
 have hpp:∀ M,Pre L M->∀ y,uq L y->uq M y:=by
  intro M g y py
  cases y with
  | nil=>trivial
  | node b o a l r=>exact ⟨py.1.pre g,py.2.pre g⟩
 rw [lq,hhas]
 generalize hx:(BT.node b o a l r:BT aO)=x at *
 unfold mo addB
 cases hq:L.findIdx? (·==aS x) with
 | some i =>
  rw [hq] at hf
  rw [hf]
  obtain ⟨hi,h2,_⟩:=List.findIdx?_eq_some_iff_getElem.1 hq
  have hm:aS x∈L:=by
   have e:L[i]=aS x:=by simpa using h2
   rw [<- e];exact List.getElem_mem hi
  rw [if_pos hm,hq]
  exact ⟨h,rfl,hm⟩
 | none =>
  rw [hq] at hf
  rw [hf]
  have hm:¬ aS x∈L:=by
   intro hm
   rw [List.findIdx?_eq_none_iff] at hq
   have:=hq _ hm
   simp at this
  rw [if_neg hm,List.findIdx?_append,hq]
  have g:Pre L (L++[aS x]):=⟨_,rfl⟩
  refine ⟨⟨by simp [h.len],?_⟩,?_,by simp⟩
  ·intro i hi
   by_cases hl:i<L.length
   ·obtain ⟨y,e1,fy,py,e2⟩:=h.each i hl
    refine ⟨y,?_,fy,hpp _ g y py,?_⟩
    ·rw [List.getElem_append_left hl];exact e1
    ·rw [List.getElem?_append_left (by rw [h.len];exact hl),hkey _ g y py];exact e2
   ·have rC:i=L.length:=by simp at hi;omega
    subst rC
    refine ⟨x,by simp,fx,hparts _ g,?_⟩
    rw [hkey _ g x px,List.getElem?_append_right (by rw [h.len];exact Nat.le_refl _),h.len]
    simp
  ·simp [h.len]
theorem withB_pre:∀ (x:BT aO) (L:List (List UInt8)),Pre L (fI L x)
 | .nil,L=>Pre.refl L
 | .node b o a l r,L=>((withB_pre l L).trans (withB_pre r _)).trans (addB_pre (fI (fI L l) r) (aS (.node b o a l r)))
theorem Twin.put:∀ (x:BT aO),FineN x->∀ (K:List Key) (L:List (List UInt8)),Twin K L->Twin (aX K x).2 (fI L x)/\(aX K x).1=vt (fI L x) x/\Has (fI L x) x:=by
 intro x
 induction x with
 | nil=>intro _ K L h;exact ⟨h,rfl,trivial⟩
 | node b o a l r il ir =>
  intro hx K L h
  have fx:dx (.node b o a l r):=by
   rcases hx with e | e
   ·cases e
   ·exact e
  obtain ⟨fl,fr,_,_⟩:=fx.parts
  obtain ⟨t1,n1,m1⟩:=il fl K L h
  obtain ⟨t2,n2,m2⟩:=ir fr (aX K l).2 (fI L l) t1
  have g:=withB_pre r (fI L l)
  have hk:(⟨a.op,a.name,a.lo,a.hi,(aX K l).1,(aX (aX K l).2 r).1⟩:Key)=qC (fI (fI L l) r) (.node b o a l r):=by
   simp only [qC]
   rw [n1,n2,numL_pre m1 g]
  have:=t2.add fx ⟨m1.pre g,m2⟩
  rw [<- hk] at this
  exact this
theorem count_eq {K:List Key} {L:List (List UInt8)} (h:Twin K L) {x:BT aO} (hx:dx x):Twin (aX K (ak x)).2 (fI L (ak x)):=(Twin.put (ak x) (.inr ⟨cA hx.1,zero_core hx.2⟩) K L h).1
def Par (T:List (Int×List UInt8)) (x:BT aO):Prop:=aK x<=T.length/\∀ n,aK x<=n->∀ A rest:List Tok,A.map strip=T->gT n (A++rest)=some (x,rest)
def Reads (l:List UInt8) (x:BT aO):Prop:=(Good x/\mn x)/\∀ (s:ByteArray) (pos:Nat) (last:Int) (rest:List UInt8),s.data.toList.drop pos=l++rest->last≠97->∃ n rJ T,n<=l.length/\sA s pos last l n rJ T/\Par T x
theorem par_word {name:ByteArray} (h:1<=name.size/\name.size<=8/\name≠vU/\∀ c,c∈name.data.toList->97<=c.toNat/\c.toNat<=122):Par [(97,name.data.toList)] (mk 97 name 0 0 .nil .nil):=by
 have hg:Good (mk 97 name 0 0 .nil .nil):=.inr (.inl ⟨rfl,h,rfl,rfl,rfl,rfl⟩)
 refine ⟨Nat.le_refl 1,fun n hn A rest hA=>su _ hg ⟨rfl,rfl,trivial,trivial⟩ n hn A rest ?_⟩
 rw [hA]
 rfl
theorem par_one {op lo hi:Int} {wd:List UInt8} {T:List (Int×List UInt8)} {x:BT aO} (h1:op=172\/op=89\/op=79\/op=72) (h3:0<=lo/\lo<=hi/\hi<=1000000) (h4:lC op=false->lo=0/\hi=0) (hx:Par T x) :
  Par ((op,wd)::(tkW ⟨op,ByteArray.empty,lo,hi⟩++T)) (mk op ByteArray.empty lo hi x .nil):=by
 obtain ⟨hd,hp⟩:=hx
 refine ⟨?_,fun n hn A rest hA=>?_⟩
 ·have:aK (mk op ByteArray.empty lo hi x .nil)=1+max (aK x) 0:=rfl
  rw [this]
  simp
  omega
 ·have hn':1+max (aK x) 0<=n:=hn
  obtain ⟨m,rfl⟩:∃ m,n=m+1:=⟨n-1,by omega⟩
  have dl:aK x<=m:=by omega
  show jG (gT m) (A++rest)=_
  unfold jG
  obtain ⟨t0,r0,rfl,s0,_,hA⟩:=map_cons hA
  obtain ⟨Aw,Al,rfl,hAw,hAl⟩:=List.map_eq_append_iff.1 hA
  simp only [List.cons_append,List.append_assoc]
  have s0':t0.sign=op:=s0
  rw [g_ (sg:=op) s0' (by omega)]
  simp only
  rw [s0',if_neg (by omega),if_neg (by omega),if_pos h1]
  unfold gO
  have hw:=qf (a:=⟨op,ByteArray.empty,lo,hi⟩) (rest:=Al++rest) hAw h3 h4
  simp only at hw
  rw [hw]
  simp only
  rw [hp m dl Al _ hAl]
theorem par_two {op lo hi:Int} {wd:List UInt8} {T U:List (Int×List UInt8)} {x y:BT aO} (h1:op=8743\/op=8744\/op=83) (h3:0<=lo/\lo<=hi/\hi<=1000000) (h4:lC op=false->lo=0/\hi=0) (hx:Par T x) (hy:Par U y) :
  Par ((40,[40])::(T++((op,wd)::(tkW ⟨op,ByteArray.empty,lo,hi⟩++(U++[(41,[41])]))))) (mk op ByteArray.empty lo hi x y):=by
 obtain ⟨hd,hp⟩:=hx
 obtain ⟨hd2,hq⟩:=hy
 have hdep:aK (mk op ByteArray.empty lo hi x y)=1+max (aK x) (aK y):=rfl
 refine ⟨?_,fun n hn A rest hA=>?_⟩
 ·rw [hdep]
  simp
  omega
 ·rw [hdep] at hn
  obtain ⟨m,rfl⟩:∃ m,n=m+1:=⟨n-1,by omega⟩
  have dl:aK x<=m:=by omega
  have dr:aK y<=m:=by omega
  show jG (gT m) (A++rest)=_
  unfold jG
  obtain ⟨t0,r0,rfl,s0,_,hA⟩:=map_cons hA
  obtain ⟨Al,r1,rfl,hAl,hA⟩:=List.map_eq_append_iff.1 hA
  obtain ⟨t2,r2,rfl,s2,_,hA⟩:=map_cons hA
  obtain ⟨Aw,r3,rfl,hAw,hA⟩:=List.map_eq_append_iff.1 hA
  obtain ⟨Ar,r4,rfl,hAr,hA⟩:=List.map_eq_append_iff.1 hA
  obtain ⟨t5,r5,rfl,s5,_,hA⟩:=map_cons hA
  have:r5=[]:=by simpa using hA
  subst this
  simp only [List.cons_append,List.append_assoc,List.nil_append]
  have s2':t2.sign=op:=s2
  rw [g_ s0 (by decide)]
  simp only
  have s0':t0.sign=40:=s0
  rw [s0',if_neg (by decide),if_pos rfl]
  unfold oW
  rw [hp m dl Al _ hAl]
  simp only
  rw [g_ (sg:=op) s2' (by omega)]
  simp only
  have hw:=qf (a:=⟨op,ByteArray.empty,lo,hi⟩) (rest:=Ar++t5::rest) hAw h3 h4
  simp only at hw
  rw [s2',if_pos h1,hw]
  simp only
  rw [hq m dr Ar _ hAr]
  simp only
  rw [mB s5 (by decide)]
theorem eats_ascii {s:ByteArray} {pos:Nat} (c:UInt8) (sg:Int) (last:Int) {l:List UInt8} (hc:(c=33/\sg=172)\/(c=38/\sg=8743)\/(c=124/\sg=8744)) (h:s.data.toList.drop pos=c::l):sA s pos last [c] 1 sg [(sg,[c])]:=by
 obtain ⟨hp,hd⟩:=gK h (by rcases hc with ⟨rfl,_⟩ | ⟨rfl,_⟩ | ⟨rfl,_⟩<;>decide)
 have hs:bM (c.toNat:Nat)=sg:=by rcases hc with ⟨rfl,rfl⟩ | ⟨rfl,rfl⟩ | ⟨rfl,rfl⟩<;>decide
 have:=eats_sign (s:=s) (pos:=pos) (r:=c.toNat) last (m:=[c]) hp hd (by rw [hs];rcases hc with ⟨_,rfl⟩ | ⟨_,rfl⟩ | ⟨_,rfl⟩<;>decide) (by rw [hs];rcases hc with ⟨_,rfl⟩ | ⟨_,rfl⟩ | ⟨_,rfl⟩<;>decide) (by rw [hs];rcases hc with ⟨_,rfl⟩ | ⟨_,rfl⟩ | ⟨_,rfl⟩<;>decide) (by rw [ja _ (by omega) (by rcases hc with ⟨rfl,_⟩ | ⟨rfl,_⟩ | ⟨rfl,_⟩<;>decide)];rcases hc with ⟨rfl,_⟩ | ⟨rfl,_⟩ | ⟨rfl,_⟩<;>decide)
 rw [hs] at this
 exact this
theorem Reads.word {name:ByteArray} (h:1<=name.size/\name.size<=8/\name≠vU/\∀ c,c∈name.data.toList->97<=c.toNat/\c.toNat<=122):Reads name.data.toList (mk 97 name 0 0 .nil .nil):=by
 refine ⟨⟨.inr (.inl ⟨rfl,h,rfl,rfl,rfl,rfl⟩),rfl,rfl,trivial,trivial⟩,fun s pos last rest hs hl=>⟨_,97,_,Nat.le_refl _,uA (by decide) ?_ hs (fun c hc=>signF_let (h.2.2.2 c hc)) hl,par_word h⟩⟩
 intro e
 have:name.data.toList.length=name.size:=by rw [Array.length_toList];rfl
 rw [e] at this
 simp at this
 omega
theorem Reads.not {l:List UInt8} {x:BT aO} (h:Reads l x):Reads ([33]++l) (mk 172 ByteArray.empty 0 0 x .nil):=by
 obtain ⟨⟨hg,hz⟩,hr⟩:=h
 refine ⟨⟨.inr (.inr (.inr ⟨.inl rfl,rfl,by decide,fun _=>⟨rfl,rfl⟩,hg,rfl⟩)),rfl,rfl,hz,trivial⟩,fun s pos last rest hs hl=>?_⟩
 rw [List.append_assoc] at hs
 have k1:=eats_ascii 33 172 last (.inl ⟨rfl,rfl⟩) (show s.data.toList.drop pos=33::_ from hs)
 have d1:=at_next (m:=[33]) hs
 obtain ⟨n,l2,T,hn,k2,hp⟩:=hr s _ 172 rest d1 (by decide)
 refine ⟨_,_,_,?_,k1.trans k2,?_⟩
 ·simp;omega
 ·have:=par_one (op:=172) (lo:=0) (hi:=0) (wd:=[33]) (.inl rfl) (by decide) (fun _=>⟨rfl,rfl⟩) hp
  exact this
def sT (a b:Int):List UInt8:=[91]++(Lib.itoa a++([44]++(Lib.itoa b++[93])))
theorem eats_win {s:ByteArray} {pos:Nat} {op a b:Int} (last:Int) {rest:List UInt8} (hw:lC op=true) (h:0<=a/\a<=b) (hs:s.data.toList.drop pos=sT a b++rest):∃ n,n<=(sT a b).length/\sA s pos last (sT a b) n 93 (tkW ⟨op,ByteArray.empty,a,b⟩):=by
 have e2:tkW ⟨op,ByteArray.empty,a,b⟩=[(91,[91]),(48,Lib.itoa a),(44,[44]),(48,Lib.itoa b),(93,[93])]:=by unfold tkW;simp only;rw [hw];rfl
 rw [e2]
 unfold sT at hs ⊢
 simp only [List.append_assoc] at hs
 have k2:=eM 91 last (by simp) (show s.data.toList.drop _=91::_ from hs)
 have d2:=at_next (m:=[91]) hs
 have k3:=uz (last:=((91:UInt8).toNat:Int)) h.1 d2 (by decide)
 have d3:=at_next d2
 have k4:=eM 44 48 (by simp) (show s.data.toList.drop _=44::_ from d3)
 have d4:=at_next (m:=[44]) d3
 have k5:=uz (last:=((44:UInt8).toNat:Int)) (by omega:0<=b) d4 (by decide)
 have d5:=at_next d4
 have k6:=eM 93 48 (by simp) (show s.data.toList.drop _=93::_ from d5)
 refine ⟨_,?_,k2.trans (k3.trans (k4.trans (k5.trans k6)))⟩
 simp;omega
theorem Reads.win {op a b:Int} {l:List UInt8} {x:BT aO} (ho:op=89\/op=79\/op=72) (hab:0<=a/\a<=b/\b<=1000000) (h:Reads l x):Reads ([UInt8.ofNat op.toNat]++(sT a b++l)) (mk op ByteArray.empty a b x .nil):=by
 obtain ⟨⟨hg,hz⟩,hr⟩:=h
 have hwB:lC op=true:=by rcases ho with rfl | rfl | rfl<;>decide
 have hnw:lC op=false->a=0/\b=0:=fun h=>by rw [hwB] at h;cases h
 have hob:cP op=[UInt8.ofNat op.toNat]:=by rcases ho with rfl | rfl | rfl<;>rfl
 refine ⟨⟨.inr (.inr (.inr ⟨.inr ho,rfl,hab,hnw,hg,rfl⟩)),rfl,rfl,hz,trivial⟩,fun s pos last rest hs hl=>?_⟩
 rw [List.append_assoc,<- hob] at hs
 rw [<- hob]
 have k1:=eats_op last (op:=op) (by unfold oa;omega) hs
 have d1:=at_next hs
 rw [List.append_assoc] at d1
 obtain ⟨n2,hn2,k2⟩:=eats_win (op:=op) op hwB ⟨hab.1,hab.2.1⟩ d1
 have d2:=at_next d1
 obtain ⟨n,l2,T,hn,k3,hp⟩:=hr s _ 93 rest d2 (by decide)
 refine ⟨_,_,_,?_,k1.trans (k2.trans k3),?_⟩
 ·have:1<=(cP op).length:=by rw [hob];simp
  simp;omega
 ·exact par_one (op:=op) (wd:=cP op) (.inr ho) hab hnw hp
theorem Reads.two {c:UInt8} {op:Int} {l r:List UInt8} {x y:BT aO} (hc:(c=38/\op=8743)\/(c=124/\op=8744)) (h:Reads l x) (h':Reads r y):Reads ([40]++(l++([32]++([c]++([32]++(r++[41])))))) (mk op ByteArray.empty 0 0 x y):=by
 obtain ⟨⟨hg,hz⟩,hr⟩:=h
 obtain ⟨⟨hg2,lu⟩,u7⟩:=h'
 have aN:op=8743\/op=8744\/op=83:=by omega
 have hwB:lC op=false:=by rcases hc with ⟨_,rfl⟩ | ⟨_,rfl⟩<;>decide
 refine ⟨⟨.inr (.inr (.inl ⟨aN,rfl,show (0:Int)<=0/\(0:Int)<=0/\(0:Int)<=1000000 by decide,fun _=>⟨rfl,rfl⟩,hg,hg2⟩)),rfl,rfl,hz,lu⟩,fun s pos last rest hs hl=>?_⟩
 simp only [List.append_assoc] at hs
 have k1:=eM 40 last (by simp) (show s.data.toList.drop _=40::_ from hs)
 have d1:=at_next (m:=[40]) hs
 obtain ⟨n2,l2,T,hn2,k2,hp⟩:=hr s _ ((40:UInt8).toNat:Int) _ d1 (by decide)
 have d2:=at_next d1
 have k3:=mz l2 (show s.data.toList.drop _=32::_ from d2)
 have d3:=at_next (m:=[32]) d2
 have k4:=eats_ascii c op 32 (.inr hc) (show s.data.toList.drop _=c::_ from d3)
 have d4:=at_next (m:=[c]) d3
 have k5:=mz op (show s.data.toList.drop _=32::_ from d4)
 have d5:=at_next (m:=[32]) d4
 obtain ⟨n6,l6,U,hn6,k6,hq⟩:=u7 s _ 32 _ d5 (by decide)
 have d6:=at_next d5
 have k7:=eM 41 l6 (by simp) (show s.data.toList.drop _=41::_ from d6)
 refine ⟨_,_,_,?_,k1.trans (k2.trans (k3.trans (k4.trans (k5.trans (k6.trans k7))))),?_⟩
 ·simp;omega
 ·have:=par_two (op:=op) (lo:=0) (hi:=0) (wd:=[c]) aN (by decide) (fun _=>⟨rfl,rfl⟩) hp hq
  have e2:tkW ⟨op,ByteArray.empty,0,0⟩=[]:=by unfold tkW;simp only;rw [hwB];rfl
  rw [e2] at this
  simpa using this
theorem Reads.since {a b:Int} {l r:List UInt8} {x y:BT aO} (hab:0<=a/\a<=b/\b<=1000000) (h:Reads l x) (h':Reads r y):Reads ([40]++(l++([32]++([83]++(sT a b++(r++[41])))))) (mk 83 ByteArray.empty a b x y):=by
 obtain ⟨⟨hg,hz⟩,hr⟩:=h
 obtain ⟨⟨hg2,lu⟩,u7⟩:=h'
 have hnw:lC 83=false->a=0/\b=0:=fun h=>absurd h (by decide)
 refine ⟨⟨.inr (.inr (.inl ⟨.inr (.inr rfl),rfl,hab,hnw,hg,hg2⟩)),rfl,rfl,hz,lu⟩,fun s pos last rest hs hl=>?_⟩
 simp only [List.append_assoc] at hs
 have k1:=eM 40 last (by simp) (show s.data.toList.drop _=40::_ from hs)
 have d1:=at_next (m:=[40]) hs
 obtain ⟨n2,l2,T,hn2,k2,hp⟩:=hr s _ ((40:UInt8).toNat:Int) _ d1 (by decide)
 have d2:=at_next d1
 have k3:=mz l2 (show s.data.toList.drop _=32::_ from d2)
 have d3:=at_next (m:=[32]) d2
 have k4:=eats_op (op:=83) 32 (by unfold oa;omega) (show s.data.toList.drop _=cP 83++_ from d3)
 have d4:=at_next (m:=[83]) d3
 obtain ⟨n5,hn5,k5⟩:=eats_win (op:=83) 83 (by decide) ⟨hab.1,hab.2.1⟩ d4
 have d5:=at_next d4
 obtain ⟨n6,l6,U,hn6,k6,hq⟩:=u7 s _ 93 _ d5 (by decide)
 have d6:=at_next d5
 have k7:=eM 41 l6 (by simp) (show s.data.toList.drop _=41::_ from d6)
 refine ⟨_,_,_,?_,k1.trans (k2.trans (k3.trans (sA.trans (l:=[83]) k4 (k5.trans (k6.trans k7))))),?_⟩
 ·simp;omega
 ·have:=par_two (op:=83) (lo:=a) (hi:=b) (wd:=cP 83) (.inr (.inr rfl)) hab hnw hp hq
  simpa using this
theorem Reads.read {l:List UInt8} {x:BT aO} (h:Reads l x) (hd:aK x<=12) (hl:l.length<=300) {s:ByteArray} (hs:s.data.toList=l):cI s=(some x,0):=by
 obtain ⟨⟨hg,hz⟩,hr⟩:=h
 have oK:s.size=l.length:=by rw [<- hs,Array.length_toList];rfl
 obtain ⟨n,rJ,T,hn,hE,hp⟩:=hr s 0 32 [] (by simpa using hs) (by decide)
 obtain ⟨A,hA,e⟩:=hE (l.length-n) []
 have e0:l.length-n+n=l.length:=by omega
 rw [e0] at e
 have e':cJ s l.length 0 32 []=some (A++[eS s]):=by
  refine e.trans ?_
  rw [mg _ _ _ _ _ (by rw [oK];omega),List.nil_append]
 unfold cI
 rw [if_neg (by omega),oK,e']
 simp only
 have hlen:aK x<=(A++[eS s]).length:=by
  have h1:=hp.1
  rw [<- hA,List.length_map] at h1
  simp;omega
 rw [hp.2 _ hlen A _ hA]
 simp only
 have e1:bm (-1) [eS s]=some [eS s]:=by
  unfold bm aH
  rfl
 rw [e1]
 simp only
 rw [if_neg (by omega)]
end
end Go.Proofs.YtpbbmagjhkakgaaGreatDoor
