import Derived.Test.YtpbbmagjhkakgaaGreatDoorLfSaysToLfRound
import Derived.Test.YtpbbmagjhkakgaaGreatDoorLfScriptToLfTaken
import Derived.Test.YtpbbmagjhkakgaaGreatDoorLfTapeToLfStep
import Derived.Test.YtpbbmagjhkakgaaGreatDoorLfTreeToLfWalk
import Derived.Test.YtpbbmagjhkakgaaGreatDoorProg
import Derived.KernelRfl
namespace Go.Proofs.YtpbbmagjhkakgaaGreatDoor.Lf
open Go Go.Conc Go.RowKit
open Go.Proofs (Tryz.f133 Tryz.prog Tryz.func133 Tryz.ntmps133)
variable {c B : Nat} {M Ro : Nat → Prop}
set_option maxRecDepth 100000 in
theorem last_c (H:Terr c B M Ro) (p5 p2 p3:Nat) (sv:Value) (N:Nat) (nn:Nat) (u3 u4 u9 u10 u11 u12 u13 u14 u15 u16 u17 u18 u19:Value) (T:Nat->Prop) (w:World) :
  SB Tryz.prog c (RBw c Ro) (DBw c Ro) (CB1 c Ro) nn [] T (headX c p5 p2 p3 sv N N u3 u4 u9 u10 u11 u12 u13 u14 u15 u16 u17 u18 u19) w:=by
 have PP:=the_pair c B M Ro H
 have TT:=PP.tB
 refine SB.of_walk PP ?_
 simp only [headX,loopX,body133,Tryz.f133,Option.getD_some]
 refine RT.seq TT ?_
 refine RT.region TT ?_
 simp only [List.size_toArray,List.length_cons,List.length_nil,Nat.zero_add,List.range,List.range.loop]
 refine RT.op rfl (by rfl) (by simp [baseD]) (fun v1 hR K hK=>?_)
 go_simp
 refine hK _ _ ⟨by rw [listed_nil (by simp [go_sem])];exact TT.idle _ _,?_⟩
 clear hK K hR
 rw [grow_self]
 refine RT.nil TT ?_
 refine RT.seq TT ?_
 refine RT.cond TT false (by simp [Act.eval]) ?_
 simp only [if_false,Bool.false_eq_true]
 refine RT.exit TT rfl ?_
 refine RT.ends TT ?_
 refine SB.walk PP ?_
 refine .close rfl (by simp [mayWake,G,Frame.at]) (fun w₁ buf s r _ hc=>⟨#[⟨.obj c,false,true⟩],close_step _ _ w₁ hc,fun e he=>?_⟩) (quits_tail _ _)
 simp at he
 subst he
 exact ⟨fun x hx _=>(by simp [MemAct.ofEvent,MemAct.touch?] at hx;subst hx;exact .inr rfl),by simp,by simp⟩
theorem from_c (H:Terr c B M Ro) (p5 p2 p3 pb po cap sb so n cp:Nat) (num time:Int) (at_:Value) (parr:Array Value) (mp:Nat×Nat) (arr:Array Value) (m:Nat×Nat) (ps:List Pol) (hps:PolsAt parr po ps) (hn:ps.length<9223372036854775807) (hso:∀ p∈ps,arr[so+p.node]? = some (.bool p.v)/\p.node<n) (nn:Nat) (T₀:Nat->Prop) (w₀:World) :
  ∀ (j k:Nat),k+j=ps.length->∀ (u3 u4 u9 u10 u11 u12 u13 u14 u15 u16 u17 u18 u19:Value) (T:Nat->Prop) (w:World),HB c Ro T₀ w₀ T w (FSc c p5 p2 p3 pb po ps.length cap sb so n cp num time at_ parr mp arr m)->
   SB Tryz.prog c (RBw c Ro) (DBw c Ro) (CB1 c Ro) nn ((ps.drop k).map (letter num time)) T (headX c p5 p2 p3 (.slice (some ⟨pb,po,none⟩) ps.length cap) ps.length k u3 u4 u9 u10 u11 u12 u13 u14 u15 u16 u17 u18 u19) w:=by
 intro j
 induction j with
 | zero =>
  intro k hk u3 u4 u9 u10 u11 u12 u13 u14 u15 u16 u17 u18 u19 T w _
  obtain rfl:k=ps.length:=by omega
  rw [List.drop_length,List.map_nil]
  exact last_c H _ _ _ _ _ _ _ _ _ _ _ _ _ _ _ _ _ _ _ _ _
 | succ j ih =>
  intro k hk u3 u4 u9 u10 u11 u12 u13 u14 u15 u16 u17 u18 u19 T w hF
  have hlt:k<ps.length:=by omega
  rw [List.drop_eq_getElem_cons hlt,List.map_cons]
  exact round_c H _ p5 p2 p3 pb po cap sb so n cp num time at_ parr mp arr m ps hps hn hso nn k _ (List.getElem?_eq_getElem hlt) _ _ _ _ _ _ _ _ _ _ _ _ _ T₀ w₀ T w hF (fun u3 u4 u9 u10 u11 u12 u13 u14 u15 u16 u17 u18 u19 T w h=>ih (k+1) (by omega) u3 u4 u9 u10 u11 u12 u13 u14 u15 u16 u17 u18 u19 T w h)
set_option maxRecDepth 100000 in
theorem child_c (H : Terr c B M Ro) (p5 p2 p3 pb po cap sb so n cp : Nat) (num time : Int) (at_ : Value) (parr : Array Value) (mp : Nat × Nat) (arr : Array Value) (m : Nat × Nat) (ps : List Pol) (hps : PolsAt parr po ps) (hn : ps.length < 9223372036854775807) (hso : ∀ p ∈ ps, arr[so + p.node]? = some (.bool p.v) ∧ p.node < n) (nn : Nat) (T : Nat → Prop) (w : World) (hc : c < w.heap.size)
  (hfs : ∀ q ∈ FSc c p5 p2 p3 pb po ps.length cap sb so n cp num time at_ parr mp arr m, (T q.1 ∨ Ro q.1) ∧ q.1 ≠ c ∧ w.heap[q.1]? = some q.2) :
  SB Tryz.prog c (RBw c Ro) (DBw c Ro) (CB1 c Ro) nn (ps.map (letter num time)) T (born Tryz.prog (call133 p5 p2 p3)) w := by
 have PP := the_pair c B M Ro H
 have TT := PP.tB
 have hF : HB c Ro T w T w (FSc c p5 p2 p3 pb po ps.length cap sb so n cp num time at_ parr mp arr m) := .start hc hfs
 have hnx := from_c H p5 p2 p3 pb po cap sb so n cp num time at_ parr mp arr m ps hps hn hso nn T w ps.length 0 (by omega)
 simp only [headX, loopX, body133, Tryz.f133, Option.getD_some, List.drop_zero, Int.natCast_zero] at hnx
 refine SB.of_walk PP (RT.one rfl fun v0 hR0 => ?_)
 rw [born_step, goes_go, grow_self]
 refine ⟨TT.idle _ _, ?_⟩
 replace hF := hF.rely hR0
 simp only [body133, Tryz.f133, Option.getD_some]
 refine RT.seq TT ?_
 refine RT.region TT ?_
 simp only [List.size_toArray, List.length_cons, List.length_nil, Nat.reduceAdd, Nat.zero_add, List.range, List.range.loop]
 refine RT.op rfl (by rfl) (by simp [baseD]) (fun v1 hR K hK => ?_)
 replace hF := hF.rely hR
 have hc1 := hF.cell (i := 0) (.head _) rfl
 go_simp
 refine hK _ _ ⟨?_, ?_⟩
 ·refine DBw.reads fun e he => ?_
  have hm := mem_listed he
  simp [go_sem, *] at hm
  rcases hm with rfl <;> exact hF.read (.head _) rfl
 clear hK K hR
 rw [grow_self]
 refine RT.defer TT rfl (by rfl) (by simp [baseD]) (dclose c) (fun v2 => by simp [execOp, resolve, Act.eval, dclose]) (fun v2 => by simp [execOp, resolve, Act.eval]) ?_
 simp only [Act.put]
 refine RT.nil TT ?_
 refine RT.seq TT ?_
 refine RT.region TT ?_
 simp only [List.size_toArray, List.length_cons, List.length_nil, Nat.reduceAdd, Nat.zero_add, List.range, List.range.loop]
 refine RT.op rfl (by rfl) (by simp [baseD]) (fun v2 hR K hK => ?_)
 replace hF := hF.rely hR
 have hc1 := hF.cell (i := 0) (.tail _ (.head _)) rfl
 go_simp
 refine hK _ _ ⟨?_, ?_⟩
 ·refine DBw.reads fun e he => ?_
  have hm := mem_listed he
  simp [go_sem, *] at hm
  rcases hm with rfl <;> exact hF.read (.tail _ (.head _)) rfl
 clear hK K hR
 rw [grow_self]
 refine RT.op rfl (by rfl) (by simp [baseD]) (fun v3 hR K hK => ?_)
 replace hF := hF.rely hR
 go_simp
 refine hK _ _ ⟨by rw [listed_nil (by simp [go_sem])]; exact TT.idle _ _, ?_⟩
 clear hK K hR
 rw [grow_self]
 refine RT.op rfl (by rfl) (by simp [baseD]) (fun v4 hR K hK => ?_)
 replace hF := hF.rely hR
 go_simp
 refine hK _ _ ⟨by rw [listed_nil (by simp [go_sem])]; exact TT.idle _ _, ?_⟩
 clear hK K hR
 rw [grow_self]
 refine RT.nil TT ?_
 refine RT.block TT ?_
 refine RT.loop TT ?_
 exact SB.walk PP (hnx _ _ _ _ _ _ _ _ _ _ _ _ _ _ _ hF)
set_option maxRecDepth 100000 in
theorem child0_c (H : Terr c B M Ro) (p5 p2 p3 : Nat) (nn : Nat) (T : Nat → Prop) (w : World) (hc : c < w.heap.size)
  (hfs : ∀ q ∈ ([(p5, .cells #[.chan (some c)] 235), (p2, .cells #[.slice none 0 0] 151)] : List (Nat × Obj)), (T q.1 ∨ Ro q.1) ∧ q.1 ≠ c ∧ w.heap[q.1]? = some q.2) :
  SB Tryz.prog c (RBw c Ro) (DBw c Ro) (CB1 c Ro) nn [] T (born Tryz.prog (call133 p5 p2 p3)) w := by
 have PP := the_pair c B M Ro H
 have TT := PP.tB
 have hF : HB c Ro T w T w [(p5, .cells #[.chan (some c)] 235), (p2, .cells #[.slice none 0 0] 151)] := .start hc hfs
 have hnx := last_c (nn := nn) H p5 p2 p3 (.slice none 0 0) 0
 simp only [headX, loopX, body133, Tryz.f133, Option.getD_some, Int.natCast_zero] at hnx
 refine SB.of_walk PP (RT.one rfl fun v0 hR0 => ?_)
 rw [born_step, goes_go, grow_self]
 refine ⟨TT.idle _ _, ?_⟩
 replace hF := hF.rely hR0
 simp only [body133, Tryz.f133, Option.getD_some]
 refine RT.seq TT ?_
 refine RT.region TT ?_
 simp only [List.size_toArray, List.length_cons, List.length_nil, Nat.reduceAdd, Nat.zero_add, List.range, List.range.loop]
 refine RT.op rfl (by rfl) (by simp [baseD]) (fun v1 hR K hK => ?_)
 replace hF := hF.rely hR
 have hc1 := hF.cell (i := 0) (.head _) rfl
 go_simp
 refine hK _ _ ⟨?_, ?_⟩
 ·refine DBw.reads fun e he => ?_
  have hm := mem_listed he
  simp [go_sem, *] at hm
  rcases hm with rfl <;> exact hF.read (.head _) rfl
 clear hK K hR
 rw [grow_self]
 refine RT.defer TT rfl (by rfl) (by simp [baseD]) (dclose c) (fun v2 => by simp [execOp, resolve, Act.eval, dclose]) (fun v2 => by simp [execOp, resolve, Act.eval]) ?_
 simp only [Act.put]
 refine RT.nil TT ?_
 refine RT.seq TT ?_
 refine RT.region TT ?_
 simp only [List.size_toArray, List.length_cons, List.length_nil, Nat.reduceAdd, Nat.zero_add, List.range, List.range.loop]
 refine RT.op rfl (by rfl) (by simp [baseD]) (fun v2 hR K hK => ?_)
 replace hF := hF.rely hR
 have hc1 := hF.cell (i := 0) (.tail _ (.head _)) rfl
 go_simp
 refine hK _ _ ⟨?_, ?_⟩
 ·refine DBw.reads fun e he => ?_
  have hm := mem_listed he
  simp [go_sem, *] at hm
  rcases hm with rfl <;> exact hF.read (.tail _ (.head _)) rfl
 clear hK K hR
 rw [grow_self]
 refine RT.op rfl (by rfl) (by simp [baseD]) (fun v3 hR K hK => ?_)
 replace hF := hF.rely hR
 go_simp
 refine hK _ _ ⟨by rw [listed_nil (by simp [go_sem])]; exact TT.idle _ _, ?_⟩
 clear hK K hR
 rw [grow_self]
 refine RT.op rfl (by rfl) (by simp [baseD]) (fun v4 hR K hK => ?_)
 replace hF := hF.rely hR
 go_simp
 refine hK _ _ ⟨by rw [listed_nil (by simp [go_sem])]; exact TT.idle _ _, ?_⟩
 clear hK K hR
 rw [grow_self]
 refine RT.nil TT ?_
 refine RT.block TT ?_
 refine RT.loop TT ?_
 exact SB.walk PP (hnx _ _ _ _ _ _ _ _ _ _ _ _ _ _ _)
end Go.Proofs.YtpbbmagjhkakgaaGreatDoor.Lf
namespace Go.Proofs.YtpbbmagjhkakgaaGreatDoor.Lf
open Go Go.Conc Go.RowKit
open Go.Proofs (Tryz.f46 Tryz.prog Tryz.func46 Tryz.ntmps46 Tryz.func89)
structure Strm where
 stb:Nat
 sv:Value
 n:Nat
 xs:List Value
def StrOK (w:World) (s:Strm):Prop:=w.heap[s.stb]? = some (.cells #[s.sv] 177 (0,0))/\w.ownsRow 0 59 4 s.sv s.n s.xs
def Apart (ss:List Strm):Prop:=∀ (i j:Nat) (s t:Strm),ss[i]? = some s->ss[j]? = some t->i≠j->s.stb≠t.stb/\∀ g,s.sv.ownBlock=some g->t.sv.ownBlock≠some g
def Ms (ss:List Strm) (b:Nat):Prop:=∃ s∈ss,b=s.stb\/s.sv.ownBlock=some b
theorem StrOK.ne {w:World} {s t:Strm} (h:StrOK w s) (k:StrOK w t):s.sv.ownBlock≠some t.stb:=fun e=>by
 obtain ⟨h1,h2 | ⟨g,cap,cur,e1,_,e2,_⟩⟩:=h.2
 ·rw [h2.1] at e;cases e
 ·rw [e1] at e;cases e;have:=k.1;rw [e2] at this;cases this
theorem StrOK.heap {w w':World} {s:Strm} (h:StrOK w s) (hh:∀ b,b<w.heap.size->(b=s.stb\/s.sv.ownBlock=some b)->w'.heap[b]? = w.heap[b]?):StrOK w' s :=
 ⟨by rw [hh s.stb (heap_lt h.1) (.inl rfl)];exact h.1,own_heap0 h.2 fun k hk hl=>hh k hl (.inr hk)⟩
structure Taken (B:Nat) (ss:List Strm) (num time:Int) (ps:List Pol) (k:Nat) (S:Nat->Prop) (w:World) (now:List Strm):Prop where
 len:now.length=ss.length
 rest:∀ i,k<=i->now[i]? = ss[i]?
 done:∀ i s p,i<k->ss[i]? = some s->ps[i]? = some p->∃ t,now[i]? = some t/\t.stb=s.stb/\t.n=s.n+1/\t.xs=s.xs++verCells num time p.ver p.v/\(t.sv.ownBlock=s.sv.ownBlock\/∃ g,t.sv.ownBlock=some g/\S g)
 ok:∀ t∈now,StrOK w t
 apart:Apart now
 mine:∀ t∈now,(∃ s∈ss,s.stb=t.stb)/\∀ g,t.sv.ownBlock=some g->S g\/Ms ss g
section
variable {c B : Nat} {ss : List Strm} {num time : Int} {ps : List Pol} {k : Nat} {S S' : Nat → Prop} {w w' : World} {now : List Strm}
theorem Taken.heap (h:Taken B ss num time ps k S w now) (hS:∀ b,S b->S' b) (hM:∀ b,Ms ss b->b<B/\b≠c) (hS':∀ b,S b->b≠c) (hh:∀ b,(S b\/b<B)->b<w.heap.size->b≠c->w'.heap[b]? = w.heap[b]?):Taken B ss num time ps k S' w' now :=
 ⟨h.len,h.rest,fun i s p a b d=>by
  obtain ⟨t,t1,t2,t3,t4,t5⟩:=h.done i s p a b d
  exact ⟨t,t1,t2,t3,t4,t5.imp id fun ⟨g,g1,g2⟩=>⟨g,g1,hS g g2⟩⟩,fun t ht=>(h.ok t ht).heap fun b hb hm=>by
   rcases hm with rfl | hm
   ·obtain ⟨s,hs,e⟩:=(h.mine t ht).1
    have:=hM t.stb ⟨s,hs,.inl e.symm⟩
    exact hh _ (.inr this.1) hb this.2
   ·rcases (h.mine t ht).2 b hm with x | x
    ·exact hh _ (.inl x) hb (hS' b x)
    ·exact hh _ (.inr (hM b x).1) hb (hM b x).2,h.apart,fun t ht=>⟨(h.mine t ht).1,fun g hg=>((h.mine t ht).2 g hg).imp (hS g) id⟩⟩
theorem Taken.start (hok:∀ s∈ss,StrOK w s) (hap:Apart ss):Taken B ss num time ps 0 S w ss :=
 ⟨rfl,fun _ _=>rfl,fun _ _ _ h=>absurd h (Nat.not_lt_zero _),hok,hap,fun t ht=>⟨⟨t,ht,rfl⟩,fun _ hg=>.inr ⟨t,ht,.inr hg⟩⟩⟩
theorem Taken.step (h:Taken B ss num time ps k S w now) {s:Strm} {p:Pol} (hs:ss[k]? = some s) (hp:ps[k]? = some p) (hM:∀ b,Ms ss b->b<B/\b≠c) {sv':Value}
  (hF:H0 c B (fun b=>b=s.stb\/s.sv.ownBlock=some b) S w S' w' [(s.stb,.cells #[sv'] 177 (0,0))]) (hr:w'.ownsRow 0 59 4 sv' (s.n+1) (s.xs++verCells num time p.ver p.v)) (hv:sv'.ownBlock=s.sv.ownBlock\/∃ g,sv'.ownBlock=some g/\S' g/\w.heap.size<=g) :
  ∃ now',Taken B ss num time ps (k+1) S' w' now':=by
 have hnk:now[k]? = some s:=(h.rest k (Nat.le_refl _)).trans hs
 have hkl:k<now.length:=(List.getElem?_eq_some_iff.1 hnk).1
 have hsm:s∈now:=List.mem_of_getElem? hnk
 have hss:s∈ss:=List.mem_of_getElem? hs
 have own_lt:∀ t∈now,∀ g,t.sv.ownBlock=some g->g<w.heap.size:=fun t ht g hg=>((h.ok t ht).2.lt g hg).2
 refine ⟨now.set k ⟨s.stb,sv',s.n+1,s.xs++verCells num time p.ver p.v⟩,by simp [h.len],fun i hi=>?_,fun i s' p' hi hs' hp'=>?_,fun t ht=>?_,fun i j t u hi hj hij=>?_,fun t ht=>?_⟩
 ·rw [List.getElem?_set_ne (by omega)];exact h.rest i (by omega)
 ·by_cases hik:i=k
  ·subst hik
   rw [hs] at hs';cases hs'
   rw [hp] at hp';cases hp'
   exact ⟨⟨s.stb,sv',s.n+1,s.xs++verCells num time p.ver p.v⟩,by rw [List.getElem?_set_self hkl],rfl,rfl,rfl,hv.imp id fun ⟨g,g1,g2,_⟩=>⟨g,g1,g2⟩⟩
  ·obtain ⟨t,t1,t2,t3,t4,t5⟩:=h.done i s' p' (by omega) hs' hp'
   exact ⟨t,by rw [List.getElem?_set_ne (by omega)];exact t1,t2,t3,t4,t5.imp id fun ⟨g,g1,g2⟩=>⟨g,g1,hF.mine g g2⟩⟩
 ·obtain ⟨i,hi⟩:=List.mem_iff_getElem?.1 ht
  by_cases hik:i=k
  ·subst hik
   rw [List.getElem?_set_self hkl] at hi
   cases hi
   exact ⟨hF.get (.head _),hr⟩
  ·rw [List.getElem?_set_ne (by omega)] at hi
   have htm:t∈now:=List.mem_of_getElem? hi
   have hap:=h.apart i k t s hi hnk hik
   refine (h.ok t htm).heap fun b hb hm=>?_
   have hkeep:=hF.keep b
   rcases hm with rfl | hm
   ·obtain ⟨s',hs',e⟩:=(h.mine t htm).1
    have:=hM t.stb ⟨s',hs',.inl e.symm⟩
    exact hkeep (.inr this.1) hb this.2 (fun x=>x.elim hap.1 (fun e=>(h.ok s hsm).ne (h.ok t htm) e))
   ·refine hkeep ?_ hb ?_ (fun x=>x.elim (fun e=>(h.ok t htm).ne (h.ok s hsm) (e▸hm)) (fun e=>hap.2 b hm e))
    ·exact ((h.mine t htm).2 b hm).imp id fun x=>(hM b x).1
    ·rcases (h.mine t htm).2 b hm with x | x
     ·have:=hF.own b (hF.mine b x);have:=hF.chan;omega
     ·exact (hM b x).2
 ·have key:∀ i j t u,(now.set k ⟨s.stb,sv',s.n+1,s.xs++verCells num time p.ver p.v⟩)[i]? = some t->now[j]? = some u->i=k->j≠k->t.stb≠u.stb/\∀ g,t.sv.ownBlock=some g->u.sv.ownBlock≠some g:=by
   intro i' j' t' u' hi' hj' e hjk
   rw [e,List.getElem?_set_self hkl] at hi'
   cases hi'
   have hap:=h.apart k j' s u' hnk hj' (fun e=>hjk e.symm)
   refine ⟨hap.1,fun g hg hu=>?_⟩
   rcases hv with e | ⟨g',e1,_,e3⟩
   ·exact hap.2 g (by rw [<- e];exact hg) hu
   ·have e2:sv'.ownBlock=some g:=hg
    rw [e1] at e2;cases e2
    have:=own_lt u' (List.mem_of_getElem? hj') g hu
    omega
  by_cases hik:i=k
  ·have hjk:j≠k:=by omega
   rw [List.getElem?_set_ne (by omega)] at hj
   exact key i j t u hi hj hik hjk
  ·rw [List.getElem?_set_ne (by omega)] at hi
   by_cases hjk:j=k
   ·have:=key j i u t hj hi hjk hik
    exact ⟨fun e=>this.1 e.symm,fun g hg hu=>this.2 g hu hg⟩
   ·rw [List.getElem?_set_ne (by omega)] at hj
    exact h.apart i j t u hi hj hij
 ·obtain ⟨i,hi⟩:=List.mem_iff_getElem?.1 ht
  by_cases hik:i=k
  ·subst hik
   rw [List.getElem?_set_self hkl] at hi
   cases hi
   refine ⟨⟨s,hss,rfl⟩,fun g hg=>?_⟩
   rcases hv with e | ⟨g',e1,e2,_⟩
   ·exact .inr ⟨s,hss,.inr (by rw [<- e];exact hg)⟩
   ·have e3:sv'.ownBlock=some g:=hg
    rw [e1] at e3;cases e3
    exact .inl e2
  ·rw [List.getElem?_set_ne (by omega)] at hi
   have htm:t∈now:=List.mem_of_getElem? hi
   exact ⟨(h.mine t htm).1,fun g hg=>((h.mine t htm).2 g hg).imp (hF.mine g) id⟩
end
theorem served_at {b:Frame} {a:Act} {ops:Array Oper} {i:Nat} {rest:List Nat} {k:List Item} {cs:List Frame} {o:Oper} (ho:ops[i]? = some o) (v:Value):Go.Conc.served (G (b.at a (.inRegion ops (i::rest)::k)) cs) v=G (b.at (a.put o.dst v) (.inRegion ops rest::k)) cs:=by
 show { (G (b.at a (.inRegion ops (i::rest)::k)) cs) with frame:=(b.at a (.inRegion ops (i::rest)::k)).finish v,status:=.running,offers:=Option.none }=_
 rw [Frame.finish_at,ho]
 rfl
noncomputable def body46:Code:=Tryz.f46.body.getD .skip
noncomputable def loopE:Code:=match body46 with
 | .seq _ (.seq _ (.seq _ (.seq (.seq _ (.block _ (.loop x))) _)))=>x
 | _=>.skip
noncomputable def tailE:Code:=match body46 with
 | .seq _ (.seq _ (.seq _ (.seq _ x)))=>x
 | _=>.skip
noncomputable def opsE:Array Oper:=match loopE with
 | .seq (.region _ o _) _=>o
 | _=>#[]
noncomputable def headE (c:Nat) (x0 x1 x2 x3 x4 x5 x6 x7 x8 x10 x11 x12 x13 x14 x15 x16 x17 x18 x19 x20 x21 x22 x23 x24 x25 x26 x27 x28 x29 x30 x31:Value) (cs:List Frame) (u9 u33 u34 u35 u36 u37 u38 u39 u40:Value):Goroutine :=
 G ((base 46).at ⟨#[x0,x1,x2,x3,x4,x5,x6,x7,x8,u9,x10,x11,x12,x13,x14,x15,x16,x17,x18,x19,x20,x21,x22,x23,x24,x25,x26,x27,x28,x29,x30,x31,.chan (some c),u33,u34,u35,u36,u37,u38,u39,u40],[]⟩ [.code loopE,.inLoop loopE,.inBlock 0,.code tailE]) cs
abbrev zE:Value:=(.agg #[.pointer none,.int .i64 0,.int .i64 0,.int .i64 0,.bool false])
noncomputable def endE (c:Nat) (x0 x1 x2 x3 x4 x5 x6 x7 x8 x10 x11 x12 x13 x14 x15 x16 x17 x18 x19 x20 x21 x22 x23 x24 x25 x26 x27 x28 x29 x30 x31:Value) (cs:List Frame) (u9 _u33 u34 u35 u36 u37 u38 u39 u40:Value):Goroutine :=
 G ((base 46).at ⟨#[x0,x1,x2,x3,x4,x5,x6,x7,x8,u9,x10,x11,x12,x13,x14,x15,x16,x17,x18,x19,x20,x21,x22,x23,x24,x25,x26,x27,x28,x29,x30,x31,.chan (some c),(.tuple #[zE,.bool false]),u34,u35,u36,u37,u38,u39,u40],[]⟩ [.inRegion opsE [1],.code (match loopE with | .seq _ y=>y | _=>.skip),.inLoop loopE,.inBlock 0,.code tailE]) cs
variable {c B : Nat} {M Ro : Nat → Prop}
set_option maxRecDepth 100000 in
set_option maxHeartbeats 2000000 in
theorem fin_e (H:Terr c B M Ro) (x0 x1 x2 x3 x4 x5 x6 x7 x8 x10 x11 x12 x13 x14 x15 x16 x17 x18 x19 x20 x21 x22 x23 x24 x25 x26 x27 x28 x29 x30 x31:Value) (cs:List Frame) (u9 u33 u34 u35 u36 u37 u38 u39 u40:Value) (K:Goroutine->World->Prop) (S:Nat->Prop) (w:World)
  (hk:∀ w',R0w c B S w w'->K (endE c x0 x1 x2 x3 x4 x5 x6 x7 x8 x10 x11 x12 x13 x14 x15 x16 x17 x18 x19 x20 x21 x22 x23 x24 x25 x26 x27 x28 x29 x30 x31 cs u9 u33 u34 u35 u36 u37 u38 u39 u40) w'):SA Tryz.prog c zE (R0w c B) (D0w B M) (CA1 B M) K [] S (headE c x0 x1 x2 x3 x4 x5 x6 x7 x8 x10 x11 x12 x13 x14 x15 x16 x17 x18 x19 x20 x21 x22 x23 x24 x25 x26 x27 x28 x29 x30 x31 cs u9 u33 u34 u35 u36 u37 u38 u39 u40) w:=by
 have PP:=the_pair c B M Ro H
 have TT:=PP.t0
 refine SA.of_walk PP ?_
 simp only [headE,endE,loopE,tailE,opsE,body46,Tryz.f46,Option.getD_some] at hk ⊢
 refine RT.seq TT ?_
 refine RT.region TT ?_
 simp only [List.size_toArray,List.length_cons,List.length_nil,Nat.reduceAdd,Nat.zero_add,List.range,List.range.loop]
 refine .stop fun w₁ h₁=>SA.fin rfl (fun w₂ h₂=>⟨_,stepG_comm (P:=Tryz.prog) (cases:=#[rcase c zE]) (blocking:=true) (shape:=.recv true) (w':=w₂) rfl (by rfl) (by simp [base]) (by simp [execOp,go_sem];rfl),by rw [listed_nil (by simp [go_sem])];simp⟩) (fun w₂ h₂=>hk w₂ (TT.trans _ _ _ _ h₁ h₂))
set_option maxRecDepth 100000 in
set_option maxHeartbeats 2000000 in
theorem round_e (H : Terr c B M Ro) (x0 x1 x2 x3 x4 x5 x6 x7 x8 x10 x11 x12 x13 x14 x15 x16 x17 x18 x19 x20 x21 x22 x23 x24 x25 x26 x27 x28 x29 x30 x31 : Value) (cs : List Frame) (K : Goroutine → World → Prop) (L : List Value) (ss : List Strm) (num time : Int) (ps : List Pol) (hMs : ∀ b, Ms ss b → M b) (hn : ∀ s ∈ ss, s.n ≤ 1000000)
  (k : Nat) (s : Strm) (p : Pol) (hs : ss[k]? = some s) (hp : ps[k]? = some p) (hps : p.strm = some ⟨s.stb, 0, none⟩) (w₀ : World) (u9 u33 u34 u35 u36 u37 u38 u39 u40 : Value) (S : Nat → Prop) (w : World) (now : List Strm)
  (hG : H0 c B M (fun _ => False) w₀ S w []) (hT : Taken B ss num time ps k S w now)
  (next : ∀ (u9 u33 u34 u35 u36 u37 u38 u39 u40 : Value) (S : Nat → Prop) (w : World) (now : List Strm), H0 c B M (fun _ => False) w₀ S w [] → Taken B ss num time ps (k + 1) S w now → SA Tryz.prog c zE (R0w c B) (D0w B M) (CA1 B M) K L S (headE c x0 x1 x2 x3 x4 x5 x6 x7 x8 x10 x11 x12 x13 x14 x15 x16 x17 x18 x19 x20 x21 x22 x23 x24 x25 x26 x27 x28 x29 x30 x31 cs u9 u33 u34 u35 u36 u37 u38 u39 u40) w) :
  SA Tryz.prog c zE (R0w c B) (D0w B M) (CA1 B M) K (letter num time p :: L) S (headE c x0 x1 x2 x3 x4 x5 x6 x7 x8 x10 x11 x12 x13 x14 x15 x16 x17 x18 x19 x20 x21 x22 x23 x24 x25 x26 x27 x28 x29 x30 x31 cs u9 u33 u34 u35 u36 u37 u38 u39 u40) w := by
 have PP := the_pair c B M Ro H
 have TT := PP.t0
 have hMc : ∀ b, Ms ss b → b < B ∧ b ≠ c := fun b hb => H.m b (hMs b hb)
 have hnx := fun u9 u33 u34 u35 u36 u37 u38 u39 u40 S w now h1 h2 => SA.walk PP (next u9 u33 u34 u35 u36 u37 u38 u39 u40 S w now h1 h2)
 clear next
 refine SA.of_walk PP ?_
 simp only [headE, loopE, tailE, body46, Tryz.f46, Option.getD_some] at hnx ⊢
 refine RT.seq TT ?_
 refine RT.region TT ?_
 simp only [List.size_toArray, List.length_cons, List.length_nil, Nat.reduceAdd, Nat.zero_add, List.range, List.range.loop]
 refine .stop fun w₁ h₁ => SA.recv rfl (fun w₂ h₂ => ⟨_, stepG_comm (P := Tryz.prog) (cases := #[rcase c zE]) (blocking := true) (shape := .recv true) (w' := w₂) rfl (by rfl) (by simp [base]) (by simp [execOp, go_sem]; rfl), by rw [listed_nil (by simp [go_sem])]; simp⟩) (fun w₂ h₂ => ?_)
 have h12 := TT.trans _ _ _ _ h₁ h₂
 have hSc : ∀ b, S b → b ≠ c := fun b hb e => by have := (hG.own b hb).1; have := hG.chan; omega
 replace hT : Taken B ss num time ps k S w₂ now := hT.heap (fun _ x => x) hMc hSc (fun b hb hl hc => h12.block b hc hl hb)
 replace hG := hG.rely h12
 clear h12 h₁ h₂ w₁ w
 have hF : H0 c B (fun _ => False) S w₂ S w₂ [] := H0.start hG.own H.chan hG.base (by simp)
 refine SA.of_walk PP ?_
 rw [served_at rfl]
 simp only [recvd, letter, if_true]
 try walk_nrm
 refine RT.op rfl (by rfl) (by simp [base]) (fun v1 hR K hK => ?_)
 replace hF := hF.rely hR
 go_simp
 refine hK _ _ ⟨by rw [listed_nil (by simp [go_sem])]; exact TT.idle _ _, ?_⟩
 clear hK K hR
 rw [grow_self]
 refine RT.nil TT ?_
 refine RT.seq TT ?_
 refine RT.cond TT true (by simp [Act.eval]) ?_
 simp only [if_true]
 refine RT.skip TT ?_
 refine RT.block TT ?_
 refine RT.seq TT ?_
 refine RT.region TT ?_
 simp only [List.size_toArray, List.length_cons, List.length_nil, Nat.reduceAdd, Nat.zero_add, List.range, List.range.loop]
 refine RT.op rfl (by rfl) (by simp [base]) (fun v2 hR K hK => ?_)
 replace hF := hF.rely hR
 go_simp
 refine hK _ _ ⟨by rw [listed_nil (by simp [go_sem])]; exact TT.idle _ _, ?_⟩
 clear hK K hR
 rw [grow_self]
 refine RT.op rfl (by rfl) (by simp [base]) (fun v3 hR K hK => ?_)
 replace hF := hF.rely hR
 go_simp
 refine hK _ _ ⟨by rw [listed_nil (by simp [go_sem])]; exact D0w.alloc _ _ _, ?_⟩
 clear hK K hR
 have hz3 := hF.size
 have ht3 : grow S v3 (v3.alloc (.cells #[.pointer none, .int .i64 0, .int .i64 0, .int .i64 0, .bool false] 165)) v3.heap.size := .inr ⟨Nat.le_refl _, by rw [alloc_size]; exact Nat.lt_succ_self _⟩
 replace hF := hF.alloc (.cells #[.pointer none, .int .i64 0, .int .i64 0, .int .i64 0, .bool false] 165)
 generalize grow _ v3 (v3.alloc (.cells #[.pointer none, .int .i64 0, .int .i64 0, .int .i64 0, .bool false] 165)) = T3 at hF ht3 ⊢
 generalize hb3 : v3.heap.size = b3 at hF ht3 hz3 ⊢
 generalize v3.alloc (.cells #[.pointer none, .int .i64 0, .int .i64 0, .int .i64 0, .bool false] 165) = u3 at hF ⊢
 clear hb3 v3
 refine RT.op rfl (by rfl) (by simp [base]) (fun w₅ hR K hK => ?_)
 replace hF := hF.rely hR
 have hb := hF.get (.head _)
 have hc0 := hF.cell (i := 0) (.head _) rfl
 have hc1 := hF.cell (i := 1) (.head _) rfl
 have hc2 := hF.cell (i := 2) (.head _) rfl
 have hc3 := hF.cell (i := 3) (.head _) rfl
 have hc4 := hF.cell (i := 4) (.head _) rfl
 have hz : ∀ i, w₅.frozen? ⟨b3, i, none⟩ = false := fun i => by simp [World.frozen?, hb]
 go_simp
 refine hK _ _ ⟨?_, ?_⟩
 ·refine D0w.sets (b := b3) (.inl ht3) (by simp only [setCell_size]) (fun k hk => (setCell_other _ _ _ hk).trans ((setCell_other _ _ _ hk).trans ((setCell_other _ _ _ hk).trans ((setCell_other _ _ _ hk).trans (setCell_other _ _ _ hk))))) (fun e he => ?_)
  have hm := mem_listed he
  simp [go_sem, events_store (v := Value.bool p.v) (hv := rfl), events_store (v := Value.pointer (some ⟨s.stb, 0, none⟩)) (hv := rfl), *] at hm
  rcases hm with rfl | rfl | rfl | rfl | rfl <;> exact ⟨_, rfl, rfl⟩
 clear hK K hb hc0 hc1 hc2 hc3 hc4 hz hR
 rw [grow_same _ (by simp only [setCell_size])]
 replace hF := (((((hF.set (i := 0) (v := (.pointer (some ⟨s.stb, 0, none⟩))) (.inl hz3) (by simp)).set (i := 1) (v := (.int .i64 num)) (.inl hz3) (by simp)).set (i := 2) (v := (.int .i64 time)) (.inl hz3) (by simp)).set (i := 3) (v := (.int .i64 p.ver)) (.inl hz3) (by simp)).set (i := 4) (v := (.bool p.v)) (.inl hz3) (by simp))
 simp only [List.setIfInBounds_toArray, List.set_cons_zero, List.set_cons_succ] at hF
 generalize (((((w₅.setCell ⟨b3, 0, none⟩ (.pointer (some ⟨s.stb, 0, none⟩))).setCell ⟨b3, 1, none⟩ (.int .i64 num)).setCell ⟨b3, 2, none⟩ (.int .i64 time)).setCell ⟨b3, 3, none⟩ (.int .i64 p.ver)).setCell ⟨b3, 4, none⟩ (.bool p.v)) = u5 at hF ⊢
 clear w₅ u3
 refine RT.nil TT ?_
 refine RT.region TT ?_
 simp only [List.size_toArray, List.length_cons, List.length_nil, Nat.reduceAdd, Nat.zero_add, List.range, List.range.loop]
 refine RT.op rfl (by rfl) (by simp [base]) (fun v6 hR K hK => ?_)
 replace hF := hF.rely hR
 go_simp
 refine hK _ _ ⟨by rw [listed_nil (by simp [go_sem])]; exact TT.idle _ _, ?_⟩
 clear hK K hR
 rw [grow_self]
 refine RT.op rfl (by rfl) (by simp [base]) (fun v7 hR K hK => ?_)
 replace hF := hF.rely hR
 have hc0 := hF.cell (i := 0) (.head _) rfl
 go_simp
 refine hK _ _ ⟨?_, ?_⟩
 ·refine D0w.reads fun e he => ?_
  have hm := mem_listed he
  simp [go_sem, *] at hm
  rcases hm with rfl <;> exact hF.read (.head _) rfl
 clear hK K hR
 rw [grow_self]
 refine RT.op rfl (by rfl) (by simp [base]) (fun v8 hR K hK => ?_)
 replace hF := hF.rely hR
 go_simp
 refine hK _ _ ⟨by rw [listed_nil (by simp [go_sem])]; exact TT.idle _ _, ?_⟩
 clear hK K hR
 rw [grow_self]
 refine RT.op rfl (by rfl) (by simp [base]) (fun v9 hR K hK => ?_)
 replace hF := hF.rely hR
 have hc1 := hF.cell (i := 1) (.head _) rfl
 have hc2 := hF.cell (i := 2) (.head _) rfl
 have hc3 := hF.cell (i := 3) (.head _) rfl
 have hc4 := hF.cell (i := 4) (.head _) rfl
 go_simp
 refine hK _ _ ⟨?_, ?_⟩
 ·refine D0w.reads fun e he => ?_
  have hm := mem_listed he
  simp [go_sem, *] at hm
  rcases hm with rfl | rfl | rfl | rfl <;> exact hF.read (.head _) rfl
 clear hK K hR
 rw [grow_self]
 refine RT.call TT (f := 89) (Post := fun _ S' w' => ∃ y1 sv', H0 c B (fun _ => False) S w₂ T3 y1 [] ∧ H0 c B (fun b => b = s.stb ∨ s.sv.ownBlock = some b) T3 y1 S' w' [(s.stb, .cells #[sv'] 177 (0, 0))] ∧ w'.ownsRow 0 59 4 sv' (s.n + 1) (s.xs ++ verCells num time p.ver p.v) ∧ (sv'.ownBlock = s.sv.ownBlock ∨ ∃ g, sv'.ownBlock = some g ∧ S' g ∧ y1.heap.size ≤ g)) rfl (by rfl) (by simp [base]) rfl Tryz.func89 (by decide) (by rfl) (fun y1 hR => ?call) ?next
 case call =>
  replace hF := (hF.rely hR).less (fs' := []) (by simp)
  have hT1 : Taken B ss num time ps k T3 y1 now := hT.heap hF.mine hMc hSc (fun b hb hl hc => hF.keep b hb hl hc (fun x => x))
  have hnk : now[k]? = some s := (hT1.rest k (Nat.le_refl _)).trans hs
  have hok := hT1.ok s (List.mem_of_getElem? hnk)
  have hsm : s ∈ ss := List.mem_of_getElem? hs
  have hm1 := hMs s.stb ⟨s, hsm, .inl rfl⟩
  have := take_c H s.stb s.sv s.n s.xs num time p.ver p.v T3 y1 hF.own hF.base (H.m _ hm1).1 hm1 hok.1 hok.2 (fun g hg => ⟨(hMc g ⟨s, hsm, .inr hg⟩).1, hMs g ⟨s, hsm, .inr hg⟩⟩) (hn s hsm)
  simp only [List.map_toArray, List.map_cons, List.map_nil]
  change RCalls Tryz.prog true (R0w c B) (D0w B M) 89 #[.pointer (some ⟨s.stb, 0, none⟩), .agg #[.int .i64 num, .int .i64 time, .int .i64 p.ver, .bool p.v]] _ y1 _
  refine RCalls.mono this ?_
  rintro _ S' w' ⟨sv', r1, r2, r3⟩
  exact ⟨y1, sv', hF, r1, r2, r3⟩
 rintro v S' w' ⟨y1, sv', hF1, r1, r2, r3⟩
 have hT1 : Taken B ss num time ps k T3 y1 now := hT.heap hF1.mine hMc hSc (fun b hb hl hc => hF1.keep b hb hl hc (fun x => x))
 obtain ⟨now', hT2⟩ := hT1.step hs hp hMc r1 r2 r3
 have hsm : s ∈ ss := List.mem_of_getElem? hs
 have hG2 : H0 c B M (fun _ => False) w₀ S' w' [] := (hG.step hF1 (fun _ x => x.elim) (by simp)).step r1 (fun b hb => hb.elim (fun e => hMs b ⟨s, hsm, .inl e⟩) (fun e => hMs b ⟨s, hsm, .inr e⟩)) (by simp)
 try walk_nrm
 refine RT.nil TT ?_
 refine RT.inBlock TT ?_
 refine RT.inLoop TT ?_
 exact hnx _ _ _ _ _ _ _ _ _ S' w' now' hG2 hT2
theorem from_e (H:Terr c B M Ro) (x0 x1 x2 x3 x4 x5 x6 x7 x8 x10 x11 x12 x13 x14 x15 x16 x17 x18 x19 x20 x21 x22 x23 x24 x25 x26 x27 x28 x29 x30 x31:Value) (cs:List Frame) (K:Goroutine->World->Prop) (ss:List Strm) (num time:Int) (ps:List Pol) (hMs:∀ b,Ms ss b->M b) (hn:∀ s∈ss,s.n<=1000000)
  (hlen:ss.length=ps.length) (hps:∀ (i:Nat) (s:Strm) (p:Pol),ss[i]? = some s->ps[i]? = some p->p.strm=some ⟨s.stb,0,none⟩) (w₀:World)
  (hk:∀ (u9 u33 u34 u35 u36 u37 u38 u39 u40:Value) (S:Nat->Prop) (w:World) (now:List Strm),H0 c B M (fun _=>False) w₀ S w []->Taken B ss num time ps ps.length S w now->K (endE c x0 x1 x2 x3 x4 x5 x6 x7 x8 x10 x11 x12 x13 x14 x15 x16 x17 x18 x19 x20 x21 x22 x23 x24 x25 x26 x27 x28 x29 x30 x31 cs u9 u33 u34 u35 u36 u37 u38 u39 u40) w) :
  ∀ (m k:Nat),k+m=ps.length->∀ (u9 u33 u34 u35 u36 u37 u38 u39 u40:Value) (S:Nat->Prop) (w:World) (now:List Strm),H0 c B M (fun _=>False) w₀ S w []->Taken B ss num time ps k S w now->
   SA Tryz.prog c zE (R0w c B) (D0w B M) (CA1 B M) K ((ps.drop k).map (letter num time)) S (headE c x0 x1 x2 x3 x4 x5 x6 x7 x8 x10 x11 x12 x13 x14 x15 x16 x17 x18 x19 x20 x21 x22 x23 x24 x25 x26 x27 x28 x29 x30 x31 cs u9 u33 u34 u35 u36 u37 u38 u39 u40) w
 | 0,k,hkm,u9,u33,u34,u35,u36,u37,u38,u39,u40,S,w,now,hG,hT=>by
  have hkl:k=ps.length:=by omega
  subst hkl
  rw [List.drop_length]
  refine fin_e H x0 x1 x2 x3 x4 x5 x6 x7 x8 x10 x11 x12 x13 x14 x15 x16 x17 x18 x19 x20 x21 x22 x23 x24 x25 x26 x27 x28 x29 x30 x31 cs u9 u33 u34 u35 u36 u37 u38 u39 u40 K S w fun w' hR=>?_
  have hSc:∀ b,S b->b≠c:=fun b hb e=>by have:=(hG.own b hb).1;have:=hG.chan;omega
  exact hk u9 u33 u34 u35 u36 u37 u38 u39 u40 S w' now (hG.rely hR) (hT.heap (fun _ x=>x) (fun b hb=>H.m b (hMs b hb)) hSc (fun b hb hl hc=>hR.block b hc hl hb))
 | m+1,k,hkm,u9,u33,u34,u35,u36,u37,u38,u39,u40,S,w,now,hG,hT=>by
  have hkl:k<ps.length:=by omega
  rw [List.drop_eq_getElem_cons hkl,List.map_cons]
  have hks:k<ss.length:=by omega
  exact round_e H x0 x1 x2 x3 x4 x5 x6 x7 x8 x10 x11 x12 x13 x14 x15 x16 x17 x18 x19 x20 x21 x22 x23 x24 x25 x26 x27 x28 x29 x30 x31 cs K _ ss num time ps hMs hn k ss[k] ps[k] (List.getElem?_eq_getElem hks) (List.getElem?_eq_getElem hkl) (hps k _ _ (List.getElem?_eq_getElem hks) (List.getElem?_eq_getElem hkl)) w₀ u9 u33 u34 u35 u36 u37 u38 u39 u40 S w now hG hT
   fun u9 u33 u34 u35 u36 u37 u38 u39 u40 S w now h1 h2=>from_e H x0 x1 x2 x3 x4 x5 x6 x7 x8 x10 x11 x12 x13 x14 x15 x16 x17 x18 x19 x20 x21 x22 x23 x24 x25 x26 x27 x28 x29 x30 x31 cs K ss num time ps hMs hn hlen hps w₀ hk m (k+1) (by omega) u9 u33 u34 u35 u36 u37 u38 u39 u40 S w now h1 h2
end Go.Proofs.YtpbbmagjhkakgaaGreatDoor.Lf
namespace Go.Proofs.YtpbbmagjhkakgaaGreatDoor.Lf
open Go Go.Extern
variable {P : Program}
theorem fit_Extern_Rtype_ofHandle (P:Program) (x0):Fit P (fun _=>True) 0 (@Go.Extern.Rtype.ofHandle x0):=by
 unfold Go.Extern.Rtype.ofHandle
 repeat' (first | (with_reducible first | exact fit_pure P _ | apply fit_program | apply fit_stuck | apply fitB) | (intro _) | split | (exact trivial) | (dsimp only))
theorem fit_Extern_ReflectliteValue_partsAny (P:Program) (x):Fit P (fun _=>True) 0 (ReflectliteValue.partsAny x):=by
 cases x with
 | agg cs =>
  rcases cs with ⟨_ | ⟨a,_ | ⟨b,_ | ⟨c,_ | ⟨d,l⟩⟩⟩⟩⟩
  ·exact fit_stuck P _
  ·exact fit_stuck P _
  ·exact fit_stuck P _
  ·cases c with
   | int k n =>
    cases k with
    | u64 =>
     rcases n with (_ | n) | n
     ·exact fit_pure P _
     ·cases b with
      | pointer r =>
       cases r with
       | none=>exact fit_stuck P _
       | some r=>exact fitB (s:=Rtype.ofHandle a) (fit_Extern_Rtype_ofHandle P _) fun _=>fit_pure P _
      | _=>exact fit_stuck P _
     ·cases b with
      | pointer r =>
       cases r with
       | none=>exact fit_stuck P _
       | some r=>exact fitB (s:=Rtype.ofHandle a) (fit_Extern_Rtype_ofHandle P _) fun _=>fit_pure P _
      | _=>exact fit_stuck P _
    | _=>cases b with
     | pointer r=>cases r<;>exact fit_stuck P _
     | _=>exact fit_stuck P _
   | _=>cases b with
     | pointer r=>cases r<;>exact fit_stuck P _
     | _=>exact fit_stuck P _
  ·exact fit_stuck P _
 | _=>exact fit_stuck P _
theorem fit_Extern_ReflectliteValue_errorText (P:Program) (x):Fit P (fun _=>True) 0 (ReflectliteValue.errorText x):=by
 rcases x with ⟨_ | ⟨a,_ | ⟨b,l⟩⟩⟩
 ·exact fit_stuck P _
 ·cases a with
  | pointer r =>
   cases r with
   | none=>exact (fit_panics (.nilDeref):Fit P (fun _=>True) 0 (runtimePanic .nilDeref:Sem Value))
   | some r=>exact fitB (s:=load r) (fit_load P _ _) fun _=>fitB (fit_asString P _) fun _=>fitB (fit_load P _ _) fun _=>fitB (fit_asInt P _) fun _=>fit_pure P _
  | _=>exact fit_stuck P _
 ·exact fit_stuck P _
theorem fit_Extern_Rtype_under (P:Program) (x0):Fit P (fun _=>True) 0 (@Go.Extern.Rtype.under x0):=by
 unfold Go.Extern.Rtype.under
 repeat' (first | (with_reducible first | exact fit_pure P _ | apply fit_typeInfo | apply fitB) | (intro _) | split | (exact trivial) | (dsimp only))
theorem fit_Extern_Rtype_elemq (P:Program) (x0):Fit P (fun _=>True) 0 (@Go.Extern.Rtype.elem? x0):=by
 unfold Go.Extern.Rtype.elem?
 repeat' (first | (with_reducible first | exact fit_pure P _ | apply fit_Extern_Rtype_under | apply fitB) | (intro _) | split | (exact trivial) | (dsimp only))
theorem fit_Extern_ReflectliteValue_valueError (P:Program) {x0} (x1) (x2):Fit P (fun _=>True) 0 (@Go.Extern.ReflectliteValue.valueError x0 x1 x2):=by
 unfold Go.Extern.ReflectliteValue.valueError
 repeat' (first | (with_reducible first | exact fit_pure P _ | apply fit_newVar | apply fit_elemOf | apply fit_cutType | apply fit_goPanic | apply fitB) | (intro _) | split | (exact trivial) | (dsimp only))
theorem fit_Extern_ReflectliteValue_isNil (P:Program) (x0) (x1) (x2) (x3):Fit P (fun _=>True) 0 (@Go.Extern.ReflectliteValue.isNil x0 x1 x2 x3):=by
 unfold Go.Extern.ReflectliteValue.isNil
 repeat' (first | (with_reducible first | exact fit_pure P _ | apply fit_Extern_ReflectliteValue_valueError | apply fit_loadVar | apply fitB | apply fitIte) | (intro _) | split | (exact trivial) | (dsimp only))
theorem fit_Extern_Rtype_noPack (P:Program) (x0) (x1):Fit P (fun _=>True) 0 (@Go.Extern.Rtype.noPack x0 x1):=by
 unfold Go.Extern.Rtype.noPack
 repeat' (first | (with_reducible first | exact fit_pure P _ | apply fit_program | apply fit_unsupported | apply fitB | apply fitIte) | (intro _) | split | (exact trivial) | (dsimp only))
theorem fit_Extern_ReflectliteValue_parts (P:Program) (x0):Fit P (fun _=>True) 0 (@Go.Extern.ReflectliteValue.parts x0):=by
 unfold Go.Extern.ReflectliteValue.parts
 repeat' (first | (with_reducible first | exact fit_pure P _ | apply fit_Extern_ReflectliteValue_partsAny | apply fit_Extern_Rtype_noPack | apply fitB) | (intro _) | split | (exact trivial) | (dsimp only))
theorem fit_Extern_RuntimeError_described (P:Program) (x0):Fit P (fun _=>True) 0 (@Go.Extern.RuntimeError.described x0):=by
 unfold Go.Extern.RuntimeError.described
 repeat' (first | (with_reducible first | exact fit_pure P _ | apply fit_program | apply fit_typeInfo | apply fit_typeStr | apply fit_stuck | apply fitB) | (intro _) | split | (exact trivial) | (dsimp only))
theorem fit_Extern_Rtype_handle (P:Program) (x0):Fit P (fun _=>True) 0 (@Go.Extern.Rtype.handle x0):=by
 unfold Go.Extern.Rtype.handle
 repeat' (first | (with_reducible first | exact fit_pure P _ | apply fit_program | apply fitB) | (intro _) | split | (exact trivial) | (dsimp only))
theorem fit_Extern_Rtype_kind (P:Program) (x0):Fit P (fun _=>True) 0 (@Go.Extern.Rtype.kind x0):=by
 unfold Go.Extern.Rtype.kind
 repeat' (first | (with_reducible first | exact fit_pure P _ | apply fit_Extern_Rtype_under | apply fit_stuck | apply fitB) | (intro _) | split | (exact trivial) | (dsimp only))
theorem fit_Extern_ReflectliteValue_mk (P:Program) (x0) (x1) (x2):Fit P (fun _=>True) 0 (@Go.Extern.ReflectliteValue.mk x0 x1 x2):=by
 unfold Go.Extern.ReflectliteValue.mk
 repeat' (first | (with_reducible first | exact fit_pure P _ | apply fit_Extern_Rtype_handle | apply fit_Extern_Rtype_kind | apply fitB) | (intro _) | split | (exact trivial) | (dsimp only))
theorem fit_Extern_ReflectliteType_ofRtype (P:Program) (x):Fit P (fun _=>True) 0 (ReflectliteType.ofRtype x):=by
 cases x with
 | agg cs =>
  rcases cs with ⟨_ | ⟨a,_ | ⟨b,l⟩⟩⟩
  ·exact fit_stuck P _
  ·exact fitB (s:=Rtype.ofHandle a) (fit_Extern_Rtype_ofHandle P _) fun t=>fitB (fit_Extern_Rtype_noPack P _ _) fun _=>fit_pure P _
  ·exact fit_stuck P _
 | _=>exact fit_stuck P _
theorem fit_Extern_ReflectliteType_method (P:Program) (f:TypeId->Sem Value) (hf:∀ t,Fit P (fun _=>True) 0 (f t)) (x):Fit P (fun _=>True) 0 (ReflectliteType.method f x):=by
 rcases x with ⟨_ | ⟨a,_ | ⟨b,l⟩⟩⟩
 ·exact fit_stuck P _
 ·exact fitB (s:=ReflectliteType.ofRtype a) (fit_Extern_ReflectliteType_ofRtype P a) fun t=>hf t
 ·exact fit_stuck P _
theorem fit_Extern_RuntimeError_text (P:Program) (x0):Fit P (fun _=>True) 0 (@Go.Extern.RuntimeError.text x0):=by
 unfold Go.Extern.RuntimeError.text
 repeat' (first | (with_reducible first | exact fit_pure P _) | (intro _) | split | (exact trivial) | (dsimp only))
theorem fit_Extern_ReflectliteType_pkgPath (P:Program) (x0):Fit P (fun _=>True) 0 (@Go.Extern.ReflectliteType.pkgPath x0):=by
 unfold Go.Extern.ReflectliteType.pkgPath
 repeat' (first | (with_reducible first | exact fit_pure P _ | apply fit_typeInfo | apply fitB) | (intro _) | split | (exact trivial) | (dsimp only))
theorem fit_Extern_Rtype_noPackMethods (P:Program) (x0) (x1):Fit P (fun _=>True) 0 (@Go.Extern.Rtype.noPackMethods x0 x1):=by
 unfold Go.Extern.Rtype.noPackMethods
 repeat' (first | (with_reducible first | exact fit_pure P _ | apply fit_program | apply fit_unsupported | apply fitB | apply fitIte) | (intro _) | split | (exact trivial) | (dsimp only))
theorem fit_Extern_Rtype_implements (P:Program) (x0) (x1):Fit P (fun _=>True) 0 (@Go.Extern.Rtype.implements x0 x1):=by
 unfold Go.Extern.Rtype.implements
 repeat' (first | (with_reducible first | exact fit_pure P _ | apply fit_Extern_Rtype_noPackMethods | apply fit_Extern_Rtype_under | apply fit_typeInfo | apply fitB) | (intro _) | split | (exact trivial) | (dsimp only))
theorem fit_Extern_ReflectliteType_implements_ (P:Program) (x0) (x1):Fit P (fun _=>True) 0 (@Go.Extern.ReflectliteType.implements_ x0 x1):=by
 unfold Go.Extern.ReflectliteType.implements_
 repeat' (first | (with_reducible first | exact fit_pure P _ | apply fit_Extern_Rtype_kind | apply fit_Extern_Rtype_noPackMethods | apply fit_Extern_Rtype_noPack | apply fit_Extern_Rtype_implements | apply fit_panicString | apply fitB | apply fitIte) | (intro _) | split | (exact trivial) | (dsimp only))
theorem fit_Extern_RuntimeError_boundsError (P:Program) (x):Fit P (fun _=>True) 0 (RuntimeError.boundsError x):=by
 rcases x with ⟨_ | ⟨a,_ | ⟨b,l⟩⟩⟩
 ·exact fit_stuck P _
 ·cases a with
  | agg cs =>
   rcases cs with ⟨_ | ⟨a,_ | ⟨b,_ | ⟨c,_ | ⟨d,_ | ⟨e,l⟩⟩⟩⟩⟩⟩
   ·exact fit_stuck P _
   ·exact fit_stuck P _
   ·exact fit_stuck P _
   ·exact fit_stuck P _
   ·cases a with
    | int k x =>
     cases b with
     | int k y =>
      cases c with
      | bool s =>
       cases d with
       | int k z =>
        have key:∀ (o:Option String) (g:String->String),Fit P (fun _=>True) 0 (match o with | some fmt=>RuntimeError.text (g fmt) | none=>stuck "boundsError: no such code":Sem Value):=by
         intro o g
         cases o with
         | none=>exact fit_stuck P _
         | some f=>exact fit_pure P _
        exact key ((if s&&x<0 then RuntimeError.boundsNegErrorFmts else RuntimeError.boundsErrorFmts)[z.toNat]?) (fun fmt=> "runtime error: "++(fmt.replace "%x" (toString (if s then x else IntKind.u64.wrap x))).replace "%y" (toString y))
       | _=>exact fit_stuck P _
      | _=>exact fit_stuck P _
     | _=>exact fit_stuck P _
    | _=>exact fit_stuck P _
   ·exact fit_stuck P _
  | _=>exact fit_stuck P _
 ·exact fit_stuck P _
theorem fit_Extern_Rtype_hasName (P:Program) (x0):Fit P (fun _=>True) 0 (@Go.Extern.Rtype.hasName x0):=by
 unfold Go.Extern.Rtype.hasName
 repeat' (first | (with_reducible first | exact fit_pure P _ | apply fit_typeInfo | apply fitB) | (intro _) | split | (exact trivial) | (dsimp only))
theorem fit_Extern_Rtype_directlyAssignable (P:Program) (x0) (x1):Fit P (fun _=>True) 0 (@Go.Extern.Rtype.directlyAssignable x0 x1):=by
 unfold Go.Extern.Rtype.directlyAssignable
 repeat' (first | (with_reducible first | exact fit_pure P _ | apply fit_Extern_Rtype_hasName | apply fit_Extern_Rtype_under | apply fitB | apply fitIte) | (intro _) | split | (exact trivial) | (dsimp only))
theorem fit_Extern_Rtype_noPackNamed (P:Program) (x0) (x1):Fit P (fun _=>True) 0 (@Go.Extern.Rtype.noPackNamed x0 x1):=by
 unfold Go.Extern.Rtype.noPackNamed
 repeat' (first | (with_reducible first | exact fit_pure P _ | apply fit_program | apply fit_unsupported | apply fitB | apply fitIte) | (intro _) | split | (exact trivial) | (dsimp only))
theorem fit_Extern_Rtype_spelt (P:Program) (x0):Fit P (fun _=>True) 0 (@Go.Extern.Rtype.spelt x0):=by
 unfold Go.Extern.Rtype.spelt
 repeat' (first | (with_reducible first | exact fit_pure P _ | apply fit_Extern_Rtype_noPackNamed | apply fit_typeStr | apply fitB) | (intro _) | split | (exact trivial) | (dsimp only))
theorem fit_Extern_ReflectliteValue_set (P:Program) (x):Fit P (fun _=>True) 0 (ReflectliteValue.set x):=by
 rcases x with ⟨_ | ⟨a,_ | ⟨b,_ | ⟨c,l⟩⟩⟩⟩
 ·exact fit_stuck P _
 ·exact fit_stuck P _
 ·refine fitB (s:=ReflectliteValue.parts a) (fit_Extern_ReflectliteValue_parts P a) fun o=>?_
  repeat' (first | (with_reducible first | exact fit_pure P _ | apply fit_Extern_ReflectliteValue_parts | apply fit_Extern_Rtype_directlyAssignable | apply fit_Extern_Rtype_implements | apply fit_Extern_Rtype_kind | apply fit_Extern_Rtype_spelt | apply fit_loadVar | apply fit_storeVar | apply fit_unsupported | apply fit_panicString | apply fitB | apply fitIte) | (intro _) | split | (dsimp only))
 ·exact fit_stuck P _
theorem fit_Extern_ReflectliteType_abiMethod (P:Program) (f:TypeId->Sem Value) (hf:∀ t,Fit P (fun _=>True) 0 (f t)) (x):Fit P (fun _=>True) 0 (ReflectliteType.abiMethod f x):=by
 rcases x with ⟨_ | ⟨a,_ | ⟨b,l⟩⟩⟩
 ·exact fit_stuck P _
 ·exact fitB (s:=Rtype.ofHandle a) (fit_Extern_Rtype_ofHandle P _) fun t=>fitB (fit_Extern_Rtype_noPack P _ _) fun _=>hf t
 ·exact fit_stuck P _
theorem fit_Extern_RuntimeError_unhashableTypeError (P:Program) (x):Fit P (fun _=>True) 0 (RuntimeError.unhashableTypeError x):=by
 rcases x with ⟨_ | ⟨a,_ | ⟨b,l⟩⟩⟩
 ·exact fit_stuck P _
 ·cases a with
  | agg cs =>
   rcases cs with ⟨_ | ⟨a,_ | ⟨b,l⟩⟩⟩
   ·exact fit_stuck P _
   ·refine fitB (s:=RuntimeError.described a) (fit_Extern_RuntimeError_described P a) fun o=>?_
    cases o with
    | none=>exact (fit_panics (.nilDeref):Fit P (fun _=>True) 0 (runtimePanic .nilDeref:Sem Value))
    | some t=>exact fit_pure P _
   ·exact fit_stuck P _
  | _=>exact fit_stuck P _
 ·exact fit_stuck P _
theorem fit_Extern_ReflectliteType_toType (P:Program) (x0):Fit P (fun _=>True) 0 (@Go.Extern.ReflectliteType.toType x0):=by
 unfold Go.Extern.ReflectliteType.toType
 repeat' (first | (with_reducible first | exact fit_pure P _ | apply fit_Extern_Rtype_handle | apply fit_cutType | apply fitB) | (intro _) | split | (exact trivial) | (dsimp only))
theorem fit_Extern_ReflectliteType_typeOf (P:Program) (x):Fit P (fun _=>True) 0 (ReflectliteType.typeOf x):=by
 rcases x with ⟨_ | ⟨a,_ | ⟨b,l⟩⟩⟩
 ·exact fit_stuck P _
 ·cases a with
  | nilIface=>exact fit_pure P _
  | iface t v=>exact (fit_Extern_ReflectliteType_toType P t:Fit P (fun _=>True) 0 (ReflectliteType.toType t))
  | _=>exact fit_stuck P _
 ·exact fit_stuck P _
theorem fit_Extern_ReflectliteValue_unpack (P:Program) (x0):Fit P (fun _=>True) 0 (@Go.Extern.ReflectliteValue.unpack x0):=by
 unfold Go.Extern.ReflectliteValue.unpack
 repeat' (first | (with_reducible first | exact fit_pure P _ | apply fit_Extern_ReflectliteValue_mk | apply fit_newVar | apply fit_stuck | apply fitB) | (intro _) | split | (exact trivial) | (dsimp only))
theorem fit_Bytes_loadBytes (P:Program) (a n out):Fit P (fun _=>True) 0 (Bytes.loadBytes a n out):=by
 induction n generalizing a out with
 | zero=>exact fit_pure P _
 | succ n ih =>
  unfold Bytes.loadBytes
  repeat' (first | (with_reducible first | exact fit_pure P _ | apply ih | apply fit_stuck | apply fit_load | apply fitB) | (intro _) | split | (dsimp only))
theorem fit_bytesOf (P:Program) (v):Fit P (fun _=>True) 0 (Bytes.bytesOf v):=by
 unfold Bytes.bytesOf
 repeat' (first | (with_reducible first | exact fit_pure P _ | apply fit_stuck | apply fit_Bytes_loadBytes) | (intro _) | split | (dsimp only))
theorem fit_Extern_BytealgCompare_compare (P:Program) (x):Fit P (fun _=>True) 0 (BytealgCompare.compare x):=by
 rcases x with ⟨_ | ⟨a,_ | ⟨b,_ | ⟨c,l⟩⟩⟩⟩
 ·exact fit_stuck P _
 ·exact fit_stuck P _
 ·exact fitB (s:=Bytes.bytesOf a) (fit_bytesOf P a) fun _=>fitB (fit_bytesOf P b) fun _=>fit_pure P _
 ·exact fit_stuck P _
theorem fit_Extern_AbiNoEscape_same (P:Program) (x):Fit P (fun _=>True) 0 (AbiNoEscape.same x):=by
 rcases x with ⟨_ | ⟨a,_ | ⟨b,l⟩⟩⟩
 ·exact fit_stuck P _
 ·exact fit_pure P _
 ·exact fit_stuck P _
theorem fit_Extern_ReflectliteValue_elem (P:Program) (x0) (x1) (x2) (x3):Fit P (fun _=>True) 0 (@Go.Extern.ReflectliteValue.elem x0 x1 x2 x3):=by
 unfold Go.Extern.ReflectliteValue.elem
 repeat' (first | (with_reducible first | exact fit_pure P _ | apply fit_Extern_Rtype_elemq | apply fit_Extern_ReflectliteValue_unpack | apply fit_Extern_ReflectliteValue_mk | apply fit_Extern_ReflectliteValue_valueError | apply fit_loadVar | apply fitB | apply fitIte) | (intro _) | split | (exact trivial) | (dsimp only))
theorem fit_Extern_RuntimeError_pkgpathOf (P:Program) (x0):Fit P (fun _=>True) 0 (@Go.Extern.RuntimeError.pkgpathOf x0):=by
 unfold Go.Extern.RuntimeError.pkgpathOf
 repeat' (first | (with_reducible first | exact fit_pure P _ | apply fit_typeInfo | apply fitB) | (intro _) | split | (exact trivial) | (dsimp only))
theorem fit_Extern_RuntimeError_typeAssertionError (P:Program) (x0):Fit P (fun _=>True) 0 (@Go.Extern.RuntimeError.typeAssertionError x0):=by
 unfold Go.Extern.RuntimeError.typeAssertionError
 repeat' (first | (with_reducible first | exact fit_pure P _ | apply fit_Extern_RuntimeError_described | apply fit_Extern_RuntimeError_text | apply fit_Extern_RuntimeError_pkgpathOf | apply fit_asString | apply fit_asAddr | apply fit_load | apply fit_unsupported | apply fit_panics | apply fitB | apply fitIte) | (intro _) | split | (exact trivial) | (dsimp only))
theorem fit_Extern_ReflectliteType_relation (P:Program) (s:String) (f:TypeId->TypeId->Sem Bool) (hf:∀ t u,Fit P (fun _=>True) 0 (f t u)) (x):Fit P (fun _=>True) 0 (ReflectliteType.relation s f x):=by
 rcases x with ⟨_ | ⟨a,_ | ⟨b,_ | ⟨c,l⟩⟩⟩⟩
 ·exact fit_stuck P _
 ·exact fit_stuck P _
 ·cases b with
  | nilIface=>exact (fit_panicString P ("reflect: nil type passed to Type."++s):Fit P (fun _=>True) 0 (panicString ("reflect: nil type passed to Type."++s):Sem Value))
  | iface t u=>exact fitB (s:=ReflectliteType.ofRtype u) (fit_Extern_ReflectliteType_ofRtype P u) fun _=>fitB (fit_Extern_ReflectliteType_ofRtype P a) fun _=>fitB (hf _ _) fun _=>fit_pure P _
  | _=>exact fit_stuck P _
 ·exact fit_stuck P _
theorem fit_Extern_ReflectliteValue_methodAny (P:Program) (z:Sem Value) (f) (hz:Fit P (fun _=>True) 0 z) (hf:∀ a b c d,Fit P (fun _=>True) 0 (f a b c d)) (x):Fit P (fun _=>True) 0 (ReflectliteValue.methodAny z f x):=by
 rcases x with ⟨_ | ⟨a,_ | ⟨b,l⟩⟩⟩
 ·exact fit_stuck P _
 ·refine fitB (s:=ReflectliteValue.partsAny a) (fit_Extern_ReflectliteValue_partsAny P a) fun o=>?_
  cases o with
  | none=>exact hz
  | some y=>exact hf _ _ _ _
 ·exact fit_stuck P _
theorem fit_Extern_ReflectliteType_name (P:Program) (x0):Fit P (fun _=>True) 0 (@Go.Extern.ReflectliteType.name x0):=by
 unfold Go.Extern.ReflectliteType.name
 repeat' (first | (with_reducible first | exact fit_pure P _ | apply fit_Extern_Rtype_hasName | apply fit_Extern_Rtype_spelt | apply fitB | apply fitIte) | (intro _) | split | (exact trivial) | (dsimp only))
theorem fit_Extern_ReflectliteType_assignableTo (P:Program) (x0) (x1):Fit P (fun _=>True) 0 (@Go.Extern.ReflectliteType.assignableTo x0 x1):=by
 unfold Go.Extern.ReflectliteType.assignableTo
 repeat' (first | (with_reducible first | exact fit_pure P _ | apply fit_Extern_Rtype_directlyAssignable | apply fit_Extern_Rtype_implements | apply fit_Extern_Rtype_noPackMethods | apply fitB | apply fitIte) | (intro _) | split | (exact trivial) | (dsimp only))
theorem fit_Extern_ReflectliteValue_method (P:Program) (z:Sem Value) (f) (hz:Fit P (fun _=>True) 0 z) (hf:∀ a b c d,Fit P (fun _=>True) 0 (f a b c d)) (x):Fit P (fun _=>True) 0 (ReflectliteValue.method z f x):=by
 rcases x with ⟨_ | ⟨a,_ | ⟨b,l⟩⟩⟩
 ·exact fit_stuck P _
 ·refine fitB (s:=ReflectliteValue.parts a) (fit_Extern_ReflectliteValue_parts P a) fun o=>?_
  cases o with
  | none=>exact hz
  | some y=>exact hf _ _ _ _
 ·exact fit_stuck P _
theorem fit_Extern_ReflectliteType_elem (P:Program) (x0):Fit P (fun _=>True) 0 (@Go.Extern.ReflectliteType.elem x0):=by
 unfold Go.Extern.ReflectliteType.elem
 repeat' (first | (with_reducible first | exact fit_pure P _ | apply fit_Extern_Rtype_elemq | apply fit_Extern_ReflectliteType_toType | apply fit_Extern_Rtype_spelt | apply fit_panicString | apply fitB) | (intro _) | split | (exact trivial) | (dsimp only))
theorem fit_Extern_Rtype_noPackHeld (P:Program) (x0) (x1):Fit P (fun _=>True) 0 (@Go.Extern.Rtype.noPackHeld x0 x1):=by
 unfold Go.Extern.Rtype.noPackHeld
 repeat' (first | (with_reducible first | exact fit_pure P _ | apply fit_program | apply fit_unsupported | apply fitB | apply fitIte) | (intro _) | split | (exact trivial) | (dsimp only))
theorem fit_rtypeRows (P:Program):∀ x∈ReflectliteType.rows,∀ args,Fit P (fun _=>True) 0 (x.2 args):=by
 intro x hx args
 simp only [ReflectliteType.rows,List.mem_cons,List.not_mem_nil,or_false] at hx
 rcases hx with rfl | rfl | rfl | rfl | rfl | rfl | rfl | rfl | rfl | rfl | rfl | rfl
 ·exact fit_Extern_ReflectliteType_typeOf P _
 ·exact fit_Extern_ReflectliteType_method P _ (fit_Extern_ReflectliteType_elem P) _
 ·exact fit_Extern_ReflectliteType_method P _ (fun t=>fitB (fit_Extern_Rtype_noPackHeld P _ _) fun _=>fitB (fit_typeInfo P _) fun _=>fit_pure P _) _
 ·exact fit_Extern_ReflectliteType_method P _ (fun t=>fitB (fit_Extern_Rtype_noPackNamed P _ _) fun _=>fitB (fit_Extern_Rtype_spelt P _) fun _=>fit_pure P _) _
 ·exact fit_Extern_ReflectliteType_method P _ (fun t=>fitB (fit_Extern_Rtype_noPackNamed P _ _) fun _=>fit_Extern_ReflectliteType_name P _) _
 ·exact fit_Extern_ReflectliteType_method P _ (fun t=>fitB (fit_Extern_Rtype_noPackNamed P _ _) fun _=>fit_Extern_ReflectliteType_pkgPath P _) _
 ·exact fit_Extern_ReflectliteType_relation P _ _ (fit_Extern_ReflectliteType_implements_ P) _
 ·exact fit_Extern_ReflectliteType_relation P _ _ (fit_Extern_ReflectliteType_assignableTo P) _
 ·exact fit_Extern_ReflectliteType_method P _ (fit_Extern_Rtype_handle P) _
 ·exact fit_Extern_ReflectliteType_abiMethod P _ (fun t=>fitB (fit_Extern_Rtype_kind P _) fun _=>fit_pure P _) _
 ·exact fit_Extern_ReflectliteType_abiMethod P _ (fun t=>fitB (fit_Extern_Rtype_noPackHeld P _ _) fun _=>fitB (fit_typeInfo P _) fun _=>fit_pure P _) _
 ·exact fitB (fit_asInt P _) fun _=>fit_pure P _
theorem fit_errorRows (P:Program):∀ x∈RuntimeError.rows,∀ args,Fit P (fun _=>True) 0 (x.2 args):=by
 intro x hx args
 simp only [RuntimeError.rows,List.mem_cons,List.not_mem_nil,or_false] at hx
 rcases hx with rfl | rfl | rfl | rfl | rfl | rfl | rfl | rfl | rfl | rfl | rfl | rfl | rfl | rfl | rfl
 ·exact fitB (fit_asString P _) fun _=>fit_pure P _
 ·exact fitB (fit_asString P _) fun _=>fit_pure P _
 ·exact fitB (fit_asAgg P _) fun _=>fitB (fit_asString P _) fun _=>fit_pure P _
 ·exact fitB (fit_asAgg P _) fun _=>fitB (fit_asInt P _) fun _=>fit_pure P _
 ·exact fit_Extern_RuntimeError_boundsError P _
 ·exact fit_Extern_RuntimeError_typeAssertionError P _
 ·exact fit_pure P _
 ·exact fit_Extern_RuntimeError_unhashableTypeError P _
 all_goals exact fit_pure P _
theorem fit_valueError {α:Type} {L:α->Prop} (s:String) (k:Nat):Fit P L 0 (ReflectliteValue.valueError s k:Sem α):=by
 unfold ReflectliteValue.valueError
 exact fitB (fit_cutType P _) fun _=>fitB (fit_elemOf P _) fun _=>fitB (fit_newVar P _ _) fun _=>fit_goPanic P _
theorem fit_ReflectliteValue_len (P:Program) (a b c d):Fit P (fun _=>True) 0 (ReflectliteValue.len a b c d):=by
 unfold ReflectliteValue.len
 repeat' (first | (with_reducible first | exact fit_pure P _ | apply fit_valueError | apply fit_Extern_Rtype_under | apply fit_loadVar | apply fit_Builtin_len_ | apply fitB | apply fitIte) | (intro _) | split | (dsimp only))
theorem fit_valueRows (P:Program):∀ x∈ReflectliteValue.rows,∀ args,Fit P (fun _=>True) 0 (x.2 args):=by
 intro x hx args
 simp only [ReflectliteValue.rows,List.mem_cons,List.not_mem_nil,or_false] at hx
 rcases hx with rfl | rfl | rfl | rfl | rfl | rfl | rfl | rfl | rfl | rfl
 ·exact fit_Extern_ReflectliteValue_unpack P _
 ·exact fit_Extern_ReflectliteValue_methodAny P _ _ (fit_pure P _) (fun _ _ _ _=>fit_pure P _) _
 ·exact fit_Extern_ReflectliteValue_method P _ _ (fit_pure P _) (fun _ _ _ _=>fit_pure P _) _
 ·exact fit_Extern_ReflectliteValue_methodAny P _ _ (fit_valueError _ _) (fun _ _ _ _=>fit_Extern_ReflectliteType_toType P _) _
 ·exact fit_Extern_ReflectliteValue_methodAny P _ _ (fit_pure P _) (fun _ _ _ _=>fit_pure P _) _
 ·exact fit_Extern_ReflectliteValue_method P _ _ (fit_valueError _ _) (fit_Extern_ReflectliteValue_isNil P) _
 ·exact fit_Extern_ReflectliteValue_method P _ _ (fit_valueError _ _) (fit_ReflectliteValue_len P) _
 ·exact fit_Extern_ReflectliteValue_method P _ _ (fit_valueError _ _) (fit_Extern_ReflectliteValue_elem P) _
 ·exact fit_Extern_ReflectliteValue_set P _
 ·exact fit_Extern_ReflectliteValue_errorText P _
theorem fit_overlaps (P:Program) (x0 x1 x):Fit P (fun _=>True) 0 (SlicesOverlaps.overlaps x0 x1 x):=by
 rcases x with ⟨_ | ⟨u,_ | ⟨v,_ | ⟨c,l⟩⟩⟩⟩
 ·exact fit_stuck P _
 ·exact fit_stuck P _
 ·cases u with
  | slice a la ca =>
   cases v with
   | slice b lb cb =>
    have m4:∀ (h1:Option Addr->Nat->Nat->Option Addr->Nat->Nat->Sem Value) (h2:Array Value->Sem Value),SlicesOverlaps.overlaps.match_4 (fun _=>Sem Value) ⟨[Value.slice a la ca,Value.slice b lb cb]⟩ h1 h2=h1 a la ca b lb cb:=fun _ _=>rfl
    unfold SlicesOverlaps.overlaps
    rw [m4]
    repeat' (first | (with_reducible first | exact fit_pure P _ | apply fit_stuck | apply fit_unsupported | apply fit_underlying | apply fit_sizeOf | apply fit_frozen | apply fit_noView | apply fit_mayBeOne | apply fit_choose | apply fitB | apply fitIte) | (intro _) | split | (dsimp only))
   | _=>exact fit_stuck P _
  | _=>exact fit_stuck P _
 ·exact fit_stuck P _
end Go.Proofs.YtpbbmagjhkakgaaGreatDoor.Lf
namespace Go.Proofs.YtpbbmagjhkakgaaGreatDoor.Lf
open Go Go.Conc Go.Extern
theorem find_of {fn:Func} {e:Array Value->Sem Value} (h1:allGenericRows.lookup fn.name=none) (h2:allTypedRows.lookup fn.name=none) (h3:allRows.lookup fn.name=some e):Extern.find fn=some e:=by
 unfold Extern.find
 simp only [h1,h2,h3]
 rfl
def plainNames:List String:=["internal/reflectlite.TypeOf","(internal/reflectlite.rtype).Elem","(internal/reflectlite.rtype).Comparable","(internal/reflectlite.rtype).String","(internal/reflectlite.rtype).Name","(internal/reflectlite.rtype).PkgPath","(internal/reflectlite.rtype).Implements","(internal/reflectlite.rtype).AssignableTo","(internal/reflectlite.rtype).common","(*internal/abi.Type).Kind","(*internal/abi.Type).Size","(internal/abi.Kind).String","internal/reflectlite.ValueOf","(internal/reflectlite.Value).Kind","(internal/reflectlite.Value).Type","(internal/reflectlite.Value).IsNil","(internal/reflectlite.Value).Elem","(internal/reflectlite.Value).Set","(*internal/reflectlite.ValueError).Error","(runtime.errorString).Error","(runtime.plainError).Error","(runtime.errorAddressString).Error","(runtime.boundsError).Error","(*runtime.TypeAssertionError).Error","(*runtime.PanicNilError).Error","(internal/runtime/maps.unhashableTypeError).Error","(runtime.errorString).RuntimeError","(runtime.plainError).RuntimeError","(runtime.errorAddressString).RuntimeError","(runtime.boundsError).RuntimeError","(*runtime.TypeAssertionError).RuntimeError","(*runtime.PanicNilError).RuntimeError","(internal/runtime/maps.unhashableTypeError).RuntimeError","internal/abi.NoEscape","internal/bytealg.abigen_runtime_cmpstring"]
def plainFunc (fn:Func):Bool:=fn.name != "runtime.NumGoroutine"&&(fn.body.isSome||((Extern.findNext fn).isNone&&(plainNames.contains fn.name||(fn.name== "slices.overlaps[vigil/watch.policy]"&&fn.origin== "slices.overlaps")||(Extern.find fn).isNone)))
theorem find_origin {fn:Func} {t:Array TypeId->Array TypeId->Array Value->Sem Value} (h1:allGenericRows.lookup fn.name=none) (h2:allTypedRows.lookup fn.name=none) (h3:allRows.lookup fn.name=none)
  (h4:allGenericRows.lookup fn.origin=none) (h5:allTypedRows.lookup fn.origin=some t):Extern.find fn=some (t fn.params fn.resultTypes):=by
 unfold Extern.find
 simp only [h1,h2,h3,h4,h5]
 rfl
theorem plain_all:Tryz.prog.funcs.all plainFunc=true:=by kernel_rfl
theorem plain_rows:∀ n∈plainNames,∃ e,allGenericRows.lookup n=none/\allTypedRows.lookup n=none/\allRows.lookup n=some e/\∀ args,Fit Tryz.prog (fun _=>True) 0 (e args):=by
 intro n hn
 simp only [plainNames,List.mem_cons,List.not_mem_nil,or_false] at hn
 rcases hn with rfl | rfl | rfl | rfl | rfl | rfl | rfl | rfl | rfl | rfl | rfl | rfl | rfl | rfl | rfl | rfl | rfl | rfl | rfl | rfl | rfl | rfl | rfl | rfl | rfl | rfl | rfl | rfl | rfl | rfl | rfl | rfl | rfl | rfl | rfl
 ·exact ⟨(ReflectliteType.rows.getD 0 default).2,by kernel_rfl,by kernel_rfl,by kernel_rfl,fit_rtypeRows _ _ (List.getElem_mem (show 0<ReflectliteType.rows.length by decide))⟩
 ·exact ⟨(ReflectliteType.rows.getD 1 default).2,by kernel_rfl,by kernel_rfl,by kernel_rfl,fit_rtypeRows _ _ (List.getElem_mem (show 1<ReflectliteType.rows.length by decide))⟩
 ·exact ⟨(ReflectliteType.rows.getD 2 default).2,by kernel_rfl,by kernel_rfl,by kernel_rfl,fit_rtypeRows _ _ (List.getElem_mem (show 2<ReflectliteType.rows.length by decide))⟩
 ·exact ⟨(ReflectliteType.rows.getD 3 default).2,by kernel_rfl,by kernel_rfl,by kernel_rfl,fit_rtypeRows _ _ (List.getElem_mem (show 3<ReflectliteType.rows.length by decide))⟩
 ·exact ⟨(ReflectliteType.rows.getD 4 default).2,by kernel_rfl,by kernel_rfl,by kernel_rfl,fit_rtypeRows _ _ (List.getElem_mem (show 4<ReflectliteType.rows.length by decide))⟩
 ·exact ⟨(ReflectliteType.rows.getD 5 default).2,by kernel_rfl,by kernel_rfl,by kernel_rfl,fit_rtypeRows _ _ (List.getElem_mem (show 5<ReflectliteType.rows.length by decide))⟩
 ·exact ⟨(ReflectliteType.rows.getD 6 default).2,by kernel_rfl,by kernel_rfl,by kernel_rfl,fit_rtypeRows _ _ (List.getElem_mem (show 6<ReflectliteType.rows.length by decide))⟩
 ·exact ⟨(ReflectliteType.rows.getD 7 default).2,by kernel_rfl,by kernel_rfl,by kernel_rfl,fit_rtypeRows _ _ (List.getElem_mem (show 7<ReflectliteType.rows.length by decide))⟩
 ·exact ⟨(ReflectliteType.rows.getD 8 default).2,by kernel_rfl,by kernel_rfl,by kernel_rfl,fit_rtypeRows _ _ (List.getElem_mem (show 8<ReflectliteType.rows.length by decide))⟩
 ·exact ⟨(ReflectliteType.rows.getD 9 default).2,by kernel_rfl,by kernel_rfl,by kernel_rfl,fit_rtypeRows _ _ (List.getElem_mem (show 9<ReflectliteType.rows.length by decide))⟩
 ·exact ⟨(ReflectliteType.rows.getD 10 default).2,by kernel_rfl,by kernel_rfl,by kernel_rfl,fit_rtypeRows _ _ (List.getElem_mem (show 10<ReflectliteType.rows.length by decide))⟩
 ·exact ⟨(ReflectliteType.rows.getD 11 default).2,by kernel_rfl,by kernel_rfl,by kernel_rfl,fit_rtypeRows _ _ (List.getElem_mem (show 11<ReflectliteType.rows.length by decide))⟩
 ·exact ⟨(ReflectliteValue.rows.getD 0 default).2,by kernel_rfl,by kernel_rfl,by kernel_rfl,fit_valueRows _ _ (List.getElem_mem (show 0<ReflectliteValue.rows.length by decide))⟩
 ·exact ⟨(ReflectliteValue.rows.getD 2 default).2,by kernel_rfl,by kernel_rfl,by kernel_rfl,fit_valueRows _ _ (List.getElem_mem (show 2<ReflectliteValue.rows.length by decide))⟩
 ·exact ⟨(ReflectliteValue.rows.getD 3 default).2,by kernel_rfl,by kernel_rfl,by kernel_rfl,fit_valueRows _ _ (List.getElem_mem (show 3<ReflectliteValue.rows.length by decide))⟩
 ·exact ⟨(ReflectliteValue.rows.getD 5 default).2,by kernel_rfl,by kernel_rfl,by kernel_rfl,fit_valueRows _ _ (List.getElem_mem (show 5<ReflectliteValue.rows.length by decide))⟩
 ·exact ⟨(ReflectliteValue.rows.getD 7 default).2,by kernel_rfl,by kernel_rfl,by kernel_rfl,fit_valueRows _ _ (List.getElem_mem (show 7<ReflectliteValue.rows.length by decide))⟩
 ·exact ⟨(ReflectliteValue.rows.getD 8 default).2,by kernel_rfl,by kernel_rfl,by kernel_rfl,fit_valueRows _ _ (List.getElem_mem (show 8<ReflectliteValue.rows.length by decide))⟩
 ·exact ⟨(ReflectliteValue.rows.getD 9 default).2,by kernel_rfl,by kernel_rfl,by kernel_rfl,fit_valueRows _ _ (List.getElem_mem (show 9<ReflectliteValue.rows.length by decide))⟩
 ·exact ⟨(RuntimeError.rows.getD 0 default).2,by kernel_rfl,by kernel_rfl,by kernel_rfl,fit_errorRows _ _ (List.getElem_mem (show 0<RuntimeError.rows.length by decide))⟩
 ·exact ⟨(RuntimeError.rows.getD 1 default).2,by kernel_rfl,by kernel_rfl,by kernel_rfl,fit_errorRows _ _ (List.getElem_mem (show 1<RuntimeError.rows.length by decide))⟩
 ·exact ⟨(RuntimeError.rows.getD 2 default).2,by kernel_rfl,by kernel_rfl,by kernel_rfl,fit_errorRows _ _ (List.getElem_mem (show 2<RuntimeError.rows.length by decide))⟩
 ·exact ⟨(RuntimeError.rows.getD 4 default).2,by kernel_rfl,by kernel_rfl,by kernel_rfl,fit_errorRows _ _ (List.getElem_mem (show 4<RuntimeError.rows.length by decide))⟩
 ·exact ⟨(RuntimeError.rows.getD 5 default).2,by kernel_rfl,by kernel_rfl,by kernel_rfl,fit_errorRows _ _ (List.getElem_mem (show 5<RuntimeError.rows.length by decide))⟩
 ·exact ⟨(RuntimeError.rows.getD 6 default).2,by kernel_rfl,by kernel_rfl,by kernel_rfl,fit_errorRows _ _ (List.getElem_mem (show 6<RuntimeError.rows.length by decide))⟩
 ·exact ⟨(RuntimeError.rows.getD 7 default).2,by kernel_rfl,by kernel_rfl,by kernel_rfl,fit_errorRows _ _ (List.getElem_mem (show 7<RuntimeError.rows.length by decide))⟩
 ·exact ⟨(RuntimeError.rows.getD 8 default).2,by kernel_rfl,by kernel_rfl,by kernel_rfl,fit_errorRows _ _ (List.getElem_mem (show 8<RuntimeError.rows.length by decide))⟩
 ·exact ⟨(RuntimeError.rows.getD 9 default).2,by kernel_rfl,by kernel_rfl,by kernel_rfl,fit_errorRows _ _ (List.getElem_mem (show 9<RuntimeError.rows.length by decide))⟩
 ·exact ⟨(RuntimeError.rows.getD 10 default).2,by kernel_rfl,by kernel_rfl,by kernel_rfl,fit_errorRows _ _ (List.getElem_mem (show 10<RuntimeError.rows.length by decide))⟩
 ·exact ⟨(RuntimeError.rows.getD 11 default).2,by kernel_rfl,by kernel_rfl,by kernel_rfl,fit_errorRows _ _ (List.getElem_mem (show 11<RuntimeError.rows.length by decide))⟩
 ·exact ⟨(RuntimeError.rows.getD 12 default).2,by kernel_rfl,by kernel_rfl,by kernel_rfl,fit_errorRows _ _ (List.getElem_mem (show 12<RuntimeError.rows.length by decide))⟩
 ·exact ⟨(RuntimeError.rows.getD 13 default).2,by kernel_rfl,by kernel_rfl,by kernel_rfl,fit_errorRows _ _ (List.getElem_mem (show 13<RuntimeError.rows.length by decide))⟩
 ·exact ⟨(RuntimeError.rows.getD 14 default).2,by kernel_rfl,by kernel_rfl,by kernel_rfl,fit_errorRows _ _ (List.getElem_mem (show 14<RuntimeError.rows.length by decide))⟩
 ·exact ⟨AbiNoEscape.same,by kernel_rfl,by kernel_rfl,by kernel_rfl,fit_Extern_AbiNoEscape_same _⟩
 ·exact ⟨BytealgCompare.compare,by kernel_rfl,by kernel_rfl,by kernel_rfl,fit_Extern_BytealgCompare_compare _⟩
theorem plain_prog:Plain Tryz.prog:=by
 intro f fn hf
 have hm:fn∈Tryz.prog.funcs:=Array.mem_of_getElem? hf
 have h:=Array.all_eq_true_iff_forall_mem.1 plain_all fn hm
 simp only [plainFunc,Bool.and_eq_true,bne_iff_ne,ne_eq,Bool.or_eq_true,Option.isNone_iff_eq_none] at h
 refine ⟨h.1,fun hb=>?_⟩
 rcases h.2 with h2 | ⟨h2,h3⟩
 ·cases hx:fn.body with
  | none=>rw [hx] at h2;cases h2
  | some c=>rw [hx] at hb;cases hb
 ·refine ⟨h2,fun e he=>?_⟩
  rcases h3 with (h3 | ⟨h3,h4⟩) | h3
  ·obtain ⟨e',a,b,c,d⟩:=plain_rows fn.name (by simpa using h3)
   rw [find_of a b c] at he
   cases he
   exact d
  ·have h3':fn.name = "slices.overlaps[vigil/watch.policy]":=by simpa using h3
   have h4':fn.origin = "slices.overlaps":=by simpa using h4
   rw [find_origin (t:=SlicesOverlaps.overlaps) (by rw [h3'];kernel_rfl) (by rw [h3'];kernel_rfl) (by rw [h3'];kernel_rfl) (by rw [h4'];kernel_rfl) (by rw [h4'];kernel_rfl)] at he
   cases he
   exact fit_overlaps _ _ _
  ·rw [h3] at he;cases he
end Go.Proofs.YtpbbmagjhkakgaaGreatDoor.Lf
