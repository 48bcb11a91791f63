import Derived.Test.YtpbbmagjhkakgaaGreatDoorLfRelyToEvWait
import Derived.Test.YtpbbmagjhkakgaaGreatDoorPureToLfTape
import Derived.Laws.AppendOwn
import Derived.Maps.AppendAt
import Derived.Conc.AppendEvents3
import Derived.Test.YtpbbmagjhkakgaaGreatDoorProg
import Derived.Orders
import Derived.Conc.LeavingOf
import Derived.Conc.Beside
namespace Go.Proofs.YtpbbmagjhkakgaaGreatDoor
namespace Lf
open Go Go.Conc
section
variable {P : Program} {c iN n : Nat} {R0 : (Nat → Prop) → World → World → Prop} {D0 : (Nat → Prop) → World → World → Array Event → Prop} {RB : (Nat → Prop) → World → World → Prop} {DB : (Nat → Prop) → World → World → Array Event → Prop} {CA CB : (Nat → Prop) → Touch → Prop}
theorem SB.rely (H:Pair c iN R0 D0 RB DB CA CB) {L:List Value} {T:Nat->Prop} {g:Goroutine} {w w':World} (h:SB P c RB DB CB n L T g w) (hr:RB T w w'):SB P c RB DB CB n L T g w':=by
 cases h with
 | own f h1 h2 h3=>exact .own f h1 (fun w₁ h₁=>h2 w₁ (H.tB.trans _ _ _ _ hr h₁)) (fun w₁ h₁=>h3 w₁ (H.tB.trans _ _ _ _ hr h₁))
 | send h1 h2 h3=>exact .send h1 (fun w₁ h₁=>h2 w₁ (H.tB.trans _ _ _ _ hr h₁)) (fun w₁ h₁=>h3 w₁ (H.tB.trans _ _ _ _ hr h₁))
 | close h1 h2 h3 h4=>exact .close h1 h2 (fun w₁ buf s r h₁=>h3 w₁ buf s r (H.tB.trans _ _ _ _ hr h₁)) h4
theorem SB.kh (H:Pair c iN R0 D0 RB DB CA CB) {L:List Value} {T:Nat->Prop} {g:Goroutine} {w:World} (h:RT P false RB DB (fun T g w=>SB P c RB DB CB n L T g w) T g w):SB P c RB DB CB n L T g w:=by
 induction h with
 | stop h=>exact h _ (H.reflB _ _)
 | step f hs h _ ih=>exact .own f hs h ih
theorem SB.walk (H:Pair c iN R0 D0 RB DB CA CB) {L:List Value} {T:Nat->Prop} {g:Goroutine} {w:World} (h:SB P c RB DB CB n L T g w):RT P false RB DB (fun T g w=>SB P c RB DB CB n L T g w) T g w:=.stop fun _ r=>h.rely H r
theorem SB.sends (H:Pair c iN R0 D0 RB DB CA CB) (ops:Array Oper):SendOK P false RB DB c ops (fun L T g w=>SB P c RB DB CB n L T g w) :=
 .inr fun v L S g w hs h1 h2=>SB.walk H (.send (y:=.tuple #[]) hs (fun w₁ h₁=>⟨#[],h1 w₁ h₁,fun e he=>by simp at he⟩) (fun w₁ h₁=>SB.kh H (h2 w₁ h₁)))
theorem SA.kh {z:Value} {K:Goroutine->World->Prop} (H:Pair c iN R0 D0 RB DB CA CB) {L:List Value} {S:Nat->Prop} {g:Goroutine} {w:World} (h:RT P true R0 D0 (fun S g w=>SA P c z R0 D0 CA K L S g w) S g w):SA P c z R0 D0 CA K L S g w:=by
 induction h with
 | stop h=>exact h _ (H.refl0 _ _)
 | step f hs h _ ih=>exact .own f hs h ih
theorem SA.walk {z:Value} {K:Goroutine->World->Prop} (H:Pair c iN R0 D0 RB DB CA CB) {L:List Value} {S:Nat->Prop} {g:Goroutine} {w:World} (h:SA P c z R0 D0 CA K L S g w):RT P true R0 D0 (fun S g w=>SA P c z R0 D0 CA K L S g w) S g w:=.stop fun _ r=>h.rely H r
end
end Lf
namespace Lf
open Go Go.Conc
section
variable {c B : Nat} {M : Nat → Prop}
structure H0 (c B:Nat) (M:Nat->Prop) (ju:Nat->Prop) (bW:World) (S:Nat->Prop) (w:World) (fs:List (Nat×Obj)):Prop where
 own:∀ b,S b->B<=b/\b<w.heap.size
 mine:∀ b,ju b->S b
 news:∀ b,S b->ju b\/bW.heap.size<=b
 keep:∀ b,(ju b\/b<B)->b<bW.heap.size->b≠c->¬ M b->w.heap[b]? = bW.heap[b]?
 os:w.os=bW.os
 output:w.output=bW.output
 chan:c<B
 low:B<=bW.heap.size
 size:bW.heap.size<=w.heap.size
 facts:∀ p∈fs,(S p.1\/p.1<B)/\p.1≠c/\w.heap[p.1]? = some p.2
variable {ju S : Nat → Prop} {bW w w' : World} {fs : List (Nat × Obj)}
theorem H0.start (hS:∀ b,S b->B<=b/\b<w.heap.size) (hc:c<B) (hB:B<=w.heap.size) (h:∀ p∈fs,(S p.1\/p.1<B)/\p.1≠c/\w.heap[p.1]? = some p.2):H0 c B M S w S w fs :=
 ⟨hS,fun _ x=>x,fun _ x=>.inl x,fun _ _ _ _ _=>rfl,rfl,rfl,hc,hB,Nat.le_refl _,h⟩
theorem H0.base (h:H0 c B M ju bW S w fs):B<=w.heap.size:=Nat.le_trans h.low h.size
theorem H0.rely (h:H0 c B M ju bW S w fs) (r:R0w c B S w w'):H0 c B M ju bW S w' fs :=
 ⟨fun b x=>⟨(h.own b x).1,Nat.lt_of_lt_of_le (h.own b x).2 r.size⟩,h.mine,h.news,fun b h1 h2 h3 h4=>(r.block b h3 (Nat.lt_of_lt_of_le h2 h.size) (h1.imp (h.mine b) id)).trans (h.keep b h1 h2 h3 h4),r.os.trans h.os,r.output.trans h.output,h.chan,h.low,Nat.le_trans h.size r.size,fun p hp=>by
  obtain ⟨h1,h2,h3⟩:=h.facts p hp
  exact ⟨h1,h2,(r.block _ h2 (Array.getElem?_eq_some_iff.1 h3).1 h1).trans h3⟩⟩
theorem H0.alloc (h:H0 c B M ju bW S w fs) (o:Obj):H0 c B M ju bW (grow S w (w.alloc o)) (w.alloc o) ((w.heap.size,o)::fs):=by
 have hl:=h.low
 have hs:=h.size
 refine ⟨fun b x=>?_,fun b x=>.inl (h.mine b x),fun b x=>?_,fun b h1 h2 h3 h4=>(bw w o (by omega)).trans (h.keep b h1 h2 h3 h4),h.os,h.output,h.chan,h.low,by rw [aG];omega,fun p hp=>?_⟩
 ·rw [aG]
  rcases x with x | x
  ·have:=h.own b x;omega
  ·rw [aG] at x;omega
 ·rcases x with x | x
  ·exact h.news b x
  ·exact .inr (by omega)
 ·rcases List.mem_cons.1 hp with rfl | hp
  ·exact ⟨.inl (.inr ⟨Nat.le_refl _,by rw [aG];exact Nat.lt_succ_self _⟩),fun e=>by have:=h.chan;omega,iF w o⟩
  ·obtain ⟨h1,h2,h3⟩:=h.facts p hp
   exact ⟨h1.imp .inl id,h2,(bw w o (Array.getElem?_eq_some_iff.1 h3).1).trans h3⟩
theorem H0.grown {v:Value} (h:H0 c B M ju bW S w fs) (hg:w.grownBy w' v.ownBlock) (hv:∀ g,v.ownBlock=some g->M g) (hd:∀ p∈fs,some p.1≠v.ownBlock):H0 c B M ju bW (grow S w w') w' fs:=by
 have hl:=h.low
 have hs:=h.size
 have hz:=hg.size
 refine ⟨fun b x=>?_,fun b x=>.inl (h.mine b x),fun b x=>?_,fun b h1 h2 h3 h4=>(hg.block b (by omega) (fun e=>h4 (hv b e.symm))).trans (h.keep b h1 h2 h3 h4),hg.os.trans h.os,hg.output.trans h.output,h.chan,h.low,by omega,fun p hp=>?_⟩
 ·rcases x with x | x
  ·have:=h.own b x;omega
  ·omega
 ·rcases x with x | x
  ·exact h.news b x
  ·exact .inr (by omega)
 ·obtain ⟨h1,h2,h3⟩:=h.facts p hp
  exact ⟨h1.imp .inl id,h2,(hg.block _ (Array.getElem?_eq_some_iff.1 h3).1 (hd p hp)).trans h3⟩
theorem H0.step {M' S':Nat->Prop} {fs':List (Nat×Obj)} (h:H0 c B M ju bW S w fs) (k:H0 c B M' S w S' w' fs') (hM:∀ b,M' b->M b) (hd:∀ p∈fs,¬ M' p.1):H0 c B M ju bW S' w' fs:=by
 have hl:=h.low
 have hs:=h.size
 have hz:=k.size
 refine ⟨k.own,fun b x=>k.mine b (h.mine b x),fun b x=>?_,fun b h1 h2 h3 h4=>(k.keep b (h1.imp (h.mine b) id) (by omega) h3 (fun e=>h4 (hM b e))).trans (h.keep b h1 h2 h3 h4),k.os.trans h.os,k.output.trans h.output,h.chan,h.low,by omega,fun p hp=>?_⟩
 ·rcases k.news b x with x | x
  ·exact h.news b x
  ·exact .inr (by omega)
 ·obtain ⟨h1,h2,h3⟩:=h.facts p hp
  exact ⟨h1.imp (k.mine _) id,h2,(k.keep _ h1 (Array.getElem?_eq_some_iff.1 h3).1 h2 (hd p hp)).trans h3⟩
theorem H0.less {fs':List (Nat×Obj)} (h:H0 c B M ju bW S w fs) (hs:∀ p∈fs',p∈fs):H0 c B M ju bW S w fs':={ h with facts:=fun p hp=>h.facts p (hs p hp) }
theorem H0.get (h:H0 c B M ju bW S w fs) {b:Nat} {o:Obj} (hp:(b,o)∈fs):w.heap[b]? = some o:=(h.facts _ hp).2.2
theorem H0.cell (h:H0 c B M ju bW S w fs) {b i:Nat} {cs:Array Value} {t:TypeId} {m:Nat×Nat} {v:Value} (hp:(b,Obj.cells cs t m)∈fs) (hv:cs[i]? = some v):w.cell? ⟨b,i,none⟩=some v:=by
 have:=h.get hp
 simp [World.cell?,this,hv]
theorem H0.read {M':Nat->Prop} (h:H0 c B M ju bW S w fs) {b:Nat} {o:Obj} (hp:(b,o)∈fs) {ad:Addr} (ha:ad.block=b):EvK (CA1 B M' S) ⟨.cell ad,false,false⟩ :=
 EvK.cell ⟨ad,rfl,(h.facts _ hp).1.imp (fun x=>ha▸x) (fun x=>⟨ha▸x,fun e=>by cases e⟩)⟩
theorem H0.set {b i:Nat} {v:Value} {cs:Array Value} {t:TypeId} {m:Nat×Nat} (h:H0 c B M ju bW S w ((b,.cells cs t m)::fs)) (hb:bW.heap.size<=b\/M b) (hd:∀ p∈fs,p.1≠b):H0 c B M ju bW S (w.setCell ⟨b,i,none⟩ v) ((b,.cells (cs.setIfInBounds i v) t m)::fs):=by
 refine ⟨fun k hk=>by rw [cn];exact h.own k hk,h.mine,h.news,fun k h1 h2 h3 h4=>?_,h.os,h.output,h.chan,h.low,by rw [cn];exact h.size,fun p hp=>?_⟩
 ·have hne:k≠b:=by
   rintro rfl
   rcases hb with hb | hb
   ·omega
   ·exact h4 hb
  rw [aT _ _ _ (show k≠(⟨b,i,none⟩:Addr).block from hne)];exact h.keep k h1 h2 h3 h4
 ·rcases List.mem_cons.1 hp with rfl | hp
  ·obtain ⟨h1,h2,h3⟩:=h.facts _ (.head _)
   exact ⟨h1,h2,qc h3⟩
  ·obtain ⟨h1,h2,h3⟩:=h.facts p (.tail _ hp)
   exact ⟨h1,h2,by rw [aT _ _ _ (hd p hp)];exact h3⟩
theorem tu.sets {S:Nat->Prop} {w w':World} {es:Array Event} {b:Nat} (hS:S b\/(b<B/\M b)) (hs:w'.heap.size=w.heap.size) (hb:∀ k,k≠b->w'.heap[k]? = w.heap[k]?) (he:∀ e∈es,∃ ad,e=⟨.cell ad,true,false⟩/\ad.block=b):tu B M S w w' es:=by
 refine ⟨by rw [hs];exact Nat.le_refl _,fun k _ hk hm=>hb k fun e=>?_,fun e hm=>?_⟩
 ·subst e
  exact hS.elim hk fun x=>hm x.2
 ·obtain ⟨ad,rfl,rfl⟩:=he e hm
  exact EvK.cell ⟨ad,rfl,hS.imp .inl fun x=>⟨x.1,fun _=>x.2⟩⟩
end
end Lf
namespace Lf
open Go Go.Conc
section
variable {B : Nat} {M : Nat → Prop}
theorem EvK.at {C:Touch->Prop} {e:Event} {ad:Addr} (hl:e.loc=.cell ad) (h:∀ k,C ⟨.cell ad,e.write,k⟩):EvK C e:=by
 obtain ⟨loc,wr,sy⟩:=e
 simp only at hl h
 subst hl
 refine ⟨fun x hx _=>?_,by simp,by simp⟩
 cases wr<;>cases sy<;>(simp [MemAct.ofEvent,MemAct.touch?] at hx;subst hx;exact h _)
theorem EvK.neutral {C:Touch->Prop} {m:Mark} (h:Neutral m):EvK C ⟨.mark m,false,true⟩:=by
 refine ⟨fun x hx _=>?_,?_,?_⟩
 ·have e1:MemAct.ofEvent ⟨.mark m,false,true⟩=.mark m:=rfl
  rw [e1,h.touch] at hx;cases hx
 ·rintro e;cases e;simp [Neutral] at h
 ·rintro e;cases e;simp [Neutral] at h
theorem tu.append {S:Nat->Prop} {w w':World} {v:Value} {a:Addr} {es:Array Event} (hg:w.grownBy w' v.ownBlock) (js:∀ ev∈es,(∃ ad,ev.loc=.cell ad/\((ev.write=false/\ad.block=a.block)\/some ad.block=v.ownBlock))\/∃ m,ev=⟨.mark m,false,true⟩/\Neutral m)
  (ha:S a.block) (hv:∀ g,v.ownBlock=some g->g<B/\M g):tu B M S w w' es:=by
 refine ⟨hg.size,fun b hb hS hm=>hg.block b hb fun e=>hm (hv b e.symm).2,fun e he=>?_⟩
 rcases js e he with ⟨ad,h1,h2⟩ | ⟨m,rfl,hm⟩
 ·refine EvK.at h1 fun k=>⟨ad,rfl,?_⟩
  rcases h2 with ⟨_,h2⟩ | h2
  ·exact .inl (.inl (h2▸ha))
  ·exact .inr ⟨(hv _ h2.symm).1,fun _=>(hv _ h2.symm).2⟩
 ·exact EvK.neutral hm
end
end Lf
namespace Lf
open Go Go.Conc Go.RowKit
open Go.Proofs (Tryz.f89 Tryz.prog Tryz.func89 Tryz.ntmps89)
variable {c B : Nat} {M Ro : Nat → Prop}
theorem rF:(Tryz.prog.info? 59).map (fun i=>(i.zero,i.size,i.bytes))=some (some (.agg #[.int .i64 0,.int .i64 0,.int .i64 0,.bool false]),4,32):=by kernel_rfl
def bO (ev time cu:Int) (h:Bool):List Value:=[.int .i64 ev,.int .i64 time,.int .i64 cu,.bool h]
theorem oV {w w':World} {base size n:Nat} {e:TypeId} {v:Value} {xs:List Value} (h:w.ownsRow base e size v n xs) (hh:∀ k,v.ownBlock=some k->k<w.heap.size->w'.heap[k]? = w.heap[k]?):w'.ownsRow base e size v n xs:=by
 have hl:=h.lt
 obtain ⟨h1,⟨rfl,h2⟩ | ⟨g,cap,cur,rfl,h3,h4,h5⟩⟩:=h
 ·exact ⟨h1,.inl ⟨rfl,h2⟩⟩
 ·exact ⟨h1,.inr ⟨g,cap,cur,rfl,h3,by rw [hh g rfl (hl g rfl).2];exact h4,h5⟩⟩
theorem ku {w w':World} {S:Nat->Prop} {size n:Nat} {e:TypeId} {v:Value} {xs:List Value} (h:w.ownsRow 0 e size v n xs) (hv:∀ g,v.ownBlock=some g->(S g\/g<B)/\g≠c) (r:R0w c B S w w'):w'.ownsRow 0 e size v n xs :=
 oV h fun k hk hl=>r.block k (hv k hk).2 hl (hv k hk).1
theorem pj.append0 {P:Program} {cc:Nat} {fn:FuncId} {ops:Array Oper} {i:Nat} {o:Oper} {K:Act->List Value->(Nat->Prop)->World->Prop} {a:Act} {L:List Value} {S:Nat->Prop} {w:World} (ho:ops[i]? = some o)
  (hg:o.guard=none) (s x:Operand) (t:TypeId) (aN:o.op=Op.call { callee:=Callee.builtin Builtin.append,args:=#[s,x],argTypes:=#[t,t] })
  (e:TypeId) (ti:TypeInfo) (z:Value) (size bytes:Nat) (h1:P.underlying t=some (.slice e)) (h2:P.info? e=some ti) (h3:ti.zero=some z) (h4:ti.size=size) (h5:ti.bytes=bytes) (h6:z.cells.size=size) (h7:0<size)
  (v:Value) (n:Nat) (xs:List Value) (ad:Addr) (m cap:Nat) (news:List Value) (hs:a.eval s=v) (hx:a.eval x=.slice (some ad) m cap) (hn:news.length=m*size) (h1c:∀ u∈news,u.oneCell'=true)
  (b1:n+m<=maxLen) (b2:(n+m)*bytes<=140737488355328) (ha:S ad.block) (hv:∀ g,v.ownBlock=some g->g<B/\M g)
  (h:∀ w₁,R0w c B S w w₁->w₁.ownsRow 0 e size v n xs/\(∀ j u,news[j]? = some u->w₁.cell? (ad.add j)=some u)/\∀ v' w',w'.ownsRow 0 e size v' (n+m) (xs++news)->w₁.grownBy w' v.ownBlock->(v'.ownBlock=v.ownBlock\/v'.ownBlock=some w₁.heap.size)->K (a.put o.dst v') L (grow S w₁ w') w') :
  pj P true (R0w c B) (tu B M) cc fn ops i K a L S w:=by
 refine pj.op ho (by simp [Region.wanted,hg]) (by intro ch y;rw [aN];simp) (fun w₁ hR K' hK=>?_)
 obtain ⟨cE,hc,hk⟩:=h w₁ hR
 obtain ⟨v',w',dQ,r1,r2,_,r3⟩:=run_append_own_at (P:=P) w₁ 0 t o.type e ti z size bytes h1 h2 h3 h4 h5 h6 h7 v n xs cE ad m cap news hn hc h1c b1 b2 (Nat.zero_le _)
 have js:=events_append_where (P:=P) w₁ 0 t o.type e ti z size bytes h1 h2 h3 h4 h5 v n xs cE ad m cap news hn hc h1c b1 b2
 have hr:(execOp a.eval o).run P w₁=.ok (.value v') w':=by
  simp [execOp,aN,resolve,invoke,builtin,hs,hx,dQ,Result.andThen]
 rw [hr]
 refine hK _ _ ⟨tu.append r2 (fun ev hm=>?_) ha hv,hk v' w' r1 r2 r3⟩
 have hm:=mem_listed hm
 refine js ev ?_
 simp [execOp,aN,resolve,invoke,builtin,hs,hx] at hm
 exact hm
set_option maxRecDepth 100000 in
set_option maxHeartbeats 1000000 in
theorem take_c (H : qJ c B M Ro) (cj : Nat) (sv : Value) (n : Nat) (xs : List Value) (ev time cu : Int) (h : Bool) (S : Nat → Prop) (w : World)
  (hS : ∀ b, S b → B ≤ b ∧ b < w.heap.size) (hB : B ≤ w.heap.size) (df : cj < B) (hM : M cj) (hstw : w.heap[cj]? = some (.cells #[sv] 177 (0, 0))) (bT : w.ownsRow 0 59 4 sv n xs) (hgM : ∀ g, sv.ownBlock = some g → g < B ∧ M g) (hn : n ≤ 1000000) :
  ic Tryz.prog true (R0w c B) (tu B M) 89 #[.pointer (some ⟨cj, 0, none⟩), .agg #[.int .i64 ev, .int .i64 time, .int .i64 cu, .bool h]] S w
   (fun _ S' w' => ∃ tq, H0 c B (fun b => b = cj ∨ sv.ownBlock = some b) S w S' w' [(cj, .cells #[tq] 177 (0, 0))] ∧ w'.ownsRow 0 59 4 tq (n + 1) (xs ++ bO ev time cu h) ∧ (tq.ownBlock = sv.ownBlock ∨ ∃ g, tq.ownBlock = some g ∧ S' g ∧ w.heap.size ≤ g)) := by
 have TT := (gI c B M Ro H).t0
 have hF : H0 c B (fun b => b = cj ∨ sv.ownBlock = some b) S w S w [(cj, .cells #[sv] 177 (0, 0))] := H0.start hS H.chan hB (by
  intro p hp; simp at hp; subst hp; exact ⟨.inr df, (H.m _ hM).2, hstw⟩)
 have hne : sv.ownBlock ≠ some cj := fun e => by
  obtain ⟨h1, h2 | ⟨g, cap, cur, e1, _, e2, _⟩⟩ := bT
  ·rw [h2.1] at e; cases e
  ·rw [e1] at e; cases e; rw [hstw] at e2; cases e2
 have hgc : ∀ (S : Nat → Prop) g, sv.ownBlock = some g → (S g ∨ g < B) ∧ g ≠ c := fun S g hg => ⟨.inr (hgM g hg).1, (H.m g (hgM g hg).2).2⟩
 generalize hPost : (fun (_ : Value) (S' : Nat → Prop) (w' : World) => ∃ tq, H0 c B (fun b => b = cj ∨ sv.ownBlock = some b) S w S' w' [(cj, .cells #[tq] 177 (0, 0))] ∧ w'.ownsRow 0 59 4 tq (n + 1) (xs ++ bO ev time cu h) ∧ (tq.ownBlock = sv.ownBlock ∨ ∃ g, tq.ownBlock = some g ∧ S' g ∧ w.heap.size ≤ g)) = Post
 obtain ⟨ju, hS₀⟩ : ∃ ju, ju = S := ⟨_, rfl⟩
 obtain ⟨bW, hw₀⟩ : ∃ bW, bW = w := ⟨_, rfl⟩
 rw [← hS₀, ← hw₀] at hF hPost
 have hF : H0 c B (fun b => b = cj ∨ sv.ownBlock = some b) ju bW S w [(cj, .cells #[sv] 177 (0, 0))] := by rw [hS₀, hw₀] at hF ⊢; exact hF
 clear hS₀ hw₀ hstw hS hB
 intro Stop cf cs hk
 rw [enter_at _ Tryz.func89 rfl]
 simp only [Tryz.ntmps89, List.size_toArray, List.length_cons, List.length_nil, Nat.reduceAdd, Nat.reduceSub, Array.replicate_succ, Array.replicate_zero, List.push_toArray, List.append_toArray, List.nil_append, List.cons_append]
 refine RT.seq TT ?_
 refine RT.region TT ?_
 simp only [List.size_toArray, List.length_cons, List.length_nil, Nat.zero_add, List.range, List.range.loop]
 refine RT.op rfl (by rfl) (by simp [base]) (fun v1 hR K hK => ?_)
 replace hF := hF.rely hR
 replace bT := ku bT (hgc S) hR
 go_simp
 refine hK _ _ ⟨by rw [listed_nil (by simp [go_sem])]; exact tu.alloc _ _ _, ?_⟩
 clear hK K hR
 replace bT := oV (w' := v1.alloc (.cells #[.int .i64 ev, .int .i64 time, .int .i64 cu, .bool h] 59)) bT (fun k _ hl => bw v1 _ hl)
 have hF0 := hF
 replace hF := hF.alloc (.cells #[.int .i64 ev, .int .i64 time, .int .i64 cu, .bool h] 59)
 generalize grow _ v1 (v1.alloc (.cells #[.int .i64 ev, .int .i64 time, .int .i64 cu, .bool h] 59)) = T1 at hF ⊢
 have nY : B ≤ v1.heap.size := Nat.le_trans hF.low (hF0.size)
 generalize a_ : v1.heap.size = b1 at hF nY ⊢
 generalize v1.alloc (.cells #[.int .i64 ev, .int .i64 time, .int .i64 cu, .bool h] 59) = u1 at hF bT ⊢
 clear a_ hF0 v1
 refine RT.nil TT ?_
 have oF : ∀ (S : Nat → Prop) (x y : World), H0 c B (fun b => b = cj ∨ sv.ownBlock = some b) ju bW S x [(b1, .cells #[.int .i64 ev, .int .i64 time, .int .i64 cu, .bool h] 59), (cj, .cells #[sv] 177 (0, 0))] → R0w c B S x y → H0 c B (fun b => b = cj ∨ sv.ownBlock = some b) ju bW S y [(b1, .cells #[.int .i64 ev, .int .i64 time, .int .i64 cu, .bool h] 59), (cj, .cells #[sv] 177 (0, 0))] := fun S x y h r => h.rely r
 let Qv : Act → List Value → (Nat → Prop) → World → Prop := fun a L S w' => RT Tryz.prog true (R0w c B) (tu B M) Stop S (G ((base 89).at a []) (cf :: cs)) w'
 have uk : ∀ a L S x y, Qv a L S x → R0w c B S x y → Qv a L S y := fun a L S x y h r => RT.rely TT h r
 refine RT.drawn (Stop := fun _ => Stop) (L := []) (c := c) (Q := Qv) (I := fun S w' => H0 c B (fun b => b = cj ∨ sv.ownBlock = some b) ju bW S w' [(b1, .cells #[.int .i64 ev, .int .i64 time, .int .i64 cu, .bool h] 59), (cj, .cells #[sv] 177 (0, 0))]) (fn := 89) (fin := 10) TT (.inl (by intro o ho ch x; simp at ho; rcases ho with rfl | rfl | rfl | rfl | rfl | rfl | rfl | rfl | rfl | rfl | rfl <;> simp)) rfl (by simp [base]) (by kernel_rfl) (fun a L S w' hq => hq) (fun w₁ hR => ?_)
 replace hF := hF.rely hR
 replace bT := ku bT (hgc _) hR
 have hRd : R0w c B T1 w₁ { w₁ with drawn := w₁.drawn + 1 } := ⟨Nat.le_refl _, fun _ _ _ _ => rfl, rfl, rfl, rfl⟩
 replace hF := hF.rely hRd
 replace bT := ku bT (hgc _) hRd
 clear hRd
 simp only [List.size_toArray, List.length_cons, List.length_nil, Nat.reduceAdd, Nat.zero_add]
 generalize ({ w₁ with drawn := w₁.drawn + 1 } : World) = x1 at hF bT ⊢
 clear hR
 have hI := hF
 refine bU TT oF uk 0 (v := ?v0) rfl (by decide +kernel) (by decide +kernel) (by decide +kernel) (by decide +kernel) ⟨by simp, by rfl, fun S' w' hw => ⟨run_eq_of ?r0, ?g0⟩⟩ hI ?_
 case r0 =>
  intro K hK
  go_simp
  exact hK
 case g0 =>
  rw [listed_nil (by simp [go_sem])]; exact TT.idle _ _
 try walk_nrm
 refine bU TT oF uk 1 (v := ?v1) rfl (by decide +kernel) (by decide +kernel) (by decide +kernel) (by decide +kernel) ⟨by simp, by rfl, fun S' w' hw => ⟨run_eq_of ?r1, ?g1⟩⟩ hI ?_
 case r1 =>
  intro K hK
  go_simp
  exact hK
 case g1 =>
  rw [listed_nil (by simp [go_sem])]; exact TT.idle _ _
 try walk_nrm
 refine bU TT oF uk 2 (v := ?v2) rfl (by decide +kernel) (by decide +kernel) (by decide +kernel) (by decide +kernel) ⟨by simp, by rfl, fun S' w' hw => ⟨run_eq_of ?r2, ?g2⟩⟩ hI ?_
 case r2 =>
  intro K hK
  go_simp
  exact hK
 case g2 =>
  rw [listed_nil (by simp [go_sem])]; exact TT.idle _ _
 try walk_nrm
 refine bU TT oF uk 3 (v := ?v3) rfl (by decide +kernel) (by decide +kernel) (by decide +kernel) (by decide +kernel) ⟨by simp, by rfl, fun S' w' hw => ⟨run_eq_of ?r3, ?g3⟩⟩ hI ?_
 case r3 =>
  intro K hK
  go_simp
  exact hK
 case g3 =>
  rw [listed_nil (by simp [go_sem])]; exact TT.idle _ _
 try walk_nrm
 refine bU TT oF uk 4 (v := ?v4) rfl (by decide +kernel) (by decide +kernel) (by decide +kernel) (by decide +kernel) ⟨by simp, by rfl, fun S' w' hw => ⟨run_eq_of ?r4, ?g4⟩⟩ hI ?_
 case r4 =>
  intro K hK
  have kJ := hw.cell (i := 0) (.tail _ (.head _)) rfl
  go_simp
  exact hK
 case g4 =>
  have kJ := hw.cell (i := 0) (.tail _ (.head _)) rfl
  refine tu.reads fun e he => ?_
  have hm := mem_listed he
  simp [go_sem, *] at hm
  rcases hm with rfl <;> exact hw.read (.tail _ (.head _)) rfl
 try walk_nrm
 refine bU TT oF uk 5 (v := ?v5) rfl (by decide +kernel) (by decide +kernel) (by decide +kernel) (by decide +kernel) ⟨by simp, by rfl, fun S' w' hw => ⟨run_eq_of ?r5, ?g5⟩⟩ hI ?_
 case r5 =>
  intro K hK
  have lj := hw.cell (i := 0) (.head _) rfl
  have kJ := hw.cell (i := 1) (.head _) rfl
  have hc2 := hw.cell (i := 2) (.head _) rfl
  have r_ := hw.cell (i := 3) (.head _) rfl
  go_simp
  exact hK
 case g5 =>
  have lj := hw.cell (i := 0) (.head _) rfl
  have kJ := hw.cell (i := 1) (.head _) rfl
  have hc2 := hw.cell (i := 2) (.head _) rfl
  have r_ := hw.cell (i := 3) (.head _) rfl
  refine tu.reads fun e he => ?_
  have hm := mem_listed he
  simp [go_sem, *] at hm
  rcases hm with rfl | rfl | rfl | rfl <;> exact hw.read (.head _) rfl
 try walk_nrm
 refine gu (i := 6) (by decide +kernel) (pj.op rfl (by rfl) (by simp) (fun bF hR2 K hK => ?_))
 replace hF := hF.rely hR2
 replace bT := ku bT (hgc _) hR2
 go_simp
 refine hK _ _ ⟨by rw [listed_nil (by simp [go_sem])]; exact tu.alloc _ _ _, ?_⟩
 clear hK K hR2 hI
 replace bT := oV (w' := bF.alloc (.cells #[.int .i64 ev, .int .i64 time, .int .i64 cu, .bool h] 59)) bT (fun k _ hl => bw bF _ hl)
 have hB2 : B ≤ bF.heap.size := hF.base
 have oJ : grow T1 bF (bF.alloc (.cells #[.int .i64 ev, .int .i64 time, .int .i64 cu, .bool h] 59)) bF.heap.size := .inr ⟨Nat.le_refl _, by rw [aG]; exact Nat.lt_succ_self _⟩
 replace hF := hF.alloc (.cells #[.int .i64 ev, .int .i64 time, .int .i64 cu, .bool h] 59)
 generalize grow T1 bF (bF.alloc (.cells #[.int .i64 ev, .int .i64 time, .int .i64 cu, .bool h] 59)) = T2 at hF oJ ⊢
 generalize cB : bF.heap.size = b2 at hF oJ hB2 ⊢
 generalize bF.alloc (.cells #[.int .i64 ev, .int .i64 time, .int .i64 cu, .bool h] 59) = u2 at hF bT ⊢
 clear cB bF
 refine ⟨fun _ => hF.less (fun p hp => .tail _ hp), ?_⟩
 try walk_nrm
 obtain ⟨ti, hti, hti2⟩ := Option.map_eq_some_iff.1 rF
 simp only [Prod.mk.injEq] at hti2
 refine gu (i := 7) (by decide +kernel) (pj.append0 rfl rfl (.tmp 8) (.tmp 10) 54 rfl 59 ti _ 4 32 Tryz.underlying54 hti hti2.1 hti2.2.1 hti2.2.2 rfl (by decide) sv n xs ⟨b2, 0, none⟩ 1 1 (bO ev time cu h) rfl rfl rfl ?o7 (by simp only [maxLen]; omega) (by omega) oJ hgM (fun w₃ hR3 => ⟨ku bT (hgc _) hR3, ?c7, ?k7⟩))
 case o7 => intro u hu; simp [bO] at hu; rcases hu with rfl | rfl | rfl | rfl <;> rfl
 case c7 =>
  intro j u hj
  have hG := hF.rely hR3
  rcases j with _ | _ | _ | _ | j
  ·simp [bO] at hj; subst hj; simpa [Addr.add] using hG.cell (i := 0) (.head _) rfl
  ·simp [bO] at hj; subst hj; simpa [Addr.add] using hG.cell (i := 1) (.head _) rfl
  ·simp [bO] at hj; subst hj; simpa [Addr.add] using hG.cell (i := 2) (.head _) rfl
  ·simp [bO] at hj; subst hj; simpa [Addr.add] using hG.cell (i := 3) (.head _) rfl
  ·simp [bO] at hj
 intro tq w4 r1 r2 r3
 replace hF := hF.rely hR3
 have hsz3 := hF.size
 have hB3 := hF.base
 replace hF := hF.grown r2 (fun g hg => .inr hg) (by
  intro p hp e
  simp at hp
  rcases hp with rfl | rfl | rfl
  ·have := (hgM _ e.symm).1; simp at this; omega
  ·have := (hgM _ e.symm).1; simp at this; omega
  ·exact hne e.symm)
 have hsv : tq.ownBlock = sv.ownBlock ∨ ∃ g, tq.ownBlock = some g ∧ grow T2 w₃ w4 g ∧ bW.heap.size ≤ g := r3.imp id fun e => ⟨_, e, .inr ⟨Nat.le_refl _, (r1.lt _ e).2⟩, hsz3⟩
 have hgc2 : ∀ g, tq.ownBlock = some g → (grow T2 w₃ w4 g ∨ g < B) ∧ g ≠ c ∧ g ≠ cj := by
  intro g hg
  rcases hsv with e | ⟨g', e, e2, e3⟩
  ·rw [e] at hg; exact ⟨(hgc _ g hg).1, (hgc T2 g hg).2, fun x => hne (x ▸ hg)⟩
  ·rw [e] at hg; cases hg; have := hF.low; exact ⟨.inl e2, fun x => by have := H.chan; omega, fun x => by omega⟩
 refine ⟨fun _ => hF.less (fun p hp => .tail _ hp), ?_⟩
 generalize grow T2 w₃ w4 = T3 at hF hsv hgc2 ⊢
 clear r2 r3 bT hR3 hsz3 hB3
 try walk_nrm
 refine gu (i := 8) (by decide +kernel) (pj.op rfl (by rfl) (by simp) (fun w8 hR K hK => ?_))
 replace hF := hF.rely hR
 replace r1 := ku r1 (fun g hg => ⟨(hgc2 g hg).1, (hgc2 g hg).2.1⟩) hR
 go_simp
 refine hK _ _ ⟨by rw [listed_nil (by simp [go_sem])]; exact TT.idle _ _, ?_⟩
 clear hK K hR
 rw [aD]
 refine ⟨fun _ => hF.less (fun p hp => .tail _ hp), ?_⟩
 try walk_nrm
 refine gu (i := 9) (by decide +kernel) (pj.op rfl (by rfl) (by simp) (fun w9 hR K hK => ?_))
 replace hF := hF.rely hR
 replace r1 := ku r1 (fun g hg => ⟨(hgc2 g hg).1, (hgc2 g hg).2.1⟩) hR
 go_simp
 refine hK _ _ ⟨by rw [listed_nil (by simp [go_sem])]; exact TT.idle _ _, ?_⟩
 clear hK K hR
 rw [aD]
 refine ⟨fun _ => hF.less (fun p hp => .tail _ hp), ?_⟩
 try walk_nrm
 refine gu (i := 10) (by decide +kernel) (pj.op rfl (by rfl) (by simp) (fun w10 hR K hK => ?_))
 replace hF := hF.rely hR
 replace r1 := ku r1 (fun g hg => ⟨(hgc2 g hg).1, (hgc2 g hg).2.1⟩) hR
 have hG : H0 c B (fun b => b = cj ∨ sv.ownBlock = some b) ju bW T3 w10 [(cj, .cells #[sv] 177 (0, 0))] := hF.less (fun p hp => by simp at hp; subst hp; simp)
 have hb := hG.get (.head _)
 have lj := hG.cell (i := 0) (.head _) rfl
 have hz : w10.frozen? ⟨cj, 0, none⟩ = false := by simp [World.frozen?, hb]
 have hov : ∃ (o : Option Addr) (l k : Nat), tq = .slice o l k := by rcases r1.2 with ⟨e, _⟩ | ⟨_, _, _, e, _⟩ <;> exact ⟨_, _, _, e⟩
 obtain ⟨oo, ll, kk, rfl⟩ := hov
 go_simp
 refine hK _ _ ⟨?_, ?_⟩
 ·refine tu.sets (b := cj) (.inr ⟨df, hM⟩) (by simp only [cn]) (fun k hk => aT _ _ _ hk) (fun e he => ?_)
  have hm := mem_listed he
  simp [go_sem, events_store (v := Value.slice oo ll kk) (hv := rfl), *] at hm
  rcases hm with rfl <;> exact ⟨_, rfl, rfl⟩
 clear hK K
 rw [l7 _ (by simp only [cn])]
 replace hG := hG.set (i := 0) (v := .slice oo ll kk) (.inr (.inl rfl)) (by intro p hp; simp at hp)
 replace r1 := oV (w' := w10.setCell ⟨cj, 0, none⟩ (.slice oo ll kk)) r1 (fun k hk _ => aT _ _ _ (hgc2 k hk).2.2)
 refine ⟨fun x => absurd rfl x, ?_⟩
 refine anyR_done (by decide +kernel) (RT.ends TT (RT.leave TT (v := .tuple #[]) rfl rfl Tryz.func89 (fun w₉ hR9 => ?_) (hk _ _ _ (hPost ▸ ⟨_, hG, r1, hsv⟩)))) _
 refine ⟨by simp [results, go_sem], ?_⟩
 rw [show ∀ t, Sem.events Tryz.prog (results Tryz.f89 t) w₉ #[] = #[] from fun t => by simp [results, go_sem], seen_none]
 exact TT.idle _ _
end Lf
namespace Lf
open Go Go.Conc
variable {P : Program}
def At (b:Frame) (k:List Item) (cs:List Frame) (g:Goroutine):Exit->Act->Prop
 | .normal,a=>g=G (b.at a k) cs
 | .exit id,a=>∃ k',exitTo id k=some k'/\g=G (b.at a k') cs
 | .goto l,a=>∃ k',gotoIn l k=some k'/\g=G (b.at a k') cs
 | .ret,a=>∃ todo,(∀ it∈todo,aR it)/\g=G { b.at a todo with mode:=.returning } cs
 | .panic chain,a=>∃ todo,(∀ it∈todo,aR it)/\g=G { b.at a todo with mode:=.panicking chain } cs
 | .outgrown,_=>False
structure Behind (Q:Exit->Act->World->Prop) (k:List Item) (cs:List Frame):Prop where
 items:∀ it∈k,aR it
 frames:∀ fr∈cs,aA fr
 exits:∀ id a w,Q (.exit id) a w->∃ k',exitTo id k=some k'
 gotos:∀ l a w,Q (.goto l) a w->∃ k',gotoIn l k=some k'
def e_ (P:Program) (c:Code) (Q:Exit->Act->World->Prop) (a:Act) (w:World):Prop :=
 ∀ (b:Frame) (k:List Item) (cs:List Frame),Behind Q k cs->af P (fun g w'=>∃ e a',Q e a' w'/\At b k cs g e a') (G (b.at a (.code c::k)) cs) w
theorem e_.mono {c:Code} {Q Q':Exit->Act->World->Prop} {a:Act} {w:World} (h:e_ P c Q a w) (hq:∀ e a w,Q e a w->Q' e a w):e_ P c Q' a w :=
 fun b k cs hb=>(h b k cs ⟨hb.items,hb.frames,fun id a w x=>hb.exits id a w (hq _ _ _ x),fun id a w x=>hb.gotos id a w (hq _ _ _ x)⟩).mono fun _ _ ⟨e,a',x,y⟩=>⟨e,a',hq _ _ _ x,y⟩
theorem iz {b:Frame} {a:Act} {k:List Item} (h:∀ it∈k,aR it):aA (b.at a k):=h
theorem aJ {it:Item} {k:List Item} (h0:aR it) (h:∀ it∈k,aR it):∀ x∈it::k,aR x:=fun x hx=>by
 rcases List.mem_cons.1 hx with rfl | hx
 ·exact h0
 ·exact h x hx
theorem jb {b:Frame} {a:Act} {c:Code} {k:List Item} {cs:List Frame} (h:∀ it∈k,aR it) (hc:∀ fr∈cs,aA fr):dx (G (b.at a (.code c::k)) cs):=tD (iz (aJ trivial h)) hc
theorem af.move (hP:Plain P) {K:Goroutine->World->Prop} {fr fr':Frame} {cs:List Frame} {w:World} (hg:dx (G fr cs)) (h:∀ w,Steps P (lone fr cs w) (lone fr' cs w)) (hk:dx (G fr' cs)->af P K (G fr' cs) w):af P K (G fr cs) w:=by
 have h1:af P (fun g w'=>g=G fr' cs/\dx g/\∃ τ d,w'=re w τ d) (G fr cs) w:=by
  refine .of_steps hP ?_ hg fun τ d=>⟨G fr' cs,re w τ d,h _,dH _ _,fun hf=>⟨rfl,hf,τ,d,rfl⟩⟩
  rintro g w' τ d ⟨rfl,hf,vX,d',rfl⟩
  exact ⟨rfl,hf,τ,d,rfl⟩
 refine h1.trans ?_
 rintro g w' ⟨rfl,hf,τ,d,rfl⟩
 exact (hk hf).other τ d
theorem e_.of_wp (hP:Plain P) {c:Code} {Q:Exit->Act->World->Prop} {a:Act} {w:World} (hQ:∀ e a w τ d,Q e a w->Q e a (re w τ d)) (hno:∀ a w,¬ Q .outgrown a w) (h:∀ τ d,c.wp P Q a (re w τ d)):e_ P c Q a w:=by
 intro b k cs hb
 refine .of_steps hP ?_ (jb hb.items hb.frames) fun τ d=>?_
 ·rintro g w τ d ⟨e,a',h1,h2⟩
  exact ⟨e,a',hQ _ _ _ _ _ h1,h2⟩
 ·obtain ⟨e,a',w',h1,h2⟩:=h τ d b k cs
  cases e with
  | normal=>exact ⟨_,w',h2,dH _ _,fun _=>⟨.normal,a',h1,rfl⟩⟩
  | exit id=>obtain ⟨k',hk⟩:=hb.exits id a' w' h1;exact ⟨_,w',h2 k' hk,dH _ _,fun _=>⟨.exit id,a',h1,k',hk,rfl⟩⟩
  | goto l=>obtain ⟨k',hk⟩:=hb.gotos l a' w' h1;exact ⟨_,w',h2 k' hk,dH _ _,fun _=>⟨.goto l,a',h1,k',hk,rfl⟩⟩
  | ret=>obtain ⟨todo,hs⟩:=h2;exact ⟨_,w',hs,dH _ _,fun hf=>⟨.ret,a',h1,todo,hf.ok.frame,rfl⟩⟩
  | panic chain=>obtain ⟨todo,hs⟩:=h2;exact ⟨_,w',hs,dH _ _,fun hf=>⟨.panic chain,a',h1,todo,hf.ok.frame,rfl⟩⟩
  | outgrown=>exact absurd h1 (hno _ _)
theorem At.pass {b:Frame} {x:Item} {k:List Item} {cs:List Frame} {g:Goroutine} {e:Exit} {a:Act} (hx:x.plain=true) (he:e≠.normal) (h:At b (x::k) cs g e a):At b k cs g e a:=by
 cases e with
 | normal=>exact absurd rfl he
 | exit id=>obtain ⟨k',h1,h2⟩:=h;exact ⟨k',by cases x<;>simp_all [exitTo,Item.plain],h2⟩
 | goto l=>obtain ⟨k',h1,h2⟩:=h;exact ⟨k',by cases x<;>simp_all [gotoIn,Item.plain],h2⟩
 | ret=>exact h
 | panic chain=>exact h
 | outgrown=>exact h
theorem Behind.pass {Q Q':Exit->Act->World->Prop} {k:List Item} {cs:List Frame} {x:Item} (hb:Behind Q k cs) (hx:x.plain=true) (se:aR x) (h1:∀ id a w,Q' (.exit id) a w->Q (.exit id) a w) (h2:∀ id a w,Q' (.goto id) a w->Q (.goto id) a w):Behind Q' (x::k) cs :=
 ⟨aJ se hb.items,hb.frames,fun id a w h=>by
  obtain ⟨k',hk⟩:=hb.exits id a w (h1 _ _ _ h);exact ⟨k',by cases x<;>simp_all [exitTo,Item.plain]⟩,fun id a w h=>by
  obtain ⟨k',hk⟩:=hb.gotos id a w (h2 _ _ _ h);exact ⟨k',by cases x<;>simp_all [gotoIn,Item.plain]⟩⟩
theorem af.then {K L:Goroutine->World->Prop} {g:Goroutine} {w:World} (h:af P K g w) (hk:∀ g' w',K g' w'->kP P L g' w'):af P L g w:=fun τ d=>(h τ d).trans hk
theorem af.step (hP:Plain P) {K:Goroutine->World->Prop} {fr fr':Frame} {cs cs':List Frame} {w:World} (hg:dx (G fr cs)) (h:∀ τ d,Steps P (lone fr cs (re w τ d)) (lone fr' cs' (re w τ d))) (hk:dx (G fr' cs')->af P K (G fr' cs') w):af P K (G fr cs) w:=by
 have h1:af P (fun g w'=>g=G fr' cs'/\dx g/\∃ τ d,w'=re w τ d) (G fr cs) w:=by
  refine .of_steps hP ?_ hg fun τ d=>⟨G fr' cs',re w τ d,h _ _,dH _ _,fun hf=>⟨rfl,hf,τ,d,rfl⟩⟩
  rintro g w' τ d ⟨rfl,hf,vX,d',rfl⟩
  exact ⟨rfl,hf,τ,d,rfl⟩
 refine h1.trans ?_
 rintro g w' ⟨rfl,hf,τ,d,rfl⟩
 exact (hk hf).other τ d
theorem af.here {K:Goroutine->World->Prop} {g:Goroutine} {w:World} (h:∀ τ d,K g (re w τ d)):af P K g w:=fun τ d=>.here (h τ d)
theorem e_.seq (hP:Plain P) {x y:Code} {Q:Exit->Act->World->Prop} {a:Act} {w:World} (h:e_ P x (Exit.then (e_ P y Q) Q) a w):e_ P (.seq x y) Q a w:=by
 intro b k cs hb
 refine af.move hP (jb hb.items hb.frames) (fun _=>.one step_seq) fun _=>?_
 refine (h b (.code y::k) cs (hb.pass rfl trivial (fun _ _ _ x=>x) (fun _ _ _ x=>x))).then ?_
 rintro g w' ⟨e,a',h1,h2⟩
 cases e with
 | normal=>cases h2;exact (h1 b k cs hb).leads
 | _=>exact .here ⟨_,a',h1,At.pass (x:=.code y) rfl (by simp) h2⟩
theorem e_.seq' (hP:Plain P) {x y:Code} {Q:Exit->Act->World->Prop} {a:Act} {w:World} (J:Act->World->Prop) (h:e_ P x (Exit.then J Q) a w) (hk:∀ a w,J a w->e_ P y Q a w):e_ P (.seq x y) Q a w :=
 .seq hP (h.mono fun e a w x=>by cases e<;>first | exact hk _ _ x | exact x)
theorem e_.cond (hP:Plain P) {c:Operand} {x y:Code} {t:Bool} {Q:Exit->Act->World->Prop} {a:Act} {w:World} (hc:a.eval c=.bool t) (h:e_ P (if t then x else y) Q a w):e_ P (.cond c x y) Q a w :=
 fun b k cs hb=>af.move hP (jb hb.items hb.frames) (fun _=>.one (step_cond hc)) fun _=>h b k cs hb
theorem e_.block (hP:Plain P) {id:Nat} {c:Code} {Q:Exit->Act->World->Prop} {a:Act} {w:World} (hQ:∀ a w τ d,Q .normal a w->Q .normal a (re w τ d)) (h:e_ P c (Exit.inBlock id Q) a w):e_ P (.block id c) Q a w:=by
 intro b k cs hb
 refine af.move hP (jb hb.items hb.frames) (fun _=>.one step_block) fun _=>?_
 refine (h b (.inBlock id::k) cs ⟨aJ trivial hb.items,hb.frames,fun id' a w x=>?_,fun l a w x=>?_⟩).then ?_
 ·by_cases hid:id'=id
  ·exact ⟨k,by simp [exitTo,hid]⟩
  ·simp only [Exit.inBlock,hid,if_false] at x
   obtain ⟨k',hk⟩:=hb.exits id' a w x
   have:(id==id')=false:=by simp;exact fun h=>hid h.symm
   exact ⟨k',by simp [exitTo,this,hk]⟩
 ·obtain ⟨k',hk⟩:=hb.gotos l a w x
  exact ⟨k',by simp [gotoIn,hk]⟩
 rintro g w' ⟨e,a',h1,h2⟩
 cases e with
 | normal =>
  cases h2
  exact (af.move hP (tD (iz (aJ (it:=.inBlock id) trivial hb.items)) hb.frames) (fun _=>.one step_inBlock) fun _=>.here fun τ d=>⟨.normal,a',hQ _ _ _ _ h1,rfl⟩).leads
 | exit id' =>
  obtain ⟨k',h3,h4⟩:=h2
  by_cases hid:id'=id
  ·subst hid
   simp only [Exit.inBlock,if_true] at h1
   simp [exitTo] at h3
   subst h3
   exact .here ⟨.normal,a',h1,h4⟩
  ·simp only [Exit.inBlock,hid,if_false] at h1
   have:(id==id')=false:=by simp;exact fun h=>hid h.symm
   simp [exitTo,this] at h3
   exact .here ⟨.exit id',a',h1,k',h3,h4⟩
 | goto l=>obtain ⟨k',h3,h4⟩:=h2;simp [gotoIn] at h3;exact .here ⟨.goto l,a',h1,k',h3,h4⟩
 | ret=>exact .here ⟨.ret,a',h1,h2⟩
 | panic chain=>exact .here ⟨.panic chain,a',h1,h2⟩
 | outgrown=>exact h2.elim
theorem e_.loop (hP:Plain P) {c:Code} {Q:Exit->Act->World->Prop} {a:Act} {w:World} (I:Nat->Act->World->Prop) (sQ:Nat) (h₀:I sQ a w)
  (round:∀ n a w,I n a w->e_ P c (Exit.then (fun a' w'=>∃ m,m<n/\I m a' w') Q) a w):e_ P (.loop c) Q a w:=by
 intro b k cs hb
 have key:∀ n a w,I n a w->af P (fun g w'=>∃ e a',Q e a' w'/\At b k cs g e a') (G (b.at a (.code c::.inLoop c::k)) cs) w:=by
  intro n
  induction n using Nat.strongRecOn with
  | _ n ih =>
   intro a w hn
   refine (round n a w hn b (.inLoop c::k) cs (hb.pass rfl trivial (fun _ _ _ x=>x) (fun _ _ _ x=>x))).then ?_
   rintro g w' ⟨e,a',h1,h2⟩
   cases e with
   | normal =>
    cases h2
    obtain ⟨m,hm,h1⟩:=h1
    exact (af.move hP (tD (iz (aJ (it:=.inLoop c) trivial hb.items)) hb.frames) (fun _=>.one step_inLoop) fun _=>ih m hm a' w' h1).leads
   | _=>exact .here ⟨_,a',h1,At.pass (x:=.inLoop c) rfl (by simp) h2⟩
 exact af.move hP (jb hb.items hb.frames) (fun _=>.one step_loop) fun _=>key sQ a w h₀
theorem e_.ret (hP:Plain P) {Q:Exit->Act->World->Prop} {a:Act} {w:World} (h:∀ τ d,Q .ret a (re w τ d)):e_ P .ret Q a w :=
 fun _ _ _ hb=>af.move hP (jb hb.items hb.frames) (fun _=>.one step_ret) fun hf=>.here fun τ d=>⟨.ret,a,h τ d,_,hf.ok.frame,rfl⟩
theorem e_.exit (hP:Plain P) {id:Nat} {Q:Exit->Act->World->Prop} {a:Act} {w:World} (h:∀ τ d,Q (.exit id) a (re w τ d)):e_ P (.exit id) Q a w:=fun _ _ _ hb=>by
 obtain ⟨k',hk⟩:=hb.exits id a _ (h w.tape w.drawn)
 exact af.move hP (jb hb.items hb.frames) (fun _=>.one (step_exit hk)) fun _=>.here fun τ d=>⟨.exit id,a,h τ d,k',hk,rfl⟩
theorem og {fr:Frame} {cs:List Frame} (h0:aA fr) (h:∀ x∈cs,aA x):∀ x∈fr::cs,aA x:=fun x hx=>by
 rcases List.mem_cons.1 hx with rfl | hx
 ·exact h0
 ·exact h x hx
theorem uD {b:Frame} {a:Act} {ops:Array Oper} {l:List Nat} {k:List Item} {cs:List Frame} (h:∀ it∈k,aR it) (hc:∀ fr∈cs,aA fr):dx (G (b.at a (.inRegion ops l::k)) cs):=tD (iz (aJ trivial h)) hc
end Lf
namespace Lf
open Go Go.Conc
variable {P : Program} {K : Goroutine → World → Prop} {b : Frame} {k : List Item} {cs : List Frame} {a : Act} {w : World}
theorem af.seq (hP:Plain P) {x y:Code} (hi:∀ it∈k,aR it) (hc:∀ fr∈cs,aA fr) (h:af P K (G (b.at a (.code x::.code y::k)) cs) w):af P K (G (b.at a (.code (.seq x y)::k)) cs) w :=
 af.move hP (jb hi hc) (fun _=>.one step_seq) fun _=>h
theorem af.code {c:Code} {Q:Exit->Act->World->Prop} (h:e_ P c Q a w) (hb:Behind Q k cs) (hk:∀ e a' w' g,Q e a' w'->At b k cs g e a'->af P K g w'):af P K (G (b.at a (.code c::k)) cs) w :=
 (h b k cs hb).trans fun g w' ⟨e,a',h1,h2⟩=>hk e a' w' g h1 h2
theorem af.piece (hP:Plain P) {c:Code} (J:Act->World->Prop) (hJ:∀ a w τ d,J a w->J a (re w τ d)) (hi:∀ it∈k,aR it) (hc:∀ fr∈cs,aA fr) (h:∀ τ d,c.wp P (fun e a' w'=>e=.normal/\J a' w') a (re w τ d)) (hk:∀ a' w',J a' w'->af P K (G (b.at a' k) cs) w'):af P K (G (b.at a (.code c::k)) cs) w :=
 af.code (Q:=fun e a' w'=>e=.normal/\J a' w') (e_.of_wp hP (fun e a w τ d x=>⟨x.1,hJ _ _ _ _ x.2⟩) (fun a w x=>by cases x.1) h) ⟨hi,hc,fun _ _ _ x=>(by cases x.1),fun _ _ _ x=>(by cases x.1)⟩
  fun e a' w' g x y=>by
   obtain ⟨rfl,x⟩:=x
   obtain rfl:g=_:=y
   exact hk a' w' x
theorem af.val (hP:Plain P) {ops:Array Oper} {i:Nat} {rest:List Nat} {o:Oper} {v:Value} {w':World} (ho:ops[i]? = some o) (hw:Region.wanted o (yielded ops a.tmps)=true)
  (hr:∀ τ d,(execOp a.eval o).run P (re w τ d)=.ok (.value v) (re w' τ d)) (hi:∀ it∈k,aR it) (hc:∀ fr∈cs,aA fr)
  (h:af P K (G (b.at (a.put o.dst v) (.inRegion ops rest::k)) cs) w'):af P K (G (b.at a (.inRegion ops (i::rest)::k)) cs) w:=by
 have bH:(b.at a (.inRegion ops (i::rest)::k)).finish v=b.at (a.put o.dst v) (.inRegion ops rest::k):=by rw [Frame.finish_at,ho];rfl
 have h1:af P (fun g x=>g=G (b.at (a.put o.dst v) (.inRegion ops rest::k)) cs/\∃ τ d,x=re w' τ d) (G (b.at a (.inRegion ops (i::rest)::k)) cs) w:=by
  refine .of_steps hP ?_ (uD hi hc) fun τ d=>⟨_,re w' τ d,.one (step_lone_go (fr':=b.at (a.put o.dst v) (.inRegion ops rest::k)) (cs':=cs) ?_),dH _ _,fun _=>⟨rfl,τ,d,rfl⟩⟩
  ·rintro g x τ d ⟨rfl,vX,d',rfl⟩
   exact ⟨rfl,τ,d,rfl⟩
  ·rw [stepG_op ho hw,<- bH];simp [stepG.apply,hr,Frame.at]
 refine h1.trans ?_
 rintro g x ⟨rfl,τ,d,rfl⟩
 exact h.other τ d
theorem af.non (hP:Plain P) {ops:Array Oper} {i:Nat} {rest:List Nat} {o:Oper} {w':World} (ho:ops[i]? = some o) (hw:Region.wanted o (yielded ops a.tmps)=true)
  (hr:∀ τ d,(execOp a.eval o).run P (re w τ d)=.ok .skip (re w' τ d)) (hi:∀ it∈k,aR it) (hc:∀ fr∈cs,aA fr)
  (h:af P K (G (b.at (a.put o.dst undef) (.inRegion ops rest::k)) cs) w'):af P K (G (b.at a (.inRegion ops (i::rest)::k)) cs) w:=by
 have bH:(b.at a (.inRegion ops (i::rest)::k)).finish undef=b.at (a.put o.dst undef) (.inRegion ops rest::k):=by rw [Frame.finish_at,ho];rfl
 have h1:af P (fun g x=>g=G (b.at (a.put o.dst undef) (.inRegion ops rest::k)) cs/\∃ τ d,x=re w' τ d) (G (b.at a (.inRegion ops (i::rest)::k)) cs) w:=by
  refine .of_steps hP ?_ (uD hi hc) fun τ d=>⟨_,re w' τ d,.one (step_lone_go (fr':=b.at (a.put o.dst undef) (.inRegion ops rest::k)) (cs':=cs) ?_),dH _ _,fun _=>⟨rfl,τ,d,rfl⟩⟩
  ·rintro g x τ d ⟨rfl,vX,d',rfl⟩
   exact ⟨rfl,τ,d,rfl⟩
  ·rw [stepG_op ho hw,<- bH];simp [stepG.apply,hr,Frame.at]
 refine h1.trans ?_
 rintro g x ⟨rfl,τ,d,rfl⟩
 exact h.other τ d
theorem af.region (hP:Plain P) {id:Nat} {ops:Array Oper} (hi:∀ it∈k,aR it) (hc:∀ fr∈cs,aA fr) (h:af P K (G (b.at a (.inRegion ops (List.range ops.size)::k)) cs) w):af P K (G (b.at a (.code (.region id ops false)::k)) cs) w :=
 af.move hP (jb hi hc) (fun _=>.one step_region) fun _=>h
theorem af.nil (hP:Plain P) {ops:Array Oper} (hi:∀ it∈k,aR it) (hc:∀ fr∈cs,aA fr) (h:af P K (G (b.at a k) cs) w):af P K (G (b.at a (.inRegion ops []::k)) cs) w :=
 af.move hP (uD hi hc) (fun _=>.one step_region_end) fun _=>h
theorem af.draw (hP:Plain P) {id:Nat} {ops:Array Oper} (hi:∀ it∈k,aR it) (hc:∀ fr∈cs,aA fr) (h:∀ t,af P K (G (b.at a (.inRegion ops (Region.schedule (P.follows .mixedOrders) ops t)::k)) cs) w):af P K (G (b.at a (.code (.region id ops true)::k)) cs) w:=by
 have h1:af P (fun g w'=>(∃ t,g=G (b.at a (.inRegion ops (Region.schedule (P.follows .mixedOrders) ops t)::k)) cs)/\∃ τ d,w'=re w τ d) (G (b.at a (.code (.region id ops true)::k)) cs) w:=by
  refine .of_steps hP ?_ (jb hi hc) fun τ d=>?_
  ·rintro g w' τ d ⟨h1,vX,d',rfl⟩
   exact ⟨h1,τ,d,rfl⟩
  ·exact ⟨_,re w τ (d+1),.one step_region_draw,dH _ _,fun _=>⟨⟨_,rfl⟩,τ,d+1,rfl⟩⟩
 refine h1.trans ?_
 rintro g w' ⟨⟨t,rfl⟩,τ,d,rfl⟩
 exact (h t).other τ d
theorem af.enter (hP:Plain P) {ops:Array Oper} {i:Nat} {rest:List Nat} {o:Oper} {f:FuncId} {args:Array Value} (ho:ops[i]? = some o) (hw:Region.wanted o (yielded ops a.tmps)=true)
  (hr:∀ τ d,(execOp a.eval o).run P (re w τ d)=.ok (.enter f args) (re w τ d)) (hi:∀ it∈k,aR it) (hc:∀ fr∈cs,aA fr)
  (h:af P K (G (Frame.enter P f args .normal) (b.at a (.inRegion ops (i::rest)::k)::cs)) w):af P K (G (b.at a (.inRegion ops (i::rest)::k)) cs) w:=by
 refine af.step hP (uD hi hc) (fun τ d=>.one (step_lone_go (fr':=Frame.enter P f args .normal) (cs':=b.at a (.inRegion ops (i::rest)::k)::cs) ?_)) fun _=>h
 rw [stepG_op ho hw];simp [stepG.apply,hr,Frame.at]
theorem af.call (hP:Plain P) {ops:Array Oper} {i:Nat} {rest:List Nat} {o:Oper} {f:FuncId} {args:Array Value} {R:Ending->World->Prop} (ho:ops[i]? = some o) (hw:Region.wanted o (yielded ops a.tmps)=true)
  (hr:∀ τ d,(execOp a.eval o).run P (re w τ d)=.ok (.enter f args) (re w τ d)) (hi:∀ it∈k,aR it) (hc:∀ fr∈cs,aA fr) (h:bZ P f args w R) (hR:∀ e w',R e w'->∃ v,e=.returned v)
  (hk:∀ v w',R (.returned v) w'->af P K (G (b.at (a.put o.dst v) (.inRegion ops rest::k)) cs) w'):af P K (G (b.at a (.inRegion ops (i::rest)::k)) cs) w:=by
 have bH:∀ v,(b.at a (.inRegion ops (i::rest)::k)).finish v=b.at (a.put o.dst v) (.inRegion ops rest::k):=by
  intro v;rw [Frame.finish_at,ho];rfl
 have hfr:aA (b.at a (.inRegion ops (i::rest)::k)):=iz (aJ trivial hi)
 refine af.enter hP ho hw hr hi hc ((h _ (og hfr hc)).trans ?_)
 rintro g w' ⟨e,fr,rfl,h2,h3,_,h5⟩
 obtain ⟨v,rfl⟩:=hR e w' h3
 refine af.step hP (tD h2 (og hfr hc)) (fr':=b.at (a.put o.dst v) (.inRegion ops rest::k)) (cs':=cs) (fun τ d=>.one ?_) fun _=>hk v w' h3
 rw [<- bH];exact step_leave_returned (tT h5 τ d)
def jP (md:Region.Mode) (ops:Array Oper):Nat->Array Bool->List (List Nat)
 | 0,_=>[[]]
 | fuel+1,listed=>if Region.ready md ops listed=[] then [[]] else (Region.ready md ops listed).flatMap fun i=>(jP md ops fuel (listed.setIfInBounds i true)).map (i::·)
theorem linearise_go_acc (md:Region.Mode) (ops:Array Oper):∀ (fuel t:Nat) (listed:Array Bool) (acc:List Nat),Region.linearise.go md ops fuel t listed acc=acc.reverse++Region.linearise.go md ops fuel t listed []
 | 0,_,_,acc=>by simp [Region.linearise.go]
 | fuel+1,t,listed,acc=>by
  simp only [Region.linearise.go]
  split
  ·rename_i i hi
   rw [linearise_go_acc md ops fuel _ _ (i::acc),linearise_go_acc md ops fuel _ _ [i]]
   simp
  ·simp
theorem s8 (md:Region.Mode) (ops:Array Oper):∀ (fuel t:Nat) (listed:Array Bool),Region.linearise.go md ops fuel t listed []∈jP md ops fuel listed
 | 0,_,_=>by simp [Region.linearise.go,jP]
 | fuel+1,t,listed=>by
  have hgo:Region.linearise.go md ops (fuel+1) t listed []=(match (Region.ready md ops listed)[t % (Region.ready md ops listed).length]? with
   | some i=>Region.linearise.go md ops fuel (t/(Region.ready md ops listed).length) (listed.setIfInBounds i true) [i]
   | none=>[].reverse):=rfl
  rw [hgo]
  cases hi:(Region.ready md ops listed)[t % (Region.ready md ops listed).length]? with
  | none =>
   have hnil:Region.ready md ops listed=[]:=by
    rcases Nat.eq_zero_or_pos (Region.ready md ops listed).length with h | h
    ·exact List.length_eq_zero_iff.1 h
    ·have:=List.getElem?_eq_none_iff.1 hi
     have:=Nat.mod_lt t h
     omega
   simp [jP,hnil]
  | some i =>
   have hm:i∈Region.ready md ops listed:=List.mem_of_getElem? hi
   have hne:Region.ready md ops listed≠[]:=fun h=>by rw [h] at hm;cases hm
   simp only [jP,if_neg hne]
   rw [linearise_go_acc]
   refine List.mem_flatMap.2 ⟨i,hm,List.mem_map.2 ⟨_,s8 md ops fuel (t/(Region.ready md ops listed).length) _,by simp⟩⟩
theorem schedule_mem (hm:P.follows .mixedOrders=true) (ops:Array Oper) (t:Nat):Region.schedule (P.follows .mixedOrders) ops t∈jP .any ops ops.size (Array.replicate ops.size false):=by
 simp only [Region.schedule,hm,Bool.true_or,if_true]
 exact s8 .any ops _ t _
theorem bZ.nJ {f:FuncId} {fn:Func} {c:Code} {args:Array Value} {R:Ending->World->Prop} (hf:P.funcs[f]? = some fn) (hb:fn.body=some c)
  (h:∀ cs,(∀ fr∈cs,aA fr)->af P (fun g w'=>∃ e fr,g=G fr cs/\aA fr/\R e w'/\fr.fn=f/\fr.leaving P w' e) (G ((base f).at { tmps:=args++Array.replicate (fn.ntmps-args.size) undef,defers:=[] } [.code c]) cs) w):bZ P f args w R:=by
 intro cs bn
 rw [enter_at args hf hb]
 exact h cs bn
theorem af.ret (hP:Plain P) {f:FuncId} {fn:Func} {R:Ending->World->Prop} {v:Value} (hi:∀ it∈k,aR it) (hc:∀ fr∈cs,aA fr) (hf:P.funcs[f]? = some fn) (hd:a.defers=[]) (hr:∀ τ d,(results fn a.tmps).run P (re w τ d)=.ok v (re w τ d)) (hR:∀ τ d,R (.returned v) (re w τ d)) :
  af P (fun g w'=>∃ e fr,g=G fr cs/\aA fr/\R e w'/\fr.fn=f/\fr.leaving P w' e) (G ((base f).at a (.code .ret::k)) cs) w :=
 af.code (Q:=fun e a' w'=>e=.ret/\a'=a/\∃ τ d,w'=re w τ d) (e_.ret hP fun τ d=>⟨rfl,rfl,τ,d,rfl⟩) ⟨hi,hc,fun _ _ _ x=>(by cases x.1),fun _ _ _ x=>(by cases x.1)⟩ fun e a' w' g x y=>by
  obtain ⟨rfl,rfl,τ,d,rfl⟩:=x
  obtain ⟨todo,h3,rfl⟩:=y
  exact .here fun vX d'=>⟨.returned v,_,rfl,h3,hR vX d',rfl,rfl,hd,rfl,fn,hf,hr vX d'⟩
end Lf
namespace Lf
open Go Go.Conc
variable {P : Program} {K : Goroutine → World → Prop} {b : Frame} {k : List Item} {cs : List Frame} {a : Act} {w : World}
def unseq:List Code->Code->Code
 | [],z=>z
 | c::l,z=>.seq c (unseq l z)
def wps (P:Program):List Code->(Act->World->Prop)->Act->World->Prop
 | [],J,a,w=>J a w
 | c::l,J,a,w=>c.wp P (fun e a' w'=>e=.normal/\wps P l J a' w') a w
theorem wps_steps {z:Code} {J:Act->World->Prop}:∀ (l:List Code) (a:Act) (w:World),wps P l J a w->∃ a' w',J a' w'/\Steps P (lone (b.at a (.code (unseq l z)::k)) cs w) (lone (b.at a' (.code z::k)) cs w')
 | [],a,w,h=>⟨a,w,h,.refl _ _⟩
 | c::l,a,w,h=>by
  obtain ⟨e,a1,w1,h1,h2⟩:=h b (.code (unseq l z)::k) cs
  obtain ⟨rfl,h1⟩:=h1
  obtain ⟨a',w',h3,h4⟩:=wps_steps l a1 w1 h1
  exact ⟨a',w',h3,.head step_seq (Steps.trans h2 h4)⟩
theorem af.pieces (hP:Plain P) (l:List Code) {z:Code} (J:Act->World->Prop) (hJ:∀ a w τ d,J a w->J a (re w τ d)) (hi:∀ it∈k,aR it) (hc:∀ fr∈cs,aA fr) (h:∀ τ d,wps P l J a (re w τ d))
  (hk:∀ a' w',J a' w'->af P K (G (b.at a' (.code z::k)) cs) w'):af P K (G (b.at a (.code (unseq l z)::k)) cs) w:=by
 have h1:af P (fun g w'=>∃ a',J a' w'/\g=G (b.at a' (.code z::k)) cs) (G (b.at a (.code (unseq l z)::k)) cs) w:=by
  refine .of_steps hP ?_ (jb hi hc) fun τ d=>?_
  ·rintro g w τ d ⟨a',h1,h2⟩
   exact ⟨a',hJ _ _ _ _ h1,h2⟩
  ·obtain ⟨a',w',h1,h2⟩:=wps_steps (b:=b) (k:=k) (cs:=cs) (z:=z) l a (re w τ d) (h τ d)
   exact ⟨_,w',h2,dH _ _,fun _=>⟨a',h1,rfl⟩⟩
 refine h1.trans ?_
 rintro g w' ⟨a',h1,rfl⟩
 exact hk a' w' h1
theorem bodyPost_re {fn:Func} {R:Ending->World->Prop} (hR:∀ e w τ d,R e w->R e (re w τ d)):∀ e a w τ d,bodyPost P fn R e a w->bodyPost P fn R e a (re w τ d):=by
 intro e a w τ d h
 cases e with
 | normal=>obtain ⟨hd,v,hr,hv⟩:=h;exact ⟨hd,v,mU hr τ d,hR _ _ _ _ hv⟩
 | ret=>obtain ⟨hd,v,hr,hv⟩:=h;exact ⟨hd,v,mU hr τ d,hR _ _ _ _ hv⟩
 | panic chain=>obtain ⟨hd,hv⟩:=h;exact ⟨hd,hR _ _ _ _ hv⟩
 | exit id=>exact h
 | goto l=>exact h
 | outgrown=>exact hR _ _ _ _ h
theorem af.last (hP:Plain P) {f:FuncId} {fn:Func} {z:Code} {R:Ending->World->Prop} (hc:∀ fr∈cs,aA fr) (hf:P.funcs[f]? = some fn) (hR:∀ e w τ d,R e w->R e (re w τ d)) (hno:∀ w,¬ R .outgrown w)
  (h:∀ τ d,z.wp P (bodyPost P fn R) a (re w τ d)):af P (fun g w'=>∃ e fr,g=G fr cs/\aA fr/\R e w'/\fr.fn=f/\fr.leaving P w' e) (G ((base f).at a [.code z]) cs) w:=by
 refine af.code (Q:=bodyPost P fn R) (e_.of_wp hP (bodyPost_re hR) (fun a w x=>hno w x) h) ⟨fun _ h=>(by cases h),hc,fun _ _ _ x=>x.elim,fun _ _ _ x=>x.elim⟩ fun e a' w' g h1 h2=>?_
 cases e with
 | normal =>
  cases h2
  obtain ⟨hd,v,hr,hv⟩:=h1
  exact af.move hP (tD (iz (fun _ h=>by cases h)) hc) (fun _=>.one step_end) fun hf'=>.here fun τ d=>⟨.returned v,_,rfl,hf'.ok.frame,hR _ _ _ _ hv,rfl,rfl,hd,rfl,fn,hf,mU hr τ d⟩
 | ret =>
  obtain ⟨todo,h3,rfl⟩:=h2
  obtain ⟨hd,v,hr,hv⟩:=h1
  exact .here fun τ d=>⟨.returned v,_,rfl,h3,hR _ _ _ _ hv,rfl,rfl,hd,rfl,fn,hf,mU hr τ d⟩
 | panic chain =>
  obtain ⟨todo,h3,rfl⟩:=h2
  obtain ⟨hd,hv⟩:=h1
  exact .here fun τ d=>⟨.panicked chain,_,rfl,h3,hR _ _ _ _ hv,rfl,rfl,hd,fn,hf⟩
 | exit id=>exact h1.elim
 | goto l=>exact h1.elim
 | outgrown=>exact h2.elim
theorem af.hpiece {c:Code} (J:Act->World->Prop) (hi:∀ it∈k,aR it) (hc:∀ fr∈cs,aA fr) (h:e_ P c (fun e a' w'=>e=.normal/\J a' w') a w) (hk:∀ a' w',J a' w'->af P K (G (b.at a' k) cs) w'):af P K (G (b.at a (.code c::k)) cs) w :=
 af.code h ⟨hi,hc,fun _ _ _ x=>(by cases x.1),fun _ _ _ x=>(by cases x.1)⟩ fun e a' w' g x y=>by
  obtain ⟨rfl,x⟩:=x
  obtain rfl:g=_:=y
  exact hk a' w' x
theorem e_.seqL (hP:Plain P) {x y:Code} {Q:Exit->Act->World->Prop} (J:Act->World->Prop) (hJ:∀ a w τ d,J a w->J a (re w τ d)) (h:∀ τ d,x.wp P (fun e a' w'=>e=.normal/\J a' w') a (re w τ d)) (hk:∀ a w,J a w->e_ P y Q a w):e_ P (.seq x y) Q a w :=
 e_.seq' hP J ((e_.of_wp hP (Q:=fun e a' w'=>e=.normal/\J a' w') (fun e a w τ d x=>⟨x.1,hJ _ _ _ _ x.2⟩) (fun a w x=>by cases x.1) h).mono fun e a w x=>by obtain ⟨rfl,x⟩:=x;exact x) hk
theorem e_.seqH (hP:Plain P) {x y:Code} {Q:Exit->Act->World->Prop} (J:Act->World->Prop) (h:e_ P x (fun e a' w'=>e=.normal/\J a' w') a w) (hk:∀ a w,J a w->e_ P y Q a w):e_ P (.seq x y) Q a w :=
 e_.seq' hP J (h.mono fun e a w x=>by obtain ⟨rfl,x⟩:=x;exact x) hk
theorem e_.nJ {c:Code} {J:Act->World->Prop} (h:∀ (b:Frame) (k:List Item) (cs:List Frame),(∀ it∈k,aR it)->(∀ fr∈cs,aA fr)->af P (fun g w'=>∃ a',J a' w'/\g=G (b.at a' k) cs) (G (b.at a (.code c::k)) cs) w):e_ P c (fun e a' w'=>e=.normal/\J a' w') a w :=
 fun b k cs hb=>(h b k cs hb.items hb.frames).mono fun _ _ ⟨a',h1,h2⟩=>⟨.normal,a',⟨rfl,h1⟩,h2⟩
theorem e_.blockN (hP:Plain P) {id:Nat} {c:Code} {J:Act->World->Prop} (hJ:∀ a w τ d,J a w->J a (re w τ d)) (h:e_ P c (fun e a' w'=>e=.normal/\J a' w') a w):e_ P (.block id c) (fun e a' w'=>e=.normal/\J a' w') a w :=
 e_.block hP (fun a w τ d x=>⟨rfl,hJ _ _ _ _ x.2⟩) (h.mono fun e a w x=>by obtain ⟨rfl,x⟩:=x;exact ⟨rfl,x⟩)
theorem e_.loneN (hP:Plain P) {c:Code} {J:Act->World->Prop} (hJ:∀ a w τ d,J a w->J a (re w τ d)) (h:∀ τ d,c.wp P (fun e a' w'=>e=.normal/\J a' w') a (re w τ d)):e_ P c (fun e a' w'=>e=.normal/\J a' w') a w :=
 e_.of_wp hP (fun e a w τ d x=>⟨x.1,hJ _ _ _ _ x.2⟩) (fun a w x=>by cases x.1) h
theorem e_.blockLoop (hP:Plain P) {id:Nat} {c:Code} (I:Nat->Act->World->Prop) (J:Act->World->Prop) (hJ:∀ a w τ d,J a w->J a (re w τ d)) (sQ:Nat) (h₀:I sQ a w)
  (round:∀ n a w,I n a w->e_ P c (fun e a' w'=>(e=.normal/\∃ m,m<n/\I m a' w')\/(e=.exit id/\J a' w')) a w):e_ P (.block id (.loop c)) (fun e a' w'=>e=.normal/\J a' w') a w:=by
 refine e_.block hP (fun a w τ d x=>⟨rfl,hJ _ _ _ _ x.2⟩) (e_.loop hP I sQ h₀ fun n a w hI=>(round n a w hI).mono fun e a w x=>?_)
 rcases x with ⟨rfl,x⟩ | ⟨rfl,x⟩
 ·exact x
 ·simp only [Exit.then,Exit.inBlock,if_true]
  exact ⟨trivial,x⟩
end Lf
namespace Lf
open Go Go.Conc
variable {P : Program}
theorem stepG_end {fr:Frame} {fn:Func} {t:Tmp} {w:World} {v:Value} (h:fr.leaving P w (.returned v)) (hf:P.funcs[fr.fn]? = some fn) (hr:fn.results=#[.tmp t]) (tP:P.inits.idxOf? fr.fn=none):stepG P true (G fr []) w=.ended (.done v) w #[]:=by
 obtain ⟨hm,hd,hk,fn',hf',hr'⟩:=h
 rw [hf] at hf'
 cases hf'
 rw [results_tmp hr] at hr'
 simp only [Result.ok.injEq,and_true] at hr'
 simp only [Array.getD_eq_getD_getElem?] at hr'
 simp [stepG,unwind,doReturn,hm,hd,hf,hk,tP,results,hr,hr',G]
 have e:seen P fr.fn #[]=#[]:=by simp [seen]
 rw [e]
 rfl
theorem bZ.good {f:FuncId} {fn:Func} {t:Tmp} {args:Array Value} {W:World} {R:Ending->World->Prop} (h:bZ P f args W R) (hf:P.funcs[f]? = some fn) (hr:fn.results=#[.tmp t]) (tP:P.inits.idxOf? f=none) (hR:∀ e w τ d,R e w->R e (re w τ d)) (hret:∀ e w,R e w->∃ v,e=.returned v) :
  ∃ M last o w' t',runNT P (M+1) (solo (G (Frame.enter P f args .normal) []) W) #[]=(.ended o w',t')/\runN P M (solo (G (Frame.enter P f args .normal) []) W)=.next last/\step P last=.ended o w'/\Conc.Good P (fun v w'=>R (.returned v) w') last o w' t':=by
 obtain ⟨N,mN,g',w',jo,t',h1,⟨f0,⟨q,fq⟩,⟨B,fB⟩⟩,e,fr,rfl,_,h3,h4,h5⟩:=(h [] (fun _ hx=>by cases hx)).leads #[G (Frame.enter P f args .normal) []] none #[] ⟨rfl,⟨_,leavers_one P _⟩,⟨0,past_nil⟩⟩
 obtain ⟨v,rfl⟩:=hret e w' h3
 have hG:Goes P true AtRel (fun _ _ _=>False) (AtEnd P (fun _=>False) B (fun v w'=>R (.returned v) w')) 0 (G fr []) w':=by
  rintro w₁ ⟨d,rfl⟩
  have hl:fr.leaving P (re w' w'.tape d) (.returned v):=tT h5 w'.tape d
  exact ⟨rfl,v,#[],stepG_end hl (by rw [h4];exact hf) hr (by rw [h4];exact tP),fun e he=>by simp at he,hR _ _ w'.tape d h3⟩
 obtain ⟨M,last,o,w2,t2,k1,k2,k3,k4⟩:=beside_ends (fun _ _ _ x=>x.elim) (sl:=jo) f0 fq fB hG
 refine ⟨N+M,last,o,w2,t2,?_,?_,k3,k4⟩
 ·rw [Nat.add_assoc,runNT_add]
  show (match runNT P N (crowd #[G (Frame.enter P f args .normal) []] W none) #[] with | (.next m',t')=>runNT P (M+1) m' t' | x=>x)=_
  rw [h1]
  exact k1
 ·have h1':runN P N (solo (G (Frame.enter P f args .normal) []) W)=.next (crowd mN w' jo):=by
   rw [<- runNT_fst P N _ #[]]
   exact congrArg Prod.fst h1
  rw [runN_add,h1']
  exact k2
end Lf
end Go.Proofs.YtpbbmagjhkakgaaGreatDoor
