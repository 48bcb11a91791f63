import Derived.Test.YtpbbmagjhkakgaaGreatDoorLfTerrToLfTake
import Derived.Test.YtpbbmagjhkakgaaGreatDoorShelfToPureScan
import Derived.Laws.AppendOwn
import Derived.Maps.AppendAt
import Derived.Conc.AppendEvents3
import Derived.Test.YtpbbmagjhkakgaaGreatDoorProg
namespace Go.Proofs.YtpbbmagjhkakgaaGreatDoor.Lf
open Go Go.Conc
section
variable {P : Program} {c B₀ n : Nat} {R0 : (Nat → Prop) → World → World → Prop} {D0 : (Nat → Prop) → World → World → Array Event → Prop} {RB : (Nat → Prop) → World → World → Prop} {DB : (Nat → Prop) → World → World → Array Event → Prop} {CA CB : (Nat → Prop) → Touch → Prop}
theorem SB.rely (H:Pair c B₀ R0 D0 RB DB CA CB) {L:List Value} {T:Nat->Prop} {g:Goroutine} {w w':World} (h:SB P c RB DB CB n L T g w) (hr:RB T w w'):SB P c RB DB CB n L T g w':=by
 cases h with
 | own f h1 h2 h3=>exact .own f h1 (fun w₁ h₁=>h2 w₁ (H.tB.trans _ _ _ _ hr h₁)) (fun w₁ h₁=>h3 w₁ (H.tB.trans _ _ _ _ hr h₁))
 | send h1 h2 h3=>exact .send h1 (fun w₁ h₁=>h2 w₁ (H.tB.trans _ _ _ _ hr h₁)) (fun w₁ h₁=>h3 w₁ (H.tB.trans _ _ _ _ hr h₁))
 | close h1 h2 h3 h4=>exact .close h1 h2 (fun w₁ buf s r h₁=>h3 w₁ buf s r (H.tB.trans _ _ _ _ hr h₁)) h4
theorem SB.of_walk (H:Pair c B₀ R0 D0 RB DB CA CB) {L:List Value} {T:Nat->Prop} {g:Goroutine} {w:World} (h:RT P false RB DB (fun T g w=>SB P c RB DB CB n L T g w) T g w):SB P c RB DB CB n L T g w:=by
 induction h with
 | stop h=>exact h _ (H.reflB _ _)
 | step f hs h _ ih=>exact .own f hs h ih
theorem SB.walk (H:Pair c B₀ R0 D0 RB DB CA CB) {L:List Value} {T:Nat->Prop} {g:Goroutine} {w:World} (h:SB P c RB DB CB n L T g w):RT P false RB DB (fun T g w=>SB P c RB DB CB n L T g w) T g w:=.stop fun _ r=>h.rely H r
theorem SB.sends (H:Pair c B₀ R0 D0 RB DB CA CB) (ops:Array Oper):SendOK P false RB DB c ops (fun L T g w=>SB P c RB DB CB n L T g w) :=
 .inr fun v L S g w hs h1 h2=>SB.walk H (.send (y:=.tuple #[]) hs (fun w₁ h₁=>⟨#[],h1 w₁ h₁,fun e he=>by simp at he⟩) (fun w₁ h₁=>SB.of_walk H (h2 w₁ h₁)))
theorem SA.of_walk {z:Value} {K:Goroutine->World->Prop} (H:Pair c B₀ R0 D0 RB DB CA CB) {L:List Value} {S:Nat->Prop} {g:Goroutine} {w:World} (h:RT P true R0 D0 (fun S g w=>SA P c z R0 D0 CA K L S g w) S g w):SA P c z R0 D0 CA K L S g w:=by
 induction h with
 | stop h=>exact h _ (H.refl0 _ _)
 | step f hs h _ ih=>exact .own f hs h ih
theorem SA.walk {z:Value} {K:Goroutine->World->Prop} (H:Pair c B₀ R0 D0 RB DB CA CB) {L:List Value} {S:Nat->Prop} {g:Goroutine} {w:World} (h:SA P c z R0 D0 CA K L S g w):RT P true R0 D0 (fun S g w=>SA P c z R0 D0 CA K L S g w) S g w:=.stop fun _ r=>h.rely H r
end
end Go.Proofs.YtpbbmagjhkakgaaGreatDoor.Lf
namespace Go.Proofs.YtpbbmagjhkakgaaGreatDoor.Lf
open Go Go.Conc
section
variable {c B : Nat} {M : Nat → Prop}
structure H0 (c B:Nat) (M:Nat->Prop) (S₀:Nat->Prop) (w₀:World) (S:Nat->Prop) (w:World) (fs:List (Nat×Obj)):Prop where
 own:∀ b,S b->B<=b/\b<w.heap.size
 mine:∀ b,S₀ b->S b
 news:∀ b,S b->S₀ b\/w₀.heap.size<=b
 keep:∀ b,(S₀ b\/b<B)->b<w₀.heap.size->b≠c->¬ M b->w.heap[b]? = w₀.heap[b]?
 os:w.os=w₀.os
 output:w.output=w₀.output
 chan:c<B
 low:B<=w₀.heap.size
 size:w₀.heap.size<=w.heap.size
 facts:∀ p∈fs,(S p.1\/p.1<B)/\p.1≠c/\w.heap[p.1]? = some p.2
variable {S₀ S : Nat → Prop} {w₀ w w' : World} {fs : List (Nat × Obj)}
theorem H0.start (hS:∀ b,S b->B<=b/\b<w.heap.size) (hc:c<B) (hB:B<=w.heap.size) (h:∀ p∈fs,(S p.1\/p.1<B)/\p.1≠c/\w.heap[p.1]? = some p.2):H0 c B M S w S w fs :=
 ⟨hS,fun _ x=>x,fun _ x=>.inl x,fun _ _ _ _ _=>rfl,rfl,rfl,hc,hB,Nat.le_refl _,h⟩
theorem H0.base (h:H0 c B M S₀ w₀ S w fs):B<=w.heap.size:=Nat.le_trans h.low h.size
theorem H0.rely (h:H0 c B M S₀ w₀ S w fs) (r:R0w c B S w w'):H0 c B M S₀ w₀ S w' fs :=
 ⟨fun b x=>⟨(h.own b x).1,Nat.lt_of_lt_of_le (h.own b x).2 r.size⟩,h.mine,h.news,fun b h1 h2 h3 h4=>(r.block b h3 (Nat.lt_of_lt_of_le h2 h.size) (h1.imp (h.mine b) id)).trans (h.keep b h1 h2 h3 h4),r.os.trans h.os,r.output.trans h.output,h.chan,h.low,Nat.le_trans h.size r.size,fun p hp=>by
  obtain ⟨h1,h2,h3⟩:=h.facts p hp
  exact ⟨h1,h2,(r.block _ h2 (Array.getElem?_eq_some_iff.1 h3).1 h1).trans h3⟩⟩
theorem H0.alloc (h:H0 c B M S₀ w₀ S w fs) (o:Obj):H0 c B M S₀ w₀ (grow S w (w.alloc o)) (w.alloc o) ((w.heap.size,o)::fs):=by
 have hl:=h.low
 have hs:=h.size
 refine ⟨fun b x=>?_,fun b x=>.inl (h.mine b x),fun b x=>?_,fun b h1 h2 h3 h4=>(alloc_block w o (by omega)).trans (h.keep b h1 h2 h3 h4),h.os,h.output,h.chan,h.low,by rw [alloc_size];omega,fun p hp=>?_⟩
 ·rw [alloc_size]
  rcases x with x | x
  ·have:=h.own b x;omega
  ·rw [alloc_size] at x;omega
 ·rcases x with x | x
  ·exact h.news b x
  ·exact .inr (by omega)
 ·rcases List.mem_cons.1 hp with rfl | hp
  ·exact ⟨.inl (.inr ⟨Nat.le_refl _,by rw [alloc_size];exact Nat.lt_succ_self _⟩),fun e=>by have:=h.chan;omega,alloc_new w o⟩
  ·obtain ⟨h1,h2,h3⟩:=h.facts p hp
   exact ⟨h1.imp .inl id,h2,(alloc_block w o (Array.getElem?_eq_some_iff.1 h3).1).trans h3⟩
theorem H0.grown {v:Value} (h:H0 c B M S₀ w₀ S w fs) (hg:w.grownBy w' v.ownBlock) (hv:∀ g,v.ownBlock=some g->M g) (hd:∀ p∈fs,some p.1≠v.ownBlock):H0 c B M S₀ w₀ (grow S w w') w' fs:=by
 have hl:=h.low
 have hs:=h.size
 have hz:=hg.size
 refine ⟨fun b x=>?_,fun b x=>.inl (h.mine b x),fun b x=>?_,fun b h1 h2 h3 h4=>(hg.block b (by omega) (fun e=>h4 (hv b e.symm))).trans (h.keep b h1 h2 h3 h4),hg.os.trans h.os,hg.output.trans h.output,h.chan,h.low,by omega,fun p hp=>?_⟩
 ·rcases x with x | x
  ·have:=h.own b x;omega
  ·omega
 ·rcases x with x | x
  ·exact h.news b x
  ·exact .inr (by omega)
 ·obtain ⟨h1,h2,h3⟩:=h.facts p hp
  exact ⟨h1.imp .inl id,h2,(hg.block _ (Array.getElem?_eq_some_iff.1 h3).1 (hd p hp)).trans h3⟩
theorem H0.step {M' S':Nat->Prop} {fs':List (Nat×Obj)} (h:H0 c B M S₀ w₀ S w fs) (k:H0 c B M' S w S' w' fs') (hM:∀ b,M' b->M b) (hd:∀ p∈fs,¬ M' p.1):H0 c B M S₀ w₀ S' w' fs:=by
 have hl:=h.low
 have hs:=h.size
 have hz:=k.size
 refine ⟨k.own,fun b x=>k.mine b (h.mine b x),fun b x=>?_,fun b h1 h2 h3 h4=>(k.keep b (h1.imp (h.mine b) id) (by omega) h3 (fun e=>h4 (hM b e))).trans (h.keep b h1 h2 h3 h4),k.os.trans h.os,k.output.trans h.output,h.chan,h.low,by omega,fun p hp=>?_⟩
 ·rcases k.news b x with x | x
  ·exact h.news b x
  ·exact .inr (by omega)
 ·obtain ⟨h1,h2,h3⟩:=h.facts p hp
  exact ⟨h1.imp (k.mine _) id,h2,(k.keep _ h1 (Array.getElem?_eq_some_iff.1 h3).1 h2 (hd p hp)).trans h3⟩
theorem H0.less {fs':List (Nat×Obj)} (h:H0 c B M S₀ w₀ S w fs) (hs:∀ p∈fs',p∈fs):H0 c B M S₀ w₀ S w fs':={ h with facts:=fun p hp=>h.facts p (hs p hp) }
theorem H0.get (h:H0 c B M S₀ w₀ S w fs) {b:Nat} {o:Obj} (hp:(b,o)∈fs):w.heap[b]? = some o:=(h.facts _ hp).2.2
theorem H0.cell (h:H0 c B M S₀ w₀ S w fs) {b i:Nat} {cs:Array Value} {t:TypeId} {m:Nat×Nat} {v:Value} (hp:(b,Obj.cells cs t m)∈fs) (hv:cs[i]? = some v):w.cell? ⟨b,i,none⟩=some v:=by
 have:=h.get hp
 simp [World.cell?,this,hv]
theorem H0.read {M':Nat->Prop} (h:H0 c B M S₀ w₀ S w fs) {b:Nat} {o:Obj} (hp:(b,o)∈fs) {ad:Addr} (ha:ad.block=b):EvK (CA1 B M' S) ⟨.cell ad,false,false⟩ :=
 EvK.cell ⟨ad,rfl,(h.facts _ hp).1.imp (fun x=>ha▸x) (fun x=>⟨ha▸x,fun e=>by cases e⟩)⟩
theorem H0.set {b i:Nat} {v:Value} {cs:Array Value} {t:TypeId} {m:Nat×Nat} (h:H0 c B M S₀ w₀ S w ((b,.cells cs t m)::fs)) (hb:w₀.heap.size<=b\/M b) (hd:∀ p∈fs,p.1≠b):H0 c B M S₀ w₀ S (w.setCell ⟨b,i,none⟩ v) ((b,.cells (cs.setIfInBounds i v) t m)::fs):=by
 refine ⟨fun k hk=>by rw [setCell_size];exact h.own k hk,h.mine,h.news,fun k h1 h2 h3 h4=>?_,h.os,h.output,h.chan,h.low,by rw [setCell_size];exact h.size,fun p hp=>?_⟩
 ·have hne:k≠b:=by
   rintro rfl
   rcases hb with hb | hb
   ·omega
   ·exact h4 hb
  rw [setCell_other _ _ _ (show k≠(⟨b,i,none⟩:Addr).block from hne)];exact h.keep k h1 h2 h3 h4
 ·rcases List.mem_cons.1 hp with rfl | hp
  ·obtain ⟨h1,h2,h3⟩:=h.facts _ (.head _)
   exact ⟨h1,h2,setCell_same h3⟩
  ·obtain ⟨h1,h2,h3⟩:=h.facts p (.tail _ hp)
   exact ⟨h1,h2,by rw [setCell_other _ _ _ (hd p hp)];exact h3⟩
theorem D0w.sets {S:Nat->Prop} {w w':World} {es:Array Event} {b:Nat} (hS:S b\/(b<B/\M b)) (hs:w'.heap.size=w.heap.size) (hb:∀ k,k≠b->w'.heap[k]? = w.heap[k]?) (he:∀ e∈es,∃ ad,e=⟨.cell ad,true,false⟩/\ad.block=b):D0w B M S w w' es:=by
 refine ⟨by rw [hs];exact Nat.le_refl _,fun k _ hk hm=>hb k fun e=>?_,fun e hm=>?_⟩
 ·subst e
  exact hS.elim hk fun x=>hm x.2
 ·obtain ⟨ad,rfl,rfl⟩:=he e hm
  exact EvK.cell ⟨ad,rfl,hS.imp .inl fun x=>⟨x.1,fun _=>x.2⟩⟩
end
end Go.Proofs.YtpbbmagjhkakgaaGreatDoor.Lf
namespace Go.Proofs.YtpbbmagjhkakgaaGreatDoor.Lf
open Go Go.Conc
section
variable {B : Nat} {M : Nat → Prop}
theorem EvK.at {C:Touch->Prop} {e:Event} {ad:Addr} (hl:e.loc=.cell ad) (h:∀ k,C ⟨.cell ad,e.write,k⟩):EvK C e:=by
 obtain ⟨loc,wr,sy⟩:=e
 simp only at hl h
 subst hl
 refine ⟨fun x hx _=>?_,by simp,by simp⟩
 cases wr<;>cases sy<;>(simp [MemAct.ofEvent,MemAct.touch?] at hx;subst hx;exact h _)
theorem EvK.neutral {C:Touch->Prop} {m:Mark} (h:Neutral m):EvK C ⟨.mark m,false,true⟩:=by
 refine ⟨fun x hx _=>?_,?_,?_⟩
 ·have e1:MemAct.ofEvent ⟨.mark m,false,true⟩=.mark m:=rfl
  rw [e1,h.touch] at hx;cases hx
 ·rintro e;cases e;simp [Neutral] at h
 ·rintro e;cases e;simp [Neutral] at h
theorem D0w.append {S:Nat->Prop} {w w':World} {v:Value} {a:Addr} {es:Array Event} (hg:w.grownBy w' v.ownBlock) (hev:∀ ev∈es,(∃ ad,ev.loc=.cell ad/\((ev.write=false/\ad.block=a.block)\/some ad.block=v.ownBlock))\/∃ m,ev=⟨.mark m,false,true⟩/\Neutral m)
  (ha:S a.block) (hv:∀ g,v.ownBlock=some g->g<B/\M g):D0w B M S w w' es:=by
 refine ⟨hg.size,fun b hb hS hm=>hg.block b hb fun e=>hm (hv b e.symm).2,fun e he=>?_⟩
 rcases hev e he with ⟨ad,h1,h2⟩ | ⟨m,rfl,hm⟩
 ·refine EvK.at h1 fun k=>⟨ad,rfl,?_⟩
  rcases h2 with ⟨_,h2⟩ | h2
  ·exact .inl (.inl (h2▸ha))
  ·exact .inr ⟨(hv _ h2.symm).1,fun _=>(hv _ h2.symm).2⟩
 ·exact EvK.neutral hm
end
end Go.Proofs.YtpbbmagjhkakgaaGreatDoor.Lf
namespace Go.Proofs.YtpbbmagjhkakgaaGreatDoor.Lf
open Go Go.Conc Go.RowKit
open Go.Proofs (Tryz.f89 Tryz.prog Tryz.func89 Tryz.ntmps89)
variable {c B : Nat} {M Ro : Nat → Prop}
theorem infoVerdict:(Tryz.prog.info? 59).map (fun i=>(i.zero,i.size,i.bytes))=some (some (.agg #[.int .i64 0,.int .i64 0,.int .i64 0,.bool false]),4,32):=by kernel_rfl
def verCells (ev time ver:Int) (h:Bool):List Value:=[.int .i64 ev,.int .i64 time,.int .i64 ver,.bool h]
theorem own_heap0 {w w':World} {base size n:Nat} {e:TypeId} {v:Value} {xs:List Value} (h:w.ownsRow base e size v n xs) (hh:∀ k,v.ownBlock=some k->k<w.heap.size->w'.heap[k]? = w.heap[k]?):w'.ownsRow base e size v n xs:=by
 have hl:=h.lt
 obtain ⟨h1,⟨rfl,h2⟩ | ⟨g,cap,cur,rfl,h3,h4,h5⟩⟩:=h
 ·exact ⟨h1,.inl ⟨rfl,h2⟩⟩
 ·exact ⟨h1,.inr ⟨g,cap,cur,rfl,h3,by rw [hh g rfl (hl g rfl).2];exact h4,h5⟩⟩
theorem row_rely {w w':World} {S:Nat->Prop} {size n:Nat} {e:TypeId} {v:Value} {xs:List Value} (h:w.ownsRow 0 e size v n xs) (hv:∀ g,v.ownBlock=some g->(S g\/g<B)/\g≠c) (r:R0w c B S w w'):w'.ownsRow 0 e size v n xs :=
 own_heap0 h fun k hk hl=>r.block k (hv k hk).2 hl (hv k hk).1
theorem OpR.append0 {P:Program} {cc:Nat} {fn:FuncId} {ops:Array Oper} {i:Nat} {o:Oper} {K:Act->List Value->(Nat->Prop)->World->Prop} {a:Act} {L:List Value} {S:Nat->Prop} {w:World} (ho:ops[i]? = some o)
  (hg:o.guard=none) (s x:Operand) (t:TypeId) (hop:o.op=Op.call { callee:=Callee.builtin Builtin.append,args:=#[s,x],argTypes:=#[t,t] })
  (e:TypeId) (ti:TypeInfo) (z:Value) (size bytes:Nat) (h1:P.underlying t=some (.slice e)) (h2:P.info? e=some ti) (h3:ti.zero=some z) (h4:ti.size=size) (h5:ti.bytes=bytes) (h6:z.cells.size=size) (h7:0<size)
  (v:Value) (n:Nat) (xs:List Value) (ad:Addr) (m cap:Nat) (news:List Value) (hs:a.eval s=v) (hx:a.eval x=.slice (some ad) m cap) (hn:news.length=m*size) (h1c:∀ u∈news,u.oneCell'=true)
  (b1:n+m<=maxLen) (b2:(n+m)*bytes<=140737488355328) (ha:S ad.block) (hv:∀ g,v.ownBlock=some g->g<B/\M g)
  (h:∀ w₁,R0w c B S w w₁->w₁.ownsRow 0 e size v n xs/\(∀ j u,news[j]? = some u->w₁.cell? (ad.add j)=some u)/\∀ v' w',w'.ownsRow 0 e size v' (n+m) (xs++news)->w₁.grownBy w' v.ownBlock->(v'.ownBlock=v.ownBlock\/v'.ownBlock=some w₁.heap.size)->K (a.put o.dst v') L (grow S w₁ w') w') :
  OpR P true (R0w c B) (D0w B M) cc fn ops i K a L S w:=by
 refine OpR.op ho (by simp [Region.wanted,hg]) (by intro ch y;rw [hop];simp) (fun w₁ hR K' hK=>?_)
 obtain ⟨hown,hc,hk⟩:=h w₁ hR
 obtain ⟨v',w',hrun,r1,r2,_,r3⟩:=run_append_own_at (P:=P) w₁ 0 t o.type e ti z size bytes h1 h2 h3 h4 h5 h6 h7 v n xs hown ad m cap news hn hc h1c b1 b2 (Nat.zero_le _)
 have hev:=events_append_where (P:=P) w₁ 0 t o.type e ti z size bytes h1 h2 h3 h4 h5 v n xs hown ad m cap news hn hc h1c b1 b2
 have hr:(execOp a.eval o).run P w₁=.ok (.value v') w':=by
  simp [execOp,hop,resolve,invoke,builtin,hs,hx,hrun,Result.andThen]
 rw [hr]
 refine hK _ _ ⟨D0w.append r2 (fun ev hm=>?_) ha hv,hk v' w' r1 r2 r3⟩
 have hm:=mem_listed hm
 refine hev ev ?_
 simp [execOp,hop,resolve,invoke,builtin,hs,hx] at hm
 exact hm
set_option maxRecDepth 100000 in
set_option maxHeartbeats 1000000 in
theorem take_c (H : Terr c B M Ro) (stb : Nat) (sv : Value) (n : Nat) (xs : List Value) (ev time ver : Int) (h : Bool) (S : Nat → Prop) (w : World)
  (hS : ∀ b, S b → B ≤ b ∧ b < w.heap.size) (hB : B ≤ w.heap.size) (hst : stb < B) (hM : M stb) (hstw : w.heap[stb]? = some (.cells #[sv] 177 (0, 0))) (hrow : w.ownsRow 0 59 4 sv n xs) (hgM : ∀ g, sv.ownBlock = some g → g < B ∧ M g) (hn : n ≤ 1000000) :
  RCalls Tryz.prog true (R0w c B) (D0w B M) 89 #[.pointer (some ⟨stb, 0, none⟩), .agg #[.int .i64 ev, .int .i64 time, .int .i64 ver, .bool h]] S w
   (fun _ S' w' => ∃ sv', H0 c B (fun b => b = stb ∨ sv.ownBlock = some b) S w S' w' [(stb, .cells #[sv'] 177 (0, 0))] ∧ w'.ownsRow 0 59 4 sv' (n + 1) (xs ++ verCells ev time ver h) ∧ (sv'.ownBlock = sv.ownBlock ∨ ∃ g, sv'.ownBlock = some g ∧ S' g ∧ w.heap.size ≤ g)) := by
 have TT := (the_pair c B M Ro H).t0
 have hF : H0 c B (fun b => b = stb ∨ sv.ownBlock = some b) S w S w [(stb, .cells #[sv] 177 (0, 0))] := H0.start hS H.chan hB (by
  intro p hp; simp at hp; subst hp; exact ⟨.inr hst, (H.m _ hM).2, hstw⟩)
 have hne : sv.ownBlock ≠ some stb := fun e => by
  obtain ⟨h1, h2 | ⟨g, cap, cur, e1, _, e2, _⟩⟩ := hrow
  ·rw [h2.1] at e; cases e
  ·rw [e1] at e; cases e; rw [hstw] at e2; cases e2
 have hgc : ∀ (S : Nat → Prop) g, sv.ownBlock = some g → (S g ∨ g < B) ∧ g ≠ c := fun S g hg => ⟨.inr (hgM g hg).1, (H.m g (hgM g hg).2).2⟩
 generalize hPost : (fun (_ : Value) (S' : Nat → Prop) (w' : World) => ∃ sv', H0 c B (fun b => b = stb ∨ sv.ownBlock = some b) S w S' w' [(stb, .cells #[sv'] 177 (0, 0))] ∧ w'.ownsRow 0 59 4 sv' (n + 1) (xs ++ verCells ev time ver h) ∧ (sv'.ownBlock = sv.ownBlock ∨ ∃ g, sv'.ownBlock = some g ∧ S' g ∧ w.heap.size ≤ g)) = Post
 obtain ⟨S₀, hS₀⟩ : ∃ S₀, S₀ = S := ⟨_, rfl⟩
 obtain ⟨w₀, hw₀⟩ : ∃ w₀, w₀ = w := ⟨_, rfl⟩
 rw [← hS₀, ← hw₀] at hF hPost
 have hF : H0 c B (fun b => b = stb ∨ sv.ownBlock = some b) S₀ w₀ S w [(stb, .cells #[sv] 177 (0, 0))] := by rw [hS₀, hw₀] at hF ⊢; exact hF
 clear hS₀ hw₀ hstw hS hB
 intro Stop cf cs hk
 rw [enter_at _ Tryz.func89 rfl]
 simp only [Tryz.ntmps89, List.size_toArray, List.length_cons, List.length_nil, Nat.reduceAdd, Nat.reduceSub, Array.replicate_succ, Array.replicate_zero, List.push_toArray, List.append_toArray, List.nil_append, List.cons_append]
 refine RT.seq TT ?_
 refine RT.region TT ?_
 simp only [List.size_toArray, List.length_cons, List.length_nil, Nat.zero_add, List.range, List.range.loop]
 refine RT.op rfl (by rfl) (by simp [base]) (fun v1 hR K hK => ?_)
 replace hF := hF.rely hR
 replace hrow := row_rely hrow (hgc S) hR
 go_simp
 refine hK _ _ ⟨by rw [listed_nil (by simp [go_sem])]; exact D0w.alloc _ _ _, ?_⟩
 clear hK K hR
 replace hrow := own_heap0 (w' := v1.alloc (.cells #[.int .i64 ev, .int .i64 time, .int .i64 ver, .bool h] 59)) hrow (fun k _ hl => alloc_block v1 _ hl)
 have hF0 := hF
 replace hF := hF.alloc (.cells #[.int .i64 ev, .int .i64 time, .int .i64 ver, .bool h] 59)
 generalize grow _ v1 (v1.alloc (.cells #[.int .i64 ev, .int .i64 time, .int .i64 ver, .bool h] 59)) = T1 at hF ⊢
 have hB1 : B ≤ v1.heap.size := Nat.le_trans hF.low (hF0.size)
 generalize hb1 : v1.heap.size = b1 at hF hB1 ⊢
 generalize v1.alloc (.cells #[.int .i64 ev, .int .i64 time, .int .i64 ver, .bool h] 59) = u1 at hF hrow ⊢
 clear hb1 hF0 v1
 refine RT.nil TT ?_
 have hIR : ∀ (S : Nat → Prop) (x y : World), H0 c B (fun b => b = stb ∨ sv.ownBlock = some b) S₀ w₀ S x [(b1, .cells #[.int .i64 ev, .int .i64 time, .int .i64 ver, .bool h] 59), (stb, .cells #[sv] 177 (0, 0))] → R0w c B S x y → H0 c B (fun b => b = stb ∨ sv.ownBlock = some b) S₀ w₀ S y [(b1, .cells #[.int .i64 ev, .int .i64 time, .int .i64 ver, .bool h] 59), (stb, .cells #[sv] 177 (0, 0))] := fun S x y h r => h.rely r
 let Qv : Act → List Value → (Nat → Prop) → World → Prop := fun a L S w' => RT Tryz.prog true (R0w c B) (D0w B M) Stop S (G ((base 89).at a []) (cf :: cs)) w'
 have hQR : ∀ a L S x y, Qv a L S x → R0w c B S x y → Qv a L S y := fun a L S x y h r => RT.rely TT h r
 refine RT.drawn (Stop := fun _ => Stop) (L := []) (c := c) (Q := Qv) (I := fun S w' => H0 c B (fun b => b = stb ∨ sv.ownBlock = some b) S₀ w₀ S w' [(b1, .cells #[.int .i64 ev, .int .i64 time, .int .i64 ver, .bool h] 59), (stb, .cells #[sv] 177 (0, 0))]) (fn := 89) (fin := 10) TT (.inl (by intro o ho ch x; simp at ho; rcases ho with rfl | rfl | rfl | rfl | rfl | rfl | rfl | rfl | rfl | rfl | rfl <;> simp)) rfl (by simp [base]) (by kernel_rfl) (fun a L S w' hq => hq) (fun w₁ hR => ?_)
 replace hF := hF.rely hR
 replace hrow := row_rely hrow (hgc _) hR
 have hRd : R0w c B T1 w₁ { w₁ with drawn := w₁.drawn + 1 } := ⟨Nat.le_refl _, fun _ _ _ _ => rfl, rfl, rfl, rfl⟩
 replace hF := hF.rely hRd
 replace hrow := row_rely hrow (hgc _) hRd
 clear hRd
 simp only [List.size_toArray, List.length_cons, List.length_nil, Nat.reduceAdd, Nat.zero_add]
 generalize ({ w₁ with drawn := w₁.drawn + 1 } : World) = x1 at hF hrow ⊢
 clear hR
 have hI := hF
 refine anyR_take TT hIR hQR 0 (v := ?v0) rfl (by decide +kernel) (by decide +kernel) (by decide +kernel) (by decide +kernel) ⟨by simp, by rfl, fun S' w' hw => ⟨run_eq_of ?r0, ?g0⟩⟩ hI ?_
 case r0 =>
  intro K hK
  go_simp
  exact hK
 case g0 =>
  rw [listed_nil (by simp [go_sem])]; exact TT.idle _ _
 try walk_nrm
 refine anyR_take TT hIR hQR 1 (v := ?v1) rfl (by decide +kernel) (by decide +kernel) (by decide +kernel) (by decide +kernel) ⟨by simp, by rfl, fun S' w' hw => ⟨run_eq_of ?r1, ?g1⟩⟩ hI ?_
 case r1 =>
  intro K hK
  go_simp
  exact hK
 case g1 =>
  rw [listed_nil (by simp [go_sem])]; exact TT.idle _ _
 try walk_nrm
 refine anyR_take TT hIR hQR 2 (v := ?v2) rfl (by decide +kernel) (by decide +kernel) (by decide +kernel) (by decide +kernel) ⟨by simp, by rfl, fun S' w' hw => ⟨run_eq_of ?r2, ?g2⟩⟩ hI ?_
 case r2 =>
  intro K hK
  go_simp
  exact hK
 case g2 =>
  rw [listed_nil (by simp [go_sem])]; exact TT.idle _ _
 try walk_nrm
 refine anyR_take TT hIR hQR 3 (v := ?v3) rfl (by decide +kernel) (by decide +kernel) (by decide +kernel) (by decide +kernel) ⟨by simp, by rfl, fun S' w' hw => ⟨run_eq_of ?r3, ?g3⟩⟩ hI ?_
 case r3 =>
  intro K hK
  go_simp
  exact hK
 case g3 =>
  rw [listed_nil (by simp [go_sem])]; exact TT.idle _ _
 try walk_nrm
 refine anyR_take TT hIR hQR 4 (v := ?v4) rfl (by decide +kernel) (by decide +kernel) (by decide +kernel) (by decide +kernel) ⟨by simp, by rfl, fun S' w' hw => ⟨run_eq_of ?r4, ?g4⟩⟩ hI ?_
 case r4 =>
  intro K hK
  have hc1 := hw.cell (i := 0) (.tail _ (.head _)) rfl
  go_simp
  exact hK
 case g4 =>
  have hc1 := hw.cell (i := 0) (.tail _ (.head _)) rfl
  refine D0w.reads fun e he => ?_
  have hm := mem_listed he
  simp [go_sem, *] at hm
  rcases hm with rfl <;> exact hw.read (.tail _ (.head _)) rfl
 try walk_nrm
 refine anyR_take TT hIR hQR 5 (v := ?v5) rfl (by decide +kernel) (by decide +kernel) (by decide +kernel) (by decide +kernel) ⟨by simp, by rfl, fun S' w' hw => ⟨run_eq_of ?r5, ?g5⟩⟩ hI ?_
 case r5 =>
  intro K hK
  have hc0 := hw.cell (i := 0) (.head _) rfl
  have hc1 := hw.cell (i := 1) (.head _) rfl
  have hc2 := hw.cell (i := 2) (.head _) rfl
  have hc3 := hw.cell (i := 3) (.head _) rfl
  go_simp
  exact hK
 case g5 =>
  have hc0 := hw.cell (i := 0) (.head _) rfl
  have hc1 := hw.cell (i := 1) (.head _) rfl
  have hc2 := hw.cell (i := 2) (.head _) rfl
  have hc3 := hw.cell (i := 3) (.head _) rfl
  refine D0w.reads fun e he => ?_
  have hm := mem_listed he
  simp [go_sem, *] at hm
  rcases hm with rfl | rfl | rfl | rfl <;> exact hw.read (.head _) rfl
 try walk_nrm
 refine anyR_one (i := 6) (by decide +kernel) (OpR.op rfl (by rfl) (by simp) (fun w₂ hR2 K hK => ?_))
 replace hF := hF.rely hR2
 replace hrow := row_rely hrow (hgc _) hR2
 go_simp
 refine hK _ _ ⟨by rw [listed_nil (by simp [go_sem])]; exact D0w.alloc _ _ _, ?_⟩
 clear hK K hR2 hI
 replace hrow := own_heap0 (w' := w₂.alloc (.cells #[.int .i64 ev, .int .i64 time, .int .i64 ver, .bool h] 59)) hrow (fun k _ hl => alloc_block w₂ _ hl)
 have hB2 : B ≤ w₂.heap.size := hF.base
 have hs2 : grow T1 w₂ (w₂.alloc (.cells #[.int .i64 ev, .int .i64 time, .int .i64 ver, .bool h] 59)) w₂.heap.size := .inr ⟨Nat.le_refl _, by rw [alloc_size]; exact Nat.lt_succ_self _⟩
 replace hF := hF.alloc (.cells #[.int .i64 ev, .int .i64 time, .int .i64 ver, .bool h] 59)
 generalize grow T1 w₂ (w₂.alloc (.cells #[.int .i64 ev, .int .i64 time, .int .i64 ver, .bool h] 59)) = T2 at hF hs2 ⊢
 generalize hb2 : w₂.heap.size = b2 at hF hs2 hB2 ⊢
 generalize w₂.alloc (.cells #[.int .i64 ev, .int .i64 time, .int .i64 ver, .bool h] 59) = u2 at hF hrow ⊢
 clear hb2 w₂
 refine ⟨fun _ => hF.less (fun p hp => .tail _ hp), ?_⟩
 try walk_nrm
 obtain ⟨ti, hti, hti2⟩ := Option.map_eq_some_iff.1 infoVerdict
 simp only [Prod.mk.injEq] at hti2
 refine anyR_one (i := 7) (by decide +kernel) (OpR.append0 rfl rfl (.tmp 8) (.tmp 10) 54 rfl 59 ti _ 4 32 Tryz.underlying54 hti hti2.1 hti2.2.1 hti2.2.2 rfl (by decide) sv n xs ⟨b2, 0, none⟩ 1 1 (verCells ev time ver h) rfl rfl rfl ?o7 (by simp only [maxLen]; omega) (by omega) hs2 hgM (fun w₃ hR3 => ⟨row_rely hrow (hgc _) hR3, ?c7, ?k7⟩))
 case o7 => intro u hu; simp [verCells] at hu; rcases hu with rfl | rfl | rfl | rfl <;> rfl
 case c7 =>
  intro j u hj
  have hG := hF.rely hR3
  rcases j with _ | _ | _ | _ | j
  ·simp [verCells] at hj; subst hj; simpa [Addr.add] using hG.cell (i := 0) (.head _) rfl
  ·simp [verCells] at hj; subst hj; simpa [Addr.add] using hG.cell (i := 1) (.head _) rfl
  ·simp [verCells] at hj; subst hj; simpa [Addr.add] using hG.cell (i := 2) (.head _) rfl
  ·simp [verCells] at hj; subst hj; simpa [Addr.add] using hG.cell (i := 3) (.head _) rfl
  ·simp [verCells] at hj
 intro sv' w4 r1 r2 r3
 replace hF := hF.rely hR3
 have hsz3 := hF.size
 have hB3 := hF.base
 replace hF := hF.grown r2 (fun g hg => .inr hg) (by
  intro p hp e
  simp at hp
  rcases hp with rfl | rfl | rfl
  ·have := (hgM _ e.symm).1; simp at this; omega
  ·have := (hgM _ e.symm).1; simp at this; omega
  ·exact hne e.symm)
 have hsv : sv'.ownBlock = sv.ownBlock ∨ ∃ g, sv'.ownBlock = some g ∧ grow T2 w₃ w4 g ∧ w₀.heap.size ≤ g := r3.imp id fun e => ⟨_, e, .inr ⟨Nat.le_refl _, (r1.lt _ e).2⟩, hsz3⟩
 have hgc2 : ∀ g, sv'.ownBlock = some g → (grow T2 w₃ w4 g ∨ g < B) ∧ g ≠ c ∧ g ≠ stb := by
  intro g hg
  rcases hsv with e | ⟨g', e, e2, e3⟩
  ·rw [e] at hg; exact ⟨(hgc _ g hg).1, (hgc T2 g hg).2, fun x => hne (x ▸ hg)⟩
  ·rw [e] at hg; cases hg; have := hF.low; exact ⟨.inl e2, fun x => by have := H.chan; omega, fun x => by omega⟩
 refine ⟨fun _ => hF.less (fun p hp => .tail _ hp), ?_⟩
 generalize grow T2 w₃ w4 = T3 at hF hsv hgc2 ⊢
 clear r2 r3 hrow hR3 hsz3 hB3
 try walk_nrm
 refine anyR_one (i := 8) (by decide +kernel) (OpR.op rfl (by rfl) (by simp) (fun w8 hR K hK => ?_))
 replace hF := hF.rely hR
 replace r1 := row_rely r1 (fun g hg => ⟨(hgc2 g hg).1, (hgc2 g hg).2.1⟩) hR
 go_simp
 refine hK _ _ ⟨by rw [listed_nil (by simp [go_sem])]; exact TT.idle _ _, ?_⟩
 clear hK K hR
 rw [grow_self]
 refine ⟨fun _ => hF.less (fun p hp => .tail _ hp), ?_⟩
 try walk_nrm
 refine anyR_one (i := 9) (by decide +kernel) (OpR.op rfl (by rfl) (by simp) (fun w9 hR K hK => ?_))
 replace hF := hF.rely hR
 replace r1 := row_rely r1 (fun g hg => ⟨(hgc2 g hg).1, (hgc2 g hg).2.1⟩) hR
 go_simp
 refine hK _ _ ⟨by rw [listed_nil (by simp [go_sem])]; exact TT.idle _ _, ?_⟩
 clear hK K hR
 rw [grow_self]
 refine ⟨fun _ => hF.less (fun p hp => .tail _ hp), ?_⟩
 try walk_nrm
 refine anyR_one (i := 10) (by decide +kernel) (OpR.op rfl (by rfl) (by simp) (fun w10 hR K hK => ?_))
 replace hF := hF.rely hR
 replace r1 := row_rely r1 (fun g hg => ⟨(hgc2 g hg).1, (hgc2 g hg).2.1⟩) hR
 have hG : H0 c B (fun b => b = stb ∨ sv.ownBlock = some b) S₀ w₀ T3 w10 [(stb, .cells #[sv] 177 (0, 0))] := hF.less (fun p hp => by simp at hp; subst hp; simp)
 have hb := hG.get (.head _)
 have hc0 := hG.cell (i := 0) (.head _) rfl
 have hz : w10.frozen? ⟨stb, 0, none⟩ = false := by simp [World.frozen?, hb]
 have hov : ∃ (o : Option Addr) (l k : Nat), sv' = .slice o l k := by rcases r1.2 with ⟨e, _⟩ | ⟨_, _, _, e, _⟩ <;> exact ⟨_, _, _, e⟩
 obtain ⟨oo, ll, kk, rfl⟩ := hov
 go_simp
 refine hK _ _ ⟨?_, ?_⟩
 ·refine D0w.sets (b := stb) (.inr ⟨hst, hM⟩) (by simp only [setCell_size]) (fun k hk => setCell_other _ _ _ hk) (fun e he => ?_)
  have hm := mem_listed he
  simp [go_sem, events_store (v := Value.slice oo ll kk) (hv := rfl), *] at hm
  rcases hm with rfl <;> exact ⟨_, rfl, rfl⟩
 clear hK K
 rw [grow_same _ (by simp only [setCell_size])]
 replace hG := hG.set (i := 0) (v := .slice oo ll kk) (.inr (.inl rfl)) (by intro p hp; simp at hp)
 replace r1 := own_heap0 (w' := w10.setCell ⟨stb, 0, none⟩ (.slice oo ll kk)) r1 (fun k hk _ => setCell_other _ _ _ (hgc2 k hk).2.2)
 refine ⟨fun x => absurd rfl x, ?_⟩
 refine anyR_done (by decide +kernel) (RT.ends TT (RT.leave TT (v := .tuple #[]) rfl rfl Tryz.func89 (fun w₉ hR9 => ?_) (hk _ _ _ (hPost ▸ ⟨_, hG, r1, hsv⟩)))) _
 refine ⟨by simp [results, go_sem], ?_⟩
 rw [show ∀ t, Sem.events Tryz.prog (results Tryz.f89 t) w₉ #[] = #[] from fun t => by simp [results, go_sem], seen_none]
 exact TT.idle _ _
end Go.Proofs.YtpbbmagjhkakgaaGreatDoor.Lf
