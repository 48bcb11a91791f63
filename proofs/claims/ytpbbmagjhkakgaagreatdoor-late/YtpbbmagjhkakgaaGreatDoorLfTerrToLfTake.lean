import Derived.Test.YtpbbmagjhkakgaaGreatDoorLfOpenToLfLead
namespace Go.Proofs.YtpbbmagjhkakgaaGreatDoor.Lf
open Go Go.Conc
structure Terr (c B:Nat) (M Ro:Nat->Prop):Prop where
 chan:c<B
 m:∀ b,M b->b<B/\b≠c
 ro:∀ b,Ro b->b<B/\b≠c/\¬ M b
section
variable (c B : Nat) (M Ro : Nat → Prop)
structure R0w (S:Nat->Prop) (w w':World):Prop where
 size:w.heap.size<=w'.heap.size
 block:∀ b,b≠c->b<w.heap.size->(S b\/b<B)->w'.heap[b]? = w.heap[b]?
 os:w'.os=w.os
 output:w'.output=w.output
 tape:w'.tape=w.tape
structure RBw (T:Nat->Prop) (w w':World):Prop where
 size:w.heap.size<=w'.heap.size
 block:∀ b,b≠c->b<w.heap.size->(T b\/Ro b)->w'.heap[b]? = w.heap[b]?
def CA1 (S:Nat->Prop) (a:Touch):Prop:=∃ ad,a.loc=.cell ad/\(S ad.block\/(ad.block<B/\(a.write=true->M ad.block)))
def CB1 (T:Nat->Prop) (a:Touch):Prop:=(∃ ad,a.loc=.cell ad/\(T ad.block\/(Ro ad.block/\a.write=false)))\/a.loc=.obj c
structure D0w (S:Nat->Prop) (w w':World) (es:Array Event):Prop where
 size:w.heap.size<=w'.heap.size
 block:∀ b,b<w.heap.size->¬ S b->¬ M b->w'.heap[b]? = w.heap[b]?
 evs:∀ e∈es,EvK (CA1 B M (grow S w w')) e
structure DBw (T:Nat->Prop) (w w':World) (es:Array Event):Prop where
 size:w.heap.size<=w'.heap.size
 block:∀ b,b<w.heap.size->¬ T b->w'.heap[b]? = w.heap[b]?
 os:w'.os=w.os
 output:w'.output=w.output
 tape:w'.tape=w.tape
 evs:∀ e∈es,EvK (CB1 c Ro (grow T w w')) e
theorem put_block {c:Nat} {w:World} {n:Nat} {buf:Array Value} {cl:Bool} {s r:Nat} {tm:Bool} {b:Nat} (h:b≠c):(w.setChan c n buf cl s r tm).heap[b]? = w.heap[b]?:=by
 simp only [World.setChan];rw [Array.getElem?_setIfInBounds_ne (Ne.symm h)]
theorem the_pair (H:Terr c B M Ro):Pair c B (R0w c B) (D0w B M) (RBw c Ro) (DBw c Ro) (CA1 B M) (CB1 c Ro) where
 t0:=⟨fun S x y z h k=>⟨Nat.le_trans h.size k.size,fun b h1 h2 h3=>(k.block b h1 (Nat.lt_of_lt_of_le h2 h.size) h3).trans (h.block b h1 h2 h3),k.os.trans h.os,k.output.trans h.output,k.tape.trans h.tape⟩,fun S w=>⟨Nat.le_refl _,fun _ _ _ _=>rfl,fun e he=>by simp at he⟩,fun S w=>⟨Nat.le_refl _,fun _ _ _ _=>rfl,fun e he=>by simp at he⟩⟩
 tB:=⟨fun S x y z h k=>⟨Nat.le_trans h.size k.size,fun b h1 h2 h3=>(k.block b h1 (Nat.lt_of_lt_of_le h2 h.size) h3).trans (h.block b h1 h2 h3)⟩,fun S w=>⟨Nat.le_refl _,fun _ _ _=>rfl,rfl,rfl,rfl,fun e he=>by simp at he⟩,fun S w=>⟨Nat.le_refl _,fun _ _ _=>rfl,rfl,rfl,rfl,fun e he=>by simp at he⟩⟩
 refl0 S w:=⟨Nat.le_refl _,fun _ _ _ _=>rfl,rfl,rfl,rfl⟩
 reflB S w:=⟨Nat.le_refl _,fun _ _ _ _=>rfl⟩
 at0 S w d:=⟨Nat.le_refl _,fun _ _ _ _=>rfl,rfl,rfl,rfl⟩
 atB S w d:=⟨Nat.le_refl _,fun _ _ _ _=>rfl⟩
 put0 S w n buf cl s r tm:=⟨by rw [setChan_size];exact Nat.le_refl _,fun b h _ _=>put_block h,rfl,rfl,rfl⟩
 putB S w n buf cl s r tm:=⟨by rw [setChan_size];exact Nat.le_refl _,fun b h _ _=>put_block h⟩
 d0 S T w w' es hA h:=by
  refine ⟨⟨h.size,fun b hc hb hT=>h.block b hb ?_ ?_⟩,h.block c (Nat.lt_of_lt_of_le H.chan hA.low) ?_ ?_,h.evs,h.size⟩
  ·intro hS
   rcases hT with hT | hT
   ·exact hA.st b hS hT
   ·have:=(H.ro b hT).1;have:=(hA.s b hS).1;omega
  ·intro hM
   rcases hT with hT | hT
   ·have:=(H.m b hM).1;have:=(hA.t b hT).1;omega
   ·exact (H.ro b hT).2.2 hM
  ·intro hS;have:=(hA.s c hS).1;have:=H.chan;omega
  ·intro hM;exact (H.m c hM).2 rfl
 dB S T w w' es hA h:=by
  refine ⟨⟨h.size,fun b hc hb hS=>h.block b hb ?_,h.os,h.output,h.tape⟩,h.block c (Nat.lt_of_lt_of_le H.chan hA.low) ?_,h.evs,h.size⟩
  ·intro hT
   rcases hS with hS | hS
   ·exact hA.st b hS hT
   ·have:=(hA.t b hT).1;omega
  ·intro hT;have:=(hA.t c hT).1;have:=H.chan;omega
 mono S S' h:=⟨fun a ⟨ad,h1,h2⟩=>⟨ad,h1,h2.imp (h _) id⟩,fun a x=>x.imp (fun ⟨ad,h1,h2⟩=>⟨ad,h1,h2.imp (h _) id⟩) id⟩
 apart S T w hA:=by
  have key:∀ a b:Touch,CA1 B M S a->CB1 c Ro T b->a.loc=b.loc->(a.write=true\/b.write=true)->False:=by
   rintro a b ⟨ad,h1,h2⟩ (⟨ad',k1,k2⟩ | k1) hl hw
   case inr=>rw [h1,k1] at hl;cases hl
   rw [h1,k1] at hl
   cases hl
   rcases h2 with h2 | ⟨h2,h3⟩
   ·rcases k2 with k2 | ⟨k2,_⟩
    ·exact hA.st _ h2 k2
    ·have:=(hA.s _ h2).1;have:=(H.ro _ k2).1;omega
   ·rcases k2 with k2 | ⟨k2,k3⟩
    ·have:=(hA.t _ k2).1;omega
    ·rcases hw with hw | hw
     ·exact (H.ro _ k2).2.2 (h3 hw)
     ·rw [k3] at hw;cases hw
  intro a b said ha hb
  exact ⟨fun h=>key a b ha hb h.1 (by simpa using h.2.2.1),fun h=>key a b ha hb h.1.symm (by have:=h.2.2.1;simpa using this.symm)⟩
end
section
variable {c B : Nat} {M Ro : Nat → Prop}
theorem EvK.cell {C:Touch->Prop} {ad:Addr} {wr:Bool} (h:C ⟨.cell ad,wr,.plain⟩):EvK C ⟨.cell ad,wr,false⟩:=by
 refine ⟨fun x hx _=>?_,by simp,by simp⟩
 cases wr<;>(simp [MemAct.ofEvent,MemAct.touch?] at hx;subst hx;exact h)
theorem alloc_block (w:World) (o:Obj) {b:Nat} (h:b<w.heap.size):(w.alloc o).heap[b]? = w.heap[b]?:=by
 simp only [World.alloc];rw [Array.getElem?_push_lt h,Array.getElem?_eq_getElem h]
theorem alloc_new (w:World) (o:Obj):(w.alloc o).heap[w.heap.size]? = some o:=by simp only [World.alloc];rw [Array.getElem?_push_size]
theorem alloc_size (w:World) (o:Obj):(w.alloc o).heap.size=w.heap.size+1:=by simp only [World.alloc];rw [Array.size_push]
theorem DBw.alloc (T:Nat->Prop) (w:World) (o:Obj):DBw c Ro T w (w.alloc o) #[]:=⟨by rw [alloc_size];omega,fun b h _=>alloc_block w o h,rfl,rfl,rfl,fun e he=>by simp at he⟩
theorem D0w.alloc (S:Nat->Prop) (w:World) (o:Obj):D0w B M S w (w.alloc o) #[]:=⟨by rw [alloc_size];omega,fun b h _ _=>alloc_block w o h,fun e he=>by simp at he⟩
theorem DBw.reads {T:Nat->Prop} {w:World} {es:Array Event} (h:∀ e∈es,EvK (CB1 c Ro T) e):DBw c Ro T w w es:=⟨Nat.le_refl _,fun _ _ _=>rfl,rfl,rfl,rfl,by rw [grow_self];exact h⟩
theorem D0w.reads {S:Nat->Prop} {w:World} {es:Array Event} (h:∀ e∈es,EvK (CA1 B M S) e):D0w B M S w w es:=⟨Nat.le_refl _,fun _ _ _ _=>rfl,by rw [grow_self];exact h⟩
end
end Go.Proofs.YtpbbmagjhkakgaaGreatDoor.Lf
namespace Go.Proofs.YtpbbmagjhkakgaaGreatDoor.Lf
open Go Go.Conc
section
variable {c B : Nat} {M Ro : Nat → Prop}
structure HB (c:Nat) (Ro T₀:Nat->Prop) (w₀:World) (T:Nat->Prop) (w:World) (fs:List (Nat×Obj)):Prop where
 sub:∀ b,T₀ b->T b
 keep:RBw c Ro T₀ w₀ w
 lt:c<w.heap.size
 facts:∀ p∈fs,(T p.1\/Ro p.1)/\p.1≠c/\w.heap[p.1]? = some p.2
variable {T₀ T : Nat → Prop} {w₀ w w' : World} {fs : List (Nat × Obj)}
theorem HB.start (hc:c<w.heap.size) (h:∀ p∈fs,(T p.1\/Ro p.1)/\p.1≠c/\w.heap[p.1]? = some p.2):HB c Ro T w T w fs:=⟨fun _ h=>h,⟨Nat.le_refl _,fun _ _ _ _=>rfl⟩,hc,h⟩
theorem HB.rely (h:HB c Ro T₀ w₀ T w fs) (r:RBw c Ro T w w'):HB c Ro T₀ w₀ T w' fs :=
 ⟨h.sub,⟨Nat.le_trans h.keep.size r.size,fun b h1 h2 h3=>(r.block b h1 (Nat.lt_of_lt_of_le h2 h.keep.size) (h3.imp (h.sub b) id)).trans (h.keep.block b h1 h2 h3)⟩,Nat.lt_of_lt_of_le h.lt r.size,fun p hp=>by
  obtain ⟨h1,h2,h3⟩:=h.facts p hp
  exact ⟨h1,h2,(r.block _ h2 (Array.getElem?_eq_some_iff.1 h3).1 h1).trans h3⟩⟩
theorem HB.alloc (h:HB c Ro T₀ w₀ T w fs) (o:Obj):HB c Ro T₀ w₀ (grow T w (w.alloc o)) (w.alloc o) ((w.heap.size,o)::fs):=by
 refine ⟨fun b x=>.inl (h.sub b x),⟨by rw [alloc_size];have:=h.keep.size;omega,fun b h1 h2 h3=>(alloc_block w o (Nat.lt_of_lt_of_le h2 h.keep.size)).trans (h.keep.block b h1 h2 h3)⟩,by rw [alloc_size];have:=h.lt;omega,fun p hp=>?_⟩
 rcases List.mem_cons.1 hp with rfl | hp
 ·exact ⟨.inl (.inr ⟨Nat.le_refl _,by rw [alloc_size];exact Nat.lt_succ_self _⟩),fun e=>by have:=h.lt;omega,alloc_new w o⟩
 ·obtain ⟨h1,h2,h3⟩:=h.facts p hp
  exact ⟨h1.imp .inl id,h2,(alloc_block w o (Array.getElem?_eq_some_iff.1 h3).1).trans h3⟩
theorem HB.get (h:HB c Ro T₀ w₀ T w fs) {b:Nat} {o:Obj} (hp:(b,o)∈fs):w.heap[b]? = some o:=(h.facts _ hp).2.2
theorem HB.own (h:HB c Ro T₀ w₀ T w fs) {b:Nat} {o:Obj} (hp:(b,o)∈fs):T b\/Ro b:=(h.facts _ hp).1
theorem HB.cell (h:HB c Ro T₀ w₀ T w fs) {b i:Nat} {cs:Array Value} {t:TypeId} {m:Nat×Nat} {v:Value} (hp:(b,Obj.cells cs t m)∈fs) (hv:cs[i]? = some v):w.cell? ⟨b,i,none⟩=some v:=by
 have:=h.get hp
 simp [World.cell?,this,hv]
theorem HB.call {T':Nat->Prop} (h:HB c Ro T₀ w₀ T w fs) (hs:∀ b,T b->T' b) (r:RBw c Ro T w w'):HB c Ro T₀ w₀ T' w' fs :=
 let k:=h.rely r;⟨fun b x=>hs b (h.sub b x),k.keep,k.lt,fun p hp=>let ⟨h1,h2,h3⟩:=k.facts p hp;⟨h1.imp (hs _) id,h2,h3⟩⟩
theorem HB.read (h:HB c Ro T₀ w₀ T w fs) {b:Nat} {o:Obj} (hp:(b,o)∈fs) {ad:Addr} (ha:ad.block=b):EvK (CB1 c Ro T) ⟨.cell ad,false,false⟩ :=
 EvK.cell (.inl ⟨ad,rfl,(h.own hp).imp (fun x=>ha▸x) (fun x=>⟨ha▸x,rfl⟩)⟩)
theorem HB.fresh (h:HB c Ro T₀ w₀ T w fs):w₀.heap.size<=w.heap.size/\∀ p∈fs,p.1≠w.heap.size:=⟨h.keep.size,fun p hp e=>by have:=(Array.getElem?_eq_some_iff.1 (h.facts p hp).2.2).1;omega⟩
theorem setCell_size (w:World) (a:Addr) (v:Value):(w.setCell a v).heap.size=w.heap.size:=by simp [World.setCell]
theorem setCell_other (w:World) (a:Addr) (v:Value) {k:Nat} (h:k≠a.block):(w.setCell a v).heap[k]? = w.heap[k]?:=by
 simp only [World.setCell]
 rw [Array.getElem?_modify]
 simp [Ne.symm h]
theorem setCell_same {w:World} {b i:Nat} {v:Value} {cs:Array Value} {t:TypeId} {m:Nat×Nat} (h:w.heap[b]? = some (.cells cs t m)):(w.setCell ⟨b,i,none⟩ v).heap[b]? = some (.cells (cs.setIfInBounds i v) t m):=by
 simp only [World.setCell]
 rw [Array.getElem?_modify]
 simp [h]
theorem HB.set {b i:Nat} {v:Value} {cs:Array Value} {t:TypeId} {m:Nat×Nat} (h:HB c Ro T₀ w₀ T w ((b,.cells cs t m)::fs)) (hb:w₀.heap.size<=b) (hd:∀ p∈fs,p.1≠b):HB c Ro T₀ w₀ T (w.setCell ⟨b,i,none⟩ v) ((b,.cells (cs.setIfInBounds i v) t m)::fs):=by
 refine ⟨h.sub,⟨by rw [setCell_size];exact h.keep.size,fun k h1 h2 h3=>?_⟩,by rw [setCell_size];exact h.lt,fun p hp=>?_⟩
 ·rw [setCell_other _ _ _ (show k≠b by omega)];exact h.keep.block k h1 h2 h3
 ·rcases List.mem_cons.1 hp with rfl | hp
  ·obtain ⟨h1,h2,h3⟩:=h.facts _ (.head _)
   exact ⟨h1,h2,setCell_same h3⟩
  ·obtain ⟨h1,h2,h3⟩:=h.facts p (.tail _ hp)
   exact ⟨h1,h2,by rw [setCell_other _ _ _ (hd p hp)];exact h3⟩
theorem DBw.sets {T:Nat->Prop} {w w':World} {es:Array Event} {b:Nat} (hT:T b) (hs:w'.heap.size=w.heap.size) (hb:∀ k,k≠b->w'.heap[k]? = w.heap[k]?) (h1:w'.os=w.os) (h2:w'.output=w.output) (h3:w'.tape=w.tape) (he:∀ e∈es,∃ ad,e=⟨.cell ad,true,false⟩/\ad.block=b):DBw c Ro T w w' es:=by
 refine ⟨by rw [hs];exact Nat.le_refl _,fun k _ hk=>hb k fun e=>hk (e▸hT),h1,h2,h3,fun e hm=>?_⟩
 obtain ⟨ad,rfl,rfl⟩:=he e hm
 exact EvK.cell (.inl ⟨ad,rfl,.inl (.inl hT)⟩)
theorem results_cell {P:Program} {fn:Func} {a:Tmp} {t:TypeId} (h:fn.results=#[.cell a t]) {tmps:Array Value} {ad:Addr} (ha:tmps.getD a undef=.pointer (some ad)) {w:World} {v:Value} (hl:(loadVar t ad).run P w=.ok v w):(results fn tmps).run P w=.ok v w/\(results fn tmps).events P w #[]=(loadVar t ad).events P w #[]:=by
 simp at ha
 constructor<;>simp [results,h,ha,asAddr,hl]
end
end Go.Proofs.YtpbbmagjhkakgaaGreatDoor.Lf
namespace Go.Proofs.YtpbbmagjhkakgaaGreatDoor.Lf
open Go Go.Conc
section
variable {P : Program} {main : Bool} {R : (Nat → Prop) → World → World → Prop} {D : (Nat → Prop) → World → World → Array Event → Prop} {c : Nat} {fn : FuncId} {ops : Array Oper} {Q : Act → List Value → (Nat → Prop) → World → Prop} {md : Region.Mode} {I : (Nat → Prop) → World → Prop} {fin : Nat}
def OpR (P:Program) (main:Bool) (R:(Nat->Prop)->World->World->Prop) (D:(Nat->Prop)->World->World->Array Event->Prop) (c:Nat) (fn:FuncId) (ops:Array Oper) (i:Nat) (K:Act->List Value->(Nat->Prop)->World->Prop) (a:Act) (L:List Value) (S:Nat->Prop) (w:World):Prop :=
 match ops[i]? with
 | none=>False
 | some o=>if Region.wanted o (yielded ops a.tmps) then
   match o.op with
   | .send ch x=>∃ L',a.eval ch=.chan (some c)/\L=a.eval x::L'/\∀ w₂,R S w w₂->K (a.put o.dst undef) L' S w₂
   | _=>∀ w₁,R S w w₁->uponE o a (fun a' w'=>D S w₁ w' (listed P fn a o w₁)/\K a' L (grow S w₁ w') w')
     (fun f args w'=>w'=w₁/\D S w₁ w₁ (listed P fn a o w₁)/\RCalls P main R D f args S w₁ (fun v S' w''=>K (a.put o.dst v) L S' w'')) ((execOp a.eval o).run P w₁)
  else K (a.put o.dst undef) L S w
theorem uponE_mono {o:Oper} {a:Act} {K K':Act->World->Prop} {E E':FuncId->Array Value->World->Prop} (h:∀ a w,K a w->K' a w) (he:∀ f args w,E f args w->E' f args w) {r:Result Next} (hh:uponE o a K E r):uponE o a K' E' r:=by
 cases r with
 | ok n w'=>cases n<;>first | exact h _ _ hh | exact he _ _ _ hh | exact hh
 | halt x w'=>exact hh
theorem OpR_mono {i:Nat} {a:Act} {L:List Value} {S:Nat->Prop} {w:World} {K K':Act->List Value->(Nat->Prop)->World->Prop} (h:∀ a L S w,K a L S w->K' a L S w) (hh:OpR P main R D c fn ops i K a L S w):OpR P main R D c fn ops i K' a L S w:=by
 unfold OpR at *
 split
 ·simp_all
 ·rename_i o ho
  simp only [ho] at hh
  split
  ·rename_i hw
   simp only [hw,if_true] at hh
   split
   ·rename_i ch x hop
    simp only [hop] at hh
    obtain ⟨L',h1,h2,h3⟩:=hh
    exact ⟨L',h1,h2,fun w₂ r=>h _ _ _ _ (h3 w₂ r)⟩
   ·rename_i hop
    split at hh
    ·rename_i ch x hop';exact absurd hop' (hop ch x)
    ·exact fun w₁ h₁=>uponE_mono (fun a' w' x=>⟨x.1,h _ _ _ _ x.2⟩) (fun f args w' x=>⟨x.1,x.2.1,x.2.2.mono fun _ _ _ y=>h _ _ _ _ y⟩) (hh w₁ h₁)
  ·rename_i hw;simp only [hw] at hh;exact h _ _ _ _ hh
def AnyR (P:Program) (main:Bool) (R:(Nat->Prop)->World->World->Prop) (D:(Nat->Prop)->World->World->Array Event->Prop) (c:Nat) (fn:FuncId) (md:Region.Mode) (ops:Array Oper) (Q:Act->List Value->(Nat->Prop)->World->Prop) (I:(Nat->Prop)->World->Prop) (fin:Nat):Nat->Array Bool->Act->List Value->(Nat->Prop)->World->Prop
 | 0,listed,a,L,S,w=>Region.ready md ops listed=[]/\Q a L S w
 | fuel+1,listed,a,L,S,w =>
  (Region.ready md ops listed=[]->Q a L S w)/\
  ∀ i∈Region.ready md ops listed,OpR P main R D c fn ops i (fun a' L' S' w'=>(i≠fin->I S' w')/\AnyR P main R D c fn md ops Q I fin fuel (listed.setIfInBounds i true) a' L' S' w') a L S w
theorem OpR.rely (T:TermsG R D) {K:Act->List Value->(Nat->Prop)->World->Prop} (hK:∀ a L S x y,K a L S x->R S x y->K a L S y) {i:Nat} {a:Act} {L:List Value} {S:Nat->Prop} {w w₁:World} (h:OpR P main R D c fn ops i K a L S w) (r:R S w w₁):OpR P main R D c fn ops i K a L S w₁:=by
 unfold OpR at *
 split
 ·simp_all
 ·rename_i o ho
  simp only [ho] at h
  split
  ·rename_i hw
   simp only [hw,if_true] at h
   split
   ·rename_i ch x hop
    simp only [hop] at h
    obtain ⟨L',h1,h2,h3⟩:=h
    exact ⟨L',h1,h2,fun w₂ h₂=>h3 w₂ (T.trans _ _ _ _ r h₂)⟩
   ·rename_i hop
    split at h
    ·rename_i ch x hop';exact absurd hop' (hop ch x)
    ·exact fun w₂ h₂=>h w₂ (T.trans _ _ _ _ r h₂)
  ·rename_i hw;simp only [hw] at h;exact hK _ _ _ _ _ h r
theorem AnyR.rely (T:TermsG R D) (hIR:∀ S x y,I S x->R S x y->I S y) (hQR:∀ a L S x y,Q a L S x->R S x y->Q a L S y) :
  ∀ (fuel:Nat) (listed:Array Bool) (a:Act) (L:List Value) (S:Nat->Prop) (w w₁:World),AnyR P main R D c fn md ops Q I fin fuel listed a L S w->R S w w₁->AnyR P main R D c fn md ops Q I fin fuel listed a L S w₁
 | 0,_,_,_,_,_,_,h,r=>⟨h.1,hQR _ _ _ _ _ h.2 r⟩
 | fuel+1,_,_,_,_,_,_,h,r=>⟨fun e=>hQR _ _ _ _ _ (h.1 e) r,fun i hi=>(h.2 i hi).rely T (fun a L S x y z r=>⟨fun e=>hIR _ _ _ (z.1 e) r,AnyR.rely T hIR hQR fuel _ a L S x y z.2 r⟩) r⟩
variable {Stop : List Value → (Nat → Prop) → Goroutine → World → Prop} {b : Frame} {k : List Item} {cs : List Frame}
def SendOK (P:Program) (main:Bool) (R:(Nat->Prop)->World->World->Prop) (D:(Nat->Prop)->World->World->Array Event->Prop) (c:Nat) (ops:Array Oper) (Stop:List Value->(Nat->Prop)->Goroutine->World->Prop):Prop :=
 (∀ o∈ops,∀ ch x,o.op≠.send ch x)\/∀ (v:Value) (L:List Value) (S:Nat->Prop) (g:Goroutine) (w:World),g.status=.running->(∀ w₁,R S w w₁->stepG P main g w₁=.comm g #[scase c v (.tuple #[])] true .send w₁ #[])->(∀ w₁,R S w w₁->RT P main R D (Stop L) S (Go.Conc.served g undef) w₁)->RT P main R D (Stop (v::L)) S g w
theorem RT.opR (T:TermsG R D) (hsend:SendOK P main R D c ops Stop)
  (hf:b.fn=fn) (hk:b.kind≠.early) {i:Nat} {rest:List Nat} {a:Act} {L:List Value} {S:Nat->Prop} {w:World}
  (h:OpR P main R D c fn ops i (fun a' L' S' w'=>RT P main R D (Stop L') S' (G (b.at a' (.inRegion ops rest::k)) cs) w') a L S w):RT P main R D (Stop L) S (G (b.at a (.inRegion ops (i::rest)::k)) cs) w:=by
 unfold OpR at h
 cases ho:ops[i]? with
 | none=>simp only [ho] at h
 | some o =>
  simp only [ho] at h
  have hfin:∀ v,(b.at a (.inRegion ops (i::rest)::k)).finish v=b.at (a.put o.dst v) (.inRegion ops rest::k):=fun v=>by rw [Frame.finish_at,ho];rfl
  by_cases hw:Region.wanted o (yielded ops a.tmps)=true
  ·simp only [hw,if_true] at h
   split at h
   ·rename_i ch x hop
    obtain ⟨L',h1,rfl,h3⟩:=h
    have hrun:∀ w₁,(execOp a.eval o).run P w₁=.ok (.comm #[scase c (a.eval x) (.tuple #[])] true .send) w₁:=fun w₁=>by
     unfold execOp;simp [hop,h1,scase]
    have hl:∀ w₁,listed P b.fn a o w₁=#[]:=fun w₁=>by
     have:(execOp a.eval o).events P w₁ #[]=#[]:=by unfold execOp;simp [hop]
     unfold listed;rw [this];exact seen_none P _
    rcases hsend with hno | hsend
    ·exact absurd hop (hno o (Array.mem_of_getElem? ho) ch x)
    refine hsend _ _ _ _ _ rfl (fun w₁ h₁=>?_) (fun w₁ h₁=>?_)
    ·rw [stepG_comm ho hw hk (hrun w₁),hl]
    ·have:=h3 w₁ h₁
     show RT P main R D (Stop L') S { (G (b.at a (.inRegion ops (i::rest)::k)) cs) with frame:=(b.at a (.inRegion ops (i::rest)::k)).finish undef,status:=.running,offers:=Option.none } w₁
     rw [hfin]
     exact this
   ·rename_i hop
    refine .one rfl fun w₁ h₁=>?_
    have:=h w₁ h₁
    revert this
    cases hr:(execOp a.eval o).run P w₁ with
    | ok x w' =>
     cases x<;>simp only [uponE,false_imp_iff]
     ·rw [stepG_value ho hw hk hr];exact fun y=>hf▸y
     ·rw [stepG_none ho hw hk hr];exact fun y=>hf▸y
     ·rw [stepG_enter ho hw hk hr]
      rintro ⟨rfl,y1,y2⟩
      rw [goes_go,grow_self]
      exact ⟨hf▸y1,y2 _ _ _ fun v S' w'' z=>by rw [hfin];exact z⟩
    | halt x w'=>simp only [uponE,false_imp_iff]
  ·simp only [hw,if_false,Bool.false_eq_true] at h
   have hw':Region.wanted o (yielded ops a.tmps)=false:=by simpa using hw
   refine .one rfl fun w₁ h₁=>?_
   rw [stepG_unwanted ho hw',goes_go,grow_self]
   exact ⟨T.idle _ _,h.rely T h₁⟩
theorem anyR_sound (T:TermsG R D) (hsend:SendOK P main R D c ops Stop)
  (hf:b.fn=fn) (hk:b.kind≠.early) (hQ:∀ a L S w,Q a L S w->RT P main R D (Stop L) S (G (b.at a k) cs) w) :
  ∀ (fuel t:Nat) (listed:Array Bool) (a:Act) (L:List Value) (S:Nat->Prop) (w:World),AnyR P main R D c fn md ops Q I fin fuel listed a L S w->RT P main R D (Stop L) S (G (b.at a (.inRegion ops (Region.linearise.go md ops fuel t listed [])::k)) cs) w:=by
 intro fuel
 induction fuel with
 | zero=>intro t listed a L S w h;simp only [Region.linearise.go,List.reverse_nil];exact RT.nil T (hQ _ _ _ _ h.2)
 | succ fuel ih =>
  intro t listed a L S w h
  obtain ⟨h₀,h₁⟩:=h
  simp only [Region.linearise.go]
  change RT P main R D (Stop L) S (G (b.at a (.inRegion ops (match (Region.ready md ops listed)[t % (Region.ready md ops listed).length]? with
   | some i=>Region.linearise.go md ops fuel (t/(Region.ready md ops listed).length) (listed.setIfInBounds i true) [i]
   | none=>[].reverse)::k)) cs) w
  cases hi:(Region.ready md ops listed)[t % (Region.ready md ops listed).length]? with
  | none =>
   have hnil:Region.ready md ops listed=[]:=by
    cases hr:Region.ready md ops listed with
    | nil=>rfl
    | cons x xs =>
     rw [hr] at hi
     have hlt:t % (x::xs).length<(x::xs).length:=Nat.mod_lt _ (by simp)
     simp at hi
     simp at hlt
     omega
   exact RT.nil T (hQ _ _ _ _ (h₀ hnil))
  | some i =>
   simp only []
   rw [linearise_go_acc,List.reverse_singleton,List.singleton_append]
   exact RT.opR T hsend hf hk (OpR_mono (fun a' L' S' w' x=>ih _ _ a' L' S' w' x.2) (h₁ i (List.mem_of_getElem? hi)))
end
end Go.Proofs.YtpbbmagjhkakgaaGreatDoor.Lf
namespace Go.Proofs.YtpbbmagjhkakgaaGreatDoor.Lf
open Go Go.Conc
section
variable {P : Program} {main : Bool} {R : (Nat → Prop) → World → World → Prop} {D : (Nat → Prop) → World → World → Array Event → Prop} {c : Nat} {fn : FuncId} {ops : Array Oper} {Q : Act → List Value → (Nat → Prop) → World → Prop} {md : Region.Mode} {I : (Nat → Prop) → World → Prop} {fin : Nat}
def YieldsR (P:Program) (D:(Nat->Prop)->World->World->Array Event->Prop) (fn:FuncId) (ops:Array Oper) (I:(Nat->Prop)->World->Prop) (o:Oper) (v:Value) (a:Act):Prop :=
 (∀ ch x,o.op≠.send ch x)/\Region.wanted o (yielded ops a.tmps)=true/\∀ S w,I S w->(execOp a.eval o).run P w=.ok (.value v) w/\D S w w (listed P fn a o w)
theorem YieldsR.of_same {o:Oper} {v:Value} {a a':Act} (hy:YieldsR P D fn ops I o v a) (he:execOp a'.eval o=execOp a.eval o) (hw:Region.wanted o (yielded ops a'.tmps)=Region.wanted o (yielded ops a.tmps)):YieldsR P D fn ops I o v a':=by
 unfold YieldsR listed at *
 rw [he,hw]
 exact hy
theorem YieldsR.opR (hIR:∀ S x y,I S x->R S x y->I S y) {i:Nat} {o:Oper} {v:Value} {a:Act} (hi:ops[i]? = some o) (hy:YieldsR P D fn ops I o v a) {K:Act->List Value->(Nat->Prop)->World->Prop} (hK:∀ a L S x y,K a L S x->R S x y->K a L S y) {L:List Value} {S:Nat->Prop} {w:World} (hI:I S w) (h:K (a.put o.dst v) L S w):OpR P main R D c fn ops i K a L S w:=by
 unfold OpR
 simp only [hi]
 obtain ⟨hs,hw,hv⟩:=hy
 simp only [hw,if_true]
 intro w₁ h₁
 rw [(hv S w₁ (hIR _ _ _ hI h₁)).1]
 simp only [uponE,grow_self]
 exact ⟨(hv S w₁ (hIR _ _ _ hI h₁)).2,hK _ _ _ _ _ h h₁⟩
theorem eval_apart {o:Oper} {a:Act} {dst:Option Tmp} {v:Value} (h:∀ d,dst=some d->d ∉ o.looksAt ops) {x:Operand} (hx:x∈o.op.operands):(a.put dst v).eval x=a.eval x :=
 Act.eval_put fun d hd hxd=>h d hd (by
  subst hxd
  exact List.mem_append_left _ (List.mem_filterMap.2 ⟨.tmp d,by simpa using hx,rfl⟩))
theorem OpR_putIf {j:Nat} {oi oj:Oper} {v:Value} (hj:ops[j]? = some oj) (hap:oi.apart ops oj=true) (hsi:∀ cs b,oi.op≠.select cs b) (hsj:∀ cs b,oj.op≠.select cs b) {K:Act->List Value->(Nat->Prop)->World->Prop} {a:Act} {L:List Value} {S:Nat->Prop} {w:World}
  (hy:YieldsR P D fn ops I oi v a) (h:OpR P main R D c fn ops j K (a.put oi.dst v) L S w):OpR P main R D c fn ops j (fun a' L' S' w'=>YieldsR P D fn ops I oi v a'/\K (a'.put oi.dst v) L' S' w') a L S w:=by
 obtain ⟨h1,h2,h3⟩:=Oper.apart_spec hap
 have keep:∀ u,YieldsR P D fn ops I oi v (a.put oj.dst u):=fun u=>hy.of_same (execOp_put oi hsi a oj.dst u h3) (wanted_put oi a oj.dst u h3)
 unfold OpR at *
 simp only [hj] at *
 rw [wanted_put oj a oi.dst v h1] at h
 split
 ·rename_i hw
  simp only [hw,if_true] at h
  split
  ·rename_i ch x hop
   simp only [hop] at h
   obtain ⟨L',e1,e2,e3⟩:=h
   rw [eval_apart h1 (by simp [hop,Op.operands])] at e1
   rw [eval_apart h1 (by simp [hop,Op.operands])] at e2
   exact ⟨L',e1,e2,fun w₂ r=>⟨keep _,by rw [<- Act.put_comm a v undef h2];exact e3 w₂ r⟩⟩
  ·rename_i hop
   split at h
   ·rename_i ch x hop';exact absurd hop' (hop ch x)
   ·intro w₁ h₁
    have h:=h w₁ h₁
    unfold listed at *
    rw [execOp_put oj hsj a oi.dst v h1] at h
    generalize (execOp a.eval oj).run P w₁=r at *
    cases r with
    | ok n w' =>
     cases n<;>simp only [uponE] at h ⊢
     case value u=>exact ⟨h.1,keep u,by rw [<- Act.put_comm a v u h2];exact h.2⟩
     case skip=>exact ⟨h.1,keep _,by rw [<- Act.put_comm a v undef h2];exact h.2⟩
     case enter f args=>exact ⟨h.1,h.2.1,h.2.2.mono fun u S' w'' z=>⟨keep u,by rw [<- Act.put_comm a v u h2];exact z⟩⟩
    | halt x w'=>simp only [uponE] at h
 ·rename_i hw
  simp only [hw] at h
  exact ⟨keep _,by rw [<- Act.put_comm a v undef h2];exact h⟩
theorem anyR_first (T:TermsG R D) (hIR:∀ S x y,I S x->R S x y->I S y) (hQR:∀ a L S x y,Q a L S x->R S x y->Q a L S y) {i:Nat} {oi:Oper} {v:Value} (hi:ops[i]? = some oi)
  (hsel:∀ (j:Nat) (o:Oper) cs b,ops[j]? = some o->o.op≠.select cs b) (hfin:∀ o,ops[fin]? = some o->∃ e∈o.after,Region.binds md e=true/\e.on=i) :
  ∀ (fuel:Nat) (listed:Array Bool) (a:Act) (L:List Value) (S:Nat->Prop) (w:World),
   (∀ j oj,ops[j]? = some oj->j≠i->listed.getD j true=false->(∀ e∈oj.after,Region.binds md e=true->e.on≠i)->oi.apart ops oj=true)->
   i∈Region.ready md ops listed->YieldsR P D fn ops I oi v a->I S w->
   AnyR P main R D c fn md ops Q I fin fuel (listed.setIfInBounds i true) (a.put oi.dst v) L S w->AnyR P main R D c fn md ops Q I fin (fuel+1) listed a L S w:=by
 have hK:∀ (q:Prop) fuel listed,∀ a L S x y,((q->I S x)/\AnyR P main R D c fn md ops Q I fin fuel listed a L S x)->R S x y->((q->I S y)/\AnyR P main R D c fn md ops Q I fin fuel listed a L S y) :=
  fun q fuel listed a L S x y h r=>⟨fun e=>hIR _ _ _ (h.1 e) r,AnyR.rely T hIR hQR fuel listed a L S x y h.2 r⟩
 intro fuel
 induction fuel with
 | zero =>
  intro listed a L S w _ hr hy hS H
  refine ⟨fun h=>(by rw [h] at hr;cases hr),fun j hj=>?_⟩
  by_cases hji:j=i
  ·subst hji;exact hy.opR hIR hi (hK _ _ _) hS ⟨fun _=>hS,H⟩
  ·have:=ready_mono hj hji
   rw [H.1] at this
   cases this
 | succ fuel ih =>
  intro listed a L S w hfree hr hy hS H
  refine ⟨fun h=>(by rw [h] at hr;cases hr),fun j hj=>?_⟩
  by_cases hji:j=i
  ·subst hji;exact hy.opR hIR hi (hK _ _ _) hS ⟨fun _=>hS,H⟩
  ·have h1:=H.2 j (ready_mono hj hji)
   obtain ⟨hjun,oj,hoj,hall⟩:=mem_ready.1 hj
   have hnot:∀ e∈oj.after,Region.binds md e=true->e.on≠i:=fun e he hb heq=>by
    have h1:=hall e he hb
    have h0:=(mem_ready.1 hr).1
    rw [heq] at h1
    rcases Nat.lt_or_ge i listed.size with h' | h'
    ·simp [h'] at h0 h1;rw [h0] at h1;cases h1
    ·simp [Array.getElem?_eq_none h'] at h1
   have hjf:j≠fin:=by
    rintro rfl
    obtain ⟨e,he,hb,heq⟩:=hfin oj hoj
    exact hnot e he hb heq
   have h2:=OpR_putIf hoj (hfree j oj hoj hji hjun hnot) (fun cs b=>hsel i oi cs b hi) (fun cs b=>hsel j oj cs b hoj) hy h1
   have hfree':∀ k ok,ops[k]? = some ok->k≠i->(listed.setIfInBounds j true).getD k true=false->
     (∀ e∈ok.after,Region.binds md e=true->e.on≠i)->oi.apart ops ok=true:=fun k ok hk hki hun hno=>by
    refine hfree k ok hk hki ?_ hno
    by_cases hjk:j=k
    ·subst hjk;exact hjun
    ·rw [getD_set_ne true hjk] at hun;exact hun
   refine OpR_mono (fun a' L' S' w' h3=>⟨h3.2.1,ih (listed.setIfInBounds j true) a' L' S' w' hfree' (ready_mono hr (Ne.symm hji)) h3.1 (h3.2.1 hjf) ?_⟩) h2
   rw [Array.setIfInBounds_comm _ _ hji]
   exact h3.2.2
theorem anyR_take (T:TermsG R D) (hIR:∀ S x y,I S x->R S x y->I S y) (hQR:∀ a L S x y,Q a L S x->R S x y->Q a L S y) (i:Nat) {oi:Oper} {v:Value} {fuel:Nat} {listed:Array Bool} {a:Act} {L:List Value} {S:Nat->Prop} {w:World} (hi:ops[i]? = some oi)
  (hs:Region.noSelect ops=true) (hf:Region.free md ops listed i=true) (hr:(Region.ready md ops listed).contains i=true) (hfin:((ops[fin]?).map fun o=>o.after.any fun e=>Region.binds md e&&e.on==i).getD true=true)
  (hy:YieldsR P D fn ops I oi v a) (hS:I S w) (h:AnyR P main R D c fn md ops Q I fin fuel (listed.setIfInBounds i true) (a.put oi.dst v) L S w):AnyR P main R D c fn md ops Q I fin (fuel+1) listed a L S w :=
 anyR_first T hIR hQR hi (Region.noSelect_spec hs) (fun o ho=>by
  rw [ho] at hfin
  simp only [Option.map_some,Option.getD_some] at hfin
  obtain ⟨e,he,hb⟩:=Array.any_eq_true'.1 hfin
  simp only [Bool.and_eq_true,beq_iff_eq] at hb
  exact ⟨e,he,hb.1,hb.2⟩) fuel listed a L S w (Region.free_spec hi hf) (by simpa using hr) hy hS h
theorem anyR_one {i:Nat} {fuel:Nat} {listed:Array Bool} {a:Act} {L:List Value} {S:Nat->Prop} {w:World} (hr:Region.ready md ops listed=[i])
  (h:OpR P main R D c fn ops i (fun a' L' S' w'=>(i≠fin->I S' w')/\AnyR P main R D c fn md ops Q I fin fuel (listed.setIfInBounds i true) a' L' S' w') a L S w):AnyR P main R D c fn md ops Q I fin (fuel+1) listed a L S w :=
 ⟨fun h0=>(by rw [hr] at h0;cases h0),fun j hj=>(by rw [hr] at hj;simp at hj;subst hj;exact h)⟩
theorem anyR_done {listed:Array Bool} {a:Act} {L:List Value} {S:Nat->Prop} {w:World} (hr:Region.ready md ops listed=[]) (h:Q a L S w):∀ fuel,AnyR P main R D c fn md ops Q I fin fuel listed a L S w
 | 0=>⟨hr,h⟩
 | _+1=>⟨fun _=>h,fun i hi=>by rw [hr] at hi;cases hi⟩
theorem OpR.call (T:TermsG R D) {i:Nat} {o:Oper} {f:FuncId} {fn':Func} {args:Array Operand} {ats:Array TypeId} {K:Act->List Value->(Nat->Prop)->World->Prop} {a:Act} {L:List Value} {S:Nat->Prop} {w:World} (ho:ops[i]? = some o) (hw:Region.wanted o (yielded ops a.tmps)=true) (hop:o.op=.call { callee:=.value (.func f),args,argTypes:=ats })
  (hf:P.funcs[f]? = some fn') (hname:(fn'.name== "runtime.NumGoroutine")=false) (hb:fn'.body.isNone=false) (h:∀ w₁,R S w w₁->RCalls P main R D f (args.map a.eval) S w₁ (fun v S' w''=>K (a.put o.dst v) L S' w'')):OpR P main R D c fn ops i K a L S w:=by
 unfold OpR
 simp only [ho,hw,if_true,hop]
 intro w₁ h₁
 have hl:listed P fn a o w₁=#[]:=by unfold listed;rw [events_call_body hop hf hname hb];exact seen_none P _
 rw [run_call_body hop hf hname hb,hl]
 exact ⟨rfl,T.idle _ _,h w₁ h₁⟩
theorem OpR.op {i:Nat} {o:Oper} {K:Act->List Value->(Nat->Prop)->World->Prop} {a:Act} {L:List Value} {S:Nat->Prop} {w:World} (ho:ops[i]? = some o) (hw:Region.wanted o (yielded ops a.tmps)=true) (hns:∀ ch x,o.op≠.send ch x)
  (h:∀ w₁,R S w w₁->∀ K':Act->World->Prop,(∀ a' w',D S w₁ w' (listed P fn a o w₁)/\K a' L (grow S w₁ w') w'->K' a' w')->uponK o a K' ((execOp a.eval o).run P w₁)):OpR P main R D c fn ops i K a L S w:=by
 unfold OpR
 simp only [ho,hw,if_true]
 intro w₁ h₁
 have:=h w₁ h₁ _ (fun _ _ x=>x)
 revert this
 cases (execOp a.eval o).run P w₁ with
 | ok n w'=>cases n<;>first | exact id | exact False.elim
 | halt x w'=>exact False.elim
theorem OpR.send {i:Nat} {o:Oper} {K:Act->List Value->(Nat->Prop)->World->Prop} {a:Act} {L L':List Value} {S:Nat->Prop} {w:World} {ch x:Operand} (ho:ops[i]? = some o) (hw:Region.wanted o (yielded ops a.tmps)=true) (hop:o.op=.send ch x) (h1:a.eval ch=.chan (some c)) (h2:L=a.eval x::L') (h3:∀ w₂,R S w w₂->K (a.put o.dst undef) L' S w₂):OpR P main R D c fn ops i K a L S w:=by
 unfold OpR
 simp only [ho,hw,if_true,hop]
 exact ⟨L',h1,h2,h3⟩
variable {Stop : List Value → (Nat → Prop) → Goroutine → World → Prop} {b : Frame} {k : List Item} {cs : List Frame}
theorem RT.drawn (T:TermsG R D) (hsend:SendOK P main R D c ops Stop)
  (hf:b.fn=fn) (hk:b.kind≠.early) (hm:P.follows .mixedOrders=true) {id:Nat} {a:Act} {L:List Value} {S:Nat->Prop} {w:World} (hQ:∀ a L S w,Q a L S w->RT P main R D (Stop L) S (G (b.at a k) cs) w)
  (h:∀ w₁,R S w w₁->AnyR P main R D c fn .any ops Q I fin ops.size (Array.replicate ops.size false) a L S { w₁ with drawn:=w₁.drawn+1 }):RT P main R D (Stop L) S (G (b.at a (.code (.region id ops true)::k)) cs) w :=
 RT.draw T fun w₁ h₁ t=>by
  simp only [Region.schedule,hm,Bool.true_or,if_true]
  exact anyR_sound T hsend hf hk hQ ops.size t _ a L S _ (h w₁ h₁)
end
end Go.Proofs.YtpbbmagjhkakgaaGreatDoor.Lf
