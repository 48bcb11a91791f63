import Derived.Test.YtpbbmagjhkakgaaGreatDoorLfOpenToLfTerr
import Derived.Laws.AppendOwn
namespace Go.Proofs.YtpbbmagjhkakgaaGreatDoor
namespace Lf
open Go Go.Conc
section
variable {c B : Nat} {M Ro : Nat → Prop}
structure HB (c:Nat) (Ro jO:Nat->Prop) (bW:World) (T:Nat->Prop) (w:World) (fs:List (Nat×Obj)):Prop where
 sub:∀ b,jO b->T b
 keep:RBw c Ro jO bW w
 lt:c<w.heap.size
 facts:∀ p∈fs,(T p.1\/Ro p.1)/\p.1≠c/\w.heap[p.1]? = some p.2
variable {jO T : Nat → Prop} {bW w w' : World} {fs : List (Nat × Obj)}
theorem HB.start (hc:c<w.heap.size) (h:∀ p∈fs,(T p.1\/Ro p.1)/\p.1≠c/\w.heap[p.1]? = some p.2):HB c Ro T w T w fs:=⟨fun _ h=>h,⟨Nat.le_refl _,fun _ _ _ _=>rfl⟩,hc,h⟩
theorem HB.rely (h:HB c Ro jO bW T w fs) (r:RBw c Ro T w w'):HB c Ro jO bW T w' fs :=
 ⟨h.sub,⟨Nat.le_trans h.keep.size r.size,fun b h1 h2 h3=>(r.block b h1 (Nat.lt_of_lt_of_le h2 h.keep.size) (h3.imp (h.sub b) id)).trans (h.keep.block b h1 h2 h3)⟩,Nat.lt_of_lt_of_le h.lt r.size,fun p hp=>by
  obtain ⟨h1,h2,h3⟩:=h.facts p hp
  exact ⟨h1,h2,(r.block _ h2 (Array.getElem?_eq_some_iff.1 h3).1 h1).trans h3⟩⟩
theorem HB.alloc (h:HB c Ro jO bW T w fs) (o:Obj):HB c Ro jO bW (grow T w (w.alloc o)) (w.alloc o) ((w.heap.size,o)::fs):=by
 refine ⟨fun b x=>.inl (h.sub b x),⟨by rw [aG];have:=h.keep.size;omega,fun b h1 h2 h3=>(bw w o (Nat.lt_of_lt_of_le h2 h.keep.size)).trans (h.keep.block b h1 h2 h3)⟩,by rw [aG];have:=h.lt;omega,fun p hp=>?_⟩
 rcases List.mem_cons.1 hp with rfl | hp
 ·exact ⟨.inl (.inr ⟨Nat.le_refl _,by rw [aG];exact Nat.lt_succ_self _⟩),fun e=>by have:=h.lt;omega,iF w o⟩
 ·obtain ⟨h1,h2,h3⟩:=h.facts p hp
  exact ⟨h1.imp .inl id,h2,(bw w o (Array.getElem?_eq_some_iff.1 h3).1).trans h3⟩
theorem HB.get (h:HB c Ro jO bW T w fs) {b:Nat} {o:Obj} (hp:(b,o)∈fs):w.heap[b]? = some o:=(h.facts _ hp).2.2
theorem HB.own (h:HB c Ro jO bW T w fs) {b:Nat} {o:Obj} (hp:(b,o)∈fs):T b\/Ro b:=(h.facts _ hp).1
theorem HB.cell (h:HB c Ro jO bW T w fs) {b i:Nat} {cs:Array Value} {t:TypeId} {m:Nat×Nat} {v:Value} (hp:(b,Obj.cells cs t m)∈fs) (hv:cs[i]? = some v):w.cell? ⟨b,i,none⟩=some v:=by
 have:=h.get hp
 simp [World.cell?,this,hv]
theorem HB.call {T':Nat->Prop} (h:HB c Ro jO bW T w fs) (hs:∀ b,T b->T' b) (r:RBw c Ro T w w'):HB c Ro jO bW T' w' fs :=
 let k:=h.rely r;⟨fun b x=>hs b (h.sub b x),k.keep,k.lt,fun p hp=>let ⟨h1,h2,h3⟩:=k.facts p hp;⟨h1.imp (hs _) id,h2,h3⟩⟩
theorem HB.read (h:HB c Ro jO bW T w fs) {b:Nat} {o:Obj} (hp:(b,o)∈fs) {ad:Addr} (ha:ad.block=b):EvK (CB1 c Ro T) ⟨.cell ad,false,false⟩ :=
 EvK.cell (.inl ⟨ad,rfl,(h.own hp).imp (fun x=>ha▸x) (fun x=>⟨ha▸x,rfl⟩)⟩)
theorem HB.fresh (h:HB c Ro jO bW T w fs):bW.heap.size<=w.heap.size/\∀ p∈fs,p.1≠w.heap.size:=⟨h.keep.size,fun p hp e=>by have:=(Array.getElem?_eq_some_iff.1 (h.facts p hp).2.2).1;omega⟩
theorem cn (w:World) (a:Addr) (v:Value):(w.setCell a v).heap.size=w.heap.size:=by simp [World.setCell]
theorem aT (w:World) (a:Addr) (v:Value) {k:Nat} (h:k≠a.block):(w.setCell a v).heap[k]? = w.heap[k]?:=by
 simp only [World.setCell]
 rw [Array.getElem?_modify]
 simp [Ne.symm h]
theorem qc {w:World} {b i:Nat} {v:Value} {cs:Array Value} {t:TypeId} {m:Nat×Nat} (h:w.heap[b]? = some (.cells cs t m)):(w.setCell ⟨b,i,none⟩ v).heap[b]? = some (.cells (cs.setIfInBounds i v) t m):=by
 simp only [World.setCell]
 rw [Array.getElem?_modify]
 simp [h]
theorem HB.set {b i:Nat} {v:Value} {cs:Array Value} {t:TypeId} {m:Nat×Nat} (h:HB c Ro jO bW T w ((b,.cells cs t m)::fs)) (hb:bW.heap.size<=b) (hd:∀ p∈fs,p.1≠b):HB c Ro jO bW T (w.setCell ⟨b,i,none⟩ v) ((b,.cells (cs.setIfInBounds i v) t m)::fs):=by
 refine ⟨h.sub,⟨by rw [cn];exact h.keep.size,fun k h1 h2 h3=>?_⟩,by rw [cn];exact h.lt,fun p hp=>?_⟩
 ·rw [aT _ _ _ (show k≠b by omega)];exact h.keep.block k h1 h2 h3
 ·rcases List.mem_cons.1 hp with rfl | hp
  ·obtain ⟨h1,h2,h3⟩:=h.facts _ (.head _)
   exact ⟨h1,h2,qc h3⟩
  ·obtain ⟨h1,h2,h3⟩:=h.facts p (.tail _ hp)
   exact ⟨h1,h2,by rw [aT _ _ _ (hd p hp)];exact h3⟩
theorem mY.sets {T:Nat->Prop} {w w':World} {es:Array Event} {b:Nat} (hT:T b) (hs:w'.heap.size=w.heap.size) (hb:∀ k,k≠b->w'.heap[k]? = w.heap[k]?) (h1:w'.os=w.os) (h2:w'.output=w.output) (h3:w'.tape=w.tape) (he:∀ e∈es,∃ ad,e=⟨.cell ad,true,false⟩/\ad.block=b):mY c Ro T w w' es:=by
 refine ⟨by rw [hs];exact Nat.le_refl _,fun k _ hk=>hb k fun e=>hk (e▸hT),h1,h2,h3,fun e hm=>?_⟩
 obtain ⟨ad,rfl,rfl⟩:=he e hm
 exact EvK.cell (.inl ⟨ad,rfl,.inl (.inl hT)⟩)
theorem results_cell {P:Program} {fn:Func} {a:Tmp} {t:TypeId} (h:fn.results=#[.cell a t]) {tmps:Array Value} {ad:Addr} (ha:tmps.getD a undef=.pointer (some ad)) {w:World} {v:Value} (hl:(loadVar t ad).run P w=.ok v w):(results fn tmps).run P w=.ok v w/\(results fn tmps).events P w #[]=(loadVar t ad).events P w #[]:=by
 simp at ha
 constructor<;>simp [results,h,ha,asAddr,hl]
end
end Lf
namespace Lf
open Go Go.Conc
section
variable {P : Program} {main : Bool} {R : (Nat → Prop) → World → World → Prop} {D : (Nat → Prop) → World → World → Array Event → Prop} {c : Nat} {fn : FuncId} {ops : Array Oper} {Q : Act → List Value → (Nat → Prop) → World → Prop} {md : Region.Mode} {I : (Nat → Prop) → World → Prop} {fin : Nat}
def pj (P:Program) (main:Bool) (R:(Nat->Prop)->World->World->Prop) (D:(Nat->Prop)->World->World->Array Event->Prop) (c:Nat) (fn:FuncId) (ops:Array Oper) (i:Nat) (K:Act->List Value->(Nat->Prop)->World->Prop) (a:Act) (L:List Value) (S:Nat->Prop) (w:World):Prop :=
 match ops[i]? with
 | none=>False
 | some o=>if Region.wanted o (yielded ops a.tmps) then
   match o.op with
   | .send ch x=>∃ L',a.eval ch=.chan (some c)/\L=a.eval x::L'/\∀ bF,R S w bF->K (a.put o.dst undef) L' S bF
   | _=>∀ w₁,R S w w₁->uponE o a (fun a' w'=>D S w₁ w' (listed P fn a o w₁)/\K a' L (grow S w₁ w') w')
     (fun f args w'=>w'=w₁/\D S w₁ w₁ (listed P fn a o w₁)/\ic P main R D f args S w₁ (fun v S' w''=>K (a.put o.dst v) L S' w'')) ((execOp a.eval o).run P w₁)
  else K (a.put o.dst undef) L S w
theorem uponE_mono {o:Oper} {a:Act} {K K':Act->World->Prop} {E E':FuncId->Array Value->World->Prop} (h:∀ a w,K a w->K' a w) (he:∀ f args w,E f args w->E' f args w) {r:Result Next} (hh:uponE o a K E r):uponE o a K' E' r:=by
 cases r with
 | ok n w'=>cases n<;>first | exact h _ _ hh | exact he _ _ _ hh | exact hh
 | halt x w'=>exact hh
theorem OpR_mono {i:Nat} {a:Act} {L:List Value} {S:Nat->Prop} {w:World} {K K':Act->List Value->(Nat->Prop)->World->Prop} (h:∀ a L S w,K a L S w->K' a L S w) (hh:pj P main R D c fn ops i K a L S w):pj P main R D c fn ops i K' a L S w:=by
 unfold pj at *
 split
 ·simp_all
 ·rename_i o ho
  simp only [ho] at hh
  split
  ·rename_i hw
   simp only [hw,if_true] at hh
   split
   ·rename_i ch x aN
    simp only [aN] at hh
    obtain ⟨L',h1,h2,h3⟩:=hh
    exact ⟨L',h1,h2,fun bF r=>h _ _ _ _ (h3 bF r)⟩
   ·rename_i aN
    split at hh
    ·rename_i ch x hop';exact absurd hop' (aN ch x)
    ·exact fun w₁ h₁=>uponE_mono (fun a' w' x=>⟨x.1,h _ _ _ _ x.2⟩) (fun f args w' x=>⟨x.1,x.2.1,x.2.2.mono fun _ _ _ y=>h _ _ _ _ y⟩) (hh w₁ h₁)
  ·rename_i hw;simp only [hw] at hh;exact h _ _ _ _ hh
def qG (P:Program) (main:Bool) (R:(Nat->Prop)->World->World->Prop) (D:(Nat->Prop)->World->World->Array Event->Prop) (c:Nat) (fn:FuncId) (md:Region.Mode) (ops:Array Oper) (Q:Act->List Value->(Nat->Prop)->World->Prop) (I:(Nat->Prop)->World->Prop) (fin:Nat):Nat->Array Bool->Act->List Value->(Nat->Prop)->World->Prop
 | 0,listed,a,L,S,w=>Region.ready md ops listed=[]/\Q a L S w
 | fuel+1,listed,a,L,S,w =>
  (Region.ready md ops listed=[]->Q a L S w)/\
  ∀ i∈Region.ready md ops listed,pj P main R D c fn ops i (fun a' L' S' w'=>(i≠fin->I S' w')/\qG P main R D c fn md ops Q I fin fuel (listed.setIfInBounds i true) a' L' S' w') a L S w
theorem pj.rely (T:dh R D) {K:Act->List Value->(Nat->Prop)->World->Prop} (hK:∀ a L S x y,K a L S x->R S x y->K a L S y) {i:Nat} {a:Act} {L:List Value} {S:Nat->Prop} {w w₁:World} (h:pj P main R D c fn ops i K a L S w) (r:R S w w₁):pj P main R D c fn ops i K a L S w₁:=by
 unfold pj at *
 split
 ·simp_all
 ·rename_i o ho
  simp only [ho] at h
  split
  ·rename_i hw
   simp only [hw,if_true] at h
   split
   ·rename_i ch x aN
    simp only [aN] at h
    obtain ⟨L',h1,h2,h3⟩:=h
    exact ⟨L',h1,h2,fun bF h₂=>h3 bF (T.trans _ _ _ _ r h₂)⟩
   ·rename_i aN
    split at h
    ·rename_i ch x hop';exact absurd hop' (aN ch x)
    ·exact fun bF h₂=>h bF (T.trans _ _ _ _ r h₂)
  ·rename_i hw;simp only [hw] at h;exact hK _ _ _ _ _ h r
theorem qG.rely (T:dh R D) (oF:∀ S x y,I S x->R S x y->I S y) (uk:∀ a L S x y,Q a L S x->R S x y->Q a L S y) :
  ∀ (fuel:Nat) (listed:Array Bool) (a:Act) (L:List Value) (S:Nat->Prop) (w w₁:World),qG P main R D c fn md ops Q I fin fuel listed a L S w->R S w w₁->qG P main R D c fn md ops Q I fin fuel listed a L S w₁
 | 0,_,_,_,_,_,_,h,r=>⟨h.1,uk _ _ _ _ _ h.2 r⟩
 | fuel+1,_,_,_,_,_,_,h,r=>⟨fun e=>uk _ _ _ _ _ (h.1 e) r,fun i hi=>(h.2 i hi).rely T (fun a L S x y z r=>⟨fun e=>oF _ _ _ (z.1 e) r,qG.rely T oF uk fuel _ a L S x y z.2 r⟩) r⟩
variable {Stop : List Value → (Nat → Prop) → Goroutine → World → Prop} {b : Frame} {k : List Item} {cs : List Frame}
def SendOK (P:Program) (main:Bool) (R:(Nat->Prop)->World->World->Prop) (D:(Nat->Prop)->World->World->Array Event->Prop) (c:Nat) (ops:Array Oper) (Stop:List Value->(Nat->Prop)->Goroutine->World->Prop):Prop :=
 (∀ o∈ops,∀ ch x,o.op≠.send ch x)\/∀ (v:Value) (L:List Value) (S:Nat->Prop) (g:Goroutine) (w:World),g.status=.running->(∀ w₁,R S w w₁->stepG P main g w₁=.comm g #[scase c v (.tuple #[])] true .send w₁ #[])->(∀ w₁,R S w w₁->RT P main R D (Stop L) S (Go.Conc.served g undef) w₁)->RT P main R D (Stop (v::L)) S g w
theorem RT.opR (T:dh R D) (hsend:SendOK P main R D c ops Stop)
  (hf:b.fn=fn) (hk:b.kind≠.early) {i:Nat} {rest:List Nat} {a:Act} {L:List Value} {S:Nat->Prop} {w:World}
  (h:pj P main R D c fn ops i (fun a' L' S' w'=>RT P main R D (Stop L') S' (G (b.at a' (.inRegion ops rest::k)) cs) w') a L S w):RT P main R D (Stop L) S (G (b.at a (.inRegion ops (i::rest)::k)) cs) w:=by
 unfold pj at h
 cases ho:ops[i]? with
 | none=>simp only [ho] at h
 | some o =>
  simp only [ho] at h
  have bH:∀ v,(b.at a (.inRegion ops (i::rest)::k)).finish v=b.at (a.put o.dst v) (.inRegion ops rest::k):=fun v=>by rw [Frame.finish_at,ho];rfl
  by_cases hw:Region.wanted o (yielded ops a.tmps)=true
  ·simp only [hw,if_true] at h
   split at h
   ·rename_i ch x aN
    obtain ⟨L',h1,rfl,h3⟩:=h
    have dQ:∀ w₁,(execOp a.eval o).run P w₁=.ok (.comm #[scase c (a.eval x) (.tuple #[])] true .send) w₁:=fun w₁=>by
     unfold execOp;simp [aN,h1,scase]
    have hl:∀ w₁,listed P b.fn a o w₁=#[]:=fun w₁=>by
     have:(execOp a.eval o).events P w₁ #[]=#[]:=by unfold execOp;simp [aN]
     unfold listed;rw [this];exact seen_none P _
    rcases hsend with hno | hsend
    ·exact absurd aN (hno o (Array.mem_of_getElem? ho) ch x)
    refine hsend _ _ _ _ _ rfl (fun w₁ h₁=>?_) (fun w₁ h₁=>?_)
    ·rw [stepG_comm ho hw hk (dQ w₁),hl]
    ·have:=h3 w₁ h₁
     show RT P main R D (Stop L') S { (G (b.at a (.inRegion ops (i::rest)::k)) cs) with frame:=(b.at a (.inRegion ops (i::rest)::k)).finish undef,status:=.running,offers:=Option.none } w₁
     rw [bH]
     exact this
   ·rename_i aN
    refine .one rfl fun w₁ h₁=>?_
    have:=h w₁ h₁
    revert this
    cases hr:(execOp a.eval o).run P w₁ with
    | ok x w' =>
     cases x<;>simp only [uponE,false_imp_iff]
     ·rw [stepG_value ho hw hk hr];exact fun y=>hf▸y
     ·rw [stepG_none ho hw hk hr];exact fun y=>hf▸y
     ·rw [stepG_enter ho hw hk hr]
      rintro ⟨rfl,y1,y2⟩
      rw [goes_go,aD]
      exact ⟨hf▸y1,y2 _ _ _ fun v S' w'' z=>by rw [bH];exact z⟩
    | halt x w'=>simp only [uponE,false_imp_iff]
  ·simp only [hw,if_false,Bool.false_eq_true] at h
   have hw':Region.wanted o (yielded ops a.tmps)=false:=by simpa using hw
   refine .one rfl fun w₁ h₁=>?_
   rw [stepG_unwanted ho hw',goes_go,aD]
   exact ⟨T.idle _ _,h.rely T h₁⟩
theorem anyR_sound (T:dh R D) (hsend:SendOK P main R D c ops Stop)
  (hf:b.fn=fn) (hk:b.kind≠.early) (hQ:∀ a L S w,Q a L S w->RT P main R D (Stop L) S (G (b.at a k) cs) w) :
  ∀ (fuel t:Nat) (listed:Array Bool) (a:Act) (L:List Value) (S:Nat->Prop) (w:World),qG P main R D c fn md ops Q I fin fuel listed a L S w->RT P main R D (Stop L) S (G (b.at a (.inRegion ops (Region.linearise.go md ops fuel t listed [])::k)) cs) w:=by
 intro fuel
 induction fuel with
 | zero=>intro t listed a L S w h;simp only [Region.linearise.go,List.reverse_nil];exact RT.nil T (hQ _ _ _ _ h.2)
 | succ fuel ih =>
  intro t listed a L S w h
  obtain ⟨h₀,h₁⟩:=h
  simp only [Region.linearise.go]
  change RT P main R D (Stop L) S (G (b.at a (.inRegion ops (match (Region.ready md ops listed)[t % (Region.ready md ops listed).length]? with
   | some i=>Region.linearise.go md ops fuel (t/(Region.ready md ops listed).length) (listed.setIfInBounds i true) [i]
   | none=>[].reverse)::k)) cs) w
  cases hi:(Region.ready md ops listed)[t % (Region.ready md ops listed).length]? with
  | none =>
   have hnil:Region.ready md ops listed=[]:=by
    cases hr:Region.ready md ops listed with
    | nil=>rfl
    | cons x xs =>
     rw [hr] at hi
     have cz:t % (x::xs).length<(x::xs).length:=Nat.mod_lt _ (by simp)
     simp at hi
     simp at cz
     omega
   exact RT.nil T (hQ _ _ _ _ (h₀ hnil))
  | some i =>
   simp only []
   rw [linearise_go_acc,List.reverse_singleton,List.singleton_append]
   exact RT.opR T hsend hf hk (OpR_mono (fun a' L' S' w' x=>ih _ _ a' L' S' w' x.2) (h₁ i (List.mem_of_getElem? hi)))
end
end Lf
namespace Lf
open Go Go.Conc
section
variable {P : Program} {main : Bool} {R : (Nat → Prop) → World → World → Prop} {D : (Nat → Prop) → World → World → Array Event → Prop} {c : Nat} {fn : FuncId} {ops : Array Oper} {Q : Act → List Value → (Nat → Prop) → World → Prop} {md : Region.Mode} {I : (Nat → Prop) → World → Prop} {fin : Nat}
def iY (P:Program) (D:(Nat->Prop)->World->World->Array Event->Prop) (fn:FuncId) (ops:Array Oper) (I:(Nat->Prop)->World->Prop) (o:Oper) (v:Value) (a:Act):Prop :=
 (∀ ch x,o.op≠.send ch x)/\Region.wanted o (yielded ops a.tmps)=true/\∀ S w,I S w->(execOp a.eval o).run P w=.ok (.value v) w/\D S w w (listed P fn a o w)
theorem iY.of_same {o:Oper} {v:Value} {a a':Act} (hy:iY P D fn ops I o v a) (he:execOp a'.eval o=execOp a.eval o) (hw:Region.wanted o (yielded ops a'.tmps)=Region.wanted o (yielded ops a.tmps)):iY P D fn ops I o v a':=by
 unfold iY listed at *
 rw [he,hw]
 exact hy
theorem iY.opR (oF:∀ S x y,I S x->R S x y->I S y) {i:Nat} {o:Oper} {v:Value} {a:Act} (hi:ops[i]? = some o) (hy:iY P D fn ops I o v a) {K:Act->List Value->(Nat->Prop)->World->Prop} (hK:∀ a L S x y,K a L S x->R S x y->K a L S y) {L:List Value} {S:Nat->Prop} {w:World} (hI:I S w) (h:K (a.put o.dst v) L S w):pj P main R D c fn ops i K a L S w:=by
 unfold pj
 simp only [hi]
 obtain ⟨hs,hw,hv⟩:=hy
 simp only [hw,if_true]
 intro w₁ h₁
 rw [(hv S w₁ (oF _ _ _ hI h₁)).1]
 simp only [uponE,aD]
 exact ⟨(hv S w₁ (oF _ _ _ hI h₁)).2,hK _ _ _ _ _ h h₁⟩
theorem eval_apart {o:Oper} {a:Act} {dst:Option Tmp} {v:Value} (h:∀ d,dst=some d->d ∉ o.looksAt ops) {x:Operand} (hx:x∈o.op.operands):(a.put dst v).eval x=a.eval x :=
 Act.eval_put fun d hd hxd=>h d hd (by
  subst hxd
  exact List.mem_append_left _ (List.mem_filterMap.2 ⟨.tmp d,by simpa using hx,rfl⟩))
theorem OpR_putIf {j:Nat} {oi oj:Oper} {v:Value} (hj:ops[j]? = some oj) (jD:oi.apart ops oj=true) (hsi:∀ cs b,oi.op≠.select cs b) (hsj:∀ cs b,oj.op≠.select cs b) {K:Act->List Value->(Nat->Prop)->World->Prop} {a:Act} {L:List Value} {S:Nat->Prop} {w:World}
  (hy:iY P D fn ops I oi v a) (h:pj P main R D c fn ops j K (a.put oi.dst v) L S w):pj P main R D c fn ops j (fun a' L' S' w'=>iY P D fn ops I oi v a'/\K (a'.put oi.dst v) L' S' w') a L S w:=by
 obtain ⟨h1,h2,h3⟩:=Oper.apart_spec jD
 have keep:∀ u,iY P D fn ops I oi v (a.put oj.dst u):=fun u=>hy.of_same (execOp_put oi hsi a oj.dst u h3) (wanted_put oi a oj.dst u h3)
 unfold pj at *
 simp only [hj] at *
 rw [wanted_put oj a oi.dst v h1] at h
 split
 ·rename_i hw
  simp only [hw,if_true] at h
  split
  ·rename_i ch x aN
   simp only [aN] at h
   obtain ⟨L',e1,e2,e3⟩:=h
   rw [eval_apart h1 (by simp [aN,Op.operands])] at e1
   rw [eval_apart h1 (by simp [aN,Op.operands])] at e2
   exact ⟨L',e1,e2,fun bF r=>⟨keep _,by rw [<- Act.put_comm a v undef h2];exact e3 bF r⟩⟩
  ·rename_i aN
   split at h
   ·rename_i ch x hop';exact absurd hop' (aN ch x)
   ·intro w₁ h₁
    have h:=h w₁ h₁
    unfold listed at *
    rw [execOp_put oj hsj a oi.dst v h1] at h
    generalize (execOp a.eval oj).run P w₁=r at *
    cases r with
    | ok n w' =>
     cases n<;>simp only [uponE] at h ⊢
     case value u=>exact ⟨h.1,keep u,by rw [<- Act.put_comm a v u h2];exact h.2⟩
     case skip=>exact ⟨h.1,keep _,by rw [<- Act.put_comm a v undef h2];exact h.2⟩
     case enter f args=>exact ⟨h.1,h.2.1,h.2.2.mono fun u S' w'' z=>⟨keep u,by rw [<- Act.put_comm a v u h2];exact z⟩⟩
    | halt x w'=>simp only [uponE] at h
 ·rename_i hw
  simp only [hw] at h
  exact ⟨keep _,by rw [<- Act.put_comm a v undef h2];exact h⟩
theorem anyR_first (T:dh R D) (oF:∀ S x y,I S x->R S x y->I S y) (uk:∀ a L S x y,Q a L S x->R S x y->Q a L S y) {i:Nat} {oi:Oper} {v:Value} (hi:ops[i]? = some oi)
  (hsel:∀ (j:Nat) (o:Oper) cs b,ops[j]? = some o->o.op≠.select cs b) (bH:∀ o,ops[fin]? = some o->∃ e∈o.after,Region.binds md e=true/\e.on=i) :
  ∀ (fuel:Nat) (listed:Array Bool) (a:Act) (L:List Value) (S:Nat->Prop) (w:World),
   (∀ j oj,ops[j]? = some oj->j≠i->listed.getD j true=false->(∀ e∈oj.after,Region.binds md e=true->e.on≠i)->oi.apart ops oj=true)->
   i∈Region.ready md ops listed->iY P D fn ops I oi v a->I S w->
   qG P main R D c fn md ops Q I fin fuel (listed.setIfInBounds i true) (a.put oi.dst v) L S w->qG P main R D c fn md ops Q I fin (fuel+1) listed a L S w:=by
 have hK:∀ (q:Prop) fuel listed,∀ a L S x y,((q->I S x)/\qG P main R D c fn md ops Q I fin fuel listed a L S x)->R S x y->((q->I S y)/\qG P main R D c fn md ops Q I fin fuel listed a L S y) :=
  fun q fuel listed a L S x y h r=>⟨fun e=>oF _ _ _ (h.1 e) r,qG.rely T oF uk fuel listed a L S x y h.2 r⟩
 intro fuel
 induction fuel with
 | zero =>
  intro listed a L S w _ hr hy hS H
  refine ⟨fun h=>(by rw [h] at hr;cases hr),fun j hj=>?_⟩
  by_cases mO:j=i
  ·subst mO;exact hy.opR oF hi (hK _ _ _) hS ⟨fun _=>hS,H⟩
  ·have:=ready_mono hj mO
   rw [H.1] at this
   cases this
 | succ fuel ih =>
  intro listed a L S w hfree hr hy hS H
  refine ⟨fun h=>(by rw [h] at hr;cases hr),fun j hj=>?_⟩
  by_cases mO:j=i
  ·subst mO;exact hy.opR oF hi (hK _ _ _) hS ⟨fun _=>hS,H⟩
  ·have h1:=H.2 j (ready_mono hj mO)
   obtain ⟨hjun,oj,hoj,nc⟩:=mem_ready.1 hj
   have hnot:∀ e∈oj.after,Region.binds md e=true->e.on≠i:=fun e he hb heq=>by
    have h1:=nc e he hb
    have h0:=(mem_ready.1 hr).1
    rw [heq] at h1
    rcases Nat.lt_or_ge i listed.size with h' | h'
    ·simp [h'] at h0 h1;rw [h0] at h1;cases h1
    ·simp [Array.getElem?_eq_none h'] at h1
   have hjf:j≠fin:=by
    rintro rfl
    obtain ⟨e,he,hb,heq⟩:=bH oj hoj
    exact hnot e he hb heq
   have h2:=OpR_putIf hoj (hfree j oj hoj mO hjun hnot) (fun cs b=>hsel i oi cs b hi) (fun cs b=>hsel j oj cs b hoj) hy h1
   have hfree':∀ k ok,ops[k]? = some ok->k≠i->(listed.setIfInBounds j true).getD k true=false->
     (∀ e∈ok.after,Region.binds md e=true->e.on≠i)->oi.apart ops ok=true:=fun k ok hk hki hun hno=>by
    refine hfree k ok hk hki ?_ hno
    by_cases n9:j=k
    ·subst n9;exact hjun
    ·rw [getD_set_ne true n9] at hun;exact hun
   refine OpR_mono (fun a' L' S' w' h3=>⟨h3.2.1,ih (listed.setIfInBounds j true) a' L' S' w' hfree' (ready_mono hr (Ne.symm mO)) h3.1 (h3.2.1 hjf) ?_⟩) h2
   rw [Array.setIfInBounds_comm _ _ mO]
   exact h3.2.2
theorem bU (T:dh R D) (oF:∀ S x y,I S x->R S x y->I S y) (uk:∀ a L S x y,Q a L S x->R S x y->Q a L S y) (i:Nat) {oi:Oper} {v:Value} {fuel:Nat} {listed:Array Bool} {a:Act} {L:List Value} {S:Nat->Prop} {w:World} (hi:ops[i]? = some oi)
  (hs:Region.noSelect ops=true) (hf:Region.free md ops listed i=true) (hr:(Region.ready md ops listed).contains i=true) (bH:((ops[fin]?).map fun o=>o.after.any fun e=>Region.binds md e&&e.on==i).getD true=true)
  (hy:iY P D fn ops I oi v a) (hS:I S w) (h:qG P main R D c fn md ops Q I fin fuel (listed.setIfInBounds i true) (a.put oi.dst v) L S w):qG P main R D c fn md ops Q I fin (fuel+1) listed a L S w :=
 anyR_first T oF uk hi (Region.noSelect_spec hs) (fun o ho=>by
  rw [ho] at bH
  simp only [Option.map_some,Option.getD_some] at bH
  obtain ⟨e,he,hb⟩:=Array.any_eq_true'.1 bH
  simp only [Bool.and_eq_true,beq_iff_eq] at hb
  exact ⟨e,he,hb.1,hb.2⟩) fuel listed a L S w (Region.free_spec hi hf) (by simpa using hr) hy hS h
theorem gu {i:Nat} {fuel:Nat} {listed:Array Bool} {a:Act} {L:List Value} {S:Nat->Prop} {w:World} (hr:Region.ready md ops listed=[i])
  (h:pj P main R D c fn ops i (fun a' L' S' w'=>(i≠fin->I S' w')/\qG P main R D c fn md ops Q I fin fuel (listed.setIfInBounds i true) a' L' S' w') a L S w):qG P main R D c fn md ops Q I fin (fuel+1) listed a L S w :=
 ⟨fun h0=>(by rw [hr] at h0;cases h0),fun j hj=>(by rw [hr] at hj;simp at hj;subst hj;exact h)⟩
theorem anyR_done {listed:Array Bool} {a:Act} {L:List Value} {S:Nat->Prop} {w:World} (hr:Region.ready md ops listed=[]) (h:Q a L S w):∀ fuel,qG P main R D c fn md ops Q I fin fuel listed a L S w
 | 0=>⟨hr,h⟩
 | _+1=>⟨fun _=>h,fun i hi=>by rw [hr] at hi;cases hi⟩
theorem pj.call (T:dh R D) {i:Nat} {o:Oper} {f:FuncId} {fn':Func} {args:Array Operand} {ats:Array TypeId} {K:Act->List Value->(Nat->Prop)->World->Prop} {a:Act} {L:List Value} {S:Nat->Prop} {w:World} (ho:ops[i]? = some o) (hw:Region.wanted o (yielded ops a.tmps)=true) (aN:o.op=.call { callee:=.value (.func f),args,argTypes:=ats })
  (hf:P.funcs[f]? = some fn') (u0:(fn'.name== "runtime.NumGoroutine")=false) (hb:fn'.body.isNone=false) (h:∀ w₁,R S w w₁->ic P main R D f (args.map a.eval) S w₁ (fun v S' w''=>K (a.put o.dst v) L S' w'')):pj P main R D c fn ops i K a L S w:=by
 unfold pj
 simp only [ho,hw,if_true,aN]
 intro w₁ h₁
 have hl:listed P fn a o w₁=#[]:=by unfold listed;rw [events_call_body aN hf u0 hb];exact seen_none P _
 rw [run_call_body aN hf u0 hb,hl]
 exact ⟨rfl,T.idle _ _,h w₁ h₁⟩
theorem pj.op {i:Nat} {o:Oper} {K:Act->List Value->(Nat->Prop)->World->Prop} {a:Act} {L:List Value} {S:Nat->Prop} {w:World} (ho:ops[i]? = some o) (hw:Region.wanted o (yielded ops a.tmps)=true) (hns:∀ ch x,o.op≠.send ch x)
  (h:∀ w₁,R S w w₁->∀ K':Act->World->Prop,(∀ a' w',D S w₁ w' (listed P fn a o w₁)/\K a' L (grow S w₁ w') w'->K' a' w')->uponK o a K' ((execOp a.eval o).run P w₁)):pj P main R D c fn ops i K a L S w:=by
 unfold pj
 simp only [ho,hw,if_true]
 intro w₁ h₁
 have:=h w₁ h₁ _ (fun _ _ x=>x)
 revert this
 cases (execOp a.eval o).run P w₁ with
 | ok n w'=>cases n<;>first | exact id | exact False.elim
 | halt x w'=>exact False.elim
theorem pj.send {i:Nat} {o:Oper} {K:Act->List Value->(Nat->Prop)->World->Prop} {a:Act} {L L':List Value} {S:Nat->Prop} {w:World} {ch x:Operand} (ho:ops[i]? = some o) (hw:Region.wanted o (yielded ops a.tmps)=true) (aN:o.op=.send ch x) (h1:a.eval ch=.chan (some c)) (h2:L=a.eval x::L') (h3:∀ bF,R S w bF->K (a.put o.dst undef) L' S bF):pj P main R D c fn ops i K a L S w:=by
 unfold pj
 simp only [ho,hw,if_true,aN]
 exact ⟨L',h1,h2,h3⟩
variable {Stop : List Value → (Nat → Prop) → Goroutine → World → Prop} {b : Frame} {k : List Item} {cs : List Frame}
theorem RT.drawn (T:dh R D) (hsend:SendOK P main R D c ops Stop)
  (hf:b.fn=fn) (hk:b.kind≠.early) (hm:P.follows .mixedOrders=true) {id:Nat} {a:Act} {L:List Value} {S:Nat->Prop} {w:World} (hQ:∀ a L S w,Q a L S w->RT P main R D (Stop L) S (G (b.at a k) cs) w)
  (h:∀ w₁,R S w w₁->qG P main R D c fn .any ops Q I fin ops.size (Array.replicate ops.size false) a L S { w₁ with drawn:=w₁.drawn+1 }):RT P main R D (Stop L) S (G (b.at a (.code (.region id ops true)::k)) cs) w :=
 RT.draw T fun w₁ h₁ t=>by
  simp only [Region.schedule,hm,Bool.true_or,if_true]
  exact anyR_sound T hsend hf hk hQ ops.size t _ a L S _ (h w₁ h₁)
end
end Lf
namespace Lf
open Go Go.Conc
section
variable {P : Program} {c iN n : Nat} {R0 : (Nat → Prop) → World → World → Prop} {D0 : (Nat → Prop) → World → World → Array Event → Prop} {RB : (Nat → Prop) → World → World → Prop} {DB : (Nat → Prop) → World → World → Array Event → Prop} {CA CB : (Nat → Prop) → Touch → Prop}
theorem SB.rely (H:Pair c iN R0 D0 RB DB CA CB) {L:List Value} {T:Nat->Prop} {g:Goroutine} {w w':World} (h:SB P c RB DB CB n L T g w) (hr:RB T w w'):SB P c RB DB CB n L T g w':=by
 cases h with
 | own f h1 h2 h3=>exact .own f h1 (fun w₁ h₁=>h2 w₁ (H.tB.trans _ _ _ _ hr h₁)) (fun w₁ h₁=>h3 w₁ (H.tB.trans _ _ _ _ hr h₁))
 | send h1 h2 h3=>exact .send h1 (fun w₁ h₁=>h2 w₁ (H.tB.trans _ _ _ _ hr h₁)) (fun w₁ h₁=>h3 w₁ (H.tB.trans _ _ _ _ hr h₁))
 | close h1 h2 h3 h4=>exact .close h1 h2 (fun w₁ buf s r h₁=>h3 w₁ buf s r (H.tB.trans _ _ _ _ hr h₁)) h4
theorem SB.kh (H:Pair c iN R0 D0 RB DB CA CB) {L:List Value} {T:Nat->Prop} {g:Goroutine} {w:World} (h:RT P false RB DB (fun T g w=>SB P c RB DB CB n L T g w) T g w):SB P c RB DB CB n L T g w:=by
 induction h with
 | stop h=>exact h _ (H.reflB _ _)
 | step f hs h _ ih=>exact .own f hs h ih
theorem SB.walk (H:Pair c iN R0 D0 RB DB CA CB) {L:List Value} {T:Nat->Prop} {g:Goroutine} {w:World} (h:SB P c RB DB CB n L T g w):RT P false RB DB (fun T g w=>SB P c RB DB CB n L T g w) T g w:=.stop fun _ r=>h.rely H r
theorem SB.sends (H:Pair c iN R0 D0 RB DB CA CB) (ops:Array Oper):SendOK P false RB DB c ops (fun L T g w=>SB P c RB DB CB n L T g w) :=
 .inr fun v L S g w hs h1 h2=>SB.walk H (.send (y:=.tuple #[]) hs (fun w₁ h₁=>⟨#[],h1 w₁ h₁,fun e he=>by simp at he⟩) (fun w₁ h₁=>SB.kh H (h2 w₁ h₁)))
theorem SA.kh {z:Value} {K:Goroutine->World->Prop} (H:Pair c iN R0 D0 RB DB CA CB) {L:List Value} {S:Nat->Prop} {g:Goroutine} {w:World} (h:RT P true R0 D0 (fun S g w=>SA P c z R0 D0 CA K L S g w) S g w):SA P c z R0 D0 CA K L S g w:=by
 induction h with
 | stop h=>exact h _ (H.refl0 _ _)
 | step f hs h _ ih=>exact .own f hs h ih
theorem SA.walk {z:Value} {K:Goroutine->World->Prop} (H:Pair c iN R0 D0 RB DB CA CB) {L:List Value} {S:Nat->Prop} {g:Goroutine} {w:World} (h:SA P c z R0 D0 CA K L S g w):RT P true R0 D0 (fun S g w=>SA P c z R0 D0 CA K L S g w) S g w:=.stop fun _ r=>h.rely H r
end
end Lf
namespace Lf
open Go Go.Conc
section
variable {c B : Nat} {M : Nat → Prop}
structure H0 (c B:Nat) (M:Nat->Prop) (ju:Nat->Prop) (bW:World) (S:Nat->Prop) (w:World) (fs:List (Nat×Obj)):Prop where
 own:∀ b,S b->B<=b/\b<w.heap.size
 mine:∀ b,ju b->S b
 news:∀ b,S b->ju b\/bW.heap.size<=b
 keep:∀ b,(ju b\/b<B)->b<bW.heap.size->b≠c->¬ M b->w.heap[b]? = bW.heap[b]?
 os:w.os=bW.os
 output:w.output=bW.output
 chan:c<B
 low:B<=bW.heap.size
 size:bW.heap.size<=w.heap.size
 facts:∀ p∈fs,(S p.1\/p.1<B)/\p.1≠c/\w.heap[p.1]? = some p.2
variable {ju S : Nat → Prop} {bW w w' : World} {fs : List (Nat × Obj)}
theorem H0.start (hS:∀ b,S b->B<=b/\b<w.heap.size) (hc:c<B) (hB:B<=w.heap.size) (h:∀ p∈fs,(S p.1\/p.1<B)/\p.1≠c/\w.heap[p.1]? = some p.2):H0 c B M S w S w fs :=
 ⟨hS,fun _ x=>x,fun _ x=>.inl x,fun _ _ _ _ _=>rfl,rfl,rfl,hc,hB,Nat.le_refl _,h⟩
theorem H0.base (h:H0 c B M ju bW S w fs):B<=w.heap.size:=Nat.le_trans h.low h.size
theorem H0.rely (h:H0 c B M ju bW S w fs) (r:R0w c B S w w'):H0 c B M ju bW S w' fs :=
 ⟨fun b x=>⟨(h.own b x).1,Nat.lt_of_lt_of_le (h.own b x).2 r.size⟩,h.mine,h.news,fun b h1 h2 h3 h4=>(r.block b h3 (Nat.lt_of_lt_of_le h2 h.size) (h1.imp (h.mine b) id)).trans (h.keep b h1 h2 h3 h4),r.os.trans h.os,r.output.trans h.output,h.chan,h.low,Nat.le_trans h.size r.size,fun p hp=>by
  obtain ⟨h1,h2,h3⟩:=h.facts p hp
  exact ⟨h1,h2,(r.block _ h2 (Array.getElem?_eq_some_iff.1 h3).1 h1).trans h3⟩⟩
theorem H0.alloc (h:H0 c B M ju bW S w fs) (o:Obj):H0 c B M ju bW (grow S w (w.alloc o)) (w.alloc o) ((w.heap.size,o)::fs):=by
 have hl:=h.low
 have hs:=h.size
 refine ⟨fun b x=>?_,fun b x=>.inl (h.mine b x),fun b x=>?_,fun b h1 h2 h3 h4=>(bw w o (by omega)).trans (h.keep b h1 h2 h3 h4),h.os,h.output,h.chan,h.low,by rw [aG];omega,fun p hp=>?_⟩
 ·rw [aG]
  rcases x with x | x
  ·have:=h.own b x;omega
  ·rw [aG] at x;omega
 ·rcases x with x | x
  ·exact h.news b x
  ·exact .inr (by omega)
 ·rcases List.mem_cons.1 hp with rfl | hp
  ·exact ⟨.inl (.inr ⟨Nat.le_refl _,by rw [aG];exact Nat.lt_succ_self _⟩),fun e=>by have:=h.chan;omega,iF w o⟩
  ·obtain ⟨h1,h2,h3⟩:=h.facts p hp
   exact ⟨h1.imp .inl id,h2,(bw w o (Array.getElem?_eq_some_iff.1 h3).1).trans h3⟩
theorem H0.grown {v:Value} (h:H0 c B M ju bW S w fs) (hg:w.grownBy w' v.ownBlock) (hv:∀ g,v.ownBlock=some g->M g) (hd:∀ p∈fs,some p.1≠v.ownBlock):H0 c B M ju bW (grow S w w') w' fs:=by
 have hl:=h.low
 have hs:=h.size
 have hz:=hg.size
 refine ⟨fun b x=>?_,fun b x=>.inl (h.mine b x),fun b x=>?_,fun b h1 h2 h3 h4=>(hg.block b (by omega) (fun e=>h4 (hv b e.symm))).trans (h.keep b h1 h2 h3 h4),hg.os.trans h.os,hg.output.trans h.output,h.chan,h.low,by omega,fun p hp=>?_⟩
 ·rcases x with x | x
  ·have:=h.own b x;omega
  ·omega
 ·rcases x with x | x
  ·exact h.news b x
  ·exact .inr (by omega)
 ·obtain ⟨h1,h2,h3⟩:=h.facts p hp
  exact ⟨h1.imp .inl id,h2,(hg.block _ (Array.getElem?_eq_some_iff.1 h3).1 (hd p hp)).trans h3⟩
theorem H0.step {M' S':Nat->Prop} {fs':List (Nat×Obj)} (h:H0 c B M ju bW S w fs) (k:H0 c B M' S w S' w' fs') (hM:∀ b,M' b->M b) (hd:∀ p∈fs,¬ M' p.1):H0 c B M ju bW S' w' fs:=by
 have hl:=h.low
 have hs:=h.size
 have hz:=k.size
 refine ⟨k.own,fun b x=>k.mine b (h.mine b x),fun b x=>?_,fun b h1 h2 h3 h4=>(k.keep b (h1.imp (h.mine b) id) (by omega) h3 (fun e=>h4 (hM b e))).trans (h.keep b h1 h2 h3 h4),k.os.trans h.os,k.output.trans h.output,h.chan,h.low,by omega,fun p hp=>?_⟩
 ·rcases k.news b x with x | x
  ·exact h.news b x
  ·exact .inr (by omega)
 ·obtain ⟨h1,h2,h3⟩:=h.facts p hp
  exact ⟨h1.imp (k.mine _) id,h2,(k.keep _ h1 (Array.getElem?_eq_some_iff.1 h3).1 h2 (hd p hp)).trans h3⟩
theorem H0.less {fs':List (Nat×Obj)} (h:H0 c B M ju bW S w fs) (hs:∀ p∈fs',p∈fs):H0 c B M ju bW S w fs':={ h with facts:=fun p hp=>h.facts p (hs p hp) }
theorem H0.get (h:H0 c B M ju bW S w fs) {b:Nat} {o:Obj} (hp:(b,o)∈fs):w.heap[b]? = some o:=(h.facts _ hp).2.2
theorem H0.cell (h:H0 c B M ju bW S w fs) {b i:Nat} {cs:Array Value} {t:TypeId} {m:Nat×Nat} {v:Value} (hp:(b,Obj.cells cs t m)∈fs) (hv:cs[i]? = some v):w.cell? ⟨b,i,none⟩=some v:=by
 have:=h.get hp
 simp [World.cell?,this,hv]
theorem H0.read {M':Nat->Prop} (h:H0 c B M ju bW S w fs) {b:Nat} {o:Obj} (hp:(b,o)∈fs) {ad:Addr} (ha:ad.block=b):EvK (CA1 B M' S) ⟨.cell ad,false,false⟩ :=
 EvK.cell ⟨ad,rfl,(h.facts _ hp).1.imp (fun x=>ha▸x) (fun x=>⟨ha▸x,fun e=>by cases e⟩)⟩
theorem H0.set {b i:Nat} {v:Value} {cs:Array Value} {t:TypeId} {m:Nat×Nat} (h:H0 c B M ju bW S w ((b,.cells cs t m)::fs)) (hb:bW.heap.size<=b\/M b) (hd:∀ p∈fs,p.1≠b):H0 c B M ju bW S (w.setCell ⟨b,i,none⟩ v) ((b,.cells (cs.setIfInBounds i v) t m)::fs):=by
 refine ⟨fun k hk=>by rw [cn];exact h.own k hk,h.mine,h.news,fun k h1 h2 h3 h4=>?_,h.os,h.output,h.chan,h.low,by rw [cn];exact h.size,fun p hp=>?_⟩
 ·have hne:k≠b:=by
   rintro rfl
   rcases hb with hb | hb
   ·omega
   ·exact h4 hb
  rw [aT _ _ _ (show k≠(⟨b,i,none⟩:Addr).block from hne)];exact h.keep k h1 h2 h3 h4
 ·rcases List.mem_cons.1 hp with rfl | hp
  ·obtain ⟨h1,h2,h3⟩:=h.facts _ (.head _)
   exact ⟨h1,h2,qc h3⟩
  ·obtain ⟨h1,h2,h3⟩:=h.facts p (.tail _ hp)
   exact ⟨h1,h2,by rw [aT _ _ _ (hd p hp)];exact h3⟩
theorem tu.sets {S:Nat->Prop} {w w':World} {es:Array Event} {b:Nat} (hS:S b\/(b<B/\M b)) (hs:w'.heap.size=w.heap.size) (hb:∀ k,k≠b->w'.heap[k]? = w.heap[k]?) (he:∀ e∈es,∃ ad,e=⟨.cell ad,true,false⟩/\ad.block=b):tu B M S w w' es:=by
 refine ⟨by rw [hs];exact Nat.le_refl _,fun k _ hk hm=>hb k fun e=>?_,fun e hm=>?_⟩
 ·subst e
  exact hS.elim hk fun x=>hm x.2
 ·obtain ⟨ad,rfl,rfl⟩:=he e hm
  exact EvK.cell ⟨ad,rfl,hS.imp .inl fun x=>⟨x.1,fun _=>x.2⟩⟩
end
end Lf
end Go.Proofs.YtpbbmagjhkakgaaGreatDoor
