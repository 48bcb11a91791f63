import Derived.Test.YtpbbmagjhkakgaaGreatDoorLfLeaveToLfAlone
import Derived.Test.YtpbbmagjhkakgaaGreatDoorEvTake2ToLfTape
import Derived.Conc.CrowdComm
namespace Go.Proofs.YtpbbmagjhkakgaaGreatDoor
namespace Lf
open Go Go.Conc
variable {P : Program}
theorem idle_step {g:Goroutine} (h1:g.status≠.running) (h2:∀ t,g.status≠.sleeping t) (w:World):(∃ ops,stepT P (solo g w)=(.next (solo g w),ops))\/∃ o w' ops,stepT P (solo g w)=(.ended o w',ops):=by
 have hc:g.canRun w.os.mono=false:=by
  unfold Goroutine.canRun
  split
  ·rename_i h;exact absurd h h1
  ·rename_i h;exact absurd h (h2 _)
  ·rfl
 have hr:runnable #[g] w.os.mono=[]:=by simp [runnable_eq,List.range_succ,hc]
 have ha:ahead (solo g w) false=none:=by
  unfold ahead solo
  simp only [List.size_toArray,List.length_nil]
  cases hs:g.status with
  | sleeping t=>exact absurd hs (h2 t)
  | _=>simp [hs]
 have hd:due (solo g w).rest.timers w.os.mono=[]:=by simp [due,solo]
 have hrs:runnable (solo g w).gs (solo g w).world.os.mono=[]:=hr
 have e1:move P (solo g w)=askOn P (solo g w):=by simp [move,ask,solo]
 have hd':due (solo g w).rest.timers (solo g w).world.os.mono=[]:=hd
 have ha':ahead { world:=(solo g w).world,gs:=(solo g w).gs,rest:=(solo g w).rest } false=none:=ha
 have hany:(solo g w).gs.any (fun x=>x.status==.waiting)=(g.status==.waiting):=by simp [solo]
 rw [stepT,e1]
 unfold askOn
 simp only [hrs,hd',List.isEmpty_nil,if_true,pure,Sem.run,List.length_nil,Nat.not_lt_zero,if_false,ha',hany]
 by_cases hw:(g.status==.waiting)=true
 ·refine .inl ⟨#[],?_⟩
  simp only [hw,if_true]
 ·refine .inr ?_
  simp only [hw,if_false,Bool.false_eq_true]
  split<;>rename_i heq<;>split at heq<;>cases heq<;>exact ⟨_,_,_,rfl⟩
theorem lost_step (hP:Plain P) {g:Goroutine} (hg:Lost g) {w:World} {m':Machine} (h:step P (solo g w)=.next m'):2<=m'.gs.size\/∃ g' w',m'=solo g' w'/\Lost g':=by
 by_cases hs:g.status=.running
 ·cases hx:stepT P (solo g w) with
  | mk s ops =>
   have:s=.next m':=by have:=h;rw [step,hx] at this;exact this
   subst this
   rcases solo_step hP hg.ok hs hx with h2 | ⟨g',w',rfl,h3 | ⟨h3,_⟩⟩
   ·exact .inl h2
   ·exact .inr ⟨g',w',rfl,h3⟩
   ·exact (hg.lost.elim (fun x=>x h3) (fun x=>x hs)).elim
 ·rcases idle_step (P:=P) hs hg.awake w with ⟨ops,e⟩ | ⟨o,w',ops,e⟩
  ·rw [step,e] at h;cases h;exact .inr ⟨g,w,rfl,hg⟩
  ·rw [step,e] at h;cases h
theorem runN_size {n:Nat} {m m':Machine} (h:runN P n m=.next m'):m.gs.size<=m'.gs.size:=by
 have h1:=runNT_fst P n m #[]
 cases hx:runNT P n m #[] with
 | mk s t =>
  rw [hx] at h1
  have:s=.next m':=h1.trans h
  subst this
  exact runNT_size P n m m' #[] t hx
theorem lost_run (hP:Plain P):∀ {n:Nat} {g:Goroutine} {w:World} {g':Goroutine} {w':World},Lost g->runN P n (solo g w)=.next (solo g' w')->Lost g':=by
 intro n
 induction n with
 | zero=>intro g w g' w' hg h;simp only [runN,Stepped.next.injEq] at h;have:=congrArg (fun m:Machine=>m.gs[0]?) h;simp [solo] at this;exact this▸hg
 | succ n ih =>
  intro g w g' w' hg h
  simp only [runN] at h
  cases hs:step P (solo g w) with
  | ended o x=>rw [hs] at h;cases h
  | next m1 =>
   rw [hs] at h
   rcases lost_step hP hg hs with h2 | ⟨g1,w1,rfl,h3⟩
   ·have:=runN_size h;simp [solo] at this;omega
   ·exact ih h3 h
theorem dx.not_lost {g:Goroutine} (h:dx g):¬ Lost g:=fun x=>x.lost.elim (fun y=>y h.dying) (fun y=>y h.status)
theorem first_step (hP:Plain P) {n:Nat} {g:Goroutine} {w:World} {g':Goroutine} {w':World} (hg:dx g) (oq:dx g') (h:runN P (n+1) (solo g w)=.next (solo g' w')) :
  ∃ g1 w1 ops,stepT P (solo g w)=(.next (solo g1 w1),ops)/\dx g1/\Alone P g w g1 w1 ops/\runN P n (solo g1 w1)=.next (solo g' w'):=by
 simp only [runN] at h
 cases hx:stepT P (solo g w) with
 | mk s ops =>
  have hs:step P (solo g w)=s:=by rw [step,hx]
  rw [hs] at h
  cases s with
  | ended o x=>cases h
  | next m1 =>
   rcases solo_step hP hg.ok hg.status hx with h2 | ⟨g1,w1,rfl,h3 | ⟨_,h4⟩⟩
   ·have:=runN_size h;simp [solo] at this;omega
   ·exact absurd (lost_run hP h3 h) oq.not_lost
   ·exact ⟨g1,w1,ops,rfl,(h4 hg.offers).1,(h4 hg.offers).2,h⟩
end Lf
namespace Lf
open Go Go.Conc
variable {P : Program}
inductive Tree (P:Program) (K:Goroutine->World->Prop):Goroutine->World->Prop
 | stop {g:Goroutine} {w:World}:K g w->Tree P K g w
 | step {g:Goroutine} {w:World} (f:Tape->Nat->Goroutine×World×Array MemOp):dx g->(∀ τ d,dx (f τ d).1/\Alone P g (re w τ d) (f τ d).1 (f τ d).2.1 (f τ d).2.2/\stepT P (solo g (re w τ d))=(.next (solo (f τ d).1 (f τ d).2.1),(f τ d).2.2))->
   (∀ τ d,Tree P K (f τ d).1 (f τ d).2.1)->Tree P K g w
def Comes1 (P:Program) (K:Goroutine->World->Prop) (g:Goroutine) (w:World):Prop:=∃ n g' w',runN P n (solo g w)=.next (solo g' w')/\dx g'/\K g' w'
theorem comes_shift (hP:Plain P) {K:Goroutine->World->Prop} (hK:∀ g w τ d,K g w->K g (re w τ d)) :
  ∀ (n:Nat) {g g':Goroutine} {w w':World} {τ vX:Tape} {a b:Nat},dx g->dx g'->(∀ j,vX (b+j)=τ (a+j))->runN P n (solo g (re w τ a))=.next (solo g' w')->K g' w'->Comes1 P K g (re w vX b):=by
 intro n
 induction n with
 | zero =>
  intro g g' w w' τ vX a b hg oq hj h hk
  simp only [runN,Stepped.next.injEq] at h
  have e1:=congrArg (fun m:Machine=>m.gs[0]?) h
  have e2:=congrArg (fun m:Machine=>m.world) h
  simp [solo] at e1 e2
  subst e1
  refine ⟨0,g,re w vX b,rfl,hg,?_⟩
  rw [<- e2] at hk
  exact hK g (re w τ a) vX b hk
 | succ n ih =>
  intro g g' w w' τ vX a b hg oq hj h hk
  obtain ⟨g1,w1,ops,h1,h2,h3,h4⟩:=first_step hP hg oq h
  obtain ⟨m,e1,e2⟩:=h3.alike
  have hs:=e2 vX b (fun j _=>hj j)
  rw [re_re] at hs
  have e1':w1=re w1 τ (a+m):=e1
  rw [e1'] at h4
  obtain ⟨k,g2,w2,h5,h6,h7⟩:=ih (w:=w1) (τ:=τ) (vX:=vX) (a:=a+m) (b:=b+m) h2 oq (fun j=>by rw [Nat.add_assoc,Nat.add_assoc];exact hj _) h4 hk
  exact ⟨k+1,g2,w2,by simp only [runN,step,hs];exact h5,h6,h7⟩
theorem tree_of_comes (hP:Plain P) {K:Goroutine->World->Prop} (hK:∀ g w τ d,K g w->K g (re w τ d)) {g:Goroutine} {w:World} (hg:dx g) (h:∀ τ d,Comes1 P K g (re w τ d)):Tree P K g w:=by
 apply Classical.byContradiction
 intro hno
 let S:Goroutine×World->Prop:=fun s=>dx s.1/\(∀ τ d,Comes1 P K s.1 (re s.2 τ d))/\¬ Tree P K s.1 s.2
 have next:∀ s:{s // S s},∃ (s':{s // S s}) (τ:Tape) (d m:Nat),∀ τ2 d2,(∀ j,j<m->τ2 (d2+j)=τ (d+j))->stepT P (solo s.1.1 (re s.1.2 τ2 d2))=(.next (solo s'.1.1 (re s'.1.2 τ2 (d2+m))),(stepT P (solo s.1.1 (re s.1.2 τ d))).2):=by
  rintro ⟨⟨g,w⟩,hg,hr,hn⟩
  simp only at hg hr hn
  have hnk:¬ K g w:=fun hk=>hn (.stop hk)
  have one:∀ τ d,∃ g1 w1 ops,stepT P (solo g (re w τ d))=(.next (solo g1 w1),ops)/\dx g1/\Alone P g (re w τ d) g1 w1 ops:=by
   intro τ d
   obtain ⟨n,g',w',h1,h2,h3⟩:=hr τ d
   cases n with
   | zero =>
    simp only [runN,Stepped.next.injEq] at h1
    have e1:=congrArg (fun m:Machine=>m.gs[0]?) h1
    have e2:=congrArg (fun m:Machine=>m.world) h1
    simp [solo] at e1 e2
    subst e1
    rw [<- e2] at h3
    exact absurd (hK g (re w τ d) w.tape w.drawn h3) hnk
   | succ n =>
    obtain ⟨g1,w1,ops,a,b,c,_⟩:=first_step hP hg h2 h1
    exact ⟨g1,w1,ops,a,b,c⟩
  have bad:∃ τ d g1 w1 ops,stepT P (solo g (re w τ d))=(.next (solo g1 w1),ops)/\dx g1/\Alone P g (re w τ d) g1 w1 ops/\¬ Tree P K g1 w1:=by
   apply Classical.byContradiction
   intro nc
   have one':∀ x:Tape×Nat,∃ y:Goroutine×World×Array MemOp,stepT P (solo g (re w x.1 x.2))=(.next (solo y.1 y.2.1),y.2.2)/\dx y.1/\Alone P g (re w x.1 x.2) y.1 y.2.1 y.2.2:=fun x=>let ⟨g1,w1,ops,h⟩:=one x.1 x.2;⟨(g1,w1,ops),h⟩
   refine hn (.step (fun τ d=>Classical.choose (one' (τ,d))) hg (fun τ d=>?_) (fun τ d=>?_))
   ·obtain ⟨a,b,c⟩:=Classical.choose_spec (one' (τ,d))
    exact ⟨b,c,a⟩
   ·obtain ⟨a,b,c⟩:=Classical.choose_spec (one' (τ,d))
    apply Classical.byContradiction
    intro ht
    exact nc ⟨τ,d,_,_,_,a,b,c,ht⟩
  obtain ⟨τ,d,g1,w1,ops,a,b,c,ht⟩:=bad
  obtain ⟨m,e1,e2⟩:=c.alike
  have e1':w1=re w1 τ (d+m):=e1
  refine ⟨⟨(g1,w1),b,fun vX d'=>?_,ht⟩,τ,d,m,fun τ2 d2 h2=>?_⟩
  ·
   let τ2:Tape:=fun p=>if p<d+m then τ p else vX (p-(d+m)+d')
   have hs:=e2 τ2 d (fun j hj=>by show (if d+j<d+m then τ (d+j) else _)=τ (d+j);rw [if_pos (by omega)])
   rw [re_re] at hs
   obtain ⟨n,g',w',h1,h2,h3⟩:=hr τ2 d
   cases n with
   | zero =>
    simp only [runN,Stepped.next.injEq] at h1
    have e3:=congrArg (fun m:Machine=>m.gs[0]?) h1
    have e4:=congrArg (fun m:Machine=>m.world) h1
    simp [solo] at e3 e4
    subst e3
    rw [<- e4] at h3
    exact absurd (hK g (re w τ2 d) w.tape w.drawn h3) hnk
   | succ n =>
    simp only [runN,step,hs] at h1
    refine comes_shift hP hK n (τ:=τ2) (a:=d+m) b h2 (fun j=>?_) h1 h3
    show vX (d'+j)=(if d+m+j<d+m then τ (d+m+j) else vX (d+m+j-(d+m)+d'))
    rw [if_neg (by omega)]
    congr 1;omega
  ·have:=e2 τ2 d2 h2
   rw [re_re] at this
   rw [this,a]
 have next':∀ s:{s // S s},∃ x:{s // S s}×Tape×Nat×Nat,∀ τ2 d2,(∀ j,j<x.2.2.2->τ2 (d2+j)=x.2.1 (x.2.2.1+j))->stepT P (solo s.1.1 (re s.1.2 τ2 d2))=(.next (solo x.1.1.1 (re x.1.1.2 τ2 (d2+x.2.2.2))),(stepT P (solo s.1.1 (re s.1.2 x.2.1 x.2.2.1))).2) :=
  fun s=>let ⟨a,b,c,d,h⟩:=next s;⟨(a,b,c,d),h⟩
 let nx:{s // S s}->{s // S s}:=fun s=>(Classical.choose (next' s)).1
 let tp:{s // S s}->Tape:=fun s=>(Classical.choose (next' s)).2.1
 let pl:{s // S s}->Nat:=fun s=>(Classical.choose (next' s)).2.2.1
 let cnt:{s // S s}->Nat:=fun s=>(Classical.choose (next' s)).2.2.2
 have nh:∀ s τ2 d2,(∀ j,j<cnt s->τ2 (d2+j)=tp s (pl s+j))->stepT P (solo s.1.1 (re s.1.2 τ2 d2))=(.next (solo (nx s).1.1 (re (nx s).1.2 τ2 (d2+cnt s))),(stepT P (solo s.1.1 (re s.1.2 (tp s) (pl s)))).2):=fun s=>Classical.choose_spec (next' s)
 let s0:{s // S s}:=⟨(g,w),hg,h,hno⟩
 let sq:Nat->{s // S s}:=fun n=>Nat.rec s0 (fun _ s=>nx s) n
 let D:Nat->Nat:=fun n=>Nat.rec 0 (fun k a=>a+cnt (sq k)) n
 have hD:∀ n,D (n+1)=D n+cnt (sq n):=fun _=>rfl
 have hmono:∀ a b,a<=b->D a<=D b:=by
  intro a b hab
  induction hab with
  | refl=>exact Nat.le_refl _
  | step _ ih=>exact Nat.le_trans ih (by rw [hD];omega)
 haveI:∀ p,Decidable (∃ n,D n<=p/\p<D (n+1)):=fun _=>Classical.propDecidable _
 let τs:Tape:=fun p=>if hp:∃ n,D n<=p/\p<D (n+1) then tp (sq (Classical.choose hp)) (pl (sq (Classical.choose hp))+(p-D (Classical.choose hp))) else fun _=>0
 have hτ:∀ n j,j<cnt (sq n)->τs (D n+j)=tp (sq n) (pl (sq n)+j):=by
  intro n j hj
  have hp:∃ k,D k<=D n+j/\D n+j<D (k+1):=⟨n,by omega,by rw [hD];omega⟩
  have hc:=Classical.choose_spec hp
  have hk:Classical.choose hp=n:=by
   rcases Nat.lt_trichotomy (Classical.choose hp) n with cz | heq | hgt
   ·have:=hmono _ _ (show Classical.choose hp+1<=n from cz);omega
   ·exact heq
   ·have h1:=hmono _ _ (show n+1<=Classical.choose hp from hgt);rw [hD] at h1;omega
  show (if hp:∃ n',D n'<=D n+j/\D n+j<D (n'+1) then _ else _)=_
  rw [dif_pos hp,hk]
  congr 1;omega
 have run:∀ n,runN P n (solo g (re w τs 0))=.next (solo (sq n).1.1 (re (sq n).1.2 τs (D n))):=by
  intro n
  induction n with
  | zero=>rfl
  | succ n ih =>
   rw [runN_add,ih]
   have:=nh (sq n) τs (D n) (fun j hj=>hτ n j hj)
   simp only [runN,step,this]
   rfl
 obtain ⟨n,g',w',h1,_,h3⟩:=h τs 0
 rw [run n] at h1
 simp only [Stepped.next.injEq] at h1
 have e3:=congrArg (fun m:Machine=>m.gs[0]?) h1
 have e4:=congrArg (fun m:Machine=>m.world) h1
 simp [solo] at e3 e4
 rw [<- e3,<- e4] at h3
 exact (sq n).2.2.2 (.stop (hK _ (re (sq n).1.2 τs (D n)) (sq n).1.2.tape (sq n).1.2.drawn h3))
end Lf
namespace Lf
open Go Go.Conc
open Go.ConcN (sumTo upd sumTo_upd upd_ne upd_same)
variable {P : Program}
structure Fr (P:Program) (gs:Array Goroutine) (t:Trace) (g:Goroutine):Prop where
 zero:gs[0]? = some g
 leave:∃ q,Leavers P t gs q
 past:∃ B,Past (fun _=>False) B t
def kP (P:Program) (K:Goroutine->World->Prop) (g:Goroutine) (w:World):Prop :=
 ∀ gs sl t,Fr P gs t g->∃ N mN g' w' jo t',runNT P N (crowd gs w sl) t=(.next (crowd mN w' jo),t')/\Fr P mN t' g'/\K g' w'
theorem runNT_app {m m' m'':Machine} {t t' t'':Trace} {N M:Nat} (h:runNT P N m t=(.next m',t')) (hk:runNT P M m' t'=(.next m'',t'')):runNT P (N+M) m t=(.next m'',t''):=by
 rw [runNT_add,h];exact hk
theorem kP.here {K:Goroutine->World->Prop} {g:Goroutine} {w:World} (h:K g w):kP P K g w:=fun gs sl t hf=>⟨0,gs,g,w,sl,t,rfl,hf,h⟩
theorem kP.trans {K L:Goroutine->World->Prop} {g:Goroutine} {w:World} (h:kP P K g w) (hk:∀ g' w',K g' w'->kP P L g' w'):kP P L g w:=by
 intro gs sl t hf
 obtain ⟨N,gs1,g1,w1,sl1,t1,h1,h2,h3⟩:=h gs sl t hf
 obtain ⟨M,gs2,g2,w2,sl2,t2,h4,h5,h6⟩:=hk g1 w1 h3 gs1 sl1 t1 h2
 exact ⟨N+M,gs2,g2,w2,sl2,t2,runNT_app h1 h4,h5,h6⟩
theorem kP.mono {K L:Goroutine->World->Prop} {g:Goroutine} {w:World} (h:kP P K g w) (hk:∀ g' w',K g' w'->L g' w'):kP P L g w:=h.trans fun g' w' x=>.here (hk g' w' x)
theorem low_any (act:MemAct):∃ B,act.low B:=by
 cases act with
 | access e =>
  obtain ⟨loc,wr,sy⟩:=e
  cases loc with
  | cell a=>exact ⟨a.block+1,Nat.lt_succ_self _⟩
  | obj r=>exact ⟨r+1,Nat.lt_succ_self _⟩
  | _=>exact ⟨0,trivial⟩
 | mark m =>
  cases m with
  | acquire a=>exact ⟨a.block+1,Nat.lt_succ_self _⟩
  | release a=>exact ⟨a.block+1,Nat.lt_succ_self _⟩
  | releaseMerge a=>exact ⟨a.block+1,Nat.lt_succ_self _⟩
  | read a=>exact ⟨a.block+1,Nat.lt_succ_self _⟩
  | write a=>exact ⟨a.block+1,Nat.lt_succ_self _⟩
  | _=>exact ⟨0,trivial⟩
 | go _=>exact ⟨0,trivial⟩
 | start=>exact ⟨0,trivial⟩
 | send c _=>exact ⟨c+1,Nat.lt_succ_self _⟩
 | sendDone c _=>exact ⟨c+1,Nat.lt_succ_self _⟩
 | recv c _ _=>exact ⟨c+1,Nat.lt_succ_self _⟩
 | recvDone c _=>exact ⟨c+1,Nat.lt_succ_self _⟩
 | close c=>exact ⟨c+1,Nat.lt_succ_self _⟩
 | recvClosed c=>exact ⟨c+1,Nat.lt_succ_self _⟩
theorem vk (ops:Array MemOp) (B:Nat):∃ B',B<=B'/\∀ op∈ops,op.act.low B':=by
 obtain ⟨l⟩:=ops
 induction l with
 | nil=>exact ⟨B,Nat.le_refl _,by simp⟩
 | cons a l ih =>
  obtain ⟨B1,h1,h2⟩:=ih
  obtain ⟨B2,h3⟩:=low_any a.act
  refine ⟨max B1 B2,Nat.le_trans h1 (Nat.le_max_left _ _),fun op aN=>?_⟩
  simp at aN
  rcases aN with rfl | aN
  ·exact MemAct.low_mono (Nat.le_max_right _ _) h3
  ·exact MemAct.low_mono (Nat.le_max_left _ _) (h2 op (by simpa using aN))
theorem Fr.own {gs:Array Goroutine} {t:Trace} {g g':Goroutine} (hf:Fr P gs t g) {ops:Array MemOp} {f:Goroutine->Goroutine} (h1:∀ op∈ops,op.g=0) (h2:Deaf t 0=0->Deaf (t++ops) 0=0) (h3:∀ x,(x.status=.running\/x.status=.finished)->f x=x) :
  Fr P ((gs.map f).setIfInBounds 0 g') (t++ops) g':=by
 obtain ⟨h0,⟨q,hL⟩,⟨B,hB⟩⟩:=hf
 have cz:0<gs.size:=(Array.getElem?_eq_some_iff.1 h0).1
 obtain ⟨B',a_,cB⟩:=vk ops B
 refine ⟨by simp [cz],⟨q,fun j x hj hx=>?_,fun j hj=>?_⟩,⟨B',?_⟩⟩
 ·have hne:0≠j:=by omega
  rw [Array.getElem?_setIfInBounds_ne hne,Array.getElem?_map] at hx
  obtain ⟨y,hy,rfl⟩:=Option.map_eq_some_iff.1 hx
  have hq:=hL.old j y hj hy
  rw [h3 y hq.status,Deaf_other t (by omega) ops h1]
  exact hq
 ·rw [Deaf_other t (g':=0) (by simp at hj;omega) ops h1]
  exact hL.above j (by simpa using hj)
 ·refine (hB.mono a_).app0 h1 (fun _ _ _ _ h=>h.elim) ?_ cB
  rw [h2 hB.hears,hB.hears]
theorem tree_leads {K:Goroutine->World->Prop} {g:Goroutine} {w:World} (h:Tree P K g w):kP P K g w:=by
 induction h with
 | stop hk=>exact .here hk
 | @step g w f hg h1 _ ih =>
  have main:∀ (M:Nat) (gs:Array Goroutine) (d0:Nat) (sl:Option (Nat×Nat)) (t:Trace) (q:Nat->Nat),sumTo gs.size q<=M->gs[0]? = some g->Leavers P t gs q->(∃ B,Past (fun _=>False) B t)->
    ∃ N mN g' w' jo t',runNT P N (crowd gs (w.at d0) sl) t=(.next (crowd mN w' jo),t')/\Fr P mN t' g'/\K g' w':=by
   intro M
   induction M using Nat.strongRecOn with
   | _ M ihM =>
    intro gs d0 sl t q hM h0 hL hB
    have haw:∀ x∈gs,awake x:=by
     intro x hx
     obtain ⟨i,hi,rfl⟩:=Array.mem_iff_getElem.1 hx
     rcases Nat.eq_zero_or_pos i with rfl | fE
     ·have:gs[0]=g:=by simpa [Array.getElem?_eq_getElem hi] using h0
      rw [this];exact awake_of (.inl hg.status)
     ·exact awake_of ((hL.old i _ fE (Array.getElem?_eq_getElem hi)).status.elim .inl fun x=>.inr (.inr x))
    obtain ⟨i,x,d,jo,hi,hx,df⟩:=crowd_pick (P:=P) (w:=w.at d0) (sl:=sl) haw ⟨0,g,h0,hg.status⟩
    have hw:(w.at d0).at d=re w w.tape d:=rfl
    rw [hw] at df
    rcases Nat.eq_zero_or_pos i with rfl | fE
    ·
     obtain rfl:x=g:=by rw [h0] at hi;exact (Option.some.inj hi).symm
     obtain ⟨a1,a2,a3⟩:=h1 w.tape d
     obtain ⟨fw,b1,b2⟩:=a2.beside gs jo h0 (fun j y hj hy=>(hL.old j y hj hy).status)
     have hfr:=Fr.own (P:=P) (g':=(f w.tape d).1) ⟨h0,⟨q,hL⟩,hB⟩ a2.own (a2.hears t) b1
     obtain ⟨N,mN,g',w',sl'',t',c1,c2,c3⟩:=ih w.tape d _ jo _ hfr
     exact ⟨N+1,mN,g',w',sl'',t',by simp only [runNT,df,b2];exact c1,c2,c3⟩
    ·
     have hq:=hL.old i x fE hi
     have ix:(i==0)=false:=by simp;omega
     have cz:i<gs.size:=(Array.getElem?_eq_some_iff.1 hi).1
     cases hqi:q i with
     | zero=>rw [hqi] at hq;rw [hq.1] at hx;cases hx
     | succ k =>
      rw [hqi] at hq
      rcases hq with ⟨bH,_⟩ | ⟨_,x',es,hm,hstp,hq'⟩
      ·rw [bH] at hx;cases hx
      have hrunT:=runT_crowd_go (P:=P) (w:=re w w.tape d) (sl:=jo) (i:=i) hi (by rw [ix];exact hstp (re w w.tape d))
      have oK:((gs.map (woken P x x' (re w w.tape d))).setIfInBounds i x').size=gs.size:=by simp
      have hsum:sumTo gs.size (upd q i k)+(k+1)=sumTo gs.size q+k:=by
       have:=sumTo_upd q k id cz
       simpa [hqi] using this
      obtain ⟨B,hB⟩:=hB
      obtain ⟨N,mN,g',w',sl'',t',c1,c2,c3⟩:=ihM (sumTo gs.size (upd q i k)) (by omega) ((gs.map (woken P x x' (re w w.tape d))).setIfInBounds i x') d jo (t++MemOp.ofEvents i x.frame.fn x.frame.place es) (upd q i k) (by rw [oK];exact Nat.le_refl _)
       (by
        have hne:i≠0:=by omega
        rw [Array.getElem?_setIfInBounds_ne hne,Array.getElem?_map,h0]
        simp [woken_running hg.status])
       ⟨fun j y hj hy=>by
        by_cases mO:i=j
        ·subst mO
         rw [Array.getElem?_setIfInBounds_self_of_lt (by simpa using cz)] at hy
         obtain rfl:=Option.some.inj hy
         rw [upd_same,Deaf_own]
         exact hq'
        ·rw [Array.getElem?_setIfInBounds_ne mO,Array.getElem?_map] at hy
         obtain ⟨z,hz,rfl⟩:=Option.map_eq_some_iff.1 hy
         have hqj:=hL.old j z hj hz
         rw [woken_quitsD hqj,upd_ne q k (Ne.symm mO),Deaf_other t mO _ (fun op aN=>by obtain ⟨e,_,rfl⟩:=Go.Conc.mem_ofEvents aN;rfl)]
         exact hqj,fun j hj=>by
        rw [Deaf_other t (g':=i) (by simp at hj;omega) _ (fun op aN=>by obtain ⟨e,_,rfl⟩:=Go.Conc.mem_ofEvents aN;rfl)]
        exact hL.above j (by simpa using hj)⟩
       ⟨B,hB.mute (by omega) hm⟩
      exact ⟨N+1,mN,g',w',sl'',t',by simp only [runNT,df,hrunT];exact c1,c2,c3⟩
  intro gs sl t hf
  obtain ⟨h0,⟨q,hL⟩,hB⟩:=hf
  exact main _ gs w.drawn sl t q (Nat.le_refl _) h0 hL hB
end Lf
namespace Lf
open Go Go.Conc
open Go.ConcN (sumTo upd sumTo_upd upd_ne upd_same)
variable {P : Program}
theorem gq (t:Trace) {g:Nat} (u:Trace) (hu:∀ op∈u,op.g≠g):Deaf (t++u) g=Deaf t g:=by
 have key:∀ (l:List MemOp) (d:Nat),(∀ op∈l,op.g≠g)->l.foldl (deafStep g) d=d:=by
  intro l
  induction l with
  | nil=>intro d _;rfl
  | cons y l ih =>
   intro d h
   have hy:y.g≠g:=h y (by simp)
   have:deafStep g d y=d:=by
    unfold deafStep
    split<;>simp_all
   rw [List.foldl_cons,this]
   exact ih d fun op aN=>h op (by simp [aN])
 have e:(t++u:Trace)=t++u.toList.toArray:=by simp
 rw [e,Deaf_append]
 exact key _ _ fun op aN=>hu op (by simpa using aN)
structure ot (P:Program) (skip:Nat->Prop) (t:Trace) (gs:Array Goroutine) (q:Nat->Nat):Prop where
 old:∀ i g,0<i->¬ skip i->gs[i]? = some g->QuitsD P (q i) (Deaf t i) g
 above:∀ j,gs.size<=j->Deaf t j=0
theorem ot.of {t:Trace} {gs:Array Goroutine} {q:Nat->Nat} (h:Leavers P t gs q) (skip:Nat->Prop):ot P skip t gs q:=⟨fun i g h0 _ hg=>h.old i g h0 hg,h.above⟩
theorem ot.all {t:Trace} {gs:Array Goroutine} {q:Nat->Nat} (h:ot P (fun _=>False) t gs q):Leavers P t gs q:=⟨fun i g h0 hg=>h.old i g h0 (fun x=>x) hg,h.above⟩
theorem ot.turn {skip:Nat->Prop} {t u:Trace} {gs mN:Array Goroutine} {q:Nat->Nat} (h:ot P skip t gs q) (hs:mN.size=gs.size) (hg:∀ i x,0<i->¬ skip i->mN[i]? = some x->gs[i]? = some x) (hu:∀ op∈u,(op.g=0\/skip op.g)/\op.g<gs.size):ot P skip (t++u) mN q:=by
 refine ⟨fun i x h0 hk hx=>?_,fun j hj=>?_⟩
 ·rw [gq t u fun op aN e=>?_]
  ·exact h.old i x h0 hk (hg i x h0 hk hx)
  ·rcases (hu op aN).1 with h1 | h1
   ·omega
   ·exact hk (e▸h1)
 ·rw [gq t u fun op aN e=>?_]
  ·exact h.above j (by omega)
  ·have:=(hu op aN).2;omega
theorem slip {skip:Nat->Prop} {gs:Array Goroutine} {t:Trace} {q:Nat->Nat} {w:World} {sl:Option (Nat×Nat)} {i:Nat} {x:Goroutine} (hL:ot P skip t gs q) (hi:gs[i]? = some x) (hx:x.status=.running) (fE:0<i) (hsk:¬ skip i) :
  ∃ (mN:Array Goroutine) (u:Trace) (q':Nat->Nat),runT P (crowd gs w sl) i=(.next (crowd mN w sl),u)/\mN.size=gs.size/\sumTo gs.size q'<sumTo gs.size q/\ot P skip (t++u) mN q'/\
   (∀ op∈u,op.g=i/\op.act.touch? = none/\∀ B,op.act.low B)/\∀ j y,(j=0\/skip j)->gs[j]? = some y->(∀ a a',woken P a a' w y=y)->mN[j]? = some y:=by
 have hq:=hL.old i x fE hsk hi
 have ix:(i==0)=false:=by simp;omega
 have cz:i<gs.size:=(Array.getElem?_eq_some_iff.1 hi).1
 cases hqi:q i with
 | zero=>rw [hqi] at hq;rw [hq.1] at hx;cases hx
 | succ k =>
  rw [hqi] at hq
  rcases hq with ⟨bH,_⟩ | ⟨_,x',es,hm,hstp,hq'⟩
  ·rw [bH] at hx;cases hx
  have hrunT:=runT_crowd_go (P:=P) (w:=w) (sl:=sl) (i:=i) hi (by rw [ix];exact hstp w)
  have cE:∀ op∈MemOp.ofEvents i x.frame.fn x.frame.place es,op.g=i:=fun op aN=>by obtain ⟨e,_,rfl⟩:=Go.Conc.mem_ofEvents aN;rfl
  refine ⟨(gs.map (woken P x x' w)).setIfInBounds i x',MemOp.ofEvents i x.frame.fn x.frame.place es,upd q i k,hrunT,by simp,?_,⟨fun j y hj hjs hy=>?_,fun j hj=>?_⟩,fun op aN=>?_,fun j y hj hy hw=>?_⟩
  ·have hsum:sumTo gs.size (upd q i k)+(k+1)=sumTo gs.size q+k:=by
    have:=sumTo_upd q k id cz
    simpa [hqi] using this
   omega
  ·by_cases mO:i=j
   ·subst mO
    rw [Array.getElem?_setIfInBounds_self_of_lt (by simpa using cz)] at hy
    obtain rfl:=Option.some.inj hy
    rw [upd_same,Deaf_own]
    exact hq'
   ·rw [Array.getElem?_setIfInBounds_ne mO,Array.getElem?_map] at hy
    obtain ⟨z,hz,rfl⟩:=Option.map_eq_some_iff.1 hy
    have hqj:=hL.old j z hj hjs hz
    rw [woken_quitsD hqj,upd_ne q k (Ne.symm mO),gq t _ (fun op aN e=>mO ((cE op aN).symm.trans e))]
    exact hqj
  ·rw [gq t _ (fun op aN e=>by have:=cE op aN;simp at hj;omega)]
   exact hL.above j (by simpa using hj)
  ·obtain ⟨e,he,rfl⟩:=Go.Conc.mem_ofEvents aN
   exact ⟨rfl,touch_mute (hm e he),low_mute (hm e he)⟩
  ·have hne:i≠j:=by
    rintro rfl
    rcases hj with h | h
    ·omega
    ·exact hsk h
   rw [Array.getElem?_setIfInBounds_ne hne,Array.getElem?_map,hy]
   simp [hw]
def EvK (C:Touch->Prop) (e:Event):Prop:=(∀ x,(MemAct.ofEvent e).touch? = some x->x.loc.isMemory=true->C x)/\e.loc≠.mark .disable/\e.loc≠.mark .enable
structure Apt (B:Nat) (S T:Nat->Prop) (w:World):Prop where
 s:∀ b,S b->B<=b/\b<w.heap.size
 t:∀ b,T b->B<=b/\b<w.heap.size
 st:∀ b,S b->¬ T b
 low:B<=w.heap.size
theorem Apt.same {B:Nat} {S T:Nat->Prop} {w w':World} (h:Apt B S T w) (e:w'.heap.size=w.heap.size):Apt B S T w':=⟨fun b x=>by rw [e];exact h.s b x,fun b x=>by rw [e];exact h.t b x,h.st,by rw [e];exact h.low⟩
theorem Apt.grow0 {B:Nat} {S T:Nat->Prop} {w w':World} (h:Apt B S T w) (e:w.heap.size<=w'.heap.size):Apt B (grow S w w') T w' :=
 ⟨fun b x=>by
  rcases x with x | x
  ·have:=h.s b x;omega
  ·have:=h.low;omega,fun b x=>by have:=h.t b x;omega,fun b x y=>by
  rcases x with x | x
  ·exact h.st b x y
  ·have:=h.t b y;omega,by have:=h.low;omega⟩
theorem Apt.growC {B:Nat} {S T:Nat->Prop} {w w':World} (h:Apt B S T w) (e:w.heap.size<=w'.heap.size):Apt B S (grow T w w') w' :=
 ⟨fun b x=>by have:=h.s b x;omega,fun b x=>by
  rcases x with x | x
  ·have:=h.t b x;omega
  ·have:=h.low;omega,fun b x y=>by
  rcases y with y | y
  ·exact h.st b x y
  ·have:=h.s b x;omega,by have:=h.low;omega⟩
structure Pair (c B:Nat) (R0:(Nat->Prop)->World->World->Prop) (D0:(Nat->Prop)->World->World->Array Event->Prop) (RB:(Nat->Prop)->World->World->Prop) (DB:(Nat->Prop)->World->World->Array Event->Prop) (CA CB:(Nat->Prop)->Touch->Prop):Prop where
 t0:dh R0 D0
 tB:dh RB DB
 refl0:∀ S w,R0 S w w
 reflB:∀ S w,RB S w w
 at0:∀ S (w:World) (d:Nat),R0 S w (w.at d)
 atB:∀ S (w:World) (d:Nat),RB S w (w.at d)
 put0:∀ S (w:World) n buf cl s r tm,R0 S w (w.setChan c n buf cl s r tm)
 putB:∀ S (w:World) n buf cl s r tm,RB S w (w.setChan c n buf cl s r tm)
 d0:∀ S T w w' es,Apt B S T w->D0 S w w' es->RB T w w'/\w'.heap[c]? = w.heap[c]?/\(∀ e∈es,EvK (CA (grow S w w')) e)/\w.heap.size<=w'.heap.size
 dB:∀ S T w w' es,Apt B S T w->DB T w w' es->R0 S w w'/\w'.heap[c]? = w.heap[c]?/\(∀ e∈es,EvK (CB (grow T w w')) e)/\w.heap.size<=w'.heap.size
 mono:∀ S S',(∀ b,S b->S' b)->(∀ a,CA S a->CA S' a)/\(∀ a,CB S a->CB S' a)
 apart:∀ S T w,Apt B S T w->ApartT (CA S) (CB T)
theorem grow_sub (S:Nat->Prop) (w w':World):∀ b,S b->grow S w w' b:=fun _ h=>.inl h
theorem fV (w:World) (c n:Nat) (buf:Array Value) (cl:Bool) (s r:Nat) (tm:Bool):(w.setChan c n buf cl s r tm).heap.size=w.heap.size:=by simp [World.setChan]
section
theorem ops_own {C:Touch->Prop} {g:Nat} {fn:FuncId} {pos:String} {es:Array Event} (h:∀ e∈es,EvK C e):(∀ op∈MemOp.ofEvents g fn pos es,op.g=g)/\(∀ op∈MemOp.ofEvents g fn pos es,∀ b,op.act.touch? = some b->b.loc.isMemory=true->C b)/\∀ t:Trace,Deaf (t++MemOp.ofEvents g fn pos es) g=Deaf t g :=
 ⟨fun op aN=>by obtain ⟨e,_,rfl⟩:=Go.Conc.mem_ofEvents aN;rfl,fun op aN b hb hm=>by obtain ⟨e,he,rfl⟩:=Go.Conc.mem_ofEvents aN;exact (h e he).1 b hb hm,fun t=>by rw [Deaf_own];exact deafBehind_still (fun e he=>(h e he).2) _⟩
theorem TI.evs0 {hc:Prop} {κ B:Nat} {A C:Touch->Prop} {t:Trace} (oL:κ≠0) (hA:ApartT A C) (h:TI hc κ B A C t) {fn:FuncId} {pos:String} {es:Array Event} (hes:∀ e∈es,EvK A e):∃ B',B<=B'/\TI hc κ B' A C (t++MemOp.ofEvents 0 fn pos es):=by
 obtain ⟨h1,h2,h3⟩:=ops_own (g:=0) (fn:=fn) (pos:=pos) hes
 obtain ⟨B',hb,hl⟩:=vk (MemOp.ofEvents 0 fn pos es) B
 exact ⟨B',hb,(h.mono hb (fun _ x=>x) (fun _ x=>x)).app0 oL hA h1 h2 ((h3 t).trans h.hears) hl⟩
theorem TI.evsC {hc:Prop} {κ B:Nat} {A C:Touch->Prop} {t:Trace} (oL:κ≠0) (hA:ApartT A C) (h:TI hc κ B A C t) {fn:FuncId} {pos:String} {es:Array Event} (hes:∀ e∈es,EvK C e):∃ B',B<=B'/\TI hc κ B' A C (t++MemOp.ofEvents κ fn pos es):=by
 obtain ⟨h1,h2,h3⟩:=ops_own (g:=κ) (fn:=fn) (pos:=pos) hes
 obtain ⟨B',hb,hl⟩:=vk (MemOp.ofEvents κ fn pos es) B
 exact ⟨B',hb,(h.mono hb (fun _ x=>x) (fun _ x=>x)).appC oL hA h1 h2 (fun x=>(h3 t).trans (h.rA x)) hl⟩
theorem TI.still {hc:Prop} {κ B:Nat} {A C:Touch->Prop} {t u:Trace} (h:TI hc κ B A C t) (hn:∀ op∈u,op.act.touch? = none) (hd:∀ op∈u,(op.g≠0\/(op.act≠.mark .disable/\op.act≠.mark .enable))/\(op.g≠κ\/(op.act≠.mark .disable/\op.act≠.mark .enable)\/¬ hc)):∃ B',B<=B'/\TI hc κ B' A C (t++u):=by
 have still:∀ g,(∀ op∈u,op.g≠g\/(op.act≠.mark .disable/\op.act≠.mark .enable))->Deaf (t++u) g=Deaf t g:=by
  intro g hg
  have key:∀ (l:List MemOp) (d:Nat),(∀ op∈l,op.g≠g\/(op.act≠.mark .disable/\op.act≠.mark .enable))->l.foldl (deafStep g) d=d:=by
   intro l
   induction l with
   | nil=>intro d _;rfl
   | cons y l ih =>
    intro d h
    have hy:=h y (by simp)
    have:deafStep g d y=d:=by
     unfold deafStep
     split<;>simp_all
    rw [List.foldl_cons,this]
    exact ih d fun op aN=>h op (by simp [aN])
  have e:(t++u:Trace)=t++u.toList.toArray:=by simp
  rw [e,Deaf_append]
  exact key _ _ fun op aN=>hg op (by simpa using aN)
 obtain ⟨B',hb,hl⟩:=vk u B
 refine ⟨B',hb,(h.mono hb (fun _ x=>x) (fun _ x=>x)).appMute hn ((still 0 fun op aN=>(hd op aN).1).trans h.hears) (fun x=>(still κ fun op aN=>?_).trans (h.rA x)) hl⟩
 rcases (hd op aN).2 with y | y | y
 ·exact .inl y
 ·exact .inr y
 ·exact absurd x y
end
end Lf
namespace Lf
open Go Go.Conc
open Go.ConcN (sumTo upd sumTo_upd upd_ne upd_same)
variable {P : Program}
section
variable (P : Program) (c : Nat) (z : Value) (R0 : (Nat → Prop) → World → World → Prop) (D0 : (Nat → Prop) → World → World → Array Event → Prop) (RB : (Nat → Prop) → World → World → Prop) (DB : (Nat → Prop) → World → World → Array Event → Prop) (CA CB : (Nat → Prop) → Touch → Prop) (n : Nat)
def AtR (S:Nat->Prop) (g:Goroutine) (w:World):Prop:=∀ w₁,R0 S w w₁->∃ es,stepG P true g w₁=.comm g #[rcase c z] true (.recv true) w₁ es/\∀ e∈es,EvK (CA S) e
inductive SA (K:Goroutine->World->Prop):List Value->(Nat->Prop)->Goroutine->World->Prop
 | own {L:List Value} {S:Nat->Prop} {g:Goroutine} {w:World} (f:World->Goroutine×World×Array Event):g.status=.running->(∀ w₁,R0 S w w₁->stepG P true g w₁=.go (f w₁).1 (f w₁).2.1 (f w₁).2.2/\D0 S w₁ (f w₁).2.1 (f w₁).2.2)->(∀ w₁,R0 S w w₁->SA K L (grow S w₁ (f w₁).2.1) (f w₁).1 (f w₁).2.1)->SA K L S g w
 | recv {v:Value} {L:List Value} {S:Nat->Prop} {g:Goroutine} {w:World}:g.status=.running->AtR P c z R0 CA S g w->(∀ w₁,R0 S w w₁->SA K L S (Go.Conc.served g (recvd true v true)) w₁)->SA K (v::L) S g w
 | fin {S:Nat->Prop} {g:Goroutine} {w:World}:g.status=.running->AtR P c z R0 CA S g w->(∀ w₁,R0 S w w₁->K (Go.Conc.served g (recvd true z false)) w₁)->SA K [] S g w
inductive SB:List Value->(Nat->Prop)->Goroutine->World->Prop
 | own {L:List Value} {T:Nat->Prop} {g:Goroutine} {w:World} (f:World->Goroutine×World×Array Event):g.status=.running->(∀ w₁,RB T w w₁->stepG P false g w₁=.go (f w₁).1 (f w₁).2.1 (f w₁).2.2/\DB T w₁ (f w₁).2.1 (f w₁).2.2)->(∀ w₁,RB T w w₁->SB L (grow T w₁ (f w₁).2.1) (f w₁).1 (f w₁).2.1)->SB L T g w
 | send {v y:Value} {L:List Value} {T:Nat->Prop} {g:Goroutine} {w:World}:g.status=.running->(∀ w₁,RB T w w₁->∃ es,stepG P false g w₁=.comm g #[scase c v y] true .send w₁ es/\∀ e∈es,EvK (CB T) e)->(∀ w₁,RB T w w₁->SB L T (Go.Conc.served g undef) w₁)->SB (v::L) T g w
 | close {T:Nat->Prop} {g g':Goroutine} {w:World} {q:Nat}:g.status=.running->mayWake P g=true->(∀ w₁ buf s r,RB T w w₁->w₁.heap[c]? = some (.chan n buf false s r false)->∃ es:Array Event,stepG P false g w₁=.go g' (w₁.setChan c n buf true s r false) (es.push ⟨.obj c,true,true⟩)/\∀ e∈es,EvK (CB T) e)->QuitsD P q 0 g'->SB [] T g w
end
section
variable {c : Nat} {z : Value} {iN : Nat} {R0 : (Nat → Prop) → World → World → Prop} {D0 : (Nat → Prop) → World → World → Array Event → Prop} {RB : (Nat → Prop) → World → World → Prop} {DB : (Nat → Prop) → World → World → Array Event → Prop} {CA CB : (Nat → Prop) → Touch → Prop} {n : Nat} {K : Goroutine → World → Prop}
theorem SA.running {L:List Value} {S:Nat->Prop} {g:Goroutine} {w:World} (h:SA P c z R0 D0 CA K L S g w):g.status=.running:=by cases h<;>assumption
theorem SA.rely (H:Pair c iN R0 D0 RB DB CA CB) {L:List Value} {S:Nat->Prop} {g:Goroutine} {w w':World} (h:SA P c z R0 D0 CA K L S g w) (hr:R0 S w w'):SA P c z R0 D0 CA K L S g w':=by
 cases h with
 | own f h1 h2 h3=>exact .own f h1 (fun w₁ h₁=>h2 w₁ (H.t0.trans _ _ _ _ hr h₁)) (fun w₁ h₁=>h3 w₁ (H.t0.trans _ _ _ _ hr h₁))
 | recv h1 h2 h3=>exact .recv h1 (fun w₁ h₁=>h2 w₁ (H.t0.trans _ _ _ _ hr h₁)) (fun w₁ h₁=>h3 w₁ (H.t0.trans _ _ _ _ hr h₁))
 | fin h1 h2 h3=>exact .fin h1 (fun w₁ h₁=>h2 w₁ (H.t0.trans _ _ _ _ hr h₁)) (fun w₁ h₁=>h3 w₁ (H.t0.trans _ _ _ _ hr h₁))
structure kZ (x g:Goroutine):Prop where
 status:x.status=.running
 frame:x.frame=g.frame
 callers:x.callers=g.callers
 dying:x.dying=g.dying
theorem kZ.step {x g:Goroutine} (h:kZ x g) (main:Bool) (w:World):stepG P main x w=stepG P main g w:=stepG_same h.frame h.callers h.dying w
theorem kZ.self {g:Goroutine} (h:g.status=.running):kZ g g:=⟨h,rfl,rfl,rfl⟩
def eN (P:Program) (K:Goroutine->World->Prop) (m:Machine) (t:Trace):Prop:=∃ N mN g' w' jo t',runNT P N m t=(.next (crowd mN w' jo),t')/\Fr P mN t' g'/\K g' w'
theorem eN.step {m m':Machine} {t:Trace} {u:Trace} (h:stepT P m=(.next m',u)) (h':eN P K m' (t++u)):eN P K m t:=by
 obtain ⟨N,mN,g',w',jo,t',h1,h2⟩:=h'
 exact ⟨N+1,mN,g',w',jo,t',by simp only [runNT,h];exact h1,h2⟩
theorem iH {gs:Array Goroutine} {i r:Nat} {send:Bool} (h:∀ (j:Nat) (g:Goroutine),j≠i->gs[j]? = some g->g.status≠.blocked):partners (gs.setIfInBounds i ph) r send=[]:=by
 refine partners_nil fun j g hg=>?_
 rcases getElem?_stand gs i j g hg with ⟨_,rfl⟩ | ⟨hne,oq⟩
 ·exact offersAt_ph r send
 ·exact offersAt_of_not_blocked (h j g hne oq) r send
theorem gN {w:World} {c cap s r mq s' r':Nat} {buf buf':Array Value} {cl cl' tm tm':Bool} (h:w.heap[c]? = some (.chan mq buf' cl' s' r' tm')):(w.setChan c cap buf cl s r tm).heap[c]? = some (.chan cap buf cl s r tm):=heap_put h
theorem take_head {buf:Array Value} {v:Value} {L:List Value} (hl:v::L=buf.toList):0<buf.size/\buf.getD 0 undef=v/\(buf.extract 1 buf.size).toList=L:=by
 obtain ⟨l⟩:=buf
 simp only at hl
 subst hl
 simp [Array.getD_eq_getD_getElem?]
theorem phase_shut (H:Pair c iN R0 D0 RB DB CA CB) {κ:Nat} (oL:κ≠0) {L:List Value} {S:Nat->Prop} {g:Goroutine} {w:World} (hA:SA P c z R0 D0 CA K L S g w) :
  ∀ (M:Nat) (T:Nat->Prop) (gs:Array Goroutine) (x:Goroutine) (bF:World) (sl:Option (Nat×Nat)) (t:Trace) (q:Nat->Nat) (buf:Array Value) (s r:Nat),sumTo gs.size q<=M->Apt iN S T bF->R0 S w bF->kZ x g->gs[0]? = some x->κ<gs.size->
   ot P (fun _=>False) t gs q->(∃ B,TI False κ B (CA S) (CB T) t)->Shut κ c t->bF.heap[c]? = some (.chan n buf true s r false)->L=buf.toList->eN P K (crowd gs bF sl) t:=by
 induction hA with
 | @own L S g w f hs h1 h2 ih =>
  intro M
  induction M using Nat.strongRecOn with
  | _ M ihM =>
   intro T gs x bF sl t q buf s r hM hAp hR hx h0 hk hL hT hS hc hl
   have haw:∀ y∈gs,awake y:=by
    intro y hy
    obtain ⟨i,hi,rfl⟩:=Array.mem_iff_getElem.1 hy
    rcases Nat.eq_zero_or_pos i with rfl | fE
    ·have:gs[0]=x:=by simpa [Array.getElem?_eq_getElem hi] using h0
     rw [this];exact awake_of (.inl hx.status)
    ·exact awake_of ((hL.old i _ fE (fun x=>x) (Array.getElem?_eq_getElem hi)).status.elim .inl fun x=>.inr (.inr x))
   obtain ⟨i,y,d,jo,hi,hy,df⟩:=crowd_pick (P:=P) (w:=bF) (sl:=sl) haw ⟨0,x,h0,hx.status⟩
   have hR':=H.t0.trans _ _ _ _ hR (H.at0 _ bF d)
   obtain ⟨B,hT⟩:=hT
   have hT':=hT
   have hAp':Apt iN S T (bF.at d):=hAp.same rfl
   rcases Nat.eq_zero_or_pos i with rfl | fE
   ·obtain rfl:y=x:=by rw [h0] at hi;exact (Option.some.inj hi).symm
    obtain ⟨a1,a2⟩:=h1 _ hR'
    have hgo:=(hx.step (P:=P) true (bF.at d)).trans a1
    obtain ⟨b1,b2,b3,b4⟩:=H.d0 _ _ _ _ _ hAp' a2
    have dQ:=runT_crowd_go (P:=P) (w:=bF.at d) (sl:=jo) (i:=0) hi (show stepG P (0==0) y (bF.at d)=_ from hgo)
    have cz:0<gs.size:=(Array.getElem?_eq_some_iff.1 h0).1
    have hmn:=H.mono _ _ (grow_sub S (bF.at d) (f (bF.at d)).2.1)
    obtain ⟨B',_,rZ⟩:=(hT'.mono (Nat.le_refl B) hmn.1 (fun _ x=>x)).evs0 oL (H.apart _ _ _ (hAp'.grow0 b4)) (fn:=y.frame.fn) (pos:=y.frame.place) b3
    refine eN.step (df.trans dQ) (ih _ hR' _ T _ _ _ jo _ q buf s r (Nat.le_refl _) (hAp'.grow0 b4) (H.refl0 _ _) (kZ.self (h2 _ hR').running) (by simp [cz]) (by simpa using hk) ?_ ⟨B',rZ⟩ ?_ (b2.trans hc) hl)
    ·refine hL.turn (by simp) (fun j v hj _ hv=>?_) (fun op aN=>by obtain ⟨e,_,rfl⟩:=Go.Conc.mem_ofEvents aN;exact ⟨.inl rfl,cz⟩)
     rw [Array.getElem?_setIfInBounds_ne (by omega),Array.getElem?_map] at hv
     obtain ⟨z',hz,rfl⟩:=Option.map_eq_some_iff.1 hv
     rw [woken_quitsD (hL.old j z' hj (fun x=>x) hz)]
     exact hz
    ·exact hS.app fun op aN e=>by obtain ⟨e',_,rfl⟩:=Go.Conc.mem_ofEvents aN;exact absurd e.symm oL
   ·obtain ⟨mN,u,q',e1,e2,e3,e4,e5,e6⟩:=slip (w:=bF.at d) (sl:=jo) hL hi hy fE (fun x=>x)
    obtain ⟨B',_,rZ⟩:=hT'.still (fun op aN=>(e5 op aN).2.1) (fun op aN=>⟨.inl (by rw [(e5 op aN).1];omega),.inr (.inr (fun x=>x))⟩)
    exact eN.step (df.trans e1) (ihM _ (Nat.lt_of_lt_of_le e3 hM) T mN x _ jo _ q' buf s r (by rw [e2];exact Nat.le_refl _) hAp' hR' hx (e6 0 x (.inl rfl) h0 fun a a'=>woken_running hx.status) (by rw [e2];exact hk) e4 ⟨B',rZ⟩ (hS.app fun op aN _=>(e5 op aN).2.1) hc hl)
 | @recv v L S g w hs h1 h2 ih =>
  intro M
  induction M using Nat.strongRecOn with
  | _ M ihM =>
   intro T gs x bF sl t q buf s r hM hAp hR hx h0 hk hL hT hS hc hl
   have haw:∀ y∈gs,awake y:=by
    intro y hy
    obtain ⟨i,hi,rfl⟩:=Array.mem_iff_getElem.1 hy
    rcases Nat.eq_zero_or_pos i with rfl | fE
    ·have:gs[0]=x:=by simpa [Array.getElem?_eq_getElem hi] using h0
     rw [this];exact awake_of (.inl hx.status)
    ·exact awake_of ((hL.old i _ fE (fun x=>x) (Array.getElem?_eq_getElem hi)).status.elim .inl fun x=>.inr (.inr x))
   obtain ⟨i,y,d,jo,hi,hy,df⟩:=crowd_pick (P:=P) (w:=bF) (sl:=sl) haw ⟨0,x,h0,hx.status⟩
   have hR':=H.t0.trans _ _ _ _ hR (H.at0 _ bF d)
   obtain ⟨B,hT⟩:=hT
   have hT':=hT
   have hAp':Apt iN S T (bF.at d):=hAp.same rfl
   rcases Nat.eq_zero_or_pos i with rfl | fE
   ·obtain rfl:y=x:=by rw [h0] at hi;exact (Option.some.inj hi).symm
    obtain ⟨es,a1,a2⟩:=h1 _ hR'
    have sa:=(hx.step (P:=P) true (bF.at d)).trans a1
    obtain ⟨oK,hhd,htl⟩:=take_head hl
    have cz:0<gs.size:=(Array.getElem?_eq_some_iff.1 h0).1
    have dQ:=crowd_recv_buf (P:=P) (gs:=gs) (w:=bF.at d) (sl:=jo) (i:=0) hi (show stepG P (0==0) y (bF.at d)=_ from sa) (show (bF.at d).heap[c]? = _ from hc) oK
     (iH fun j g' hj oq=>by have:=(hL.old j g' (by omega) (fun x=>x) oq).status;rcases this with e | e<;>rw [e]<;>simp)
    rw [finishComm_recv,hhd] at dQ
    have tQ:=H.put0 S (bF.at d) n (buf.extract 1 buf.size) true s (r+1) false
    obtain ⟨B',_,rZ⟩:=hT'.evs0 oL (H.apart _ _ _ hAp') (fn:=y.frame.fn) (pos:=y.frame.place) a2
    obtain ⟨B'',_,hT3⟩:=rZ.still (u:=#[{ g:=0,fn:=g.frame.fn,pos:=g.frame.place,act:=.recv c r n },{ g:=0,fn:=g.frame.fn,pos:=g.frame.place,act:=.recvDone c r }]) (fun op aN=>by simp at aN;rcases aN with rfl | rfl<;>rfl) (fun op aN=>by simp at aN;rcases aN with rfl | rfl<;>simp)
    have hR3:=H.t0.trans _ _ _ _ hR' tQ
    refine eN.step (df.trans dQ) (ih _ hR3 _ T _ _ _ jo _ q (buf.extract 1 buf.size) s (r+1) (Nat.le_refl _) (hAp'.same (fV _ _ _ _ _ _ _ _)) (H.refl0 _ _) (kZ.self rfl) (by simp [cz]) (by simpa using hk) ?_ ⟨B'',by rw [<- Array.append_assoc];exact hT3⟩ ?_ (gN hc) htl.symm)
    ·refine hL.turn (by simp) (fun j v hj _ hv=>?_) (fun op aN=>?_)
     ·rw [Array.getElem?_setIfInBounds_ne (by omega)] at hv;exact hv
     ·rcases Array.mem_append.1 aN with aN | aN
      ·obtain ⟨e,_,rfl⟩:=Go.Conc.mem_ofEvents aN;exact ⟨.inl rfl,cz⟩
      ·simp at aN;rcases aN with rfl | rfl<;>exact ⟨.inl rfl,cz⟩
    ·refine hS.app fun op aN e=>?_
     rcases Array.mem_append.1 aN with aN | aN
     ·obtain ⟨e',_,rfl⟩:=Go.Conc.mem_ofEvents aN;exact absurd e.symm oL
     ·simp at aN;rcases aN with rfl | rfl<;>rfl
   ·obtain ⟨mN,u,q',e1,e2,e3,e4,e5,e6⟩:=slip (w:=bF.at d) (sl:=jo) hL hi hy fE (fun x=>x)
    obtain ⟨B',_,rZ⟩:=hT'.still (fun op aN=>(e5 op aN).2.1) (fun op aN=>⟨.inl (by rw [(e5 op aN).1];omega),.inr (.inr (fun x=>x))⟩)
    exact eN.step (df.trans e1) (ihM _ (Nat.lt_of_lt_of_le e3 hM) T mN x _ jo _ q' buf s r (by rw [e2];exact Nat.le_refl _) hAp' hR' hx (e6 0 x (.inl rfl) h0 fun a a'=>woken_running hx.status) (by rw [e2];exact hk) e4 ⟨B',rZ⟩ (hS.app fun op aN _=>(e5 op aN).2.1) hc hl)
 | @fin S g w hs h1 h2 =>
  intro M
  induction M using Nat.strongRecOn with
  | _ M ihM =>
   intro T gs x bF sl t q buf s r hM hAp hR hx h0 hk hL hT hS hc hl
   have haw:∀ y∈gs,awake y:=by
    intro y hy
    obtain ⟨i,hi,rfl⟩:=Array.mem_iff_getElem.1 hy
    rcases Nat.eq_zero_or_pos i with rfl | fE
    ·have:gs[0]=x:=by simpa [Array.getElem?_eq_getElem hi] using h0
     rw [this];exact awake_of (.inl hx.status)
    ·exact awake_of ((hL.old i _ fE (fun x=>x) (Array.getElem?_eq_getElem hi)).status.elim .inl fun x=>.inr (.inr x))
   obtain ⟨i,y,d,jo,hi,hy,df⟩:=crowd_pick (P:=P) (w:=bF) (sl:=sl) haw ⟨0,x,h0,hx.status⟩
   have hR':=H.t0.trans _ _ _ _ hR (H.at0 _ bF d)
   obtain ⟨B,hT⟩:=hT
   have hT':=hT
   have hAp':Apt iN S T (bF.at d):=hAp.same rfl
   rcases Nat.eq_zero_or_pos i with rfl | fE
   ·obtain rfl:y=x:=by rw [h0] at hi;exact (Option.some.inj hi).symm
    obtain ⟨es,a1,a2⟩:=h1 _ hR'
    have sa:=(hx.step (P:=P) true (bF.at d)).trans a1
    obtain rfl:buf=#[]:=by
     have:buf.toList=[]:=hl.symm
     simpa using this
    have cz:0<gs.size:=(Array.getElem?_eq_some_iff.1 h0).1
    have dQ:=crowd_recv_closed (P:=P) (gs:=gs) (w:=bF.at d) (sl:=jo) (i:=0) hi (show stepG P (0==0) y (bF.at d)=_ from sa) (show (bF.at d).heap[c]? = _ from hc)
     (iH fun j g' hj oq=>by have:=(hL.old j g' (by omega) (fun x=>x) oq).status;rcases this with e | e<;>rw [e]<;>simp)
    rw [finishComm_recv] at dQ
    obtain ⟨B',hb',rZ⟩:=hT'.evs0 oL (H.apart _ _ _ hAp') (fn:=y.frame.fn) (pos:=y.frame.place) a2
    have hS2:Shut κ c (t++MemOp.ofEvents 0 y.frame.fn y.frame.place es):=hS.app fun op aN e=>by obtain ⟨e',_,rfl⟩:=Go.Conc.mem_ofEvents aN;exact absurd e.symm oL
    have hP:=(rZ.mono (Nat.le_max_left B' (c+1)) (fun _ x=>x) (fun _ x=>x)).join oL hS2 (y:={ g:=0,fn:=g.frame.fn,pos:=g.frame.place,act:=.recvClosed c }) ⟨rfl,rfl⟩ (Nat.lt_of_lt_of_le (Nat.lt_succ_self c) (Nat.le_max_right _ _))
    refine eN.step (df.trans dQ) ⟨0,_,_,_,jo,_,rfl,⟨by simp [cz],⟨q,?_⟩,⟨_,by rw [<- Array.append_assoc];exact hP⟩⟩,h2 _ hR'⟩
    refine (hL.turn (by simp) (fun j v hj _ hv=>?_) (fun op aN=>?_)).all
    ·rw [Array.getElem?_setIfInBounds_ne (by omega)] at hv;exact hv
    ·rcases Array.mem_append.1 aN with aN | aN
     ·obtain ⟨e,_,rfl⟩:=Go.Conc.mem_ofEvents aN;exact ⟨.inl rfl,cz⟩
     ·simp at aN;rcases aN with rfl;exact ⟨.inl rfl,cz⟩
   ·obtain ⟨mN,u,q',e1,e2,e3,e4,e5,e6⟩:=slip (w:=bF.at d) (sl:=jo) hL hi hy fE (fun x=>x)
    obtain ⟨B',_,rZ⟩:=hT'.still (fun op aN=>(e5 op aN).2.1) (fun op aN=>⟨.inl (by rw [(e5 op aN).1];omega),.inr (.inr (fun x=>x))⟩)
    exact eN.step (df.trans e1) (ihM _ (Nat.lt_of_lt_of_le e3 hM) T mN x _ jo _ q' buf s r (by rw [e2];exact Nat.le_refl _) hAp' hR' hx (e6 0 x (.inl rfl) h0 fun a a'=>woken_running hx.status) (by rw [e2];exact hk) e4 ⟨B',rZ⟩ (hS.app fun op aN _=>(e5 op aN).2.1) hc hl)
end
end Lf
end Go.Proofs.YtpbbmagjhkakgaaGreatDoor
