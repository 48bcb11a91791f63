import Derived.Test.YtpbbmagjhkakgaaGreatDoorLfOwnToLfLost
import Derived.Orders
namespace Go.Proofs.YtpbbmagjhkakgaaGreatDoor.Lf
open Go Go.Conc
variable {P : Program}
inductive Tree (P:Program) (K:Goroutine->World->Prop):Goroutine->World->Prop
 | stop {g:Goroutine} {w:World}:K g w->Tree P K g w
 | step {g:Goroutine} {w:World} (f:Tape->Nat->Goroutine×World×Array MemOp):Fine g->(∀ τ d,Fine (f τ d).1/\Alone P g (re w τ d) (f τ d).1 (f τ d).2.1 (f τ d).2.2/\stepT P (solo g (re w τ d))=(.next (solo (f τ d).1 (f τ d).2.1),(f τ d).2.2))->
   (∀ τ d,Tree P K (f τ d).1 (f τ d).2.1)->Tree P K g w
def Comes1 (P:Program) (K:Goroutine->World->Prop) (g:Goroutine) (w:World):Prop:=∃ n g' w',runN P n (solo g w)=.next (solo g' w')/\Fine g'/\K g' w'
theorem comes_shift (hP:Plain P) {K:Goroutine->World->Prop} (hK:∀ g w τ d,K g w->K g (re w τ d)) :
  ∀ (n:Nat) {g g':Goroutine} {w w':World} {τ τ':Tape} {a b:Nat},Fine g->Fine g'->(∀ j,τ' (b+j)=τ (a+j))->runN P n (solo g (re w τ a))=.next (solo g' w')->K g' w'->Comes1 P K g (re w τ' b):=by
 intro n
 induction n with
 | zero =>
  intro g g' w w' τ τ' a b hg hg' hj h hk
  simp only [runN,Stepped.next.injEq] at h
  have e1:=congrArg (fun m:Machine=>m.gs[0]?) h
  have e2:=congrArg (fun m:Machine=>m.world) h
  simp [solo] at e1 e2
  subst e1
  refine ⟨0,g,re w τ' b,rfl,hg,?_⟩
  rw [<- e2] at hk
  exact hK g (re w τ a) τ' b hk
 | succ n ih =>
  intro g g' w w' τ τ' a b hg hg' hj h hk
  obtain ⟨g1,w1,ops,h1,h2,h3,h4⟩:=first_step hP hg hg' h
  obtain ⟨m,e1,e2⟩:=h3.alike
  have hs:=e2 τ' b (fun j _=>hj j)
  rw [re_re] at hs
  have e1':w1=re w1 τ (a+m):=e1
  rw [e1'] at h4
  obtain ⟨k,g2,w2,h5,h6,h7⟩:=ih (w:=w1) (τ:=τ) (τ':=τ') (a:=a+m) (b:=b+m) h2 hg' (fun j=>by rw [Nat.add_assoc,Nat.add_assoc];exact hj _) h4 hk
  exact ⟨k+1,g2,w2,by simp only [runN,step,hs];exact h5,h6,h7⟩
theorem tree_of_comes (hP:Plain P) {K:Goroutine->World->Prop} (hK:∀ g w τ d,K g w->K g (re w τ d)) {g:Goroutine} {w:World} (hg:Fine g) (h:∀ τ d,Comes1 P K g (re w τ d)):Tree P K g w:=by
 apply Classical.byContradiction
 intro hno
 let S:Goroutine×World->Prop:=fun s=>Fine s.1/\(∀ τ d,Comes1 P K s.1 (re s.2 τ d))/\¬ Tree P K s.1 s.2
 have next:∀ s:{s // S s},∃ (s':{s // S s}) (τ:Tape) (d m:Nat),∀ τ2 d2,(∀ j,j<m->τ2 (d2+j)=τ (d+j))->stepT P (solo s.1.1 (re s.1.2 τ2 d2))=(.next (solo s'.1.1 (re s'.1.2 τ2 (d2+m))),(stepT P (solo s.1.1 (re s.1.2 τ d))).2):=by
  rintro ⟨⟨g,w⟩,hg,hr,hn⟩
  simp only at hg hr hn
  have hnk:¬ K g w:=fun hk=>hn (.stop hk)
  have one:∀ τ d,∃ g1 w1 ops,stepT P (solo g (re w τ d))=(.next (solo g1 w1),ops)/\Fine g1/\Alone P g (re w τ d) g1 w1 ops:=by
   intro τ d
   obtain ⟨n,g',w',h1,h2,h3⟩:=hr τ d
   cases n with
   | zero =>
    simp only [runN,Stepped.next.injEq] at h1
    have e1:=congrArg (fun m:Machine=>m.gs[0]?) h1
    have e2:=congrArg (fun m:Machine=>m.world) h1
    simp [solo] at e1 e2
    subst e1
    rw [<- e2] at h3
    exact absurd (hK g (re w τ d) w.tape w.drawn h3) hnk
   | succ n =>
    obtain ⟨g1,w1,ops,a,b,c,_⟩:=first_step hP hg h2 h1
    exact ⟨g1,w1,ops,a,b,c⟩
  have bad:∃ τ d g1 w1 ops,stepT P (solo g (re w τ d))=(.next (solo g1 w1),ops)/\Fine g1/\Alone P g (re w τ d) g1 w1 ops/\¬ Tree P K g1 w1:=by
   apply Classical.byContradiction
   intro hall
   have one':∀ x:Tape×Nat,∃ y:Goroutine×World×Array MemOp,stepT P (solo g (re w x.1 x.2))=(.next (solo y.1 y.2.1),y.2.2)/\Fine y.1/\Alone P g (re w x.1 x.2) y.1 y.2.1 y.2.2:=fun x=>let ⟨g1,w1,ops,h⟩:=one x.1 x.2;⟨(g1,w1,ops),h⟩
   refine hn (.step (fun τ d=>Classical.choose (one' (τ,d))) hg (fun τ d=>?_) (fun τ d=>?_))
   ·obtain ⟨a,b,c⟩:=Classical.choose_spec (one' (τ,d))
    exact ⟨b,c,a⟩
   ·obtain ⟨a,b,c⟩:=Classical.choose_spec (one' (τ,d))
    apply Classical.byContradiction
    intro ht
    exact hall ⟨τ,d,_,_,_,a,b,c,ht⟩
  obtain ⟨τ,d,g1,w1,ops,a,b,c,ht⟩:=bad
  obtain ⟨m,e1,e2⟩:=c.alike
  have e1':w1=re w1 τ (d+m):=e1
  refine ⟨⟨(g1,w1),b,fun τ' d'=>?_,ht⟩,τ,d,m,fun τ2 d2 h2=>?_⟩
  ·
   let τ2:Tape:=fun p=>if p<d+m then τ p else τ' (p-(d+m)+d')
   have hs:=e2 τ2 d (fun j hj=>by show (if d+j<d+m then τ (d+j) else _)=τ (d+j);rw [if_pos (by omega)])
   rw [re_re] at hs
   obtain ⟨n,g',w',h1,h2,h3⟩:=hr τ2 d
   cases n with
   | zero =>
    simp only [runN,Stepped.next.injEq] at h1
    have e3:=congrArg (fun m:Machine=>m.gs[0]?) h1
    have e4:=congrArg (fun m:Machine=>m.world) h1
    simp [solo] at e3 e4
    subst e3
    rw [<- e4] at h3
    exact absurd (hK g (re w τ2 d) w.tape w.drawn h3) hnk
   | succ n =>
    simp only [runN,step,hs] at h1
    refine comes_shift hP hK n (τ:=τ2) (a:=d+m) b h2 (fun j=>?_) h1 h3
    show τ' (d'+j)=(if d+m+j<d+m then τ (d+m+j) else τ' (d+m+j-(d+m)+d'))
    rw [if_neg (by omega)]
    congr 1;omega
  ·have:=e2 τ2 d2 h2
   rw [re_re] at this
   rw [this,a]
 have next':∀ s:{s // S s},∃ x:{s // S s}×Tape×Nat×Nat,∀ τ2 d2,(∀ j,j<x.2.2.2->τ2 (d2+j)=x.2.1 (x.2.2.1+j))->stepT P (solo s.1.1 (re s.1.2 τ2 d2))=(.next (solo x.1.1.1 (re x.1.1.2 τ2 (d2+x.2.2.2))),(stepT P (solo s.1.1 (re s.1.2 x.2.1 x.2.2.1))).2) :=
  fun s=>let ⟨a,b,c,d,h⟩:=next s;⟨(a,b,c,d),h⟩
 let nx:{s // S s}->{s // S s}:=fun s=>(Classical.choose (next' s)).1
 let tp:{s // S s}->Tape:=fun s=>(Classical.choose (next' s)).2.1
 let pl:{s // S s}->Nat:=fun s=>(Classical.choose (next' s)).2.2.1
 let cnt:{s // S s}->Nat:=fun s=>(Classical.choose (next' s)).2.2.2
 have hnx:∀ s τ2 d2,(∀ j,j<cnt s->τ2 (d2+j)=tp s (pl s+j))->stepT P (solo s.1.1 (re s.1.2 τ2 d2))=(.next (solo (nx s).1.1 (re (nx s).1.2 τ2 (d2+cnt s))),(stepT P (solo s.1.1 (re s.1.2 (tp s) (pl s)))).2):=fun s=>Classical.choose_spec (next' s)
 let s0:{s // S s}:=⟨(g,w),hg,h,hno⟩
 let sq:Nat->{s // S s}:=fun n=>Nat.rec s0 (fun _ s=>nx s) n
 let D:Nat->Nat:=fun n=>Nat.rec 0 (fun k a=>a+cnt (sq k)) n
 have hD:∀ n,D (n+1)=D n+cnt (sq n):=fun _=>rfl
 have hmono:∀ a b,a<=b->D a<=D b:=by
  intro a b hab
  induction hab with
  | refl=>exact Nat.le_refl _
  | step _ ih=>exact Nat.le_trans ih (by rw [hD];omega)
 haveI:∀ p,Decidable (∃ n,D n<=p/\p<D (n+1)):=fun _=>Classical.propDecidable _
 let τs:Tape:=fun p=>if hp:∃ n,D n<=p/\p<D (n+1) then tp (sq (Classical.choose hp)) (pl (sq (Classical.choose hp))+(p-D (Classical.choose hp))) else fun _=>0
 have hτ:∀ n j,j<cnt (sq n)->τs (D n+j)=tp (sq n) (pl (sq n)+j):=by
  intro n j hj
  have hp:∃ k,D k<=D n+j/\D n+j<D (k+1):=⟨n,by omega,by rw [hD];omega⟩
  have hc:=Classical.choose_spec hp
  have hk:Classical.choose hp=n:=by
   rcases Nat.lt_trichotomy (Classical.choose hp) n with hlt | heq | hgt
   ·have:=hmono _ _ (show Classical.choose hp+1<=n from hlt);omega
   ·exact heq
   ·have h1:=hmono _ _ (show n+1<=Classical.choose hp from hgt);rw [hD] at h1;omega
  show (if hp:∃ n',D n'<=D n+j/\D n+j<D (n'+1) then _ else _)=_
  rw [dif_pos hp,hk]
  congr 1;omega
 have run:∀ n,runN P n (solo g (re w τs 0))=.next (solo (sq n).1.1 (re (sq n).1.2 τs (D n))):=by
  intro n
  induction n with
  | zero=>rfl
  | succ n ih =>
   rw [runN_add,ih]
   have:=hnx (sq n) τs (D n) (fun j hj=>hτ n j hj)
   simp only [runN,step,this]
   rfl
 obtain ⟨n,g',w',h1,_,h3⟩:=h τs 0
 rw [run n] at h1
 simp only [Stepped.next.injEq] at h1
 have e3:=congrArg (fun m:Machine=>m.gs[0]?) h1
 have e4:=congrArg (fun m:Machine=>m.world) h1
 simp [solo] at e3 e4
 rw [<- e3,<- e4] at h3
 exact (sq n).2.2.2 (.stop (hK _ (re (sq n).1.2 τs (D n)) (sq n).1.2.tape (sq n).1.2.drawn h3))
end Go.Proofs.YtpbbmagjhkakgaaGreatDoor.Lf
namespace Go.Proofs.YtpbbmagjhkakgaaGreatDoor.Lf
open Go Go.Conc
open Go.ConcN (sumTo upd sumTo_upd upd_ne upd_same)
variable {P : Program}
structure Fr (P:Program) (gs:Array Goroutine) (t:Trace) (g:Goroutine):Prop where
 zero:gs[0]? = some g
 leave:∃ q,Leavers P t gs q
 past:∃ B,Past (fun _=>False) B t
def Leads (P:Program) (K:Goroutine->World->Prop) (g:Goroutine) (w:World):Prop :=
 ∀ gs sl t,Fr P gs t g->∃ N gs' g' w' sl' t',runNT P N (crowd gs w sl) t=(.next (crowd gs' w' sl'),t')/\Fr P gs' t' g'/\K g' w'
theorem runNT_app {m m' m'':Machine} {t t' t'':Trace} {N M:Nat} (h:runNT P N m t=(.next m',t')) (hk:runNT P M m' t'=(.next m'',t'')):runNT P (N+M) m t=(.next m'',t''):=by
 rw [runNT_add,h];exact hk
theorem Leads.here {K:Goroutine->World->Prop} {g:Goroutine} {w:World} (h:K g w):Leads P K g w:=fun gs sl t hf=>⟨0,gs,g,w,sl,t,rfl,hf,h⟩
theorem Leads.trans {K L:Goroutine->World->Prop} {g:Goroutine} {w:World} (h:Leads P K g w) (hk:∀ g' w',K g' w'->Leads P L g' w'):Leads P L g w:=by
 intro gs sl t hf
 obtain ⟨N,gs1,g1,w1,sl1,t1,h1,h2,h3⟩:=h gs sl t hf
 obtain ⟨M,gs2,g2,w2,sl2,t2,h4,h5,h6⟩:=hk g1 w1 h3 gs1 sl1 t1 h2
 exact ⟨N+M,gs2,g2,w2,sl2,t2,runNT_app h1 h4,h5,h6⟩
theorem Leads.mono {K L:Goroutine->World->Prop} {g:Goroutine} {w:World} (h:Leads P K g w) (hk:∀ g' w',K g' w'->L g' w'):Leads P L g w:=h.trans fun g' w' x=>.here (hk g' w' x)
theorem low_any (act:MemAct):∃ B,act.low B:=by
 cases act with
 | access e =>
  obtain ⟨loc,wr,sy⟩:=e
  cases loc with
  | cell a=>exact ⟨a.block+1,Nat.lt_succ_self _⟩
  | obj r=>exact ⟨r+1,Nat.lt_succ_self _⟩
  | _=>exact ⟨0,trivial⟩
 | mark m =>
  cases m with
  | acquire a=>exact ⟨a.block+1,Nat.lt_succ_self _⟩
  | release a=>exact ⟨a.block+1,Nat.lt_succ_self _⟩
  | releaseMerge a=>exact ⟨a.block+1,Nat.lt_succ_self _⟩
  | read a=>exact ⟨a.block+1,Nat.lt_succ_self _⟩
  | write a=>exact ⟨a.block+1,Nat.lt_succ_self _⟩
  | _=>exact ⟨0,trivial⟩
 | go _=>exact ⟨0,trivial⟩
 | start=>exact ⟨0,trivial⟩
 | send c _=>exact ⟨c+1,Nat.lt_succ_self _⟩
 | sendDone c _=>exact ⟨c+1,Nat.lt_succ_self _⟩
 | recv c _ _=>exact ⟨c+1,Nat.lt_succ_self _⟩
 | recvDone c _=>exact ⟨c+1,Nat.lt_succ_self _⟩
 | close c=>exact ⟨c+1,Nat.lt_succ_self _⟩
 | recvClosed c=>exact ⟨c+1,Nat.lt_succ_self _⟩
theorem low_all (ops:Array MemOp) (B:Nat):∃ B',B<=B'/\∀ op∈ops,op.act.low B':=by
 obtain ⟨l⟩:=ops
 induction l with
 | nil=>exact ⟨B,Nat.le_refl _,by simp⟩
 | cons a l ih =>
  obtain ⟨B1,h1,h2⟩:=ih
  obtain ⟨B2,h3⟩:=low_any a.act
  refine ⟨max B1 B2,Nat.le_trans h1 (Nat.le_max_left _ _),fun op hop=>?_⟩
  simp at hop
  rcases hop with rfl | hop
  ·exact MemAct.low_mono (Nat.le_max_right _ _) h3
  ·exact MemAct.low_mono (Nat.le_max_left _ _) (h2 op (by simpa using hop))
theorem Fr.own {gs:Array Goroutine} {t:Trace} {g g':Goroutine} (hf:Fr P gs t g) {ops:Array MemOp} {f:Goroutine->Goroutine} (h1:∀ op∈ops,op.g=0) (h2:Deaf t 0=0->Deaf (t++ops) 0=0) (h3:∀ x,(x.status=.running\/x.status=.finished)->f x=x) :
  Fr P ((gs.map f).setIfInBounds 0 g') (t++ops) g':=by
 obtain ⟨h0,⟨q,hL⟩,⟨B,hB⟩⟩:=hf
 have hlt:0<gs.size:=(Array.getElem?_eq_some_iff.1 h0).1
 obtain ⟨B',hb1,hb2⟩:=low_all ops B
 refine ⟨by simp [hlt],⟨q,fun j x hj hx=>?_,fun j hj=>?_⟩,⟨B',?_⟩⟩
 ·have hne:0≠j:=by omega
  rw [Array.getElem?_setIfInBounds_ne hne,Array.getElem?_map] at hx
  obtain ⟨y,hy,rfl⟩:=Option.map_eq_some_iff.1 hx
  have hq:=hL.old j y hj hy
  rw [h3 y hq.status,Deaf_other t (by omega) ops h1]
  exact hq
 ·rw [Deaf_other t (g':=0) (by simp at hj;omega) ops h1]
  exact hL.above j (by simpa using hj)
 ·refine (hB.mono hb1).app0 h1 (fun _ _ _ _ h=>h.elim) ?_ hb2
  rw [h2 hB.hears,hB.hears]
theorem tree_leads {K:Goroutine->World->Prop} {g:Goroutine} {w:World} (h:Tree P K g w):Leads P K g w:=by
 induction h with
 | stop hk=>exact .here hk
 | @step g w f hg h1 _ ih =>
  have main:∀ (M:Nat) (gs:Array Goroutine) (d0:Nat) (sl:Option (Nat×Nat)) (t:Trace) (q:Nat->Nat),sumTo gs.size q<=M->gs[0]? = some g->Leavers P t gs q->(∃ B,Past (fun _=>False) B t)->
    ∃ N gs' g' w' sl' t',runNT P N (crowd gs (w.at d0) sl) t=(.next (crowd gs' w' sl'),t')/\Fr P gs' t' g'/\K g' w':=by
   intro M
   induction M using Nat.strongRecOn with
   | _ M ihM =>
    intro gs d0 sl t q hM h0 hL hB
    have haw:∀ x∈gs,awake x:=by
     intro x hx
     obtain ⟨i,hi,rfl⟩:=Array.mem_iff_getElem.1 hx
     rcases Nat.eq_zero_or_pos i with rfl | hpos
     ·have:gs[0]=g:=by simpa [Array.getElem?_eq_getElem hi] using h0
      rw [this];exact awake_of (.inl hg.status)
     ·exact awake_of ((hL.old i _ hpos (Array.getElem?_eq_getElem hi)).status.elim .inl fun x=>.inr (.inr x))
    obtain ⟨i,x,d,sl',hi,hx,hst⟩:=crowd_pick (P:=P) (w:=w.at d0) (sl:=sl) haw ⟨0,g,h0,hg.status⟩
    have hw:(w.at d0).at d=re w w.tape d:=rfl
    rw [hw] at hst
    rcases Nat.eq_zero_or_pos i with rfl | hpos
    ·
     obtain rfl:x=g:=by rw [h0] at hi;exact (Option.some.inj hi).symm
     obtain ⟨a1,a2,a3⟩:=h1 w.tape d
     obtain ⟨fw,b1,b2⟩:=a2.beside gs sl' h0 (fun j y hj hy=>(hL.old j y hj hy).status)
     have hfr:=Fr.own (P:=P) (g':=(f w.tape d).1) ⟨h0,⟨q,hL⟩,hB⟩ a2.own (a2.hears t) b1
     obtain ⟨N,gs',g',w',sl'',t',c1,c2,c3⟩:=ih w.tape d _ sl' _ hfr
     exact ⟨N+1,gs',g',w',sl'',t',by simp only [runNT,hst,b2];exact c1,c2,c3⟩
    ·
     have hq:=hL.old i x hpos hi
     have hi0:(i==0)=false:=by simp;omega
     have hlt:i<gs.size:=(Array.getElem?_eq_some_iff.1 hi).1
     cases hqi:q i with
     | zero=>rw [hqi] at hq;rw [hq.1] at hx;cases hx
     | succ k =>
      rw [hqi] at hq
      rcases hq with ⟨hfin,_⟩ | ⟨_,x',es,hm,hstp,hq'⟩
      ·rw [hfin] at hx;cases hx
      have hrunT:=runT_crowd_go (P:=P) (w:=re w w.tape d) (sl:=sl') (i:=i) hi (by rw [hi0];exact hstp (re w w.tape d))
      have hsz:((gs.map (woken P x x' (re w w.tape d))).setIfInBounds i x').size=gs.size:=by simp
      have hsum:sumTo gs.size (upd q i k)+(k+1)=sumTo gs.size q+k:=by
       have:=sumTo_upd q k id hlt
       simpa [hqi] using this
      obtain ⟨B,hB⟩:=hB
      obtain ⟨N,gs',g',w',sl'',t',c1,c2,c3⟩:=ihM (sumTo gs.size (upd q i k)) (by omega) ((gs.map (woken P x x' (re w w.tape d))).setIfInBounds i x') d sl' (t++MemOp.ofEvents i x.frame.fn x.frame.place es) (upd q i k) (by rw [hsz];exact Nat.le_refl _)
       (by
        have hne:i≠0:=by omega
        rw [Array.getElem?_setIfInBounds_ne hne,Array.getElem?_map,h0]
        simp [woken_running hg.status])
       ⟨fun j y hj hy=>by
        by_cases hji:i=j
        ·subst hji
         rw [Array.getElem?_setIfInBounds_self_of_lt (by simpa using hlt)] at hy
         obtain rfl:=Option.some.inj hy
         rw [upd_same,Deaf_own]
         exact hq'
        ·rw [Array.getElem?_setIfInBounds_ne hji,Array.getElem?_map] at hy
         obtain ⟨z,hz,rfl⟩:=Option.map_eq_some_iff.1 hy
         have hqj:=hL.old j z hj hz
         rw [woken_quitsD hqj,upd_ne q k (Ne.symm hji),Deaf_other t hji _ (fun op hop=>by obtain ⟨e,_,rfl⟩:=Go.Conc.mem_ofEvents hop;rfl)]
         exact hqj,fun j hj=>by
        rw [Deaf_other t (g':=i) (by simp at hj;omega) _ (fun op hop=>by obtain ⟨e,_,rfl⟩:=Go.Conc.mem_ofEvents hop;rfl)]
        exact hL.above j (by simpa using hj)⟩
       ⟨B,hB.mute (by omega) hm⟩
      exact ⟨N+1,gs',g',w',sl'',t',by simp only [runNT,hst,hrunT];exact c1,c2,c3⟩
  intro gs sl t hf
  obtain ⟨h0,⟨q,hL⟩,hB⟩:=hf
  exact main _ gs w.drawn sl t q (Nat.le_refl _) h0 hL hB
end Go.Proofs.YtpbbmagjhkakgaaGreatDoor.Lf
namespace Go.Proofs.YtpbbmagjhkakgaaGreatDoor.Lf
open Go Go.Conc
variable {P : Program}
theorem G_not_lost (fr:Frame) (cs:List Frame):¬ Lost (G fr cs):=fun h=>h.lost.elim (fun x=>x rfl) (fun x=>x rfl)
theorem first_step' (hP:Plain P) {n:Nat} {g:Goroutine} {w:World} {g':Goroutine} {w':World} (hg:Fine g) (hg':¬ Lost g') (h:runN P (n+1) (solo g w)=.next (solo g' w')) :
  ∃ g1 w1 ops,stepT P (solo g w)=(.next (solo g1 w1),ops)/\Fine g1/\Alone P g w g1 w1 ops/\runN P n (solo g1 w1)=.next (solo g' w'):=by
 simp only [runN] at h
 cases hx:stepT P (solo g w) with
 | mk s ops =>
  have hs:step P (solo g w)=s:=by rw [step,hx]
  rw [hs] at h
  cases s with
  | ended o x=>cases h
  | next m1 =>
   rcases solo_step hP hg.ok hg.status hx with h2 | ⟨g1,w1,rfl,h3 | ⟨_,h4⟩⟩
   ·have:=runN_size h;simp [solo] at this;omega
   ·exact absurd (lost_run hP h3 h) hg'
   ·exact ⟨g1,w1,ops,rfl,(h4 hg.offers).1,(h4 hg.offers).2,h⟩
theorem run_fine (hP:Plain P):∀ {n:Nat} {g:Goroutine} {w:World} {g':Goroutine} {w':World},Fine g->¬ Lost g'->runN P n (solo g w)=.next (solo g' w')->Fine g':=by
 intro n
 induction n with
 | zero=>intro g w g' w' hg _ h;simp only [runN,Stepped.next.injEq] at h;have:=congrArg (fun m:Machine=>m.gs[0]?) h;simp [solo] at this;exact this▸hg
 | succ n ih =>
  intro g w g' w' hg hg' h
  obtain ⟨g1,w1,_,_,h2,_,h4⟩:=first_step' hP hg hg' h
  exact ih h2 hg' h4
theorem fine_G {fr:Frame} {cs:List Frame} (h1:okFrame fr) (h2:∀ x∈cs,okFrame x):Fine (G fr cs):=⟨⟨h1,h2,fun _ h=>by cases h⟩,rfl,rfl,rfl⟩
theorem results_re {fn:Func} {tmps:Array Value} {w:World} {v:Value} (h:(results fn tmps).run P w=.ok v w) (τ:Tape) (d:Nat):(results fn tmps).run P (re w τ d)=.ok v (re w τ d):=by
 have h1:((results fn tmps).runT P w #[]).1=.ok v w:=(Sem.runT_fst P _ w #[]).trans h
 obtain ⟨m,e1,e2⟩:=runT_alike P (results fn tmps) 0 w #[] (results_fit (P:=P) fn tmps) (by rw [h1];rfl)
 rw [h1] at e1 e2
 simp only [reR,Result.ok.injEq,true_and] at e1
 have hm:m=0:=by have:=congrArg World.drawn e1;simp [re] at this;omega
 subst hm
 have:=congrArg Prod.fst (e2 τ d (fun j hj=>absurd hj (Nat.not_lt_zero j)))
 rw [Sem.runT_fst] at this
 simpa [reR] using this
theorem leaving_re {fr:Frame} {w:World} {e:Ending} (h:fr.leaving P w e) (τ:Tape) (d:Nat):fr.leaving P (re w τ d) e:=by
 cases e with
 | returned v=>obtain ⟨h1,h2,h3,fn,h4,h5⟩:=h;exact ⟨h1,h2,h3,fn,h4,results_re h5 τ d⟩
 | panicked chain=>exact h
 | outgrown=>trivial
def LeadsR (P:Program) (K:Goroutine->World->Prop) (g:Goroutine) (w:World):Prop:=∀ τ d,Leads P K g (re w τ d)
theorem LeadsR.leads {K:Goroutine->World->Prop} {g:Goroutine} {w:World} (h:LeadsR P K g w):Leads P K g w:=h w.tape w.drawn
theorem LeadsR.other {K:Goroutine->World->Prop} {g:Goroutine} {w:World} (h:LeadsR P K g w) (τ:Tape) (d:Nat):LeadsR P K g (re w τ d):=fun τ' d'=>h τ' d'
theorem LeadsR.trans {K L:Goroutine->World->Prop} {g:Goroutine} {w:World} (h:LeadsR P K g w) (hk:∀ g' w',K g' w'->LeadsR P L g' w'):LeadsR P L g w:=fun τ d=>(h τ d).trans fun g' w' x=>(hk g' w' x).leads
theorem LeadsR.mono {K L:Goroutine->World->Prop} {g:Goroutine} {w:World} (h:LeadsR P K g w) (hk:∀ g' w',K g' w'->L g' w'):LeadsR P L g w:=fun τ d=>(h τ d).mono hk
theorem LeadsR.of_steps (hP:Plain P) {K:Goroutine->World->Prop} (hK:∀ g w τ d,K g w->K g (re w τ d)) {g:Goroutine} {w:World} (hg:Fine g) (h:∀ τ d,∃ g' w',Steps P (solo g (re w τ d)) (solo g' w')/\¬ Lost g'/\(Fine g'->K g' w')):LeadsR P K g w:=by
 intro τ₀ d₀
 refine tree_leads (tree_of_comes hP hK hg fun τ d=>?_)
 obtain ⟨g',w',⟨n,hn⟩,h2,h3⟩:=h τ d
 have hf:=run_fine hP hg h2 hn
 exact ⟨n,g',w',hn,hf,h3 hf⟩
def HCalls (P:Program) (f:FuncId) (args:Array Value) (w:World) (R:Ending->World->Prop):Prop :=
 ∀ cs,(∀ fr∈cs,okFrame fr)->LeadsR P (fun g w'=>∃ e fr,g=G fr cs/\okFrame fr/\R e w'/\fr.fn=f/\fr.leaving P w' e) (G (Frame.enter P f args .normal) cs) w
theorem HCalls.mono {f:FuncId} {args:Array Value} {w:World} {R R':Ending->World->Prop} (h:HCalls P f args w R) (hr:∀ e w',R e w'->R' e w'):HCalls P f args w R' :=
 fun cs hcs=>(h cs hcs).mono fun _ _ ⟨e,fr,h1,h2,h3,h4,h5⟩=>⟨e,fr,h1,h2,hr _ _ h3,h4,h5⟩
theorem HCalls.of_calls (hP:Plain P) {f:FuncId} {args:Array Value} {w:World} {R:Ending->World->Prop} (hR:∀ e w τ d,R e w->R e (re w τ d)) (hno:∀ w,¬ R .outgrown w) (h:∀ τ d,Calls P f args (re w τ d) R):HCalls P f args w R:=by
 intro cs hcs
 have hfin:=fine_G (okFrame_enter (P:=P) f args .normal) hcs
 refine LeadsR.of_steps hP ?_ hfin fun τ d=>?_
 ·rintro g w τ d ⟨e,fr,h1,h2,h3,h4,h5⟩
  exact ⟨e,fr,h1,h2,hR _ _ _ _ h3,h4,leaving_re h5 τ d⟩
 ·obtain ⟨e,w',fr,h1,h2,h3,h4⟩:=h τ d cs
  have hs:Steps P (lone (Frame.enter P f args .normal) cs (re w τ d)) (lone fr cs w'):=by
   cases e with
   | returned v=>exact h2
   | panicked c=>exact h2
   | outgrown=>exact absurd h1 (hno _)
  exact ⟨G fr cs,w',hs,G_not_lost fr cs,fun hf=>⟨e,fr,rfl,hf.ok.frame,h1,h3,h4⟩⟩
end Go.Proofs.YtpbbmagjhkakgaaGreatDoor.Lf
namespace Go.Proofs.YtpbbmagjhkakgaaGreatDoor.Lf
open Go Go.Conc
variable {P : Program}
def At (b:Frame) (k:List Item) (cs:List Frame) (g:Goroutine):Exit->Act->Prop
 | .normal,a=>g=G (b.at a k) cs
 | .exit id,a=>∃ k',exitTo id k=some k'/\g=G (b.at a k') cs
 | .goto l,a=>∃ k',gotoIn l k=some k'/\g=G (b.at a k') cs
 | .ret,a=>∃ todo,(∀ it∈todo,okItem it)/\g=G { b.at a todo with mode:=.returning } cs
 | .panic chain,a=>∃ todo,(∀ it∈todo,okItem it)/\g=G { b.at a todo with mode:=.panicking chain } cs
 | .outgrown,_=>False
structure Behind (Q:Exit->Act->World->Prop) (k:List Item) (cs:List Frame):Prop where
 items:∀ it∈k,okItem it
 frames:∀ fr∈cs,okFrame fr
 exits:∀ id a w,Q (.exit id) a w->∃ k',exitTo id k=some k'
 gotos:∀ l a w,Q (.goto l) a w->∃ k',gotoIn l k=some k'
def HWp (P:Program) (c:Code) (Q:Exit->Act->World->Prop) (a:Act) (w:World):Prop :=
 ∀ (b:Frame) (k:List Item) (cs:List Frame),Behind Q k cs->LeadsR P (fun g w'=>∃ e a',Q e a' w'/\At b k cs g e a') (G (b.at a (.code c::k)) cs) w
theorem HWp.mono {c:Code} {Q Q':Exit->Act->World->Prop} {a:Act} {w:World} (h:HWp P c Q a w) (hq:∀ e a w,Q e a w->Q' e a w):HWp P c Q' a w :=
 fun b k cs hb=>(h b k cs ⟨hb.items,hb.frames,fun id a w x=>hb.exits id a w (hq _ _ _ x),fun id a w x=>hb.gotos id a w (hq _ _ _ x)⟩).mono fun _ _ ⟨e,a',x,y⟩=>⟨e,a',hq _ _ _ x,y⟩
theorem okFrame_at {b:Frame} {a:Act} {k:List Item} (h:∀ it∈k,okItem it):okFrame (b.at a k):=h
theorem okItems_cons {it:Item} {k:List Item} (h0:okItem it) (h:∀ it∈k,okItem it):∀ x∈it::k,okItem x:=fun x hx=>by
 rcases List.mem_cons.1 hx with rfl | hx
 ·exact h0
 ·exact h x hx
theorem fine_at {b:Frame} {a:Act} {c:Code} {k:List Item} {cs:List Frame} (h:∀ it∈k,okItem it) (hc:∀ fr∈cs,okFrame fr):Fine (G (b.at a (.code c::k)) cs):=fine_G (okFrame_at (okItems_cons trivial h)) hc
theorem LeadsR.move (hP:Plain P) {K:Goroutine->World->Prop} {fr fr':Frame} {cs:List Frame} {w:World} (hg:Fine (G fr cs)) (h:∀ w,Steps P (lone fr cs w) (lone fr' cs w)) (hk:Fine (G fr' cs)->LeadsR P K (G fr' cs) w):LeadsR P K (G fr cs) w:=by
 have h1:LeadsR P (fun g w'=>g=G fr' cs/\Fine g/\∃ τ d,w'=re w τ d) (G fr cs) w:=by
  refine .of_steps hP ?_ hg fun τ d=>⟨G fr' cs,re w τ d,h _,G_not_lost _ _,fun hf=>⟨rfl,hf,τ,d,rfl⟩⟩
  rintro g w' τ d ⟨rfl,hf,τ',d',rfl⟩
  exact ⟨rfl,hf,τ,d,rfl⟩
 refine h1.trans ?_
 rintro g w' ⟨rfl,hf,τ,d,rfl⟩
 exact (hk hf).other τ d
theorem HWp.of_wp (hP:Plain P) {c:Code} {Q:Exit->Act->World->Prop} {a:Act} {w:World} (hQ:∀ e a w τ d,Q e a w->Q e a (re w τ d)) (hno:∀ a w,¬ Q .outgrown a w) (h:∀ τ d,c.wp P Q a (re w τ d)):HWp P c Q a w:=by
 intro b k cs hb
 refine .of_steps hP ?_ (fine_at hb.items hb.frames) fun τ d=>?_
 ·rintro g w τ d ⟨e,a',h1,h2⟩
  exact ⟨e,a',hQ _ _ _ _ _ h1,h2⟩
 ·obtain ⟨e,a',w',h1,h2⟩:=h τ d b k cs
  cases e with
  | normal=>exact ⟨_,w',h2,G_not_lost _ _,fun _=>⟨.normal,a',h1,rfl⟩⟩
  | exit id=>obtain ⟨k',hk⟩:=hb.exits id a' w' h1;exact ⟨_,w',h2 k' hk,G_not_lost _ _,fun _=>⟨.exit id,a',h1,k',hk,rfl⟩⟩
  | goto l=>obtain ⟨k',hk⟩:=hb.gotos l a' w' h1;exact ⟨_,w',h2 k' hk,G_not_lost _ _,fun _=>⟨.goto l,a',h1,k',hk,rfl⟩⟩
  | ret=>obtain ⟨todo,hs⟩:=h2;exact ⟨_,w',hs,G_not_lost _ _,fun hf=>⟨.ret,a',h1,todo,hf.ok.frame,rfl⟩⟩
  | panic chain=>obtain ⟨todo,hs⟩:=h2;exact ⟨_,w',hs,G_not_lost _ _,fun hf=>⟨.panic chain,a',h1,todo,hf.ok.frame,rfl⟩⟩
  | outgrown=>exact absurd h1 (hno _ _)
theorem At.pass {b:Frame} {x:Item} {k:List Item} {cs:List Frame} {g:Goroutine} {e:Exit} {a:Act} (hx:x.plain=true) (he:e≠.normal) (h:At b (x::k) cs g e a):At b k cs g e a:=by
 cases e with
 | normal=>exact absurd rfl he
 | exit id=>obtain ⟨k',h1,h2⟩:=h;exact ⟨k',by cases x<;>simp_all [exitTo,Item.plain],h2⟩
 | goto l=>obtain ⟨k',h1,h2⟩:=h;exact ⟨k',by cases x<;>simp_all [gotoIn,Item.plain],h2⟩
 | ret=>exact h
 | panic chain=>exact h
 | outgrown=>exact h
theorem Behind.pass {Q Q':Exit->Act->World->Prop} {k:List Item} {cs:List Frame} {x:Item} (hb:Behind Q k cs) (hx:x.plain=true) (hok:okItem x) (h1:∀ id a w,Q' (.exit id) a w->Q (.exit id) a w) (h2:∀ id a w,Q' (.goto id) a w->Q (.goto id) a w):Behind Q' (x::k) cs :=
 ⟨okItems_cons hok hb.items,hb.frames,fun id a w h=>by
  obtain ⟨k',hk⟩:=hb.exits id a w (h1 _ _ _ h);exact ⟨k',by cases x<;>simp_all [exitTo,Item.plain]⟩,fun id a w h=>by
  obtain ⟨k',hk⟩:=hb.gotos id a w (h2 _ _ _ h);exact ⟨k',by cases x<;>simp_all [gotoIn,Item.plain]⟩⟩
theorem LeadsR.then {K L:Goroutine->World->Prop} {g:Goroutine} {w:World} (h:LeadsR P K g w) (hk:∀ g' w',K g' w'->Leads P L g' w'):LeadsR P L g w:=fun τ d=>(h τ d).trans hk
theorem LeadsR.step (hP:Plain P) {K:Goroutine->World->Prop} {fr fr':Frame} {cs cs':List Frame} {w:World} (hg:Fine (G fr cs)) (h:∀ τ d,Steps P (lone fr cs (re w τ d)) (lone fr' cs' (re w τ d))) (hk:Fine (G fr' cs')->LeadsR P K (G fr' cs') w):LeadsR P K (G fr cs) w:=by
 have h1:LeadsR P (fun g w'=>g=G fr' cs'/\Fine g/\∃ τ d,w'=re w τ d) (G fr cs) w:=by
  refine .of_steps hP ?_ hg fun τ d=>⟨G fr' cs',re w τ d,h _ _,G_not_lost _ _,fun hf=>⟨rfl,hf,τ,d,rfl⟩⟩
  rintro g w' τ d ⟨rfl,hf,τ',d',rfl⟩
  exact ⟨rfl,hf,τ,d,rfl⟩
 refine h1.trans ?_
 rintro g w' ⟨rfl,hf,τ,d,rfl⟩
 exact (hk hf).other τ d
theorem LeadsR.here {K:Goroutine->World->Prop} {g:Goroutine} {w:World} (h:∀ τ d,K g (re w τ d)):LeadsR P K g w:=fun τ d=>.here (h τ d)
theorem HWp.seq (hP:Plain P) {x y:Code} {Q:Exit->Act->World->Prop} {a:Act} {w:World} (h:HWp P x (Exit.then (HWp P y Q) Q) a w):HWp P (.seq x y) Q a w:=by
 intro b k cs hb
 refine LeadsR.move hP (fine_at hb.items hb.frames) (fun _=>.one step_seq) fun _=>?_
 refine (h b (.code y::k) cs (hb.pass rfl trivial (fun _ _ _ x=>x) (fun _ _ _ x=>x))).then ?_
 rintro g w' ⟨e,a',h1,h2⟩
 cases e with
 | normal=>cases h2;exact (h1 b k cs hb).leads
 | _=>exact .here ⟨_,a',h1,At.pass (x:=.code y) rfl (by simp) h2⟩
theorem HWp.seq' (hP:Plain P) {x y:Code} {Q:Exit->Act->World->Prop} {a:Act} {w:World} (J:Act->World->Prop) (h:HWp P x (Exit.then J Q) a w) (hk:∀ a w,J a w->HWp P y Q a w):HWp P (.seq x y) Q a w :=
 .seq hP (h.mono fun e a w x=>by cases e<;>first | exact hk _ _ x | exact x)
theorem HWp.cond (hP:Plain P) {c:Operand} {x y:Code} {t:Bool} {Q:Exit->Act->World->Prop} {a:Act} {w:World} (hc:a.eval c=.bool t) (h:HWp P (if t then x else y) Q a w):HWp P (.cond c x y) Q a w :=
 fun b k cs hb=>LeadsR.move hP (fine_at hb.items hb.frames) (fun _=>.one (step_cond hc)) fun _=>h b k cs hb
theorem HWp.block (hP:Plain P) {id:Nat} {c:Code} {Q:Exit->Act->World->Prop} {a:Act} {w:World} (hQ:∀ a w τ d,Q .normal a w->Q .normal a (re w τ d)) (h:HWp P c (Exit.inBlock id Q) a w):HWp P (.block id c) Q a w:=by
 intro b k cs hb
 refine LeadsR.move hP (fine_at hb.items hb.frames) (fun _=>.one step_block) fun _=>?_
 refine (h b (.inBlock id::k) cs ⟨okItems_cons trivial hb.items,hb.frames,fun id' a w x=>?_,fun l a w x=>?_⟩).then ?_
 ·by_cases hid:id'=id
  ·exact ⟨k,by simp [exitTo,hid]⟩
  ·simp only [Exit.inBlock,hid,if_false] at x
   obtain ⟨k',hk⟩:=hb.exits id' a w x
   have:(id==id')=false:=by simp;exact fun h=>hid h.symm
   exact ⟨k',by simp [exitTo,this,hk]⟩
 ·obtain ⟨k',hk⟩:=hb.gotos l a w x
  exact ⟨k',by simp [gotoIn,hk]⟩
 rintro g w' ⟨e,a',h1,h2⟩
 cases e with
 | normal =>
  cases h2
  exact (LeadsR.move hP (fine_G (okFrame_at (okItems_cons (it:=.inBlock id) trivial hb.items)) hb.frames) (fun _=>.one step_inBlock) fun _=>.here fun τ d=>⟨.normal,a',hQ _ _ _ _ h1,rfl⟩).leads
 | exit id' =>
  obtain ⟨k',h3,h4⟩:=h2
  by_cases hid:id'=id
  ·subst hid
   simp only [Exit.inBlock,if_true] at h1
   simp [exitTo] at h3
   subst h3
   exact .here ⟨.normal,a',h1,h4⟩
  ·simp only [Exit.inBlock,hid,if_false] at h1
   have:(id==id')=false:=by simp;exact fun h=>hid h.symm
   simp [exitTo,this] at h3
   exact .here ⟨.exit id',a',h1,k',h3,h4⟩
 | goto l=>obtain ⟨k',h3,h4⟩:=h2;simp [gotoIn] at h3;exact .here ⟨.goto l,a',h1,k',h3,h4⟩
 | ret=>exact .here ⟨.ret,a',h1,h2⟩
 | panic chain=>exact .here ⟨.panic chain,a',h1,h2⟩
 | outgrown=>exact h2.elim
theorem HWp.loop (hP:Plain P) {c:Code} {Q:Exit->Act->World->Prop} {a:Act} {w:World} (I:Nat->Act->World->Prop) (n₀:Nat) (h₀:I n₀ a w)
  (round:∀ n a w,I n a w->HWp P c (Exit.then (fun a' w'=>∃ m,m<n/\I m a' w') Q) a w):HWp P (.loop c) Q a w:=by
 intro b k cs hb
 have key:∀ n a w,I n a w->LeadsR P (fun g w'=>∃ e a',Q e a' w'/\At b k cs g e a') (G (b.at a (.code c::.inLoop c::k)) cs) w:=by
  intro n
  induction n using Nat.strongRecOn with
  | _ n ih =>
   intro a w hn
   refine (round n a w hn b (.inLoop c::k) cs (hb.pass rfl trivial (fun _ _ _ x=>x) (fun _ _ _ x=>x))).then ?_
   rintro g w' ⟨e,a',h1,h2⟩
   cases e with
   | normal =>
    cases h2
    obtain ⟨m,hm,h1⟩:=h1
    exact (LeadsR.move hP (fine_G (okFrame_at (okItems_cons (it:=.inLoop c) trivial hb.items)) hb.frames) (fun _=>.one step_inLoop) fun _=>ih m hm a' w' h1).leads
   | _=>exact .here ⟨_,a',h1,At.pass (x:=.inLoop c) rfl (by simp) h2⟩
 exact LeadsR.move hP (fine_at hb.items hb.frames) (fun _=>.one step_loop) fun _=>key n₀ a w h₀
theorem HWp.ret (hP:Plain P) {Q:Exit->Act->World->Prop} {a:Act} {w:World} (h:∀ τ d,Q .ret a (re w τ d)):HWp P .ret Q a w :=
 fun _ _ _ hb=>LeadsR.move hP (fine_at hb.items hb.frames) (fun _=>.one step_ret) fun hf=>.here fun τ d=>⟨.ret,a,h τ d,_,hf.ok.frame,rfl⟩
theorem HWp.exit (hP:Plain P) {id:Nat} {Q:Exit->Act->World->Prop} {a:Act} {w:World} (h:∀ τ d,Q (.exit id) a (re w τ d)):HWp P (.exit id) Q a w:=fun _ _ _ hb=>by
 obtain ⟨k',hk⟩:=hb.exits id a _ (h w.tape w.drawn)
 exact LeadsR.move hP (fine_at hb.items hb.frames) (fun _=>.one (step_exit hk)) fun _=>.here fun τ d=>⟨.exit id,a,h τ d,k',hk,rfl⟩
theorem okFrames_cons {fr:Frame} {cs:List Frame} (h0:okFrame fr) (h:∀ x∈cs,okFrame x):∀ x∈fr::cs,okFrame x:=fun x hx=>by
 rcases List.mem_cons.1 hx with rfl | hx
 ·exact h0
 ·exact h x hx
theorem fine_ops {b:Frame} {a:Act} {ops:Array Oper} {l:List Nat} {k:List Item} {cs:List Frame} (h:∀ it∈k,okItem it) (hc:∀ fr∈cs,okFrame fr):Fine (G (b.at a (.inRegion ops l::k)) cs):=fine_G (okFrame_at (okItems_cons trivial h)) hc
end Go.Proofs.YtpbbmagjhkakgaaGreatDoor.Lf
