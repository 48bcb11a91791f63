import Derived.Conc.Beside
import GoSem.Dispatch
import Derived.Laws.Sem
namespace Go.Proofs.YtpbbmagjhkakgaaGreatDoor.Lf
open Go Go.Conc
def re (w:World) (τ:Tape) (d:Nat):World:={ w with tape:=τ,drawn:=d }
def Alike (w:World) (m:Nat) (τ:Tape) (d:Nat):Prop:=∀ j,j<m->τ (d+j)=w.tape (w.drawn+j)
theorem re_re (w:World) (τ τ':Tape) (d d':Nat):re (re w τ d) τ' d'=re w τ' d':=rfl
theorem re_self (w:World):re w w.tape w.drawn=w:=rfl
theorem re_freeze (w:World) (τ:Tape) (d:Nat) (a:Addr) (n:Nat):(re w τ d).freeze a n=re (w.freeze a n) τ d:=by unfold World.freeze;split<;>rfl
def reX (τ:Tape) (d:Nat):Except Halt (World×List Addr)->Except Halt (World×List Addr)
 | .ok (w,l)=>.ok (re w τ d,l)
 | .error h=>.error h
def reE (τ:Tape) (d:Nat):Except String (World×List Addr)->Except String (World×List Addr)
 | .ok (w,l)=>.ok (re w τ d,l)
 | .error h=>.error h
theorem re_viewStore (p:Program) (w:World) (τ:Tape) (d:Nat) (at_:Addr) (u:TypeId) (k:Addr) (v:Value) (b:Bool) :
  (re w τ d).viewStore p at_ u k v b=reE τ d (w.viewStore p at_ u k v b):=by
 unfold World.viewStore
 have hs:World.seen p (re w τ d) at_ u k b=World.seen p w at_ u k b:=rfl
 rw [hs]
 simp only [re,bind,Except.bind,pure,Except.pure,MonadExcept.throw,throwThe,MonadExceptOf.throw]
 split
 ·rfl
 ·cases World.seen p w at_ u k b with
  | error e=>rfl
  | ok x =>
   obtain ⟨c,e,frozen,first,like,cells⟩:=x
   simp only []
   split
   ·split
    ·rfl
    ·split
     ·rfl
     ·rfl
   ·rfl
theorem re_farStore (p:Program) (w:World) (τ:Tape) (d:Nat) (a:Addr) (v:Value) (b:Bool) :
  (re w τ d).farStore p a v b=reX τ d (w.farStore p a v b):=by
 unfold World.farStore
 have hh:(re w τ d).heap=w.heap:=rfl
 have hn:(re w τ d).noCell a "store: no such cell"=w.noCell a "store: no such cell":=rfl
 rw [hh,hn]
 split
 ·rename_i at_ u _
  rw [re_viewStore]
  cases World.viewStore p w at_ u a v b with
  | error e=>rfl
  | ok x=>rfl
 ·rfl
theorem farStore_keeps {p:Program} {w w':World} {a:Addr} {v:Value} {b:Bool} {t:List Addr} (h:w.farStore p a v b=.ok (w',t)):w'.tape=w.tape/\w'.drawn=w.drawn:=by
 have:=re_farStore p w w.tape w.drawn a v b
 rw [re_self,h] at this
 simp only [reX,Except.ok.injEq,Prod.mk.injEq,and_true] at this
 rw [this];exact ⟨rfl,rfl⟩
theorem ask_alike {α:Type} (a:Ask α):∀ w:World,∃ m,(w.ask a).2=re (w.ask a).2 w.tape (w.drawn+m)/\
  ∀ τ d,Alike w m τ d->(re w τ d).ask a=((w.ask a).1,re (w.ask a).2 τ (d+m)):=by
 induction a with
 | done a=>exact fun w=>⟨0,rfl,fun τ d _=>rfl⟩
 | ask what range k ih =>
  intro w
  by_cases hf:(Question.extern what range).forced=true
  ·obtain ⟨m,h1,h2⟩:=ih 0 w
   refine ⟨m,?_,fun τ d h=>?_⟩
   ·simp only [World.ask,hf,if_true];exact h1
   ·simp only [World.ask,hf,if_true];exact h2 τ d h
  ·obtain ⟨m,h1,h2⟩:=ih ((Question.extern what range).cut (w.tape w.drawn (.extern what range))) { w with drawn:=w.drawn+1 }
   refine ⟨m+1,?_,fun τ d h=>?_⟩
   ·simp only [World.ask,hf,if_false,Bool.false_eq_true]
    rw [h1]
    simp only [re]
    congr 1;omega
   ·simp only [World.ask,hf,if_false,Bool.false_eq_true]
    have h0:τ d=w.tape w.drawn:=by have:=h 0 (by omega);simpa using this
    have:=h2 τ (d+1) (fun j hj=>by have:=h (j+1) (by omega);simp only;rw [show d+1+j=d+(j+1) by omega,this];congr 1;omega)
    rw [show d+(m+1)=d+1+m by omega,<- this]
    show World.ask _ (k ((Question.extern what range).cut (τ d (.extern what range))))=_
    rw [h0];rfl
def Ends:Halt->Bool
 | .panic _ | .goexit | .unsupported (.initOrder _)=>false
 | _=>true
def Fit (P:Program) {α:Type} (L:α->Prop):Nat->Sem α->Prop
 | d,.pure a=>d=0/\L a
 | d,.load _ _ k=>∀ v,Fit P L d (k v)
 | d,.store _ _ _ k=>Fit P L d k
 | d,.new _ k=>∀ n,Fit P L d (k n)
 | d,.shape _ k=>∀ s,Fit P L d (k s)
 | d,.freeze _ _ k=>Fit P L d k
 | d,.frozen _ k=>∀ b,Fit P L d (k b)
 | d,.getObj _ k=>∀ o,Fit P L d (k o)
 | d,.setObj _ _ k=>Fit P L d k
 | d,.choose _ k=>∀ n,Fit P L d (k n)
 | d,.sys _ k=>(∃ h,k .wouldBlock=.halt h/\Ends h=true)/\∀ r,Fit P L d (k r)
 | d,.program k=>Fit P L d (k P)
 | d,.mark m k=>Fit P L (match m with | .disable=>d+1 | .enable=>d-1 | _=>d) k
 | d,.halt h=>d=0\/Ends h=true
theorem fit_bind {P:Program} {α β:Type} {L:α->Prop} {M:β->Prop} {f:α->Sem β} (hf:∀ a,L a->Fit P M 0 (f a)):∀ {s:Sem α} {d:Nat},Fit P L d s->Fit P M d (s.bind f):=by
 intro s
 induction s with
 | pure a=>intro d h;obtain ⟨rfl,h⟩:=h;exact hf a h
 | load m a k ih=>exact fun h v=>ih v (h v)
 | store m a v k ih=>exact fun h=>ih h
 | new o k ih=>exact fun h v=>ih v (h v)
 | shape o k ih=>exact fun h v=>ih v (h v)
 | freeze a n k ih=>exact fun h=>ih h
 | frozen o k ih=>exact fun h v=>ih v (h v)
 | getObj o k ih=>exact fun h v=>ih v (h v)
 | setObj a n k ih=>exact fun h=>ih h
 | choose o k ih=>exact fun h v=>ih v (h v)
 | sys c k ih =>
  intro d h
  obtain ⟨⟨x,hx,he⟩,h⟩:=h
  exact ⟨⟨x,by show (k .wouldBlock).bind f=_;rw [hx];rfl,he⟩,fun r=>ih r (h r)⟩
 | program k ih=>exact fun h=>ih P h
 | mark m k ih=>exact fun h=>ih h
 | halt x=>exact fun h=>h
def reR {α:Type} (τ:Tape) (d:Nat):Result α->Result α
 | .ok a w=>.ok a (re w τ d)
 | .halt h w=>.halt h (re w τ d)
def resOn {α:Type}:Result α->Bool
 | .ok _ _=>true
 | .halt h _=>!Ends h
theorem sys_alike {w:World} {c:Sys} (h:(w.sys c).1≠.wouldBlock):∃ m,(w.sys c).2=re (w.sys c).2 w.tape (w.drawn+m)/\
  ∀ τ d,Alike w m τ d->(re w τ d).sys c=((w.sys c).1,re (w.sys c).2 τ (d+m)):=by
 obtain ⟨m,h1,h2⟩:=ask_alike (Kernel.perform c w.os) w
 unfold World.sys at h ⊢
 have ho:∀ τ d,(re w τ d).os=w.os:=fun _ _=>rfl
 simp only [ho]
 generalize hx:w.ask (Kernel.perform c w.os)=x at h h1 h2 ⊢
 obtain ⟨⟨r,os⟩,w'⟩:=x
 refine ⟨m,?_,fun τ d ha=>?_⟩
 ·cases r<;>first | exact absurd rfl h | (simp only at h1 ⊢;rw [h1];rfl)
 ·rw [h2 τ d ha]
  cases r<;>first | exact absurd rfl h | rfl
theorem runT_alike (P:Program) {α:Type} {L:α->Prop} (s:Sem α):∀ (n:Nat) (w:World) (es:Array Event),Fit P L n s->resOn (s.runT P w es).1=true->
  ∃ m,(s.runT P w es).1=reR w.tape (w.drawn+m) (s.runT P w es).1/\∀ τ d,Alike w m τ d->s.runT P (re w τ d) es=(reR τ (d+m) (s.runT P w es).1,(s.runT P w es).2):=by
 induction s with
 | pure a=>exact fun n w es _ _=>⟨0,rfl,fun τ d _=>rfl⟩
 | load m a k ih =>
  intro n w es hf ho
  have hc:∀ τ d,(re w τ d).cell? a=w.cell? a:=fun _ _=>rfl
  have hl:∀ τ d b,(re w τ d).farLoad P a b=w.farLoad P a b:=fun _ _ _=>rfl
  simp only [Sem.runT,hc,hl] at ho ⊢
  cases hw:w.cell? a with
  | some v=>simp only [hw] at ho ⊢;exact ih v n w _ (hf v) ho
  | none =>
   simp only [hw] at ho ⊢
   cases hx:w.farLoad P a (m==.atomic) with
   | ok x=>obtain ⟨v,t⟩:=x;simp only [hx] at ho ⊢;exact ih v n w _ (hf v) ho
   | error e=>simp only [hx] at ho ⊢;exact ⟨0,rfl,fun τ d _=>rfl⟩
 | store m a v k ih =>
  intro n w es hf ho
  cases v with
  | agg x=>exact ⟨0,rfl,fun τ d _=>rfl⟩
  | tuple x=>exact ⟨0,rfl,fun τ d _=>rfl⟩
  | _ =>
   have hc:∀ τ d,(re w τ d).cell? a=w.cell? a:=fun _ _=>rfl
   have hz:∀ τ d,(re w τ d).frozen? a=w.frozen? a:=fun _ _=>rfl
   simp only [Sem.runT,hc,hz,re_farStore] at ho ⊢
   cases hw:w.cell? a with
   | some u =>
    simp only [hw] at ho ⊢
    split at ho
    ·rename_i hz1;simp only [hz1,if_true];exact ⟨0,rfl,fun τ d _=>rfl⟩
    ·rename_i hz1
     simp only [hz1,if_false,Bool.false_eq_true] at ho ⊢
     exact ih n _ _ hf ho
   | none =>
    simp only [hw] at ho ⊢
    cases hx:w.farStore P a _ (m==Mode.atomic) with
    | ok x =>
     obtain ⟨w',t⟩:=x
     simp only [hx,reX] at ho ⊢
     obtain ⟨e1,e2⟩:=farStore_keeps hx
     obtain ⟨m',h1,h2⟩:=ih n w' _ hf ho
     rw [e1,e2] at h1
     refine ⟨m',h1,fun τ d ha=>h2 τ d fun j hj=>?_⟩
     rw [e1,e2];exact ha j hj
    | error e=>simp only [hx,reX] at ho ⊢;exact ⟨0,rfl,fun τ d _=>rfl⟩
 | new o k ih=>exact fun n w es hf ho=>ih w.heap.size n _ es (hf _) ho
 | shape r k ih=>exact fun n w es hf ho=>ih (w.shape? r) n w es (hf _) ho
 | freeze a c k ih =>
  intro n w es hf ho
  simp only [Sem.runT,re_freeze] at ho ⊢
  have e1:(w.freeze a c).tape=w.tape:=by unfold World.freeze;split<;>rfl
  have e2:(w.freeze a c).drawn=w.drawn:=by unfold World.freeze;split<;>rfl
  obtain ⟨m',h1,h2⟩:=ih n (w.freeze a c) es hf ho
  rw [e1,e2] at h1
  refine ⟨m',h1,fun τ d ha=>h2 τ d fun j hj=>?_⟩
  rw [e1,e2];exact ha j hj
 | frozen a k ih=>exact fun n w es hf ho=>ih (w.frozen? a) n w es (hf _) ho
 | getObj r k ih =>
  intro n w es hf ho
  have hh:∀ τ d,(re w τ d).heap=w.heap:=fun _ _=>rfl
  simp only [Sem.runT,hh] at ho ⊢
  cases hw:w.heap[r]? with
  | none=>simp only [hw] at ho ⊢;exact ⟨0,rfl,fun τ d _=>rfl⟩
  | some o =>
   cases o with
   | cells c t z=>simp only [hw] at ho ⊢;exact ⟨0,rfl,fun τ d _=>rfl⟩
   | _=>simp only [hw] at ho ⊢;exact ih _ n w _ (hf _) ho
 | setObj r o k ih =>
  intro n w es hf ho
  have hh:∀ τ d,(re w τ d).heap=w.heap:=fun _ _=>rfl
  simp only [Sem.runT,hh] at ho ⊢
  cases hw:w.heap[r]? with
  | none=>simp only [hw] at ho ⊢;exact ⟨0,rfl,fun τ d _=>rfl⟩
  | some x =>
   cases x with
   | cells c t z=>simp only [hw] at ho ⊢;exact ⟨0,rfl,fun τ d _=>rfl⟩
   | _=>simp only [hw] at ho ⊢;exact ih n _ _ hf ho
 | choose q k ih =>
  intro n w es hf ho
  simp only [Sem.runT] at ho ⊢
  by_cases hq:q.forced=true
  ·simp only [hq,if_true] at ho ⊢;exact ih 0 n w es (hf _) ho
  ·simp only [hq,if_false,Bool.false_eq_true] at ho ⊢
   obtain ⟨m',h1,h2⟩:=ih (q.cut (w.tape w.drawn q)) n { w with drawn:=w.drawn+1 } es (hf _) ho
   refine ⟨m'+1,?_,fun τ d ha=>?_⟩
   ·rw [show w.drawn+(m'+1)=w.drawn+1+m' by omega];exact h1
   ·have h0:τ d=w.tape w.drawn:=by have:=ha 0 (by omega);simpa using this
    have:=h2 τ (d+1) (fun j hj=>by have:=ha (j+1) (by omega);simp only;rw [show d+1+j=d+(j+1) by omega,this];congr 1;omega)
    rw [show d+(m'+1)=d+1+m' by omega,<- this]
    show Sem.runT P (k (q.cut (τ d q))) _ es=_
    rw [h0];rfl
 | sys c k ih =>
  intro n w es hf ho
  obtain ⟨⟨x,hx,he⟩,hf⟩:=hf
  simp only [Sem.runT] at ho ⊢
  by_cases hb:(w.sys c).1=.wouldBlock
  ·rw [hb,hx] at ho
   simp [Sem.runT,resOn,he] at ho
  ·obtain ⟨m,h1,h2⟩:=sys_alike hb
   obtain ⟨m',h3,h4⟩:=ih (w.sys c).1 n (w.sys c).2 _ (hf _) ho
   have e1:(w.sys c).2.tape=w.tape:=by rw [h1];rfl
   have e2:(w.sys c).2.drawn=w.drawn+m:=by rw [h1];rfl
   refine ⟨m+m',?_,fun τ d ha=>?_⟩
   ·rw [e1,e2] at h3;rw [<- Nat.add_assoc];exact h3
   ·rw [h2 τ d fun j hj=>ha j (by omega)]
    simp only
    rw [h4 τ (d+m) fun j hj=>?_]
    ·rw [Nat.add_assoc]
    ·rw [e1,e2];have:=ha (m+j) (by omega);rw [<- Nat.add_assoc] at this;rw [this,<- Nat.add_assoc]
 | program k ih=>exact fun n w es hf ho=>ih P n w es hf ho
 | mark m k ih=>exact fun n w es hf ho=>ih _ w _ hf ho
 | halt h=>exact fun n w es hf ho=>⟨0,rfl,fun τ d _=>rfl⟩
end Go.Proofs.YtpbbmagjhkakgaaGreatDoor.Lf
namespace Go.Proofs.YtpbbmagjhkakgaaGreatDoor.Lf
open Go
variable (P : Program)
abbrev FT {α:Type} (s:Sem α):Prop:=Fit P (fun _=>True) 0 s
theorem fit_pure {α:Type} (a:α):FT P (pure a:Sem α):=⟨rfl,trivial⟩
theorem fitB {P:Program} {α β:Type} {M:β->Prop} {s:Sem α} {f:α->Sem β} (hs:Fit P (fun _=>True) 0 s) (hf:∀ a,Fit P M 0 (f a)):Fit P M 0 (s >>= f):=fit_bind (fun a _=>hf a) hs
theorem fitM {P:Program} {α β:Type} {s:Sem α} {f:α->β} (hs:Fit P (fun _=>True) 0 s):FT P (f <$> s):=fit_bind (L:=fun _=>True) (f:=fun a=>pure (f a)) (fun _ _=>fit_pure P _) hs
theorem fit_load (a m):FT P (load a m):=fun _=>⟨rfl,trivial⟩
theorem fit_store (a v m):FT P (store a v m):=⟨rfl,trivial⟩
theorem fit_newObj (o):FT P (newObj o):=fun _=>⟨rfl,trivial⟩
theorem fit_shape (o):FT P (shape o):=fun _=>⟨rfl,trivial⟩
theorem fit_freeze (a n):FT P (freeze a n):=⟨rfl,trivial⟩
theorem fit_frozen (a):FT P (frozen a):=fun _=>⟨rfl,trivial⟩
theorem fit_getObj (r):FT P (getObj r):=fun _=>⟨rfl,trivial⟩
theorem fit_setObj (r o):FT P (setObj r o):=⟨rfl,trivial⟩
theorem fit_choose (q):FT P (choose q):=fun _=>⟨rfl,trivial⟩
theorem fit_program:Fit P (fun _=>True) 0 program:=⟨rfl,trivial⟩
theorem fit_stuck {α:Type} {L:α->Prop} (s:String):Fit P L 0 (stuck s:Sem α):=.inl rfl
theorem fit_unsupported {α:Type} {L:α->Prop} (s):Fit P L 0 (unsupported s:Sem α):=.inl rfl
theorem fit_goPanic {α:Type} {L:α->Prop} (s):Fit P L 0 (goPanic s:Sem α):=.inl rfl
theorem fit_throw {α:Type} {L:α->Prop} (s):Fit P L 0 (throw s:Sem α):=.inl rfl
theorem fit_askRoom (n):FT P (askRoom n):=by unfold askRoom;split<;>exact ⟨rfl,trivial⟩
theorem fLi {P:Program} {α β:Type} {f:α->β->Sem (ForInStep β)} (hf:∀ a b,Fit P (fun _=>True) 0 (f a b)) (l:List α):∀ b,Fit P (fun _=>True) 0 (forIn l b f):=by
 induction l with
 | nil=>intro b;rw [List.forIn_nil];exact fit_pure P _
 | cons a l ih=>intro b;rw [List.forIn_cons];refine fitB (hf _ _) fun r=>?_;split<;>first | exact fit_pure P _ | exact ih _
theorem fAi {P:Program} {α β:Type} {f:α->β->Sem (ForInStep β)} (hf:∀ a b,Fit P (fun _=>True) 0 (f a b)) (l:Array α) (b:β):FT P (forIn l b f):=by
 rw [<- Array.forIn_toList];exact fLi hf _ _
theorem fRi {P:Program} {β:Type} {f:Nat->β->Sem (ForInStep β)} (hf:∀ a b,Fit P (fun _=>True) 0 (f a b)) (l:Std.Legacy.Range) (b:β):FT P (forIn l b f):=by
 rw [Std.Legacy.Range.forIn_eq_forIn_range'];exact fLi hf _ _
theorem fFo {P:Program} {α β:Type} {f:β->α->Sem β} (hf:∀ a b,Fit P (fun _=>True) 0 (f a b)) (l:List α):∀ b,Fit P (fun _=>True) 0 (List.foldlM f b l):=by
 induction l with
 | nil=>intro b;exact fit_pure P _
 | cons a l ih=>intro b;rw [List.foldlM_cons];exact fitB (hf _ _) fun r=>ih _
theorem fLm {P:Program} {α β:Type} {f:α->Sem β} (hf:∀ a,Fit P (fun _=>True) 0 (f a)) (l:List α):FT P (List.mapM f l):=by
 rw [List.mapM_eq_reverse_foldlM_cons];exact fitM (fFo (fun _ a=>fitM (hf a)) _ _)
theorem fAm {P:Program} {α β:Type} {f:α->Sem β} (hf:∀ a,Fit P (fun _=>True) 0 (f a)) (l:Array α):FT P (Array.mapM f l):=by
 rw [Array.mapM_eq_mapM_toList];exact fitM (fLm hf _)
theorem fitIte {P:Program} {α:Type} {L:α->Prop} {c:Prop} [Decidable c] {x y:Sem α} (hx:Fit P L 0 x) (hy:Fit P L 0 y):Fit P L 0 (if c then x else y):=by split<;>assumption
theorem fit_marked {m:Mark} (h:m≠.disable) (h':m≠.enable):FT P (mark m):=by
 unfold mark Fit
 cases m<;>first | exact absurd rfl h | exact absurd rfl h' | exact ⟨rfl,trivial⟩
theorem fit_asBool (x0):FT P (@Go.asBool x0):=by
 unfold Go.asBool
 try dsimp only
 repeat' (first | (with_reducible first | exact fit_pure P _ | apply fit_stuck) | intro _ | split | dsimp only)
theorem fit_underlying (x0):FT P (@Go.underlying x0):=by
 unfold Go.underlying
 try dsimp only
 repeat' (first | (with_reducible first | exact fit_pure P _ | apply fit_program | apply fit_stuck | apply fitB) | intro _ | split | dsimp only)
theorem fit_isAgg (x0):FT P (@Go.isAgg x0):=by
 unfold Go.isAgg
 try dsimp only
 repeat' (first | (with_reducible first | exact fit_pure P _ | apply fit_underlying | apply fitB) | intro _ | split | dsimp only)
theorem fit_typeInfo (x0):FT P (@Go.typeInfo x0):=by
 unfold Go.typeInfo
 try dsimp only
 repeat' (first | (with_reducible first | exact fit_pure P _ | apply fit_program | apply fit_stuck | apply fitB) | intro _ | split | dsimp only)
theorem fit_sizeOf (x0):FT P (@Go.sizeOf x0):=by
 unfold Go.sizeOf
 try dsimp only
 repeat' (first | (with_reducible first | exact fit_pure P _ | apply fit_typeInfo | apply fitB) | intro _ | split | dsimp only)
theorem fit_loadCellsFrom (x0 x1 x2 x3):FT P (loadCellsFrom x0 x1 x2 x3):=by
 induction x2 generalizing x1 x3 with
 | zero=>exact fit_pure P _
 | succ n ih=>unfold loadCellsFrom;exact fitB (fit_load P _ _) fun _=>ih _ _
theorem fit_loadCells (x0 x1):FT P (@Go.loadCells x0 x1):=by
 unfold Go.loadCells
 try dsimp only
 repeat' (first | (with_reducible first | exact fit_pure P _ | apply fit_loadCellsFrom) | intro _ | split | dsimp only)
theorem fit_loadVar (x0 x1):FT P (@Go.loadVar x0 x1):=by
 unfold Go.loadVar
 try dsimp only
 repeat' (first | (with_reducible first | exact fit_pure P _ | apply fit_isAgg | apply fit_sizeOf | apply fit_loadCells | apply fit_load | apply fitB) | intro _ | split | dsimp only)
theorem fit_Place_get (x0 x1):FT P (@Go.Place.get x0 x1):=by
 unfold Go.Place.get
 try dsimp only
 repeat' (first | (with_reducible first | exact fit_pure P _ | apply fit_loadVar) | intro _ | split | dsimp only)
theorem fit_numberAt (x0):FT P (@Go.numberAt x0):=by
 unfold Go.numberAt
 try dsimp only
 repeat' (first | (with_reducible first | exact fit_pure P _ | apply fit_shape | apply fit_getObj | apply fitB) | intro _ | split | dsimp only)
theorem fit_behindNumber (x0):FT P (@Go.behindNumber x0):=by
 unfold Go.behindNumber
 try dsimp only
 repeat' (first | (with_reducible first | exact fit_pure P _ | apply fit_numberAt | apply fitB) | intro _ | split | dsimp only)
theorem fit_viewAt (x0):FT P (@Go.viewAt x0):=by
 unfold Go.viewAt
 try dsimp only
 repeat' (first | (with_reducible first | exact fit_pure P _ | apply fit_shape | apply fit_getObj | apply fitB) | intro _ | split | dsimp only)
theorem fit_noView (x0):FT P (@Go.noView x0):=by
 unfold Go.noView
 try dsimp only
 repeat' (first | (with_reducible first | exact fit_pure P _ | apply fit_viewAt | apply fit_unsupported | apply fitB) | intro _ | split | dsimp only)
theorem fit_byteOf (x0):FT P (@Go.byteOf x0):=by
 unfold Go.byteOf
 try dsimp only
 repeat' (first | (with_reducible first | exact fit_pure P _ | apply fit_program | apply fit_noView | apply fit_shape | apply fit_stuck | apply fitB) | intro _ | split | dsimp only)
theorem fit_stringish (x0):FT P (@Go.stringish x0):=by
 unfold Go.stringish
 try dsimp only
 repeat' (first | (with_reducible first | exact fit_pure P _ | apply fit_frozen | apply fit_shape | apply fitB) | intro _ | split | dsimp only)
theorem fit_mayBeOne (x0 x1):FT P (@Go.mayBeOne x0 x1):=by
 unfold Go.mayBeOne
 try dsimp only
 repeat' (first | (with_reducible first | exact fit_pure P _ | apply fit_shape | apply fit_stringish | apply fitB) | intro _ | split | dsimp only)
theorem fit_sameAddr (x0 x1):FT P (@Go.sameAddr x0 x1):=by
 unfold Go.sameAddr
 try dsimp only
 repeat' (first | (with_reducible first | exact fit_pure P _ | apply fit_frozen | apply fit_noView | apply fit_mayBeOne | apply fit_choose | apply fit_unsupported | apply fitB) | intro _ | split | dsimp only)
theorem fit_samePointer (x0 x1):FT P (@Go.samePointer x0 x1):=by
 unfold Go.samePointer
 try dsimp only
 repeat' (first | (with_reducible first | exact fit_pure P _ | apply fit_sameAddr) | intro _ | split | dsimp only)
theorem fit_typeStr (x0):FT P (@Go.typeStr x0):=by
 unfold Go.typeStr
 try dsimp only
 repeat' (first | (with_reducible first | exact fit_pure P _ | apply fit_typeInfo | apply fit_unsupported | apply fitB) | intro _ | split | dsimp only)
theorem fit_elemOf (x0):FT P (@Go.elemOf x0):=by
 unfold Go.elemOf
 try dsimp only
 repeat' (first | (with_reducible first | exact fit_pure P _ | apply fit_underlying | apply fit_stuck | apply fitB) | intro _ | split | dsimp only)
theorem fit_newRow (x0 x1):FT P (@Go.newRow x0 x1):=by
 unfold Go.newRow
 try dsimp only
 repeat' (first | (with_reducible first | exact fit_pure P _ | apply fit_newObj | apply fitB) | intro _ | split | dsimp only)
theorem fit_newVar (x0 x1):FT P (@Go.newVar x0 x1):=by
 unfold Go.newVar
 try dsimp only
 repeat' (first | (with_reducible first | exact fit_pure P _ | apply fit_newRow) | intro _ | split | dsimp only)
theorem fit_runtimePanic {x0} (x1):FT P (@Go.runtimePanic x0 x1):=by
 unfold Go.runtimePanic
 try dsimp only
 repeat' (first | (with_reducible first | exact fit_pure P _ | apply fit_program | apply fit_goPanic | apply fit_elemOf | apply fit_newVar | apply fitB) | intro _ | split | dsimp only)
theorem fit_part (x0 x1 x2):FT P (@Go.part x0 x1 x2):=by
 unfold Go.part
 try dsimp only
 repeat' (first | (with_reducible first | exact fit_pure P _ | apply fit_isAgg | apply fit_sizeOf | apply fit_stuck | apply fitB) | intro _ | split | dsimp only)
theorem fit_Op_equalIn (x0 x1 x2 x3):FT P (@Go.Op.equalIn x0 x1 x2 x3):=by
 induction x0 generalizing x1 x2 x3 with
 | zero =>
  unfold Go.Op.equalIn
  try dsimp only
  repeat' (first | (with_reducible first | exact fit_pure P _ | apply fit_unsupported | apply fit_underlying | apply fit_stuck | apply fit_behindNumber | apply fit_program | apply fit_byteOf | apply fit_typeInfo | apply fit_sizeOf | apply fit_sameAddr | apply fit_choose | apply fit_samePointer | apply fit_typeStr | apply fit_runtimePanic | apply fit_part | apply fitB) | (intro _) | split)
 | succ n ih =>
  unfold Go.Op.equalIn
  try dsimp only
  repeat' (first | (with_reducible first | exact fit_pure P _ | apply ih | apply fit_unsupported | apply fit_underlying | apply fit_stuck | apply fit_behindNumber | apply fit_program | apply fit_byteOf | apply fit_typeInfo | apply fit_sizeOf | apply fit_sameAddr | apply fit_choose | apply fit_samePointer | apply fit_typeStr | apply fit_runtimePanic | apply fit_part | apply fitB | apply fAi | apply fRi) | (intro _) | split)
theorem fit_Op_equal (x0 x1 x2):FT P (@Go.Op.equal x0 x1 x2):=by
 unfold Go.Op.equal
 try dsimp only
 repeat' (first | (with_reducible first | exact fit_pure P _ | apply fit_Op_equalIn) | intro _ | split | dsimp only)
theorem fit_Instr_findAsking (x0 x1 x2 x3):FT P (Instr.findAsking x0 x1 x2 x3):=by
 induction x2 generalizing x3 with
 | nil=>exact fit_pure P _
 | cons e es ih=>unfold Instr.findAsking;refine fitB (fit_Op_equal P _ _ _) fun _=>?_;split<;>first | exact ih _ | exact fit_pure P _
theorem fit_Instr_findKey (x0 x1 x2):FT P (@Go.Instr.findKey x0 x1 x2):=by
 unfold Go.Instr.findKey
 try dsimp only
 repeat' (first | (with_reducible first | exact fit_pure P _ | apply fit_underlying | apply fit_Instr_findAsking | apply fitB) | intro _ | split | dsimp only)
theorem fit_Builtin_firstCells (x0 x1 x2):FT P (@Go.Builtin.firstCells x0 x1 x2):=by
 unfold Go.Builtin.firstCells
 try dsimp only
 repeat' (first | (with_reducible first | exact fit_pure P _ | apply fit_loadCells | apply fit_stuck) | intro _ | split | dsimp only)
theorem fit_zeroValue (x0):FT P (@Go.zeroValue x0):=by
 unfold Go.zeroValue
 try dsimp only
 repeat' (first | (with_reducible first | exact fit_pure P _ | apply fit_typeInfo | apply fit_unsupported | apply fitB) | intro _ | split | dsimp only)
theorem fit_storeCells (x0 x1 x2):FT P (storeCells x0 x1 x2):=by
 induction x1 generalizing x2 with
 | nil=>exact fit_pure P _
 | cons e es ih=>unfold storeCells;exact fitB (fit_store P _ _ _) fun _=>ih _
theorem fit_storeVar (x0 x1 x2):FT P (@Go.storeVar x0 x1 x2):=by
 unfold Go.storeVar
 try dsimp only
 repeat' (first | (with_reducible first | exact fit_pure P _ | apply fit_sizeOf | apply fit_storeCells | apply fit_stuck | apply fitB) | intro _ | split | dsimp only)
theorem fit_Instr_alloc (x0 x1 x2):FT P (@Go.Instr.alloc x0 x1 x2):=by
 unfold Go.Instr.alloc
 try dsimp only
 repeat' (first | (with_reducible first | exact fit_pure P _ | apply fit_zeroValue | apply fit_storeVar | apply fit_newVar | apply fitB) | intro _ | split | dsimp only)
theorem fit_Builtin_holdsCells (x0 x1):FT P (@Go.Builtin.holdsCells x0 x1):=by
 unfold Go.Builtin.holdsCells
 try dsimp only
 repeat' (first | (with_reducible first | exact fit_pure P _ | apply fit_shape | apply fitB) | intro _ | split | dsimp only)
theorem fit_Builtin_mayShare (x0 x1 x2 x3 x4):FT P (@Go.Builtin.mayShare x0 x1 x2 x3 x4):=by
 unfold Go.Builtin.mayShare
 try dsimp only
 repeat' (first | (with_reducible first | exact fit_pure P _ | apply fit_Builtin_holdsCells | apply fit_frozen | apply fitB) | intro _ | split | dsimp only)
theorem fit_asIntOf (x0):FT P (@Go.asIntOf x0):=by
 unfold Go.asIntOf
 try dsimp only
 repeat' (first | (with_reducible first | exact fit_pure P _ | apply fit_unsupported | apply fit_stuck) | intro _ | split | dsimp only)
theorem fit_asInt (x0):FT P (@Go.asInt x0):=by
 unfold Go.asInt
 try dsimp only
 repeat' (first | (with_reducible first | exact fit_pure P _ | apply fit_asIntOf | apply fitB) | intro _ | split | dsimp only)
theorem fit_Builtin_lenOf (x0):FT P (@Go.Builtin.lenOf x0):=by
 unfold Go.Builtin.lenOf
 try dsimp only
 repeat' (first | (with_reducible first | exact fit_pure P _ | apply fit_stuck) | intro _ | split | dsimp only)
theorem fit_Builtin_append_ (x0 x1 x2):FT P (Builtin.append_ x0 x1 x2):=by
 unfold Builtin.append_
 split
 ·refine fitB (fit_underlying P _) fun t=>?_
  split
  ·split
   ·refine fitB (fit_sizeOf P _) fun size=>?_
    extract_lets j0 j1
    have h0:∀ u,Fit P (fun _=>True) 0 (j0 u):=fun u=>fit_unsupported P _
    have h1:∀ zeros,Fit P (fun _=>True) 0 (j1 zeros):=by
     intro zeros
     simp -zeta only [j1]
     extract_lets j2
     have h2:∀ n,Fit P (fun _=>True) 0 (j2 n):=by
      intro n
      simp -zeta only [j2]
      extract_lets app need j3 j4 j5
      have ha:Fit P (fun _=>True) 0 app :=
       fitIte (fit_Builtin_firstCells P _ _ _) (fitIte (fit_pure P _) (fitB (fit_zeroValue P _) fun _=>fit_pure P _))
      have h4:∀ u,Fit P (fun _=>True) 0 (j4 u):=by
       intro u
       refine fitB (fit_choose P _) fun _=>fitB (fit_typeInfo P _) fun _=>fitB (fit_askRoom P _) fun _=>fitB (fit_Builtin_firstCells P _ _ _) fun _=>fitB ha fun _=>fitB (fit_zeroValue P _) fun _=>?_
       exact fitB (fit_newRow P _ _) fun _=>fit_pure P _
      have h5:∀ u,Fit P (fun _=>True) 0 (j5 u):=by
       intro u
       refine fitB (fit_typeInfo P _) fun info=>?_
       refine fitIte (fitB (fitIte (fit_runtimePanic P _) (fitB (fit_Builtin_mayShare P _ _ _ _ _) fun _=>?_)) fun _=>h4 ()) (h4 ())
       exact fitIte (fitB (fit_marked P (by simp) (by simp)) fun _=>h0 ()) (h0 ())
      refine fitIte ?_ ?_
      ·refine fitB ha fun new=>?_
       split
       ·exact fitB (fit_storeCells P _ _ _) fun _=>fit_pure P _
       ·exact fit_pure P _
      ·refine fitB (fit_typeInfo P _) fun info=>?_
       exact fitIte (fitB (fit_runtimePanic P _) fun _=>h5 ()) (h5 ())
     refine fitIte ?_ (fitB (fit_Builtin_lenOf P _) fun _=>h2 _)
     refine fitB (fit_asInt P _) fun l=>?_
     extract_lets l' j4 j3
     have h4:∀ u,Fit P (fun _=>True) 0 (j4 u):=fun u=>fitB (fit_pure P _) fun _=>h2 _
     have h3:∀ u,Fit P (fun _=>True) 0 (j3 u):=by
      intro u
      refine fitB (fit_typeInfo P _) fun info=>?_
      exact fitIte (fitB (fit_choose P _) fun _=>fitB (fit_runtimePanic P _) fun _=>h4 ()) (h4 ())
     exact fitIte (fitB (fit_runtimePanic P _) fun _=>h3 ()) (h3 ())
    split
    ·exact fitB (fit_underlying P _) fun _=>fitB (fit_pure P _) fun _=>h1 _
    ·exact fitB (fit_pure P _) fun _=>h1 _
   ·exact fit_stuck P _
  ·exact fit_stuck P _
 ·exact fit_stuck P _
theorem fit_Builtin_cap_ (x0 x1 x2):FT P (@Go.Builtin.cap_ x0 x1 x2):=by
 unfold Go.Builtin.cap_
 try dsimp only
 repeat' (first | (with_reducible first | exact fit_pure P _ | apply fit_underlying | apply fit_stuck | apply fit_getObj | apply fitB) | intro _ | split | dsimp only)
theorem fit_Builtin_clear_ (x0 x1 x2):FT P (@Go.Builtin.clear_ x0 x1 x2):=by
 unfold Go.Builtin.clear_
 try dsimp only
 repeat' (first | (with_reducible first | exact fit_pure P _ | apply fit_underlying | apply fit_getObj | apply fit_setObj | apply fit_stuck | apply fit_zeroValue | apply fit_storeCells | apply fitB) | intro _ | split | dsimp only)
theorem fit_Builtin_close_ (x0 x1 x2):FT P (Builtin.close_ x0 x1 x2):=by
 rcases x2 with ⟨_ | ⟨a,_ | ⟨b,l⟩⟩⟩
 ·exact fit_stuck P _
 ·cases a with
  | chan r =>
   cases r with
   | none=>exact (fit_runtimePanic P (.plain "close of nil channel"):Fit P (fun _=>True) 0 (runtimePanic (.plain "close of nil channel"):Sem Value))
   | some r =>
    refine fitB (s:=getObj r) (fit_getObj P r) fun o=>?_
    cases o with
    | chan a b c d e f =>
     cases c with
     | true=>exact fitB (fit_runtimePanic P _) fun _=>fitB (fit_setObj P _ _) fun _=>fit_pure P _
     | false=>exact fitB (fit_setObj P _ _) fun _=>fit_pure P _
    | _=>exact fit_stuck P _
  | _=>exact fit_stuck P _
 ·exact fit_stuck P _
theorem fit_Builtin_complex_ (x0 x1 x2):FT P (Builtin.complex_ x0 x1 x2):=by
 rcases x2 with ⟨_ | ⟨a,_ | ⟨b,_ | ⟨c,l⟩⟩⟩⟩
 ·exact fit_stuck P _
 ·exact fit_stuck P _
 ·cases a with
  | float k re =>
   cases b with
   | float k' im =>
    by_cases h:k=k'
    ·have e:Builtin.complex_ x0 x1 ⟨[.float k re,.float k' im]⟩=pure (.complex k re im):=(if_pos h:(if k=k' then pure (.complex k re im) else stuck "complex: parts of different kinds":Sem Value)=_)
     rw [e];exact fit_pure P _
    ·have e:Builtin.complex_ x0 x1 ⟨[.float k re,.float k' im]⟩=stuck "complex: parts of different kinds":=(if_neg h:(if k=k' then pure (.complex k re im) else stuck "complex: parts of different kinds":Sem Value)=_)
     rw [e];exact fit_stuck P _
   | _=>exact fit_stuck P _
  | _=>exact fit_stuck P _
 ·exact fit_stuck P _
theorem fit_Builtin_copy_ (x0 x1 x2):FT P (@Go.Builtin.copy_ x0 x1 x2):=by
 unfold Go.Builtin.copy_
 try dsimp only
 repeat' (first | (with_reducible first | exact fit_pure P _ | apply fit_underlying | apply fit_Builtin_lenOf | apply fit_sizeOf | apply fit_Builtin_firstCells | apply fit_storeCells | apply fit_stuck | apply fitB) | intro _ | split | dsimp only)
theorem fit_Instr_checkKey (x0 x1 x2 x3):FT P (@Go.Instr.checkKey x0 x1 x2 x3):=by
 induction x1 generalizing x0 x2 x3 with
 | zero =>
  unfold Go.Instr.checkKey
  try dsimp only
  repeat' (first | (with_reducible first | exact fit_pure P _ | apply fit_unsupported | apply fit_underlying | apply fit_typeInfo | apply fit_typeStr | apply fit_runtimePanic | apply fit_sizeOf | apply fit_part | apply fit_stuck | apply fitB) | (intro _) | split)
 | succ n ih =>
  unfold Go.Instr.checkKey
  try dsimp only
  repeat' (first | (with_reducible first | exact fit_pure P _ | apply ih | apply fit_unsupported | apply fit_underlying | apply fit_typeInfo | apply fit_typeStr | apply fit_runtimePanic | apply fit_sizeOf | apply fit_part | apply fit_stuck | apply fitB | apply fAi | apply fRi) | (intro _) | split)
theorem fit_Builtin_delete_ (x0 x1 x2):FT P (@Go.Builtin.delete_ x0 x1 x2):=by
 unfold Go.Builtin.delete_
 try dsimp only
 repeat' (first | (with_reducible first | exact fit_pure P _ | apply fit_underlying | apply fit_Instr_checkKey | apply fit_getObj | apply fit_Instr_findKey | apply fit_setObj | apply fit_stuck | apply fitB) | intro _ | split | dsimp only)
theorem fit_Builtin_imag_ (x0 x1 x2):FT P (@Go.Builtin.imag_ x0 x1 x2):=by
 unfold Go.Builtin.imag_
 rcases x2 with ⟨_ | ⟨a,_ | ⟨b,_ | ⟨c,_ | ⟨d,l⟩⟩⟩⟩⟩
 all_goals (try cases a)
 all_goals (try cases b)
 all_goals (try cases c)
 all_goals first | exact fit_stuck P _ | exact fit_pure P _ | skip
 all_goals
  repeat' (first | (with_reducible first | exact fit_pure P _ | apply fit_stuck) | (intro _) | split | (exact fit_stuck P _) | (exact fit_pure P _) | (dsimp only) | (apply fitB))
theorem fit_Builtin_len_ (x0 x1 x2):FT P (@Go.Builtin.len_ x0 x1 x2):=by
 unfold Go.Builtin.len_
 try dsimp only
 repeat' (first | (with_reducible first | exact fit_pure P _ | apply fit_underlying | apply fit_stuck | apply fit_getObj | apply fitB) | intro _ | split | dsimp only)
theorem fit_Op_stringOp (x0 x1 x2):FT P (@Go.Op.stringOp x0 x1 x2):=by
 unfold Go.Op.stringOp
 try dsimp only
 repeat' (first | (with_reducible first | exact fit_pure P _ | apply fit_unsupported | apply fit_stuck) | intro _ | split | dsimp only)
theorem fit_Builtin_max2 (x0 x1):FT P (@Go.Builtin.max2 x0 x1):=by
 unfold Go.Builtin.max2
 try dsimp only
 repeat' (first | (with_reducible first | exact fit_pure P _ | apply fit_choose | apply fit_Op_stringOp | apply fit_asBool | apply fit_unsupported | apply fit_stuck | apply fitB) | intro _ | split | dsimp only)
theorem fit_Builtin_max_ (x0 x1 x2):FT P (@Go.Builtin.max_ x0 x1 x2):=by
 unfold Go.Builtin.max_
 try dsimp only
 repeat' (first | (with_reducible first | exact fit_pure P _ | apply fit_stuck | apply fit_Builtin_max2 | apply fFo) | intro _ | split | trivial | dsimp only | (with_reducible first | exact fit_marked P (by simp) (by simp)))
theorem fit_Builtin_min2 (x0 x1):FT P (@Go.Builtin.min2 x0 x1):=by
 unfold Go.Builtin.min2
 try dsimp only
 repeat' (first | (with_reducible first | exact fit_pure P _ | apply fit_choose | apply fit_Op_stringOp | apply fit_asBool | apply fit_unsupported | apply fit_stuck | apply fitB) | intro _ | split | dsimp only)
theorem fit_Builtin_min_ (x0 x1 x2):FT P (@Go.Builtin.min_ x0 x1 x2):=by
 unfold Go.Builtin.min_
 try dsimp only
 repeat' (first | (with_reducible first | exact fit_pure P _ | apply fit_stuck | apply fit_Builtin_min2 | apply fFo) | intro _ | split | trivial | dsimp only | (with_reducible first | exact fit_marked P (by simp) (by simp)))
theorem fit_Instr_panicnil:Fit P (fun _=>True) 0 Instr.panicnil:=by
 unfold Instr.panicnil
 refine ⟨⟨_,rfl,rfl⟩,fun r=>?_⟩
 show Fit P _ 0 (Sem.bind (.pure r) _)
 simp only [Sem.bind]
 split
 ·exact fitB (fit_program P) fun _=>fit_pure P _
 ·exact fit_stuck P _
theorem fit_Instr_panic (x0):FT P (@Go.Instr.panic x0):=by
 unfold Go.Instr.panic
 try dsimp only
 repeat' (first | (with_reducible first | exact fit_pure P _ | apply fit_goPanic | apply fit_Instr_panicnil | apply fit_runtimePanic | apply fit_stuck | apply fitB) | intro _ | split | dsimp only)
theorem fit_Builtin_real_ (x0 x1 x2):FT P (@Go.Builtin.real_ x0 x1 x2):=by
 unfold Go.Builtin.real_
 rcases x2 with ⟨_ | ⟨a,_ | ⟨b,_ | ⟨c,_ | ⟨d,l⟩⟩⟩⟩⟩
 all_goals (try cases a)
 all_goals (try cases b)
 all_goals (try cases c)
 all_goals first | exact fit_stuck P _ | exact fit_pure P _ | skip
 all_goals
  repeat' (first | (with_reducible first | exact fit_pure P _ | apply fit_stuck) | (intro _) | split | (exact fit_stuck P _) | (exact fit_pure P _) | (dsimp only) | (apply fitB))
theorem fit_Builtin_unsafeAdd_ (x0 x1 x2):FT P (Builtin.unsafeAdd_ x0 x1 x2):=by
 rcases x2 with ⟨_ | ⟨a,_ | ⟨b,_ | ⟨c,l⟩⟩⟩⟩
 ·exact fit_stuck P _
 ·exact fit_stuck P _
 ·cases a with
  | pointer r =>
   refine fitB (s:=asInt b) (fit_asInt P b) fun n=>?_
   repeat' (first | (with_reducible first | exact fit_pure P _ | apply fit_unsupported | apply fit_viewAt | apply fit_shape | apply fit_program | apply fitB) | intro _ | split | dsimp only)
  | _=>exact fit_stuck P _
 ·exact fit_stuck P _
theorem fit_variablesAt (x0 x1 x2):FT P (@Go.variablesAt x0 x1 x2):=by
 unfold Go.variablesAt
 try dsimp only
 repeat' (first | (with_reducible first | exact fit_pure P _ | apply fit_program | apply fit_shape | apply fitB) | intro _ | split | dsimp only)
theorem fit_Builtin_unsafeSlice_ (x0 x1 x2):FT P (Builtin.unsafeSlice_ x0 x1 x2):=by
 rcases x2 with ⟨_ | ⟨a,_ | ⟨b,_ | ⟨c,l⟩⟩⟩⟩
 ·exact fit_stuck P _
 ·exact fit_stuck P _
 ·cases a with
  | pointer r =>
   refine fitB (s:=asInt b) (fit_asInt P b) fun n=>?_
   repeat' (first | (with_reducible first | exact fit_pure P _ | apply fit_stuck | apply fit_unsupported | apply fit_runtimePanic | apply fit_newObj | apply fit_elemOf | apply fit_typeInfo | apply fit_sizeOf | apply fit_variablesAt | apply fit_viewAt | apply fit_program | apply fitB) | intro _ | split | dsimp only)
  | _=>exact fit_stuck P _
 ·exact fit_stuck P _
theorem fit_Builtin_unsafeSliceData_ (x0 x1 x2):FT P (Builtin.unsafeSliceData_ x0 x1 x2):=by
 rcases x2 with ⟨_ | ⟨a,_ | ⟨b,l⟩⟩⟩
 ·exact fit_stuck P _
 ·cases a with
  | slice r n c =>
   cases r with
   | none=>exact fit_pure P _
   | some r =>
    by_cases hc:c≠0
    ·refine cast ?_ (fit_pure P (Value.pointer (some r)))
     exact congrArg (Fit P (fun _=>True) 0) (if_pos hc).symm
    ·refine cast (congrArg (Fit P (fun _=>True) 0) (if_neg hc).symm) ?_
     repeat' (first | (with_reducible first | exact fit_pure P _ | apply fit_newObj | apply fit_elemOf | apply fit_viewAt | apply fitB) | intro _ | split | dsimp only)
  | _=>exact fit_stuck P _
 ·exact fit_stuck P _
theorem fit_loadBytes (x0 x1 x2):FT P (loadBytes x0 x1 x2):=by
 induction x2 generalizing x0 x1 with
 | zero=>exact fit_pure P _
 | succ n ih=>unfold loadBytes;refine fitB (fit_load P _ _) fun _=>?_;split<;>first | exact ih _ _ | exact fit_stuck P _
theorem fit_Builtin_unsafeString_ (x0 x1 x2):FT P (Builtin.unsafeString_ x0 x1 x2):=by
 rcases x2 with ⟨_ | ⟨a,_ | ⟨b,_ | ⟨c,l⟩⟩⟩⟩
 ·exact fit_stuck P _
 ·exact fit_stuck P _
 ·cases a with
  | pointer r =>
   refine fitB (s:=asInt b) (fit_asInt P b) fun n=>?_
   repeat' (first | (with_reducible first | exact fit_pure P _ | apply fit_stuck | apply fit_unsupported | apply fit_runtimePanic | apply fit_loadBytes | apply fit_elemOf | apply fit_freeze | apply fit_variablesAt | apply fitB) | intro _ | split | dsimp only)
  | _=>exact fit_stuck P _
 ·exact fit_stuck P _
theorem fit_markStringish (x0):FT P (@Go.markStringish x0):=by
 unfold Go.markStringish
 try dsimp only
 repeat' (first | (with_reducible first | exact fit_pure P _ | apply fit_shape | apply fit_freeze | apply fitB) | intro _ | split | dsimp only)
theorem fit_Builtin_unsafeStringData_ (x0 x1 x2):FT P (Builtin.unsafeStringData_ x0 x1 x2):=by
 rcases x2 with ⟨_ | ⟨a,_ | ⟨b,l⟩⟩⟩
 ·exact fit_stuck P _
 ·cases a with
  | string s =>
   by_cases hc:s.size=0
   ·refine cast (congrArg (Fit P (fun _=>True) 0) (if_pos hc).symm) ?_
    repeat' (first | (with_reducible first | exact fit_pure P _ | apply fit_newRow | apply fit_markStringish | apply fit_choose | apply fit_elemOf | apply fit_freeze | apply fitB) | intro _ | split | dsimp only)
   ·refine cast (congrArg (Fit P (fun _=>True) 0) (if_neg hc).symm) ?_
    repeat' (first | (with_reducible first | exact fit_pure P _ | apply fit_newRow | apply fit_markStringish | apply fit_choose | apply fit_elemOf | apply fit_freeze | apply fitB) | intro _ | split | dsimp only)
  | _=>exact fit_stuck P _
 ·exact fit_stuck P _
theorem fit_asAddr (x0):FT P (@Go.asAddr x0):=by
 unfold Go.asAddr
 try dsimp only
 repeat' (first | (with_reducible first | exact fit_pure P _ | apply fit_runtimePanic | apply fit_stuck) | intro _ | split | dsimp only)
theorem fit_partAt (x0 x1 x2):FT P (@Go.partAt x0 x1 x2):=by
 unfold Go.partAt
 try dsimp only
 repeat' (first | (with_reducible first | exact fit_pure P _ | apply fit_byteOf | apply fitB) | intro _ | split | dsimp only)
theorem fit_fieldPlace (x0 x1):FT P (@Go.fieldPlace x0 x1):=by
 unfold Go.fieldPlace
 try dsimp only
 repeat' (first | (with_reducible first | exact fit_pure P _ | apply fit_sizeOf | apply fit_partAt | apply fitB) | intro _ | split | dsimp only)
theorem fit_follow (x0 x1 x2):FT P (@Go.follow x0 x1 x2):=by
 induction x0 generalizing x1 x2 with
 | nil =>
  unfold Go.follow
  try dsimp only
  repeat' (first | (with_reducible first | exact fit_pure P _ | apply fit_underlying | apply fit_Place_get | apply fit_asAddr | apply fit_fieldPlace | apply fit_part | apply fit_stuck | apply fitB) | (intro _) | split)
 | cons e es ih =>
  unfold Go.follow
  try dsimp only
  repeat' (first | (with_reducible first | exact fit_pure P _ | apply ih | apply fit_underlying | apply fit_Place_get | apply fit_asAddr | apply fit_fieldPlace | apply fit_part | apply fit_stuck | apply fitB) | (intro _) | split)
theorem fit_Builtin_ssaWrapNilChk_ (x0 x1 x2):FT P (Builtin.ssaWrapNilChk_ x0 x1 x2):=by
 rcases x2 with ⟨_ | ⟨a,_ | ⟨b,_ | ⟨c,_ | ⟨d,l⟩⟩⟩⟩⟩
 ·exact fit_stuck P _
 ·exact fit_stuck P _
 ·exact fit_stuck P _
 ·cases b with
  | string s =>
   cases c with
   | string m =>
    cases a with
    | pointer r =>
     cases r with
     | some r=>exact fit_pure P _
     | none =>
      refine fitB (s:=choose (.extern "ssa:wrapnilchk.dereferenced" 2)) (fit_choose P _) fun n=>?_
      repeat' (first | (with_reducible first | exact fit_pure P _ | apply fit_stuck | apply fit_unsupported | apply fit_runtimePanic | apply fit_typeInfo | apply fit_underlying | apply fitB) | intro _ | split | dsimp only)
    | _=>exact fit_stuck P _
   | _=>exact fit_stuck P _
  | _=>exact fit_stuck P _
 ·exact fit_stuck P _
theorem fit_receiverAt (x0 x1 x2 x3):FT P (@Go.receiverAt x0 x1 x2 x3):=by
 unfold Go.receiverAt
 try dsimp only
 repeat' (first | (with_reducible first | exact fit_pure P _ | apply fit_underlying | apply fit_Place_get | apply fit_asAddr | apply fit_loadVar | apply fit_Builtin_ssaWrapNilChk_ | apply fit_stuck | apply fitB) | intro _ | split | dsimp only)
theorem fit_method (x0 x1 x2 x3):FT P (@Go.method x0 x1 x2 x3):=by
 induction x0 generalizing x1 x2 x3 with
 | zero =>
  unfold Go.method
  try dsimp only
  repeat' (first | (with_reducible first | exact fit_pure P _ | apply fit_unsupported | apply fit_typeInfo | apply fit_follow | apply fit_Place_get | apply fit_runtimePanic | apply fit_stuck | apply fit_receiverAt | apply fitB) | (intro _) | split)
 | succ n ih =>
  unfold Go.method
  try dsimp only
  repeat' (first | (with_reducible first | exact fit_pure P _ | apply ih | apply fit_unsupported | apply fit_typeInfo | apply fit_follow | apply fit_Place_get | apply fit_runtimePanic | apply fit_stuck | apply fit_receiverAt | apply fitB) | (intro _) | split)
theorem fit_receiverVia (x0 x1 x2 x3):FT P (@Go.receiverVia x0 x1 x2 x3):=by
 unfold Go.receiverVia
 try dsimp only
 repeat' (first | (with_reducible first | exact fit_pure P _ | apply fit_follow | apply fit_receiverAt | apply fitB) | intro _ | split | dsimp only)
theorem fit_Instr_getLoop (x0):FT P (@Go.Instr.getLoop x0):=by
 unfold Go.Instr.getLoop
 try dsimp only
 repeat' (first | (with_reducible first | exact fit_pure P _ | apply fit_getObj | apply fit_stuck | apply fitB) | intro _ | split | dsimp only)
theorem fit_Instr_keyThatStays (x0 x1):FT P (@Go.Instr.keyThatStays x0 x1):=by
 unfold Go.Instr.keyThatStays
 try dsimp only
 repeat' (first | (with_reducible first | exact fit_pure P _ | apply fit_choose | apply fitB) | intro _ | split | dsimp only)
theorem fit_Op_floatArith (x0 x1 x2 x3):FT P (@Go.Op.floatArith x0 x1 x2 x3):=by
 unfold Go.Op.floatArith
 try dsimp only
 repeat' (first | (with_reducible first | exact fit_pure P _ | apply fit_choose | apply fit_stuck | apply fitB) | intro _ | split | dsimp only)
theorem fit_Op_Complex_arith (x0 x1 x2 x3):FT P (@Go.Op.Complex.arith x0 x1 x2 x3):=by
 unfold Go.Op.Complex.arith
 try dsimp only
 repeat' (first | (with_reducible first | exact fit_pure P _ | apply fit_Op_floatArith | apply fit_stuck | apply fitB) | intro _ | split | dsimp only)
theorem fit_Op_Complex_add (x0 x1):FT P (@Go.Op.Complex.add x0 x1):=by
 unfold Go.Op.Complex.add
 try dsimp only
 repeat' (first | (with_reducible first | exact fit_pure P _ | apply fit_Op_Complex_arith) | intro _ | split | dsimp only)
theorem fit_Instr_box (x0 x1):FT P (@Go.Instr.box x0 x1):=by
 unfold Go.Instr.box
 try dsimp only
 repeat' (first | (with_reducible first | exact fit_pure P _ | apply fit_newVar | apply fitB) | intro _ | split | dsimp only)
theorem fit_Instr_entry (x0):FT P (@Go.Instr.entry x0):=by
 unfold Go.Instr.entry
 try dsimp only
 repeat' (first | (with_reducible first | exact fit_pure P _ | apply fit_getObj | apply fit_unsupported | apply fit_stuck | apply fitB) | intro _ | split | dsimp only)
theorem fit_asAgg (x0):FT P (@Go.asAgg x0):=by
 unfold Go.asAgg
 try dsimp only
 repeat' (first | (with_reducible first | exact fit_pure P _ | apply fit_stuck) | intro _ | split | dsimp only)
theorem fit_Instr_field (x0 x1 x2):FT P (@Go.Instr.field x0 x1 x2):=by
 unfold Go.Instr.field
 try dsimp only
 repeat' (first | (with_reducible first | exact fit_pure P _ | apply fit_underlying | apply fit_asAgg | apply fit_part | apply fit_stuck | apply fitB) | intro _ | split | dsimp only)
theorem fit_Op_floatCmp (x0 x1 x2 x3):FT P (@Go.Op.floatCmp x0 x1 x2 x3):=by
 unfold Go.Op.floatCmp
 try dsimp only
 repeat' (first | (with_reducible first | exact fit_pure P _ | apply fit_stuck) | intro _ | split | dsimp only)
theorem fit_panicString {x0} (x1):FT P (@Go.panicString x0 x1):=by
 unfold Go.panicString
 try dsimp only
 repeat' (first | (with_reducible first | exact fit_pure P _ | apply fit_program | apply fit_goPanic | apply fitB) | intro _ | split | dsimp only)
theorem fit_Conv_seenAt (x0):FT P (@Go.Conv.seenAt x0):=by
 unfold Go.Conv.seenAt
 try dsimp only
 repeat' (first | (with_reducible first | exact fit_pure P _ | apply fit_viewAt | apply fit_unsupported | apply fit_program | apply fit_shape | apply fitB) | intro _ | split | dsimp only)
theorem fit_cellsIn (x0):FT P (@Go.cellsIn x0):=by
 unfold Go.cellsIn
 try dsimp only
 repeat' (first | (with_reducible first | exact fit_pure P _ | apply fit_shape | apply fit_getObj | apply fitB) | intro _ | split | dsimp only)
theorem fit_asNumber (x0 x1):FT P (@Go.asNumber x0 x1):=by
 unfold Go.asNumber
 try dsimp only
 repeat' (first | (with_reducible first | exact fit_pure P _ | apply fit_newObj | apply fitB) | intro _ | split | dsimp only)
theorem fit_Conv_unsafePointer (x0 x1 x2):FT P (@Go.Conv.unsafePointer x0 x1 x2):=by
 unfold Go.Conv.unsafePointer
 try dsimp only
 repeat' (first | (with_reducible first | exact fit_pure P _ | apply fit_underlying | apply fit_Conv_seenAt | apply fit_cellsIn | apply fit_sizeOf | apply fit_newObj | apply fit_variablesAt | apply fit_shape | apply fit_program | apply fit_unsupported | apply fit_asNumber | apply fit_stuck | apply fitB) | intro _ | split | dsimp only)
theorem fit_Op_Complex_mul (x0 x1):FT P (@Go.Op.Complex.mul x0 x1):=by
 unfold Go.Op.Complex.mul
 try dsimp only
 repeat' (first | (with_reducible first | exact fit_pure P _ | apply fit_Op_Complex_arith) | intro _ | split | dsimp only)
theorem fit_Op_Complex_sub (x0 x1):FT P (@Go.Op.Complex.sub x0 x1):=by
 unfold Go.Op.Complex.sub
 try dsimp only
 repeat' (first | (with_reducible first | exact fit_pure P _ | apply fit_Op_Complex_arith) | intro _ | split | dsimp only)
theorem fit_Op_Complex_corrected (x0 x1 x2 x3 x4):FT P (@Go.Op.Complex.corrected x0 x1 x2 x3 x4):=by
 unfold Go.Op.Complex.corrected
 try dsimp only
 repeat' (first | (with_reducible first | exact fit_pure P _ | apply fit_Op_Complex_mul | apply fit_Op_Complex_add | apply fit_Op_Complex_sub | apply fitB) | intro _ | split | dsimp only)
theorem fit_Instr_arrayAt (x0 x1):FT P (@Go.Instr.arrayAt x0 x1):=by
 unfold Go.Instr.arrayAt
 try dsimp only
 repeat' (first | (with_reducible first | exact fit_pure P _ | apply fit_underlying | apply fit_runtimePanic | apply fit_stuck | apply fitB) | intro _ | split | dsimp only)
theorem fit_Deferred_ofValue (x0 x1):FT P (@Go.Deferred.ofValue x0 x1):=by
 unfold Go.Deferred.ofValue
 try dsimp only
 repeat' (first | (with_reducible first | exact fit_pure P _ | apply fit_stuck) | intro _ | split | dsimp only)
theorem fit_resolve (x0 x1 x2):FT P (@Go.resolve x0 x1 x2):=by
 unfold Go.resolve
 try dsimp only
 repeat' (first | (with_reducible first | exact fit_pure P _ | apply fit_Deferred_ofValue) | intro _ | split | dsimp only)
theorem fit_Instr_buildSlice (x0 x1 x2):FT P (@Go.Instr.buildSlice x0 x1 x2):=by
 unfold Go.Instr.buildSlice
 try dsimp only
 repeat' (first | (with_reducible first | exact fit_pure P _ | apply fit_underlying | apply fit_sizeOf | apply fit_newRow | apply fit_stuck | apply fit_zeroValue | apply fit_unsupported | apply fitB) | intro _ | split | dsimp only)
theorem fit_Instr_mapUpdate (x0 x1 x2 x3):FT P (@Go.Instr.mapUpdate x0 x1 x2 x3):=by
 unfold Go.Instr.mapUpdate
 try dsimp only
 repeat' (first | (with_reducible first | exact fit_pure P _ | apply fit_underlying | apply fit_runtimePanic | apply fit_getObj | apply fit_Instr_checkKey | apply fit_Instr_findKey | apply fit_Instr_keyThatStays | apply fit_setObj | apply fit_stuck | apply fitB) | intro _ | split | dsimp only)
theorem fit_boundsPanic {x0} (x1 x2 x3 x4):FT P (@Go.boundsPanic x0 x1 x2 x3 x4):=by
 unfold Go.boundsPanic
 try dsimp only
 repeat' (first | (with_reducible first | exact fit_pure P _ | apply fit_runtimePanic | apply fit_choose | apply fitB | apply fitM) | intro _ | split | dsimp only)
theorem fit_Instr_index (x0 x1 x2):FT P (@Go.Instr.index x0 x1 x2):=by
 unfold Go.Instr.index
 try dsimp only
 repeat' (first | (with_reducible first | exact fit_pure P _ | apply fit_asIntOf | apply fit_underlying | apply fit_sizeOf | apply fit_part | apply fit_boundsPanic | apply fit_stuck | apply fitB) | intro _ | split | dsimp only)
theorem fit_Conv_floatToInt (x0 x1 x2):FT P (@Go.Conv.floatToInt x0 x1 x2):=by
 unfold Go.Conv.floatToInt
 try dsimp only
 repeat' (first | (with_reducible first | exact fit_pure P _ | apply fit_choose | apply fitB) | intro _ | split | dsimp only)
theorem fit_Conv_runesToString (x0):FT P (@Go.Conv.runesToString x0):=by
 unfold Go.Conv.runesToString
 try dsimp only
 repeat' (first | (with_reducible first | exact fit_pure P _ | apply fit_loadCells | apply fit_stuck | apply fitB | apply fAi) | intro _ | split | trivial | dsimp only | (with_reducible first | exact fit_marked P (by simp) (by simp)))
theorem fit_Instr_sliceBound (x0 x1 x2):FT P (@Go.Instr.sliceBound x0 x1 x2):=by
 unfold Go.Instr.sliceBound
 try dsimp only
 repeat' (first | (with_reducible first | exact fit_pure P _ | apply fit_asIntOf | apply fit_boundsPanic | apply fitB) | intro _ | split | dsimp only)
theorem fit_Instr_takeDeferred (x0):FT P (@Go.Instr.takeDeferred x0):=by
 unfold Go.Instr.takeDeferred
 try dsimp only
 repeat' (first | (with_reducible first | exact fit_pure P _ | apply fit_getObj | apply fit_setObj | apply fit_stuck | apply fitB) | intro _ | split | dsimp only)
theorem fit_Op_addrMod (x0 x1 x2):FT P (@Go.Op.addrMod x0 x1 x2):=by
 unfold Go.Op.addrMod
 try dsimp only
 repeat' (first | (with_reducible first | exact fit_pure P _ | apply fit_shape | apply fit_typeInfo | apply fit_byteOf | apply fit_unsupported | apply fitB) | intro _ | split | dsimp only)
theorem fit_movedNumber (x0 x1 x2):FT P (@Go.movedNumber x0 x1 x2):=by
 unfold Go.movedNumber
 try dsimp only
 repeat' (first | (with_reducible first | exact fit_pure P _ | apply fit_underlying | apply fit_behindNumber | apply fit_Builtin_unsafeAdd_ | apply fit_asNumber | apply fit_unsupported | apply fitB) | intro _ | split | dsimp only)
theorem fit_Op_intArith (x0 x1 x2 x3):FT P (@Go.Op.intArith x0 x1 x2 x3):=by
 unfold Go.Op.intArith
 try dsimp only
 repeat' (first | (with_reducible first | exact fit_pure P _ | apply fit_stuck) | intro _ | split | dsimp only)
theorem fit_Op_intBits (x0 x1 x2 x3):FT P (@Go.Op.intBits x0 x1 x2 x3):=by
 unfold Go.Op.intBits
 try dsimp only
 repeat' (first | (with_reducible first | exact fit_pure P _ | apply fit_stuck) | intro _ | split | dsimp only)
theorem fit_Op_unary (x0 x1):FT P (@Go.Op.unary x0 x1):=by
 unfold Go.Op.unary
 try dsimp only
 repeat' (first | (with_reducible first | exact fit_pure P _ | apply fit_Op_intArith | apply fit_Op_intBits | apply fit_unsupported | apply fit_stuck) | intro _ | split | dsimp only)
theorem fit_Instr_makeSlice (x0 x1 x2):FT P (@Go.Instr.makeSlice x0 x1 x2):=by
 unfold Go.Instr.makeSlice
 try dsimp only
 repeat' (first | (with_reducible first | exact fit_pure P _ | apply fit_underlying | apply fit_asInt | apply fit_typeInfo | apply fit_askRoom | apply fit_sizeOf | apply fit_newRow | apply fit_zeroValue | apply fit_runtimePanic | apply fit_choose | apply fit_stuck | apply fitB) | intro _ | split | dsimp only)
theorem fit_Instr_makeChan (x0 x1):FT P (@Go.Instr.makeChan x0 x1):=by
 unfold Go.Instr.makeChan
 try dsimp only
 repeat' (first | (with_reducible first | exact fit_pure P _ | apply fit_asInt | apply fit_underlying | apply fit_typeInfo | apply fit_newObj | apply fit_runtimePanic | apply fit_stuck | apply fitB) | intro _ | split | dsimp only)
theorem fit_cutType (x0):FT P (@Go.cutType x0):=by
 unfold Go.cutType
 try dsimp only
 repeat' (first | (with_reducible first | exact fit_pure P _ | apply fit_program | apply fit_stuck | apply fitB) | intro _ | split | dsimp only)
theorem fit_Op_Complex_quo (x0 x1):FT P (@Go.Op.Complex.quo x0 x1):=by
 unfold Go.Op.Complex.quo
 try dsimp only
 repeat' (first | (with_reducible first | exact fit_pure P _ | apply fit_Op_Complex_arith) | intro _ | split | dsimp only)
theorem fit_Conv_intToInt (x0 x1):FT P (@Go.Conv.intToInt x0 x1):=by
 unfold Go.Conv.intToInt
 try dsimp only
 repeat' (first | (with_reducible exact fit_pure P _)  | (with_reducible first | apply fitB | apply fitM) | intro _ | split | dsimp only)
theorem fit_Op_shift (x0 x1 x2 x3 x4):FT P (@Go.Op.shift x0 x1 x2 x3 x4):=by
 unfold Go.Op.shift
 try dsimp only
 repeat' (first | (with_reducible first | exact fit_pure P _ | apply fit_runtimePanic | apply fit_stuck) | intro _ | split | dsimp only)
theorem fit_Op_intDiv (x0 x1 x2 x3):FT P (@Go.Op.intDiv x0 x1 x2 x3):=by
 unfold Go.Op.intDiv
 try dsimp only
 repeat' (first | (with_reducible first | exact fit_pure P _ | apply fit_runtimePanic | apply fit_stuck) | intro _ | split | dsimp only)
theorem fit_Op_intCmp (x0 x1 x2):FT P (@Go.Op.intCmp x0 x1 x2):=by
 unfold Go.Op.intCmp
 try dsimp only
 repeat' (first | (with_reducible first | exact fit_pure P _ | apply fit_stuck) | intro _ | split | dsimp only)
theorem fit_Conv_floatToFloat (x0 x1 x2):FT P (@Go.Conv.floatToFloat x0 x1 x2):=by
 unfold Go.Conv.floatToFloat
 try dsimp only
 repeat' (first | (with_reducible first | exact fit_pure P _ | apply fit_choose | apply fitB) | intro _ | split | dsimp only)
theorem fit_Op_Complex_conv (x0 x1 x2):FT P (@Go.Op.Complex.conv x0 x1 x2):=by
 unfold Go.Op.Complex.conv
 try dsimp only
 repeat' (first | (with_reducible first | exact fit_pure P _ | apply fit_Conv_floatToFloat | apply fit_stuck | apply fitB) | intro _ | split | dsimp only)
theorem fit_Op_Complex_product (x0 x1 x2 x3):FT P (@Go.Op.Complex.product x0 x1 x2 x3):=by
 unfold Go.Op.Complex.product
 try dsimp only
 repeat' (first | (with_reducible first | exact fit_pure P _ | apply fit_Op_Complex_mul | apply fit_Op_Complex_sub | apply fit_Op_Complex_add | apply fitB) | intro _ | split | dsimp only)
theorem fit_Op_Complex_cmp (x0 x1 x2 x3):FT P (@Go.Op.Complex.cmp x0 x1 x2 x3):=by
 unfold Go.Op.Complex.cmp
 try dsimp only
 repeat' (first | (with_reducible first | exact fit_pure P _ | apply fit_Op_floatCmp | apply fit_asBool | apply fitB) | intro _ | split | dsimp only)
theorem fit_Op_Complex_quotient (x0 x1 x2 x3):FT P (@Go.Op.Complex.quotient x0 x1 x2 x3):=by
 unfold Go.Op.Complex.quotient
 try dsimp only
 repeat' (first | (with_reducible first | exact fit_pure P _ | apply fit_Op_Complex_cmp | apply fit_Op_Complex_mul | apply fit_Op_Complex_corrected | apply fit_Op_Complex_quo | apply fit_Op_Complex_add | apply fit_Op_Complex_sub | apply fitB) | intro _ | split | dsimp only)
theorem fit_Op_complexOp (x0 x1 x2 x3 x4 x5):FT P (@Go.Op.complexOp x0 x1 x2 x3 x4 x5):=by
 unfold Go.Op.complexOp
 try dsimp only
 repeat' (first | (with_reducible first | exact fit_pure P _ | apply fit_Op_Complex_arith | apply fit_Op_Complex_conv | apply fit_Op_Complex_product | apply fit_Op_Complex_quotient | apply fit_Op_Complex_cmp | apply fit_stuck | apply fitB) | intro _ | split | dsimp only)
theorem fit_movedPointer (x0 x1 x2):FT P (@Go.movedPointer x0 x1 x2):=by
 unfold Go.movedPointer
 try dsimp only
 repeat' (first | (with_reducible first | exact fit_pure P _ | apply fit_Builtin_unsafeAdd_ | apply fit_numberAt | apply fit_unsupported | apply fitB) | intro _ | split | dsimp only)
theorem fit_Op_twoPlaces (x0 x1):FT P (@Go.Op.twoPlaces x0 x1):=by
 unfold Go.Op.twoPlaces
 try dsimp only
 repeat' (first | (with_reducible first | exact fit_pure P _ | apply fit_program | apply fit_byteOf | apply fit_unsupported | apply fitB) | intro _ | split | dsimp only)
theorem fit_Op_addrSub (x0 x1 x2):FT P (@Go.Op.addrSub x0 x1 x2):=by
 unfold Go.Op.addrSub
 try dsimp only
 repeat' (first | (with_reducible first | exact fit_pure P _ | apply fit_Op_twoPlaces | apply fitB) | intro _ | split | dsimp only)
theorem fit_Op_addrCmp (x0 x1 x2):FT P (@Go.Op.addrCmp x0 x1 x2):=by
 unfold Go.Op.addrCmp
 try dsimp only
 repeat' (first | (with_reducible first | exact fit_pure P _ | apply fit_Op_twoPlaces | apply fit_unsupported | apply fitB) | intro _ | split | dsimp only)
theorem fit_binOp (x0 x1 x2 x3):FT P (@Go.binOp x0 x1 x2 x3):=by
 unfold Go.binOp
 try dsimp only
 repeat' (first | (with_reducible first | exact fit_pure P _ | apply fit_Op_shift | apply fit_stuck | apply fit_Op_intArith | apply fit_Op_intDiv | apply fit_Op_intBits | apply fit_Op_intCmp | apply fit_Op_floatArith | apply fit_Op_floatCmp | apply fit_Op_complexOp | apply fit_Op_stringOp | apply fit_Op_equal | apply fit_underlying | apply fit_movedPointer | apply fit_movedNumber | apply fit_behindNumber | apply fit_Op_addrSub | apply fit_Op_addrCmp | apply fit_Op_addrMod | apply fit_unsupported | apply fitB) | intro _ | split | dsimp only)
theorem fit_Conv_intToFloat (x0 x1):FT P (@Go.Conv.intToFloat x0 x1):=by
 unfold Go.Conv.intToFloat
 try dsimp only
 repeat' (first | (with_reducible exact fit_pure P _)  | (with_reducible first | apply fitB | apply fitM) | intro _ | split | dsimp only)
theorem fit_Conv_complexToComplex (x0 x1 x2 x3):FT P (@Go.Conv.complexToComplex x0 x1 x2 x3):=by
 unfold Go.Conv.complexToComplex
 try dsimp only
 repeat' (first | (with_reducible first | exact fit_pure P _ | apply fit_Conv_floatToFloat | apply fit_stuck | apply fitB) | intro _ | split | dsimp only)
theorem fit_Conv_intToString (x0):FT P (@Go.Conv.intToString x0):=by
 unfold Go.Conv.intToString
 try dsimp only
 repeat' (first | (with_reducible exact fit_pure P _)  | (with_reducible first | apply fitB | apply fitM) | intro _ | split | dsimp only)
theorem fit_Conv_stringToBytes (x0 x1):FT P (@Go.Conv.stringToBytes x0 x1):=by
 unfold Go.Conv.stringToBytes
 try dsimp only
 repeat' (first | (with_reducible first | exact fit_pure P _ | apply fit_choose | apply fit_newRow | apply fit_markStringish | apply fitB) | intro _ | split | dsimp only)
theorem fit_Conv_stringToRunes (x0 x1):FT P (@Go.Conv.stringToRunes x0 x1):=by
 unfold Go.Conv.stringToRunes
 try dsimp only
 repeat' (first | (with_reducible first | exact fit_pure P _ | apply fit_choose | apply fit_newRow | apply fitB) | intro _ | split | dsimp only)
theorem fit_Conv_bytesToString (x0):FT P (@Go.Conv.bytesToString x0):=by
 unfold Go.Conv.bytesToString
 try dsimp only
 repeat' (first | (with_reducible first | exact fit_pure P _ | apply fit_loadCells | apply fit_stuck | apply fitB | apply fAi) | intro _ | split | trivial | dsimp only | (with_reducible first | exact fit_marked P (by simp) (by simp)))
theorem fit_convert (x0 x1 x2):FT P (@Go.convert x0 x1 x2):=by
 unfold Go.convert
 try dsimp only
 repeat' (first | (with_reducible first | exact fit_pure P _ | apply fit_underlying | apply fit_Conv_intToInt | apply fit_Conv_intToFloat | apply fit_Conv_floatToInt | apply fit_Conv_floatToFloat | apply fit_Conv_complexToComplex | apply fit_Conv_intToString | apply fit_Conv_stringToBytes | apply fit_Conv_stringToRunes | apply fit_stuck | apply fit_markStringish | apply fit_unsupported | apply fit_Conv_bytesToString | apply fit_Conv_runesToString | apply fit_Conv_unsafePointer | apply fitB) | intro _ | split | dsimp only)
theorem fit_Instr_extract (x0 x1):FT P (@Go.Instr.extract x0 x1):=by
 unfold Go.Instr.extract
 try dsimp only
 repeat' (first | (with_reducible first | exact fit_pure P _ | apply fit_stuck) | intro _ | split | dsimp only)
theorem fit_Instr_next (x0 x1 x2):FT P (@Go.Instr.next x0 x1 x2):=by
 unfold Go.Instr.next
 try dsimp only
 repeat' (first | (with_reducible first | exact fit_pure P _ | apply fit_getObj | apply fit_setObj | apply fit_choose | apply fit_stuck | apply fit_unsupported | apply fitB) | intro _ | split | dsimp only)
theorem fit_Instr_sureAddr (x0):FT P (@Go.Instr.sureAddr x0):=by
 unfold Go.Instr.sureAddr
 try dsimp only
 repeat' (first | (with_reducible first | exact fit_pure P _ | apply fit_stuck) | intro _ | split | dsimp only)
theorem fit_Instr_deferInRound (x0 x1):FT P (@Go.Instr.deferInRound x0 x1):=by
 unfold Go.Instr.deferInRound
 try dsimp only
 repeat' (first | (with_reducible first | exact fit_pure P _ | apply fit_Instr_getLoop | apply fit_getObj | apply fit_setObj | apply fit_throw | apply fit_stuck | apply fitB) | intro _ | split | dsimp only)
theorem fit_followBlind (x0 x1 x2):FT P (@Go.followBlind x0 x1 x2):=by
 induction x0 generalizing x1 x2 with
 | nil =>
  unfold Go.followBlind
  try dsimp only
  repeat' (first | (with_reducible first | exact fit_pure P _ | apply fit_underlying | apply fit_stuck | apply fit_part | apply fitB) | (intro _) | split)
 | cons e es ih =>
  unfold Go.followBlind
  try dsimp only
  repeat' (first | (with_reducible first | exact fit_pure P _ | apply ih | apply fit_underlying | apply fit_stuck | apply fit_part | apply fitB) | (intro _) | split)
theorem fit_nilAhead (x0 x1 x2 x3):FT P (@Go.nilAhead x0 x1 x2 x3):=by
 induction x0 generalizing x1 x2 x3 with
 | zero =>
  unfold Go.nilAhead
  try dsimp only
  repeat' (first | (with_reducible first | exact fit_pure P _ | apply fit_typeInfo | apply fit_followBlind | apply fit_stuck | apply fit_underlying | apply fitB) | (intro _) | split)
 | succ n ih =>
  unfold Go.nilAhead
  try dsimp only
  repeat' (first | (with_reducible first | exact fit_pure P _ | apply ih | apply fit_typeInfo | apply fit_followBlind | apply fit_stuck | apply fit_underlying | apply fitB) | (intro _) | split)
theorem fit_Op_eqGuardIn (x0 x1 x2 x3):FT P (@Go.Op.eqGuardIn x0 x1 x2 x3):=by
 induction x0 generalizing x1 x2 x3 with
 | zero =>
  unfold Go.Op.eqGuardIn
  try dsimp only
  repeat' (first | (with_reducible first | exact fit_pure P _ | apply fit_unsupported | apply fit_underlying | apply fit_part | apply fit_sizeOf | apply fitB) | (intro _) | split)
 | succ n ih =>
  unfold Go.Op.eqGuardIn
  try dsimp only
  repeat' (first | (with_reducible first | exact fit_pure P _ | apply ih | apply fit_unsupported | apply fit_underlying | apply fit_part | apply fit_sizeOf | apply fitB | apply fAi | apply fRi) | (intro _) | split)
theorem fit_Instr_ready (x0):FT P (@Go.Instr.ready x0):=by
 unfold Go.Instr.ready
 try dsimp only
 repeat' (first | (with_reducible first | exact fit_pure P _ | apply fit_shape | apply fit_getObj | apply fit_setObj | apply fit_stuck | apply fitB) | intro _ | split | dsimp only)
theorem fit_Instr_typeAssert (x0 x1 x2 x3):FT P (@Go.Instr.typeAssert x0 x1 x2 x3):=by
 unfold Go.Instr.typeAssert
 try dsimp only
 repeat' (first | (with_reducible first | exact fit_pure P _ | apply fit_zeroValue | apply fit_runtimePanic | apply fit_underlying | apply fit_typeInfo | apply fit_stuck | apply fitB) | intro _ | split | dsimp only)
theorem fit_Instr_sliceBounds (x0 x1 x2 x3 x4 x5):FT P (@Go.Instr.sliceBounds x0 x1 x2 x3 x4 x5):=by
 unfold Go.Instr.sliceBounds
 try dsimp only
 repeat' (first | (with_reducible first | exact fit_pure P _ | apply fit_Instr_sliceBound | apply fit_stuck | apply fitB) | intro _ | split | dsimp only)
theorem fit_Instr_loadAt (x0 x1):FT P (@Go.Instr.loadAt x0 x1):=by
 unfold Go.Instr.loadAt
 try dsimp only
 repeat' (first | (with_reducible first | exact fit_pure P _ | apply fit_Instr_sureAddr | apply fit_loadVar | apply fitB) | intro _ | split | dsimp only)
theorem fit_Instr_makeMap (x0 x1):FT P (@Go.Instr.makeMap x0 x1):=by
 unfold Go.Instr.makeMap
 try dsimp only
 repeat' (first | (with_reducible first | exact fit_pure P _ | apply fit_newObj | apply fit_underlying | apply fit_asInt | apply fit_stuck | apply fitB) | intro _ | split | dsimp only)
theorem fit_Instr_makeFunc (x0 x1 x2):FT P (@Go.Instr.makeFunc x0 x1 x2):=by
 unfold Go.Instr.makeFunc
 try dsimp only
 repeat' (first | (with_reducible exact fit_pure P _)  | (with_reducible first | apply fitB | apply fitM) | intro _ | split | dsimp only)
theorem fit_Instr_build (x0 x1):FT P (@Go.Instr.build x0 x1):=by
 unfold Go.Instr.build
 try dsimp only
 repeat' (first | (with_reducible first | exact fit_pure P _ | apply fit_zeroValue | apply fit_underlying | apply fit_sizeOf | apply fit_stuck | apply fitB | apply fAm) | intro _ | split | trivial | dsimp only | (with_reducible first | exact fit_marked P (by simp) (by simp)))
theorem fit_Instr_indexAt (x0 x1 x2):FT P (@Go.Instr.indexAt x0 x1 x2):=by
 unfold Go.Instr.indexAt
 try dsimp only
 repeat' (first | (with_reducible first | exact fit_pure P _ | apply fit_asIntOf | apply fit_underlying | apply fit_sizeOf | apply fit_unsupported | apply fit_boundsPanic | apply fit_Instr_sureAddr | apply fit_stuck | apply fitB) | intro _ | split | dsimp only)
theorem fit_Instr_endLoop (x0):FT P (@Go.Instr.endLoop x0):=by
 unfold Go.Instr.endLoop
 try dsimp only
 repeat' (first | (with_reducible first | exact fit_pure P _ | apply fit_Instr_getLoop | apply fit_setObj | apply fit_runtimePanic | apply fitB) | intro _ | split | dsimp only)
theorem fit_Instr_fieldAt (x0 x1 x2):FT P (@Go.Instr.fieldAt x0 x1 x2):=by
 unfold Go.Instr.fieldAt
 try dsimp only
 repeat' (first | (with_reducible first | exact fit_pure P _ | apply fit_underlying | apply fit_Instr_sureAddr | apply fit_fieldPlace | apply fit_stuck | apply fitB) | intro _ | split | dsimp only)
theorem fit_Instr_waits (x0):FT P (@Go.Instr.waits x0):=by
 unfold Go.Instr.waits
 try dsimp only
 repeat' (first | (with_reducible first | exact fit_pure P _ | apply fit_shape | apply fitB) | intro _ | split | dsimp only)
theorem fit_Instr_storeAt (x0 x1 x2):FT P (@Go.Instr.storeAt x0 x1 x2):=by
 unfold Go.Instr.storeAt
 try dsimp only
 repeat' (first | (with_reducible first | exact fit_pure P _ | apply fit_Instr_sureAddr | apply fit_storeVar | apply fitB) | intro _ | split | dsimp only)
theorem fit_eqGuard (x0 x1 x2 x3 x4 x5):FT P (@Go.eqGuard x0 x1 x2 x3 x4 x5):=by
 unfold Go.eqGuard
 try dsimp only
 repeat' (first | (with_reducible first | exact fit_pure P _ | apply fit_Op_eqGuardIn | apply fit_unsupported | apply fit_program | apply fitB) | intro _ | split | dsimp only)
theorem fit_Instr_makeInterface (x0 x1):FT P (@Go.Instr.makeInterface x0 x1):=by
 unfold Go.Instr.makeInterface
 try dsimp only
 repeat' (first | (with_reducible first | exact fit_pure P _ | apply fit_underlying | apply fit_stuck | apply fitB) | intro _ | split | dsimp only)
theorem fit_Instr_slice (x0 x1 x2 x3 x4):FT P (@Go.Instr.slice x0 x1 x2 x3 x4):=by
 unfold Go.Instr.slice
 try dsimp only
 repeat' (first | (with_reducible first | exact fit_pure P _ | apply fit_underlying | apply fit_Instr_sliceBounds | apply fit_stuck | apply fit_sizeOf | apply fit_asAddr | apply fitB) | intro _ | split | dsimp only)
theorem fit_Instr_sliceAt (x0 x1 x2 x3 x4):FT P (@Go.Instr.sliceAt x0 x1 x2 x3 x4):=by
 unfold Go.Instr.sliceAt
 try dsimp only
 repeat' (first | (with_reducible first | exact fit_pure P _ | apply fit_underlying | apply fit_Instr_sureAddr | apply fit_Instr_sliceBounds | apply fit_sizeOf | apply fit_Instr_slice | apply fitB) | intro _ | split | dsimp only)
theorem fit_Instr_lookup (x0 x1 x2 x3):FT P (@Go.Instr.lookup x0 x1 x2 x3):=by
 unfold Go.Instr.lookup
 try dsimp only
 repeat' (first | (with_reducible first | exact fit_pure P _ | apply fit_underlying | apply fit_Instr_checkKey | apply fit_Instr_findKey | apply fit_zeroValue | apply fit_getObj | apply fit_stuck | apply fitB) | intro _ | split | dsimp only)
theorem fit_Instr_mapEntry (x0 x1 x2):FT P (@Go.Instr.mapEntry x0 x1 x2):=by
 unfold Go.Instr.mapEntry
 try dsimp only
 repeat' (first | (with_reducible first | exact fit_pure P _ | apply fit_underlying | apply fit_runtimePanic | apply fit_getObj | apply fit_Instr_checkKey | apply fit_Instr_findKey | apply fit_Instr_keyThatStays | apply fit_setObj | apply fit_zeroValue | apply fit_stuck | apply fitB) | intro _ | split | dsimp only)
theorem fit_Instr_entryStore (x0 x1 x2 x3):FT P (@Go.Instr.entryStore x0 x1 x2 x3):=by
 unfold Go.Instr.entryStore
 try dsimp only
 repeat' (first | (with_reducible first | exact fit_pure P _ | apply fit_getObj | apply fit_asInt | apply fit_setObj | apply fit_unsupported | apply fit_stuck | apply fitB) | intro _ | split | dsimp only)
theorem fit_Instr_range (x0 x1):FT P (@Go.Instr.range x0 x1):=by
 unfold Go.Instr.range
 try dsimp only
 repeat' (first | (with_reducible first | exact fit_pure P _ | apply fit_underlying | apply fit_newObj | apply fit_getObj | apply fit_stuck | apply fitB) | intro _ | split | dsimp only)
theorem fit_Instr_enterLoop (x0 x1 x2 x3 x4 x5):FT P (@Go.Instr.enterLoop x0 x1 x2 x3 x4 x5):=by
 unfold Go.Instr.enterLoop
 try dsimp only
 repeat' (first | (with_reducible first | exact fit_pure P _ | apply fit_newObj | apply fit_Instr_getLoop | apply fitB) | intro _ | split | dsimp only)
theorem fit_Instr_beginRound (x0):FT P (@Go.Instr.beginRound x0):=by
 unfold Go.Instr.beginRound
 try dsimp only
 repeat' (first | (with_reducible first | exact fit_pure P _ | apply fit_Instr_getLoop | apply fit_setObj | apply fit_runtimePanic | apply fitB) | intro _ | split | dsimp only)
theorem fit_Instr_endRound (x0 x1):FT P (@Go.Instr.endRound x0 x1):=by
 unfold Go.Instr.endRound
 try dsimp only
 repeat' (first | (with_reducible first | exact fit_pure P _ | apply fit_Instr_getLoop | apply fit_setObj | apply fitB) | intro _ | split | dsimp only)
theorem fit_asString (x0):FT P (@Go.asString x0):=by
 unfold Go.asString
 try dsimp only
 repeat' (first | (with_reducible first | exact fit_pure P _ | apply fit_stuck) | intro _ | split | dsimp only)
end Go.Proofs.YtpbbmagjhkakgaaGreatDoor.Lf
namespace Go.Proofs.YtpbbmagjhkakgaaGreatDoor.Lf
open Go
def okNext:Next->Prop
 | .value _ | .skip | .enter .. | .round .. | .defer _ | .recover | .spawn _ | .comm .. | .coroswitch ..=>True
 | .row r _=>r = "runtime.print$piece"
 | _=>False
def Plain (P:Program):Prop:=∀ (f:FuncId) (fn:Func),P.funcs[f]? = some fn->fn.name≠ "runtime.NumGoroutine"/\(fn.body.isNone=true->Extern.findNext fn=none/\∀ e,Extern.find fn=some e->∀ args,Fit P (fun _=>True) 0 (e args))
variable {P : Program}
theorem fit_val {s:Sem Value} (h:Fit P (fun _=>True) 0 s):Fit P okNext 0 (do pure (.value (<- s)):Sem Next):=fitB h fun _=>⟨rfl,trivial⟩
theorem fit_unit {s:Sem Unit} (h:Fit P (fun _=>True) 0 s):Fit P okNext 0 (do s;pure .skip:Sem Next):=fitB h fun _=>⟨rfl,trivial⟩
theorem fit_ok {n:Next} (h:okNext n):Fit P okNext 0 (pure n:Sem Next):=⟨rfl,h⟩
theorem fit_held (d:Nat) {β:Type} {M:β->Prop} {f:Bool->Sem β} (hf:∀ b,Fit P M d (f b)):Fit P M d (Extern.PrintPieces.held >>= f):=by
 unfold Extern.PrintPieces.held
 intro v
 show Fit P M d (Sem.bind _ f)
 cases v<;>first | exact hf _ | exact .inr rfl
theorem fit_writeFd (n b):Fit P (fun _=>True) 0 (writeFd n b):=by
 unfold writeFd
 refine ⟨⟨_,rfl,rfl⟩,fun r=>?_⟩
 cases r<;>first | exact .inl rfl | exact ⟨rfl,trivial⟩
theorem fit_piece (x y args):Fit P okNext 0 (Extern.PrintPieces.piece x y args):=by
 unfold Extern.PrintPieces.piece
 split
 ·rename_i first _
  split
  ·rename_i p _
   extract_lets last j1 j2 j3 j4 j5
   have h1:Fit P okNext 0 (j1 ()):=⟨rfl,trivial⟩
   have h2:Fit P okNext 0 (j2 ()):=by
    refine fitB (fit_writeFd _ _) fun _=>fitIte ⟨rfl,rfl⟩ (fitIte ?_ h1)
    exact h1
   have h3:Fit P okNext 1 (j3 ()):=h2
   have h4:Fit P okNext 1 (j4 ()):=by
    show Fit P okNext 1 (if (!last)=true then _ else _)
    split
    ·exact h3
    ·exact h3
   have h5:Fit P okNext 0 (j5 ()):=by
    show Fit P okNext 0 (if first=true then _ else _)
    split
    ·show Fit P okNext 1 (Extern.PrintPieces.held >>= _)
     refine fit_held 1 fun b=>?_
     split
     ·exact .inr rfl
     ·exact h4
    ·exact h2
   exact fitIte (.inl rfl) h5
  ·exact fit_stuck P _
 ·exact fit_stuck P _
theorem fLi' {α β:Type} {l:List α}:∀ {f:(a:α)->a∈l->β->Sem (ForInStep β)} (_:∀ a h b,Fit P (fun _=>True) 0 (f a h b)) (b:β),Fit P (fun _=>True) 0 (forIn' l b f):=by
 induction l with
 | nil=>intro f _ b;rw [List.forIn'_nil];exact fit_pure P _
 | cons a l ih=>intro f hf b;rw [List.forIn'_cons];refine fitB (hf _ _ _) fun r=>?_;split<;>first | exact fit_pure P _ | exact ih (fun _ _ _=>hf _ _ _) _
theorem fRi' {β:Type} {l:Std.Legacy.Range} {f:(a:Nat)->a∈l->β->Sem (ForInStep β)} (hf:∀ a h b,Fit P (fun _=>True) 0 (f a h b)) (_l:Std.Legacy.Range) (b:β):Fit P (fun _=>True) 0 (forIn' l b f):=by
 rw [Std.Legacy.Range.forIn'_eq_forIn'_range'];exact fLi' (fun _ _ _=>hf _ _ _) _
theorem fit_printOne (t v):Fit P (fun _=>True) 0 (Builtin.printOne t v):=by
 unfold Builtin.printOne
 refine fitB (fit_typeInfo P _) fun i=>?_
 extract_lets j
 have hj:Fit P (fun _=>True) 0 (j ()):=by
  simp -zeta only [j]
  cases v with
  | pointer r=>cases r<;>first | exact fit_pure P _ | exact fit_unsupported P _
  | map r=>cases r<;>first | exact fit_pure P _ | exact fit_unsupported P _
  | chan r=>cases r<;>first | exact fit_pure P _ | exact fit_unsupported P _
  | slice r _ _=>cases r<;>first | exact fit_pure P _ | exact fit_unsupported P _
  | _=>first | exact fit_pure P _ | exact fit_unsupported P _ | exact fit_stuck P _
 split
 ·exact fitIte (fitB (fit_unsupported P _) fun _=>hj) hj
 ·exact hj
theorem fit_pieces (a b c d):Fit P (fun _=>True) 0 (Builtin.pieces a b c d):=by
 unfold Builtin.pieces
 refine fitB (fRi' (fun i _ b=>?_) [0:0] _) fun out=>?_
 ·extract_lets out' cst j
  have hj:∀ o o',Fit P (fun _=>True) 0 (j o o'):=by
   intro o o'
   simp -zeta only [j]
   split
   ·refine fitB (fit_printOne _ _) fun l=>fitB (fAi (fun _ _=>fit_pure P _) _ _) fun _=>fit_pure P _
   ·exact fit_stuck P _
  exact fitIte (hj () _) (hj () _)
 ·exact fitIte (fit_pure P _) (fit_pure P _)
theorem fit_printMarked (a b c d):Fit P okNext 0 (Builtin.printMarked a b c d):=by
 unfold Builtin.printMarked
 refine fitB (fit_pieces _ _ _ _) fun ps=>?_
 exact fitIte ⟨rfl,trivial⟩ (fit_piece _ _ _)
theorem fit_builtin (a b c d e):Fit P okNext 0 (builtin a b c d e):=by
 unfold builtin
 cases a
 all_goals first
  | exact fit_val (fit_Builtin_append_ P _ _ _) | exact fit_val (fit_Builtin_cap_ P _ _ _) | exact fit_val (fit_Builtin_clear_ P _ _ _) | exact fit_val (fit_Builtin_close_ P _ _ _)
  | exact fit_val (fit_Builtin_complex_ P _ _ _) | exact fit_val (fit_Builtin_copy_ P _ _ _) | exact fit_val (fit_Builtin_delete_ P _ _ _) | exact fit_val (fit_Builtin_imag_ P _ _ _)
  | exact fit_val (fit_Builtin_len_ P _ _ _) | exact fit_val (fit_Builtin_max_ P _ _ _) | exact fit_val (fit_Builtin_min_ P _ _ _) | exact fit_val (fit_Instr_panic P _)
  | exact fit_printMarked _ _ _ _ | exact fit_val (fit_Builtin_real_ P _ _ _) | exact fit_ok (n:=.recover) trivial | exact fit_stuck P _ | exact fit_val (fit_Builtin_unsafeAdd_ P _ _ _)
  | exact fit_val (fit_Builtin_unsafeSlice_ P _ _ _) | exact fit_val (fit_Builtin_unsafeSliceData_ P _ _ _) | exact fit_val (fit_Builtin_unsafeString_ P _ _ _) | exact fit_val (fit_Builtin_unsafeStringData_ P _ _ _)
  | exact fitB (fit_typeInfo P _) fun _=>⟨rfl,trivial⟩ | exact fit_unsupported P _
theorem fit_panics {α:Type} {L:α->Prop} (e:RuntimeError):Fit P L 0 (runtimePanic e:Sem α):=by
 unfold runtimePanic
 repeat' (first | (with_reducible exact fit_goPanic P _) | (with_reducible exact fit_stuck P _) | (with_reducible exact fit_unsupported P _) | (with_reducible exact fit_pure P _) | (with_reducible apply fit_program) | (with_reducible apply fit_newVar) | (with_reducible apply fit_typeStr) | (with_reducible apply fit_elemOf) | (with_reducible apply fit_typeInfo) | (with_reducible apply fitB) | (intro _) | split | (dsimp only))
theorem fit_callFunc (hP:Plain P) (f args):Fit P okNext 0 (callFunc f args):=by
 unfold callFunc
 show Fit P okNext 0 (match P.funcs[f]? with | none=>_ | some fn=>_)
 cases hf:P.funcs[f]? with
 | none=>exact fit_stuck P _
 | some fn =>
  obtain ⟨hn,hb⟩:=hP f fn hf
  have hn':(fn.name== "runtime.NumGoroutine")=false:=by simpa using hn
  simp only [hn',Bool.false_eq_true,if_false]
  by_cases hbody:fn.body.isNone=true
  ·obtain ⟨h1,h2⟩:=hb hbody
   simp only [hbody,if_true,h1]
   refine fitB (fit_marked P (by simp) (by simp)) fun _=>?_
   cases he:Extern.find fn with
   | some e=>exact fit_val (h2 e he args)
   | none=>exact fitIte ⟨rfl,trivial⟩ (fit_unsupported P _)
  ·simp only [hbody,if_false,Bool.false_eq_true]
   exact ⟨rfl,trivial⟩
theorem fit_callMethod (hP:Plain P) (a b c):Fit P okNext 0 (callMethod a b c):=by
 unfold callMethod
 split
 ·exact fitB (fit_program P) fun _=>fitB (fit_method P _ _ _ _) fun _=>fit_callFunc hP _ _
 ·exact fit_panics _
 ·exact fit_stuck P _
theorem fit_yield (a b):Fit P okNext 0 (Instr.yield a b):=by
 unfold Instr.yield
 refine fitB (fit_Instr_getLoop P _) fun r=>?_
 extract_lets j
 exact fitIte (fitB (fit_stuck P _) fun _=>⟨rfl,trivial⟩) ⟨rfl,trivial⟩
theorem fit_invoke (hP:Plain P) (t args):Fit P okNext 0 (invoke t args):=by
 unfold invoke
 split
 ·exact fit_panics _
 ·exact fit_builtin _ _ _ _ _
 ·exact fit_callFunc hP _ _
 ·split
  ·exact fit_callMethod hP _ _ _
  ·exact fit_stuck P _
 ·split
  ·refine fitB (fit_underlying P _) fun _=>?_
   extract_lets j
   exact fit_callMethod hP _ _ _
  ·exact fit_stuck P _
 ·split
  ·exact fitB (fit_receiverVia P _ _ _ _) fun _=>fit_callFunc hP _ _
  ·exact fit_stuck P _
 ·exact fit_yield _ _
 ·exact fit_stuck P _
 ·exact ⟨rfl,trivial⟩
theorem fit_execOp (hP:Plain P) (ρ o):Fit P okNext 0 (execOp ρ o):=by
 unfold execOp
 extract_lets v u
 have hv:∀ s,Fit P (fun _=>True) 0 s->Fit P okNext 0 (v s):=fun s h=>fit_val h
 have hu:∀ s,Fit P (fun _=>True) 0 s->Fit P okNext 0 (u s):=fun s h=>fit_unit h
 clear_value v u
 split
 all_goals first
  | exact ⟨rfl,trivial⟩
  | exact hv _ (fit_Instr_alloc P _ _ _)
  | exact hv _ (fit_Instr_box P _ _)
  | exact hv _ (fit_Instr_build P _ _)
  | exact hv _ (fit_Instr_buildSlice P _ _ _)
  | exact hv _ (fit_Instr_loadAt P _ _)
  | exact hu _ (fit_Instr_storeAt P _ _ _)
  | exact hu _ (fit_Instr_ready P _)
  | exact hv _ (fit_Instr_waits P _)
  | exact hv _ (fit_Op_unary P _ _)
  | exact hv _ (fit_convert P _ _ _)
  | exact hv _ (fit_Instr_arrayAt P _ _)
  | exact hv _ (fit_Instr_makeInterface P _ _)
  | exact hv _ (fit_Instr_makeFunc P _ _ _)
  | exact hv _ (fit_Instr_makeMap P _ _)
  | exact hv _ (fit_Instr_makeChan P _ _)
  | exact hv _ (fit_Instr_makeSlice P _ _ _)
  | exact hv _ (fit_Instr_sliceAt P _ _ _ _ _)
  | exact hv _ (fit_Instr_fieldAt P _ _ _)
  | exact hv _ (fit_Instr_field P _ _ _)
  | exact hv _ (fit_Instr_indexAt P _ _ _)
  | exact hv _ (fit_Instr_index P _ _ _)
  | exact hv _ (fit_Instr_lookup P _ _ _ _)
  | exact hu _ (fit_Instr_mapUpdate P _ _ _ _)
  | exact hv _ (fit_Instr_mapEntry P _ _ _)
  | exact hu _ (fit_Instr_entryStore P _ _ _ _)
  | exact hv _ (fit_Instr_range P _ _)
  | exact hv _ (fit_Instr_next P _ _ _)
  | exact hv _ (fit_Instr_entry P _)
  | exact hv _ (fit_Instr_typeAssert P _ _ _ _)
  | exact hv _ (fit_Instr_extract P _ _)
  | exact hv _ (fit_Instr_panic P _)
  | exact hv _ (fitB (fit_eqGuard P _ _ _ _ _ _) fun _=>fit_binOp P _ _ _ _)
  | exact fitB (fit_asBool P _) fun _=>⟨rfl,trivial⟩
  | exact fitB (fit_resolve P _ _ _) fun _=>fit_invoke hP _ _
  | exact fitB (fit_resolve P _ _ _) fun _=>⟨rfl,trivial⟩
  | skip
 ·split
  ·exact fit_panics _
  ·exact fit_panics _
  ·exact fit_panics _
  ·split
   ·exact fit_panics _
   ·refine fitB (fit_program P) fun _=>fitB (fit_nilAhead P _ _ _ _) fun _=>?_
    exact fitIte (fitB (fit_unsupported P _) fun _=>⟨rfl,trivial⟩) ⟨rfl,trivial⟩
   ·exact ⟨rfl,trivial⟩
  ·exact ⟨rfl,trivial⟩
 ·refine fitB (fit_underlying P _) fun _=>?_
  split
  ·exact fitB (fit_zeroValue P _) fun _=>⟨rfl,trivial⟩
  ·exact fit_stuck P _
 ·refine fitB (fAm (fun _=>fitB (fit_zeroValue P _) fun _=>fit_pure P _) _) fun _=>⟨rfl,trivial⟩
end Go.Proofs.YtpbbmagjhkakgaaGreatDoor.Lf
namespace Go.Proofs.YtpbbmagjhkakgaaGreatDoor.Lf
open Go Go.Conc
variable {P : Program}
def hearStep (d:Nat) (e:Event):Nat:=match e.loc with | .mark .disable=>d+1 | .mark .enable=>d-1 | _=>d
theorem deafBehind_foldl (d:Nat) (es:Array Event):deafBehind d es=es.foldl hearStep d:=rfl
theorem deafBehind_push (d:Nat) (es:Array Event) (e:Event):deafBehind d (es.push e)=hearStep (deafBehind d es) e:=by
 rw [deafBehind_foldl,deafBehind_foldl,Array.foldl_push]
theorem deafBehind_app (d:Nat) (es es':Array Event):deafBehind d (es++es')=deafBehind (deafBehind d es) es':=by
 simp only [deafBehind_foldl,Array.foldl_append]
theorem deafBehind_cells (d:Nat) (l:List Addr) (wr at_:Bool):deafBehind d (l.toArray.map fun a=>(⟨.cell a,wr,at_⟩:Event))=d:=by
 rw [deafBehind_foldl]
 induction l generalizing d with
 | nil=>simp
 | cons a l ih=>have:=ih d;simp at this ⊢;exact this
def resGo {α:Type}:Result α->Bool
 | .ok _ _=>true
 | .halt (.panic _) _ | .halt .goexit _=>true
 | _=>false
theorem resOn_of_go {α:Type} {r:Result α} (h:resGo r=true):resOn r=true:=by
 cases r with
 | ok a w=>rfl
 | halt x w=>cases x<;>first | rfl | (simp [resGo] at h)
theorem noCell_not (w:World) (a:Addr) (s:String) (w':World) {α:Type}:resGo (.halt (w.noCell a s) w':Result α)=false:=by
 unfold World.noCell
 split<;>rfl
theorem farLoad_not {p:Program} {w:World} {a:Addr} {b:Bool} {h:Halt} (hx:w.farLoad p a b=.error h) (w':World) {α:Type}:resGo (.halt h w':Result α)=false:=by
 unfold World.farLoad at hx
 split at hx
 ·split at hx
  ·cases hx
  ·cases hx;rfl
 ·cases hx;exact noCell_not _ _ _ _
theorem farStore_not {p:Program} {w:World} {a:Addr} {v:Value} {b:Bool} {h:Halt} (hx:w.farStore p a v b=.error h) (w':World) {α:Type}:resGo (.halt h w':Result α)=false:=by
 unfold World.farStore at hx
 split at hx
 ·split at hx
  ·cases hx
  ·cases hx;rfl
 ·cases hx;exact noCell_not _ _ _ _
theorem runT_even {α:Type} {L:α->Prop} (s:Sem α):∀ (n:Nat) (w:World) (es:Array Event) (b:Nat),Fit P L n s->resGo (s.runT P w es).1=true->deafBehind b es=n->deafBehind b (s.runT P w es).2=0:=by
 induction s with
 | pure a=>exact fun n w es b hf _ he=>he.trans hf.1
 | load m a k ih =>
  intro n w es b hf ho he
  simp only [Sem.runT] at ho ⊢
  cases hw:w.cell? a with
  | some v=>simp only [hw] at ho ⊢;exact ih v n w _ b (hf v) ho (by rw [deafBehind_push,he];rfl)
  | none =>
   simp only [hw] at ho ⊢
   cases hx:w.farLoad P a (m==.atomic) with
   | ok x=>obtain ⟨v,t⟩:=x;simp only [hx] at ho ⊢;exact ih v n w _ b (hf v) ho (by rw [deafBehind_app,he,deafBehind_cells])
   | error e=>simp only [hx] at ho;rw [farLoad_not hx] at ho;cases ho
 | store m a v k ih =>
  intro n w es b hf ho he
  cases v with
  | agg x=>cases ho
  | tuple x=>cases ho
  | _ =>
   simp only [Sem.runT] at ho ⊢
   cases hw:w.cell? a with
   | some u =>
    simp only [hw] at ho ⊢
    split at ho
    ·cases ho
    ·rename_i hz1
     simp only [hz1,if_false,Bool.false_eq_true]
     exact ih n _ _ b hf ho (by rw [deafBehind_push,he];rfl)
   | none =>
    simp only [hw] at ho ⊢
    cases hx:w.farStore P a _ (m==Mode.atomic) with
    | ok x=>obtain ⟨w',t⟩:=x;simp only [hx] at ho ⊢;exact ih n w' _ b hf ho (by rw [deafBehind_app,he,deafBehind_cells])
    | error e=>simp only [hx] at ho;rw [farStore_not hx] at ho;cases ho
 | new o k ih=>exact fun n w es b hf ho he=>ih w.heap.size n _ es b (hf _) ho he
 | shape r k ih=>exact fun n w es b hf ho he=>ih (w.shape? r) n w es b (hf _) ho he
 | freeze a c k ih=>exact fun n w es b hf ho he=>ih n _ es b hf ho he
 | frozen a k ih=>exact fun n w es b hf ho he=>ih (w.frozen? a) n w es b (hf _) ho he
 | getObj r k ih =>
  intro n w es b hf ho he
  simp only [Sem.runT] at ho ⊢
  cases hw:w.heap[r]? with
  | none=>simp only [hw] at ho;cases ho
  | some o =>
   cases o with
   | cells c t z=>simp only [hw] at ho;cases ho
   | _=>simp only [hw] at ho ⊢;exact ih _ n w _ b (hf _) ho (by rw [deafBehind_push,he];rfl)
 | setObj r o k ih =>
  intro n w es b hf ho he
  simp only [Sem.runT] at ho ⊢
  cases hw:w.heap[r]? with
  | none=>simp only [hw] at ho;cases ho
  | some x =>
   cases x with
   | cells c t z=>simp only [hw] at ho;cases ho
   | _=>simp only [hw] at ho ⊢;exact ih n _ _ b hf ho (by rw [deafBehind_push,he];rfl)
 | choose q k ih =>
  intro n w es b hf ho he
  simp only [Sem.runT] at ho ⊢
  by_cases hq:q.forced=true
  ·simp only [hq,if_true] at ho ⊢;exact ih 0 n w es b (hf _) ho he
  ·simp only [hq,if_false,Bool.false_eq_true] at ho ⊢;exact ih _ n _ es b (hf _) ho he
 | sys c k ih=>exact fun n w es b hf ho he=>ih _ n _ _ b (hf.2 _) ho (by rw [deafBehind_push,he];rfl)
 | program k ih=>exact fun n w es b hf ho he=>ih P n w es b hf ho he
 | mark m k ih =>
  intro n w es b hf ho he
  refine ih _ w _ b hf ho ?_
  rw [deafBehind_push,he]
  cases m<;>rfl
 | halt h =>
  intro n w es b hf ho he
  rcases hf with hf | hf
  ·exact he.trans hf
  ·simp only [Sem.runT] at ho;cases h<;>first | (simp [resGo] at ho;done) | (simp [Ends] at hf;done)
theorem runT_leaf {α:Type} {L:α->Prop} (s:Sem α):∀ (n:Nat) (w:World) (es:Array Event) {a:α} {w':World},Fit P L n s->(s.runT P w es).1=.ok a w'->L a:=by
 induction s with
 | pure a=>intro n w es b w' hf h;simp only [Sem.runT,Result.ok.injEq] at h;exact h.1▸hf.2
 | load m a k ih =>
  intro n w es b w' hf h
  simp only [Sem.runT] at h
  split at h
  ·exact ih _ n _ _ (hf _) h
  ·split at h
   ·exact ih _ n _ _ (hf _) h
   ·cases h
 | store m a v k ih =>
  intro n w es b w' hf h
  cases v with
  | agg x=>cases h
  | tuple x=>cases h
  | _ =>
   simp only [Sem.runT] at h
   split at h
   ·split at h
    ·cases h
    ·exact ih n _ _ hf h
   ·split at h
    ·exact ih n _ _ hf h
    ·cases h
 | new o k ih=>intro n w es b w' hf h;exact ih _ n _ _ (hf _) h
 | shape r k ih=>intro n w es b w' hf h;exact ih _ n _ _ (hf _) h
 | freeze a c k ih=>intro n w es b w' hf h;exact ih n _ _ hf h
 | frozen a k ih=>intro n w es b w' hf h;exact ih _ n _ _ (hf _) h
 | getObj r k ih =>
  intro n w es b w' hf h
  simp only [Sem.runT] at h
  split at h
  ·cases h
  ·exact ih _ n _ _ (hf _) h
  ·cases h
 | setObj r o k ih =>
  intro n w es b w' hf h
  simp only [Sem.runT] at h
  split at h
  ·cases h
  ·exact ih n _ _ hf h
  ·cases h
 | choose q k ih =>
  intro n w es b w' hf h
  simp only [Sem.runT] at h
  split at h
  ·exact ih _ n _ _ (hf _) h
  ·exact ih _ n _ _ (hf _) h
 | sys c k ih=>intro n w es b w' hf h;exact ih _ n _ _ (hf.2 _) h
 | program k ih=>intro n w es b w' hf h;exact ih _ n _ _ hf h
 | mark m k ih=>intro n w es b w' hf h;exact ih _ _ _ hf h
 | halt x=>intro n w es b w' hf h;cases h
def Synced (es:Array Event):Prop:=∀ e∈es,(e.loc=.mark .disable\/e.loc=.mark .enable)->e.sync=true
theorem Synced.push {es:Array Event} {e:Event} (h:Synced es) (he:(e.loc=.mark .disable\/e.loc=.mark .enable)->e.sync=true):Synced (es.push e):=by
 intro x hx
 rcases Array.mem_push.1 hx with hx | rfl
 ·exact h x hx
 ·exact he
theorem Synced.cells {es:Array Event} (h:Synced es) (l:List Addr) (wr at_:Bool):Synced (es++l.toArray.map fun a=>(⟨.cell a,wr,at_⟩:Event)):=by
 intro x hx
 rcases Array.mem_append.1 hx with hx | hx
 ·exact h x hx
 ·obtain ⟨a,_,rfl⟩:=Array.mem_map.1 hx
  simp
theorem runT_synced {α:Type} (s:Sem α):∀ (w:World) (es:Array Event),Synced es->Synced (s.runT P w es).2:=by
 induction s with
 | pure a=>exact fun w es h=>h
 | load m a k ih =>
  intro w es h
  simp only [Sem.runT]
  split
  ·exact ih _ _ _ (h.push (by simp))
  ·split
   ·exact ih _ _ _ (h.cells _ _ _)
   ·exact h
 | store m a v k ih =>
  intro w es h
  cases v with
  | agg x=>exact h
  | tuple x=>exact h
  | _ =>
   simp only [Sem.runT]
   split
   ·split
    ·exact h
    ·exact ih _ _ (h.push (by simp))
   ·split
    ·exact ih _ _ (h.cells _ _ _)
    ·exact h
 | new o k ih=>exact fun w es h=>ih _ _ _ h
 | shape r k ih=>exact fun w es h=>ih _ _ _ h
 | freeze a c k ih=>exact fun w es h=>ih _ _ h
 | frozen a k ih=>exact fun w es h=>ih _ _ _ h
 | getObj r k ih =>
  intro w es h
  simp only [Sem.runT]
  split
  ·exact h
  ·exact ih _ _ _ (h.push (by simp))
  ·exact h
 | setObj r o k ih =>
  intro w es h
  simp only [Sem.runT]
  split
  ·exact h
  ·exact ih _ _ (h.push (by simp))
  ·exact h
 | choose q k ih =>
  intro w es h
  simp only [Sem.runT]
  split<;>exact ih _ _ _ h
 | sys c k ih=>exact fun w es h=>ih _ _ _ (h.push (by simp))
 | program k ih=>exact fun w es h=>ih _ _ _ h
 | mark m k ih=>exact fun w es h=>ih _ _ (h.push (by simp))
 | halt x=>exact fun w es h=>h
theorem seen_even (fn:FuncId) {es:Array Event} (h:Synced es) (b:Nat):deafBehind b (seen P fn es)=deafBehind b es:=by
 unfold seen
 obtain ⟨l⟩:=es
 have key:∀ (l:List Event) (q:Bool) (kept:Array Event),(∀ e∈l,(e.loc=.mark .disable\/e.loc=.mark .enable)->e.sync=true)->
   deafBehind b (l.foldl (fun (x:Bool×Array Event) e=>match x with | (q,kept)=>match e.loc with | .mark (.extern f)=>((P.funcs[f]?).any (·.norace),kept) | _=>(q,if q&&!e.sync then kept else kept.push e)) (q,kept)).2=l.foldl hearStep (deafBehind b kept):=by
  intro l
  induction l with
  | nil=>intro q kept _;rfl
  | cons e l ih =>
   intro q kept hs
   simp only [List.foldl_cons]
   have hs':=fun x hx=>hs x (List.mem_cons_of_mem _ hx)
   have he:=hs e (by simp)
   split
   ·rename_i f hf
    rw [ih _ _ hs']
    congr 1
    simp [hearStep,hf]
   ·rename_i hne
    rw [ih _ _ hs']
    congr 1
    split
    ·rename_i hq
     have hsy:e.sync=false:=by simp at hq;exact hq.2
     unfold hearStep
     split
     ·rename_i hm;rw [he (.inl hm)] at hsy;cases hsy
     ·rename_i hm;rw [he (.inr hm)] at hsy;cases hsy
     ·rfl
    ·rw [deafBehind_push]
 have:=key l ((P.funcs[fn]?).any (·.norace)) #[] (fun e he=>h e (by simpa using he))
 simp only [List.foldl_toArray] at this ⊢
 refine this.trans ?_
 rw [deafBehind_foldl,deafBehind_foldl]
 simp
end Go.Proofs.YtpbbmagjhkakgaaGreatDoor.Lf
