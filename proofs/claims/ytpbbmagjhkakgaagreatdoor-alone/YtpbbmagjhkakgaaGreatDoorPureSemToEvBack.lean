import Derived.Test.YtpbbmagjhkakgaaGreatDoorPureEndsToFace2
import Derived.Test.YtpbbmagjhkakgaaGreatDoorPut
import Derived.Test.YtpbbmagjhkakgaaGreatDoorScan
import Derived.RegionTactic
import Derived.Deep.RegionHeld
import Derived.ChangeAlike
import Derived.RangeFuncNested
import Derived.RangeFuncBound
import Derived.RangeFuncCalls
import Derived.RangeFuncLeaves
import Derived.Shelf.Abstract
import Derived.Shelf.RegionOpen
import Derived.WalkKit
import Derived.OwnWalkIn
import Derived.TacticsInMore
import Derived.LoopNIn
import Derived.LoopIn
namespace Go.Proofs.YtpbbmagjhkakgaaGreatDoor
namespace Ev
open Go.Deep (BT)
abbrev uj:=Int×List ByteArray
def oU (t lo hi:Int) (p:List uj->Bool):List uj->Bool
 | []=>false
 | e::es=>if t-e.1 > hi then false else if t-e.1>=lo/\p (e::es)=true then true else oU t lo hi p es
def oh (t lo hi:Int) (p q:List uj->Bool):List uj->Bool
 | []=>false
 | e::es=>if t-e.1 > hi then false else if t-e.1>=lo/\q (e::es)=true then true else if p (e::es)=false then false else oh t lo hi p q es
def ny (t lo hi:Int) (p:List uj->Bool):List uj->Bool
 | []=>false
 | e::es=>decide (lo<=t-e.1)&&decide (t-e.1<=hi)&&p (e::es)
def cQ:BT aO->List uj->Bool
 | .nil,_=>false
 | .node _ _ a l r,h=>match h with
  | []=>false
  | e::bE =>
   if a.op=116 then true
   else if a.op=97 then e.2.any (fun x=>decide (x=a.name))
   else if a.op=172 then !cQ l (e::bE)
   else if a.op=8743 then cQ l (e::bE)&&cQ r (e::bE)
   else if a.op=8744 then cQ l (e::bE)||cQ r (e::bE)
   else if a.op=89 then ny e.1 a.lo a.hi (cQ l) bE
   else if a.op=79 then oU e.1 a.lo a.hi (cQ l) (e::bE)
   else if a.op=72 then !oU e.1 a.lo a.hi (fun h=>!cQ l h) (e::bE)
   else oh e.1 a.lo a.hi (cQ l) (cQ r) (e::bE)
section
variable {b o : Nat} {a : aO} {l r : BT aO} (e : uj) (es : List uj)
theorem sem_true (h:a.op=116):cQ (.node b o a l r) (e::es)=true:=by simp [cQ,h]
theorem sem_name (h:a.op=97):cQ (.node b o a l r) (e::es)=e.2.any (fun x=>decide (x=a.name)):=by simp [cQ,h]
theorem sem_neg (h:a.op=172):cQ (.node b o a l r) (e::es)=!cQ l (e::es):=by simp [cQ,h]
theorem sem_and (h:a.op=8743):cQ (.node b o a l r) (e::es)=(cQ l (e::es)&&cQ r (e::es)):=by simp [cQ,h]
theorem tZ (h:a.op=89):cQ (.node b o a l r) (e::es)=ny e.1 a.lo a.hi (cQ l) es:=by simp [cQ,h]
theorem sem_once (h:a.op=79):cQ (.node b o a l r) (e::es)=oU e.1 a.lo a.hi (cQ l) (e::es):=by simp [cQ,h]
theorem sem_since (h:a.op=83):cQ (.node b o a l r) (e::es)=oh e.1 a.lo a.hi (cQ l) (cQ r) (e::es):=by simp [cQ,h]
end
theorem rM {t lo hi:Int} {p q:List uj->Bool} (hpq:∀ e es,p (e::es)=q (e::es)):∀ h,oU t lo hi p h=oU t lo hi q h
 | []=>rfl
 | e::es=>by simp only [oU,hpq e es,rM hpq es]
theorem vK {t lo hi:Int} {p q p' q':List uj->Bool} (hp:∀ e es,p (e::es)=p' (e::es)) (hq:∀ e es,q (e::es)=q' (e::es)):∀ h,oh t lo hi p q h=oh t lo hi p' q' h
 | []=>rfl
 | e::es=>by simp only [oh,hp e es,hq e es,vK hp hq es]
theorem beforeS_congr {t lo hi:Int} {p q:List uj->Bool} (hpq:∀ e es,p (e::es)=q (e::es)):∀ h,ny t lo hi p h=ny t lo hi q h
 | []=>rfl
 | e::es=>by simp only [ny,hpq e es]
theorem sx {x:BT aO} (hx:Good x) (e:uj) (es:List uj):cQ (bQ x) (e::es)=!cQ x (e::es):=by
 cases x with
 | nil=>exact hx.elim
 | node b o a l r =>
  by_cases ho:a.op=172
  ·simp [bQ,cQ,ho]
  ·simp [bQ,ho,mk,cQ]
theorem vF:∀ {x:BT aO},Good x->∀ (e:uj) (es:List uj),cQ (ak x) (e::es)=cQ x (e::es)
 | .nil,h=>h.elim
 | .node b o a l r,h=>by
  intro e es
  rcases h with ⟨h1,_⟩ | ⟨h1,_⟩ | ⟨h1,h2,h3,h4,gl,gr⟩ | ⟨h1,h2,h3,h4,gl,hr⟩
  ·unfold ak;rw [if_pos (.inl h1)]
  ·unfold ak;rw [if_pos (.inr h1)]
  ·have cl:=cA gl
   have cr:=cA gr
   have il:=vF gl
   have ir:=vF gr
   rcases h1 with h1 | h1 | h1
   ·simp [ak,cQ,h1,mk,il,ir]
   ·have hm:Good (mk 8743 ByteArray.empty 0 0 (bQ (ak l)) (bQ (ak r))):=.inr (.inr (.inl ⟨.inl rfl,rfl,by simp,fun _=>⟨rfl,rfl⟩,fY cl,fY cr⟩))
    have e1:ak (.node b o a l r)=bQ (mk 8743 ByteArray.empty 0 0 (bQ (ak l)) (bQ (ak r))):=by simp [ak,h1]
    rw [e1,sx hm]
    have e2:cQ (mk 8743 ByteArray.empty 0 0 (bQ (ak l)) (bQ (ak r))) (e::es)=(cQ (bQ (ak l)) (e::es)&&cQ (bQ (ak r)) (e::es)):=by simp [mk,cQ]
    rw [e2,sx cl,sx cr,il,ir]
    simp [cQ,h1]
   ·have e1:ak (.node b o a l r)=mk a.op ByteArray.empty a.lo a.hi (ak l) (ak r):=by simp [ak,h1]
    rw [e1,sem_since _ _ h1]
    exact (sem_since (a:=⟨a.op,ByteArray.empty,a.lo,a.hi⟩) _ _ h1).trans (vK il ir _)
  ·have cl:=cA gl
   have il:=vF gl
   rcases h1 with h1 | h1 | h1 | h1
   ·have e1:ak (.node b o a l r)=bQ (ak l):=by simp [ak,h1]
    rw [e1,sx cl,il]
    simp [cQ,h1]
   ·have e1:ak (.node b o a l r)=mk a.op ByteArray.empty a.lo a.hi (ak l) .nil:=by simp [ak,h1]
    rw [e1,tZ _ _ h1]
    exact (tZ (a:=⟨a.op,ByteArray.empty,a.lo,a.hi⟩) _ _ h1).trans (beforeS_congr il _)
   ·have e1:ak (.node b o a l r)=mk a.op ByteArray.empty a.lo a.hi (ak l) .nil:=by simp [ak,h1]
    rw [e1,sem_once _ _ h1]
    exact (sem_once (a:=⟨a.op,ByteArray.empty,a.lo,a.hi⟩) _ _ h1).trans (rM il _)
   ·have hm:Good (mk 79 ByteArray.empty a.lo a.hi (bQ (ak l)) .nil):=.inr (.inr (.inr ⟨.inr (.inr (.inl rfl)),rfl,h3,fun h=>by simp [lC] at h,fY cl,rfl⟩))
    have e1:ak (.node b o a l r)=bQ (mk 79 ByteArray.empty a.lo a.hi (bQ (ak l)) .nil):=by simp [ak,h1]
    rw [e1,sx hm]
    have e2:cQ (mk 79 ByteArray.empty a.lo a.hi (bQ (ak l)) .nil) (e::es)=oU e.1 a.lo a.hi (cQ (bQ (ak l))) (e::es):=by simp [mk,cQ]
    have e3:cQ (.node b o a l r) (e::es)=!oU e.1 a.lo a.hi (fun h=>!cQ l h) (e::es):=by simp [cQ,h1]
    rw [e2,e3]
    congr 1
    exact rM (fun e es=>by rw [sx cl,il]) _
theorem mS (b o:Nat) (a:aO) (l r:BT aO):ax (.node b o a l r)=a.hi+max (ax l) (ax r):=rfl
theorem dV:∀ {x:BT aO},Good x\/x=.nil->0<=ax x
 | .nil,_=>by simp [ax]
 | .node b o a l r,h=>by
  rw [mS]
  rcases h with h | h
  ·rcases h with ⟨_,_,_,h4,rfl,rfl⟩ | ⟨_,_,_,h4,rfl,rfl⟩ | ⟨_,_,h3,_,gl,gr⟩ | ⟨_,_,h3,_,gl,rfl⟩
   ·simp [ax];omega
   ·simp [ax];omega
   ·have:=dV (.inl gl);omega
   ·have:=dV (.inl gl);omega
  ·cases h
def nR (K:List Key):BT aO->Int->Prop
 | .nil,n=>n=0
 | .node _ _ a l r,n=>∃ (i:Nat) (p q:Int),n=(i:Int)+1/\K[i]? = some ⟨a.op,a.name,a.lo,a.hi,p,q⟩/\nR K l p/\nR K r q/\p<=i/\q<=i
theorem nR.mono {K:List Key} (M:List Key):∀ {x:BT aO} {n:Int},nR K x n->nR (K++M) x n
 | .nil,_,h=>h
 | .node _ _ _ _ _,_,⟨i,p,q,h1,h2,h3,h4,h5⟩=>⟨i,p,q,h1,by rw [List.getElem?_append_left (List.getElem?_eq_some_iff.1 h2).1];exact h2,h3.mono M,h4.mono M,h5⟩
theorem nR.le {K:List Key}:∀ {x:BT aO} {n:Int},nR K x n->0<=n/\n<=K.length
 | .nil,n,h=>by have:n=0:=h;omega
 | .node _ _ _ _ _,_,⟨i,_,_,h1,h2,_⟩=>by have:=(List.getElem?_eq_some_iff.1 h2).1;omega
theorem addK_spec (K:List Key) (k:Key):(∃ M,(mo K k).2=K++M)/\∃ i:Nat,(mo K k).1=(i:Int)+1/\(mo K k).2[i]? = some k:=by
 unfold mo
 cases h:kL K k with
 | none=>exact ⟨⟨[k],rfl⟩,K.length,rfl,by simp⟩
 | some i =>
  refine ⟨⟨[],by simp⟩,i,rfl,?_⟩
  obtain ⟨hi,h1,_⟩:=List.findIdx?_eq_some_iff_getElem.1 h
  rw [List.getElem?_eq_getElem hi]
  exact congrArg some (oO.1 h1).symm
theorem vD:∀ (x:BT aO) (K:List Key),∃ M,(aX K x).2=K++M
 | .nil,K=>⟨[],by simp [aX]⟩
 | .node _ _ a l r,K=>by
  obtain ⟨M1,h1⟩:=vD l K
  obtain ⟨M2,h2⟩:=vD r (aX K l).2
  obtain ⟨⟨M3,h3⟩,_⟩:=addK_spec (aX (aX K l).2 r).2 ⟨a.op,a.name,a.lo,a.hi,(aX K l).1,(aX (aX K l).2 r).1⟩
  exact ⟨M1++M2++M3,by rw [aX,h3,h2,h1];simp⟩
def qg (K:List Key):Prop:=∀ (i:Nat) (k:Key),K[i]? = some k->0<=k.l/\k.l<=(i:Int)/\0<=k.r/\k.r<=(i:Int)
theorem vC:∀ (x:BT aO) (K:List Key),qg K->qg (aX K x).2/\nR (aX K x).2 x (aX K x).1
 | .nil,K,h=>⟨h,rfl⟩
 | .node b o a l r,K,h=>by
  obtain ⟨a1,n1⟩:=vC l K h
  obtain ⟨a2,n2⟩:=vC r (aX K l).2 a1
  obtain ⟨M2,g2⟩:=vD r (aX K l).2
  obtain ⟨⟨M3,g3⟩,i,hi,hk⟩:=addK_spec (aX (aX K l).2 r).2 ⟨a.op,a.name,a.lo,a.hi,(aX K l).1,(aX (aX K l).2 r).1⟩
  have e:aX K (.node b o a l r)=mo (aX (aX K l).2 r).2 ⟨a.op,a.name,a.lo,a.hi,(aX K l).1,(aX (aX K l).2 r).1⟩:=rfl
  rw [e]
  have m1:nR (aX (aX K l).2 r).2 l (aX K l).1:=by rw [g2];exact n1.mono M2
  have ah:qg (mo (aX (aX K l).2 r).2 ⟨a.op,a.name,a.lo,a.hi,(aX K l).1,(aX (aX K l).2 r).1⟩).2:=by
   unfold mo
   cases hn:kL (aX (aX K l).2 r).2 ⟨a.op,a.name,a.lo,a.hi,(aX K l).1,(aX (aX K l).2 r).1⟩ with
   | some j=>exact a2
   | none =>
    intro j k hj
    simp only at hj
    rcases Nat.lt_or_ge j (aX (aX K l).2 r).2.length with cz | pg
    ·rw [List.getElem?_append_left cz] at hj;exact a2 j k hj
    ·rw [List.getElem?_append_right pg] at hj
     have hj0:j-(aX (aX K l).2 r).2.length=0:=by
      have:=(List.getElem?_eq_some_iff.1 hj).1
      simp at this;omega
     rw [hj0] at hj
     simp at hj
     subst hj
     have l1:=m1.le
     have l2:=n2.le
     simp only
     omega
  refine ⟨ah,i,(aX K l).1,(aX (aX K l).2 r).1,hi,hk,by rw [g3];exact m1.mono M3,by rw [g3];exact n2.mono M3,?_,?_⟩
  ·exact (ah i _ hk).2.1
  ·exact (ah i _ hk).2.2.2
structure Pe where
 number:Int
 time:Int
 atoms:List ByteArray
 so:List Bool
def Pe.at (e:Pe) (j:Int):Bool:=e.so.getD j.toNat false
def Pe.jD (e:Pe):uj:=(e.time,e.atoms)
def qt (t lo hi j:Int):List Pe->Bool
 | []=>false
 | e::es=>if t-e.time > hi then false else if t-e.time>=lo/\e.at j=true then true else qt t lo hi j es
def kM (t lo hi j k:Int):List Pe->Bool
 | []=>false
 | e::es=>if t-e.time > hi then false else if t-e.time>=lo/\e.at k=true then true else if e.at j=false then false else kM t lo hi j k es
def beforeF (t lo hi j:Int):List Pe->Bool
 | []=>false
 | e::_=>decide (lo<=t-e.time)&&decide (t-e.time<=hi)&&e.at j
def jn (k:Key) (now:Pe) (bE:List Pe):Bool :=
 if k.op=116 then true
 else if k.op=97 then now.atoms.any (fun x=>decide (x=k.name))
 else if k.op=172 then !now.at k.l
 else if k.op=8743 then now.at k.l&&now.at k.r
 else if k.op=89 then beforeF now.time k.lo k.hi k.l bE
 else if k.op=79 then qt now.time k.lo k.hi k.l (now::bE)
 else kM now.time k.lo k.hi k.l k.r (now::bE)
def Pe.add (e:Pe) (b:Bool):Pe:={ e with so:=e.so++[b] }
def b9 (bE:List Pe):List Key->Pe->Pe
 | [],e=>e
 | k::K,e=>b9 bE K (e.add (jn k e bE))
def Pe.bare (e:Pe):Pe:={ e with so:=[false] }
theorem uf (bE:List Pe) (k:Key):∀ (K:List Key) (e:Pe),b9 bE (K++[k]) e=(b9 bE K e).add (jn k (b9 bE K e) bE)
 | [],_=>rfl
 | _::K,_=>uf bE k K _
theorem eZ (bE:List Pe):∀ (K:List Key) (e:Pe),(b9 bE K e).number=e.number/\(b9 bE K e).time=e.time/\(b9 bE K e).atoms=e.atoms/\(b9 bE K e).so.length=e.so.length+K.length/\∃ m,(b9 bE K e).so=e.so++m
 | [],e=>⟨rfl,rfl,rfl,rfl,[],by simp [b9]⟩
 | k::K,e=>by
  obtain ⟨h1,h2,h3,h4,m,h5⟩:=eZ bE K (e.add (jn k e bE))
  refine ⟨h1,h2,h3,?_,jn k e bE::m,?_⟩
  ·rw [b9,h4];simp [Pe.add];omega
  ·rw [b9,h5];simp [Pe.add]
def mi:BT aO->Prop
 | .nil=>True
 | .node _ _ a l r=>a.op≠8744/\a.op≠72/\mi l/\mi r
theorem lZ {x:BT aO} (h:mi x):mi (bQ x):=by
 cases x with
 | nil=>exact h
 | node b o a l r =>
  show mi (if a.op=172 then l else mk 172 ByteArray.empty 0 0 (BT.node b o a l r) .nil)
  by_cases ho:a.op=172
  ·rw [if_pos ho];exact h.2.2.1
  ·rw [if_neg ho];exact ⟨by decide,by decide,h,trivial⟩
theorem mr:∀ {x:BT aO},Good x->mi (ak x)
 | .nil,h=>h.elim
 | .node b o a l r,h=>by
  rcases h with ⟨h1,_,_,_,rfl,rfl⟩ | ⟨h1,_,_,_,rfl,rfl⟩ | ⟨h1,h2,h3,h4,gl,gr⟩ | ⟨h1,h2,h3,h4,gl,hr⟩
  ·unfold ak;rw [if_pos (.inl h1)];exact ⟨by omega,by omega,trivial,trivial⟩
  ·unfold ak;rw [if_pos (.inr h1)];exact ⟨by omega,by omega,trivial,trivial⟩
  ·have cl:=mr gl
   have cr:=mr gr
   rcases h1 with h1 | h1 | h1
   ·have e1:ak (.node b o a l r)=mk a.op ByteArray.empty a.lo a.hi (ak l) (ak r):=by simp [ak,h1]
    rw [e1];exact ⟨fun h=>by have:a.op=8744:=h;omega,fun h=>by have:a.op=72:=h;omega,cl,cr⟩
   ·have e1:ak (.node b o a l r)=bQ (mk 8743 ByteArray.empty 0 0 (bQ (ak l)) (bQ (ak r))):=by simp [ak,h1]
    rw [e1];exact lZ ⟨by decide,by decide,lZ cl,lZ cr⟩
   ·have e1:ak (.node b o a l r)=mk a.op ByteArray.empty a.lo a.hi (ak l) (ak r):=by simp [ak,h1]
    rw [e1];exact ⟨fun h=>by have:a.op=8744:=h;omega,fun h=>by have:a.op=72:=h;omega,cl,cr⟩
  ·have cl:=mr gl
   rcases h1 with h1 | h1 | h1 | h1
   ·have e1:ak (.node b o a l r)=bQ (ak l):=by simp [ak,h1]
    rw [e1];exact lZ cl
   ·have e1:ak (.node b o a l r)=mk a.op ByteArray.empty a.lo a.hi (ak l) .nil:=by simp [ak,h1]
    rw [e1];exact ⟨fun h=>by have:a.op=8744:=h;omega,fun h=>by have:a.op=72:=h;omega,cl,trivial⟩
   ·have e1:ak (.node b o a l r)=mk a.op ByteArray.empty a.lo a.hi (ak l) .nil:=by simp [ak,h1]
    rw [e1];exact ⟨fun h=>by have:a.op=8744:=h;omega,fun h=>by have:a.op=72:=h;omega,cl,trivial⟩
   ·have e1:ak (.node b o a l r)=bQ (mk 79 ByteArray.empty a.lo a.hi (bQ (ak l)) .nil):=by simp [ak,h1]
    rw [e1];exact lZ ⟨show (79:Int)≠8744 by decide,show (79:Int)≠72 by decide,lZ cl,trivial⟩
def kA (K:List Key) (dropped:List uj):List Pe->Prop
 | []=>True
 | e::es=>e.so.length=K.length+1/\(∀ t n,Good t->mi t->nR K t n->(∀ d∈dropped,d.1<e.time-ax t)->e.at n=cQ t (e.jD::(es.map Pe.jD++dropped)))/\kA K dropped es
theorem kA.keep {K:List Key} {dropped:List uj}:∀ {es old:List Pe},kA K dropped (es++old)->kA K (old.map Pe.jD++dropped) es
 | [],_,_=>trivial
 | e::es,old,⟨h1,h2,h3⟩=>⟨h1,fun t n hg hc hn hd=>by rw [h2 t n hg hc hn (fun d hm=>hd d (by simp [hm]))];simp,h3.keep⟩
section
variable {K : List Key} {dropped : List uj} {es : List Pe}
theorem onceF_sem {t lo hi j:Int} {x:BT aO} (hg:Good x) (hc:mi x) (hn:nR K x j) (hd:∀ d∈dropped,d.1<t-(hi+ax x)):∀ es,kA K dropped es->qt t lo hi j es=oU t lo hi (cQ x) (es.map Pe.jD++dropped)
 | [],_=>by
  have:=dV (.inl hg)
  cases dropped with
  | nil=>rfl
  | cons d ds=>have:=hd d (.head _);simp only [List.map_nil,List.nil_append,oU,qt];rw [if_pos (by omega)]
 | e::es,⟨_,h2,h3⟩=>by
  have ih:=onceF_sem (lo:=lo) hg hc hn hd es h3
  simp only [List.map_cons,List.cons_append,oU,qt,show e.jD.1=e.time from rfl]
  by_cases h:t-e.time > hi
  ·rw [if_pos h,if_pos h]
  ·rw [if_neg h,if_neg h,ih,h2 x j hg hc hn (fun d hm=>by have:=hd d hm;omega)]
theorem sinceF_sem {t lo hi j k:Int} {x y:BT aO} (hx:Good x) (hy:Good y) (cx:mi x) (cy:mi y) (hj:nR K x j) (hk:nR K y k) (hd:∀ d∈dropped,d.1<t-(hi+max (ax x) (ax y))):∀ es,kA K dropped es->kM t lo hi j k es=oh t lo hi (cQ x) (cQ y) (es.map Pe.jD++dropped)
 | [],_=>by
  have:=dV (.inl hx)
  cases dropped with
  | nil=>rfl
  | cons d ds=>have:=hd d (.head _);simp only [List.map_nil,List.nil_append,oh,kM];rw [if_pos (by omega)]
 | e::es,⟨_,h2,h3⟩=>by
  have ih:=sinceF_sem (lo:=lo) hx hy cx cy hj hk hd es h3
  simp only [List.map_cons,List.cons_append,oh,kM,show e.jD.1=e.time from rfl]
  by_cases h:t-e.time > hi
  ·rw [if_pos h,if_pos h]
  ·rw [if_neg h,if_neg h,ih,h2 x j hx cx hj (fun d hm=>by have:=hd d hm;omega),h2 y k hy cy hk (fun d hm=>by have:=hd d hm;omega)]
theorem beforeF_sem {t lo hi j:Int} {x:BT aO} (hg:Good x) (hc:mi x) (hn:nR K x j) (hd:∀ d∈dropped,d.1<t-(hi+ax x)):∀ es,kA K dropped es->beforeF t lo hi j es=ny t lo hi (cQ x) (es.map Pe.jD++dropped)
 | [],_=>by
  have:=dV (.inl hg)
  cases dropped with
  | nil=>rfl
  | cons d ds=>have:=hd d (.head _);simp only [List.map_nil,List.nil_append,ny,beforeF];rw [show decide (t-d.1<=hi)=false from decide_eq_false (by omega)];simp
 | e::es,⟨_,h2,h3⟩=>by
  simp only [List.map_cons,List.cons_append,ny,beforeF,show e.jD.1=e.time from rfl]
  by_cases h:t-e.time<=hi
  ·rw [h2 x j hg hc hn (fun d hm=>by have:=hd d hm;omega)]
  ·rw [show decide (t-e.time<=hi)=false from decide_eq_false h];simp
theorem at_add_old {e:Pe} {b:Bool} {n:Int} (h:n.toNat<e.so.length):(e.add b).at n=e.at n:=by
 simp only [Pe.at,Pe.add,List.getD_eq_getElem?_getD,List.getElem?_append_left h]
theorem at_add_new {e:Pe} {b:Bool} {n:Int} (h:n.toNat=e.so.length):(e.add b).at n=b:=by
 simp [Pe.at,Pe.add,h]
theorem says_sem {bE:List Pe} {now:Pe} (ho:kA K dropped bE) {N:Nat} {k:Key} (hk:K[N]? = some k)
  (hnow:∀ t n,Good t->mi t->nR K t n->n<=N->(∀ d∈dropped,d.1<now.time-ax t)->now.at n=cQ t (now.jD::(bE.map Pe.jD++dropped)))
  {t:BT aO} (hg:Good t) (hc:mi t) (hn:nR K t ((N:Int)+1)) (hd:∀ d∈dropped,d.1<now.time-ax t):jn k now bE=cQ t (now.jD::(bE.map Pe.jD++dropped)):=by
 cases t with
 | nil=>exact hg.elim
 | node b o a l r =>
  obtain ⟨i,p,q,h1,h2,h3,h4,h5,h6⟩:=hn
  obtain rfl:i=N:=by omega
  rw [h2] at hk
  obtain rfl:=Option.some.inj hk
  rw [mS] at hd
  obtain ⟨c1,c2,cl,cr⟩:=hc
  have ht:now.jD.1=now.time:=rfl
  rcases hg with ⟨g1,_⟩ | ⟨g1,_⟩ | ⟨g1,_,g3,_,gl,gr⟩ | ⟨g1,_,g3,_,gl,hr⟩
  ·rw [sem_true _ _ g1];simp [jn,g1]
  ·rw [sem_name _ _ g1];simp [jn,g1,Pe.jD]
  ·have nl:=dV (.inl gl)
   have nr:=dV (.inl gr)
   have vl:=hnow l p gl cl h3 h5 (fun d hm=>by have:=hd d hm;omega)
   have vr:=hnow r q gr cr h4 h6 (fun d hm=>by have:=hd d hm;omega)
   rcases g1 with g1 | g1 | g1
   ·rw [sem_and _ _ g1,<- vl,<- vr];simp [jn,g1]
   ·exact absurd g1 c1
   ·have hs:=sinceF_sem (t:=now.time) (lo:=a.lo) (hi:=a.hi) gl gr cl cr h3 h4 hd bE ho
    rw [sem_since _ _ g1]
    have e1:jn ⟨a.op,a.name,a.lo,a.hi,p,q⟩ now bE=kM now.time a.lo a.hi p q (now::bE):=by simp [jn,g1]
    rw [e1,ht]
    simp only [kM,oh,ht,hs,vl,vr]
  ·have nl:=dV (.inl gl)
   subst hr
   have hz:ax (.nil:BT aO)=0:=rfl
   rw [hz] at hd
   have vl:=hnow l p gl cl h3 h5 (fun d hm=>by have:=hd d hm;omega)
   have hd':∀ d∈dropped,d.1<now.time-(a.hi+ax l):=fun d hm=>by have:=hd d hm;omega
   rcases g1 with g1 | g1 | g1 | g1
   ·rw [sem_neg _ _ g1,<- vl];simp [jn,g1]
   ·have hs:=beforeF_sem (t:=now.time) (lo:=a.lo) (hi:=a.hi) gl cl h3 hd' bE ho
    rw [tZ _ _ g1,ht,<- hs];simp [jn,g1]
   ·have hs:=onceF_sem (t:=now.time) (lo:=a.lo) (hi:=a.hi) gl cl h3 hd' bE ho
    rw [sem_once _ _ g1]
    have e1:jn ⟨a.op,a.name,a.lo,a.hi,p,q⟩ now bE=qt now.time a.lo a.hi p (now::bE):=by simp [jn,g1]
    rw [e1,ht]
    simp only [qt,oU,ht,hs,vl]
   ·exact absurd g1 c2
theorem ug {bE:List Pe} (ho:kA K dropped bE) (now:Pe):kA K dropped (b9 bE K now.bare::bE):=by
 have key:∀ (N:Nat),N<=K.length->∀ t n,Good t->mi t->nR K t n->n<=N->(∀ d∈dropped,d.1<now.time-ax t)->(b9 bE (K.take N) now.bare).at n=cQ t (now.jD::(bE.map Pe.jD++dropped)):=by
  intro N
  induction N with
  | zero =>
   intro _ t n hg hc hn hN hd
   cases t with
   | nil=>exact hg.elim
   | node b o a l r=>obtain ⟨i,_,_,h1,_⟩:=hn;omega
  | succ N ih =>
   intro hN t n hg hc hn hle hd
   have cz:N<K.length:=by omega
   have e1:K.take (N+1)=K.take N++[K[N]]:=by rw [List.take_append_getElem cz]
   obtain ⟨w1,w2,w3,w4,_⟩:=eZ bE (K.take N) now.bare
   have hlen:(b9 bE (K.take N) now.bare).so.length=N+1:=by rw [w4,List.length_take];simp [Pe.bare];omega
   have hhap:(b9 bE (K.take N) now.bare).jD=now.jD:=by unfold Pe.jD;rw [w2,w3];rfl
   rw [e1,uf]
   have n0:=hn.le
   by_cases hnN:n<=N
   ·rw [at_add_old (by omega)]
    exact ih (by omega) t n hg hc hn hnN hd
   ·have hn1:n=(N:Int)+1:=by omega
    subst hn1
    rw [at_add_new (by omega)]
    have:=says_sem (now:=b9 bE (K.take N) now.bare) ho (List.getElem?_eq_getElem cz) (fun t n hg hc hn hle hd=>by rw [hhap];exact ih (by omega) t n hg hc hn hle (by rw [w2] at hd;exact hd)) hg hc hn (by rw [w2];exact hd)
    rw [this,hhap]
 obtain ⟨w1,w2,w3,w4,_⟩:=eZ bE K now.bare
 refine ⟨by rw [w4];simp [Pe.bare];omega,fun t n hg hc hn hd=>?_,ho⟩
 have:=key K.length (Nat.le_refl _) t n hg hc hn hn.le.2 (by rw [w2] at hd;exact hd)
 rw [List.take_length] at this
 have hhap:(b9 bE K now.bare).jD=now.jD:=by unfold Pe.jD;rw [w2,w3];rfl
 rw [this,hhap]
end
end Ev
namespace Ev
open Go.RowKit Go.Deep Go.Maps
structure bx where
 number:Int
 time:Int
 ao:Option Addr
 al:Nat
 ac:Nat
 so:Option Addr
 sl:Nat
 sc:Nat
def bx.av (e:bx):Value:=.slice e.ao e.al e.ac
def bx.sv (e:bx):Value:=.slice e.so e.sl e.sc
def bf (e:bx):List Value:=[.int .i64 e.number,.int .i64 e.time,e.av,e.sv]
def dk (E:List bx):List Value:=(E.map bf).flatten
def bY (w:World) (ev:Value) (E:List bx):Prop:=w.ownsRow 0 159 4 ev E.length (dk E)
theorem kn {α:Type} (f:α->List Value) (n:Nat) (hf:∀ a,(f a).length=n):∀ (L:List α) (i k:Nat) (a:α) (v:Value),L[i]? = some a->(f a)[k]? = some v->(L.map f).flatten[i*n+k]? = some v
 | [],i,_,_,_,h,_=>by simp at h
 | x::L,0,k,a,v,h,hv=>by
  simp at h;subst h
  have hk:=(List.getElem?_eq_some_iff.1 hv).1
  simp only [List.map_cons,List.flatten_cons,Nat.zero_mul,Nat.zero_add]
  rw [List.getElem?_append_left hk];exact hv
 | x::L,i+1,k,a,v,h,hv=>by
  simp at h
  have ih:=kn f n hf L i k a v h hv
  simp only [List.map_cons,List.flatten_cons]
  rw [List.getElem?_append_right (by rw [hf,Nat.succ_mul];omega),hf]
  have:(i+1)*n+k-n=i*n+k:=by rw [Nat.succ_mul];omega
  rw [this];exact ih
theorem ft {α:Type} (f:α->List Value) (n:Nat) (hf:∀ a,(f a).length=n):∀ (L:List α),(L.map f).flatten.length=L.length*n
 | []=>by simp
 | x::L=>by simp only [List.map_cons,List.flatten_cons,List.length_append,hf,ft f n hf L,List.length_cons,Nat.succ_mul];omega
theorem gH {w:World} {base size n:Nat} {e:TypeId} {v:Value} {xs:List Value} (h:w.ownsRow base e size v n xs) {g cap:Nat} (hv:v=.slice (some ⟨g,0,none⟩) n cap) {j:Nat} {x:Value} (hx:xs[j]? = some x):w.cell? ⟨g,j,none⟩=some x:=by
 obtain ⟨h1,⟨rfl,h2⟩ | ⟨g',mq,cur,e1,h3,h4,h5,h6,h7,h8⟩⟩:=h
 ·cases hv
 ·rw [hv] at e1
  cases e1
  have hj:j<n*size:=by have:=(List.getElem?_eq_some_iff.1 hx).1;omega
  rw [<- h8,List.getElem?_take,if_pos hj] at hx
  exact ae h4 (by rw [<- Array.getElem?_toList];exact hx)
theorem bY.cases {w:World} {ev:Value} {E:List bx} (h:bY w ev E):(ev=.slice none 0 0/\E=[])\/∃ g cap,ev=.slice (some ⟨g,0,none⟩) E.length cap/\E.length<=cap/\cap<=maxLen/\g<w.heap.size:=by
 have hl:=h.lt
 obtain ⟨h1,⟨rfl,h2⟩ | ⟨g,cap,cur,rfl,h3,h4,h5,h6,_⟩⟩:=h
 ·exact .inl ⟨rfl,List.length_eq_zero_iff.1 h2⟩
 ·exact .inr ⟨g,cap,rfl,h5,h6,(hl g rfl).2⟩
theorem bY.cell {w:World} {E:List bx} {g cap:Nat} (h:bY w (.slice (some ⟨g,0,none⟩) E.length cap) E) {i k:Nat} {e:bx} {v:Value} (he:E[i]? = some e) (hv:(bf e)[k]? = some v):w.cell? ⟨g,i*4+k,none⟩=some v :=
 gH h rfl (kn bf 4 (fun _=>rfl) E i k e v he hv)
theorem bY.below {w w':World} {ev:Value} {E:List bx} (h:bY w ev E) (hb:Below w.heap.size w w'):bY w' ev E:=dw h fun k hk=>hb.block k (h.lt k hk).2
def nj (t:Int):List bx->Nat
 | []=>0
 | e::E=>if e.time>=t then 0 else nj t E+1
theorem oldF_at (t:Int) (E:List bx) (i:Nat) (e:bx) (h:E[i]? = some e):nj t (E.drop i)=if e.time>=t then 0 else nj t (E.drop (i+1))+1:=by
 obtain ⟨hi,rfl⟩:=List.getElem?_eq_some_iff.1 h
 rw [List.drop_eq_getElem_cons hi]
 rfl
theorem oldF_le (t:Int):∀ E:List bx,nj t E<=E.length
 | []=>Nat.le_refl _
 | e::E=>by have:=oldF_le t E;simp only [nj];split<;>simp<;>omega
theorem bY.form {w:World} {ev:Value} {E:List bx} (h:bY w ev E):∃ ea cap,ev=.slice ea E.length cap/\E.length<=cap/\cap<=maxLen/\(E≠[]->∃ g,ea=some ⟨g,0,none⟩/\g<w.heap.size):=by
 rcases h.cases with ⟨rfl,rfl⟩ | ⟨g,cap,rfl,h1,h2,h3⟩
 ·exact ⟨none,0,rfl,Nat.le_refl _,by simp [maxLen],fun h=>absurd rfl h⟩
 ·exact ⟨_,cap,rfl,h1,h2,fun _=>⟨g,rfl,h3⟩⟩
set_option maxHeartbeats 1000000 in
theorem old_any (aj:Nat) (ai:Int) (rm nv ev pv:Value) (E:List bx) (time:Int) (w:World) (hw:w.heap[aj]? = some (.cells #[.int .i64 ai,rm,nv,ev,pv] 153 (0,0))) (hE:bY w ev E) (hn:E.length<=1000000) (ht:0<=time/\time<=1000000000000) (hr:0<=ai/\ai<=1000000000) :
  Calls Tryz.prog 131 #[.pointer (some ⟨aj,0,none⟩),.int .i64 time] w fun e w'=>e=.returned (.int .i64 (nj (time-ai) E))/\Below w.heap.size w w':=by
 have cz:=aw hw
 have lj:w.cell? ⟨aj,0,none⟩=some (.int .i64 ai):=ae hw rfl
 have r_:w.cell? ⟨aj,3,none⟩=some ev:=ae hw rfl
 generalize oH:nj (time-ai) E=res
 obtain ⟨ea,cap,rfl,cW,sa,hea⟩:=hE.form
 generalize hlen:E.length=n at *
 go_enter Tryz.func131,Tryz.ntmps131
 go_wp2_with fail
 go_loopw [12] (fun iv wr=>∃ i:Nat,iv=.int .i64 i/\i<=n/\Below w.heap.size w wr/\Hid (i+nj (time-ai) (E.drop i)=res)) (fun iv _=>n-(intOf iv).toNat)
 case atStart=>exact ⟨0,rfl,Nat.zero_le _,Below.refl _ _,show _=_ by simpa using oH⟩
 case round =>
  clear oH
  obtain ⟨i,rfl,tP,h_,hR⟩:=hrel
  have hd0:wr.cell? ⟨aj,0,none⟩=some (.int .i64 ai):=by rw [h_.cell (p:=⟨aj,0,none⟩) cz];exact lj
  have hd3:wr.cell? ⟨aj,3,none⟩=some (.slice ea n cap):=by rw [h_.cell (p:=⟨aj,3,none⟩) cz];exact r_
  by_cases hi:i<n
  ·have hie:i<E.length:=by omega
   have fD:E[i]? = some E[i]:=List.getElem?_eq_getElem hie
   obtain ⟨g,rfl,hg⟩:=hea (by intro h;rw [h] at hie;simp at hie)
   have hE':bY w (.slice (some ⟨g,0,none⟩) E.length cap) E:=by rw [hlen];exact hE
   have hR2:=oldF_at (time-ai) E i _ fD
   generalize E[i]=x at *
   have q0:wr.cell? ⟨g,i*4,none⟩=some (.int .i64 x.number):=by rw [h_.cell (p:=⟨g,i*4,none⟩) hg];exact hE'.cell (k:=0) fD rfl
   have q1:wr.cell? ⟨g,i*4+1,none⟩=some (.int .i64 x.time):=by rw [h_.cell (p:=⟨g,i*4+1,none⟩) hg];exact hE'.cell (k:=1) fD rfl
   have q2:wr.cell? ⟨g,i*4+2,none⟩=some (.slice x.ao x.al x.ac):=by rw [h_.cell (p:=⟨g,i*4+2,none⟩) hg];exact hE'.cell (k:=2) fD rfl
   have q3:wr.cell? ⟨g,i*4+3,none⟩=some (.slice x.so x.sl x.sc):=by rw [h_.cell (p:=⟨g,i*4+3,none⟩) hg];exact hE'.cell (k:=3) fD rfl
   have HR2:Hid (res=i+if x.time>=time-ai then 0 else nj (time-ai) (E.drop (i+1))+1):=by rw [<- hR2];exact hR.out.symm
   clear hR2 hR hE hE' fD
   go_wp2_with fail
   have cB:Below w.heap.size w (wr.alloc (.cells #[.int .i64 x.number,.int .i64 x.time,.slice x.ao x.al x.ac,.slice x.so x.sl x.sc] 159)):=h_.al _
   have z0:(wr.alloc (.cells #[.int .i64 x.number,.int .i64 x.time,.slice x.ao x.al x.ac,.slice x.so x.sl x.sc] 159)).cell? ⟨aj,0,none⟩=some (.int .i64 ai):=by rw [cB.cell (p:=⟨aj,0,none⟩) cz];exact lj
   have z1:(wr.alloc (.cells #[.int .i64 x.number,.int .i64 x.time,.slice x.ao x.al x.ac,.slice x.so x.sl x.sc] 159)).cell? ⟨wr.heap.size,1,none⟩=some (.int .i64 x.time):=ae (aB _ _ _ rfl) rfl
   generalize (wr.alloc (.cells #[.int .i64 x.number,.int .i64 x.time,.slice x.ao x.al x.ac,.slice x.so x.sl x.sc] 159))=w2 at cB z0 z1 ⊢
   go_region
   by_cases hx:x.time>=time-ai
   ·go_wp2_with fail
    go_ret
    exact ⟨by rw [HR2.out,if_pos hx];rfl,by first | exact cB | exact cB.drew⟩
   ·go_wp2_with fail
    go_roundw
    case rel=>exact ⟨i+1,by go_num,by omega,by first | exact cB | exact cB.drew,show _=_ by rw [HR2.out,if_neg hx];omega⟩
    case measure=>simp only [intOf];omega
  ·obtain rfl:i=n:=by omega
   have HR3:Hid (res=i):=by show _=_;rw [<- hR.out,List.drop_of_length_le (by omega)];rfl
   clear hR
   go_wp2_with fail
   go_ret
   exact ⟨by rw [HR3.out];rfl,h_⟩
theorem isFull_any (cj:Nat) (o:Option Addr) (n cap:Nat) (w:World) (h:w.heap[cj]? = some (.cells #[.slice o n cap] 177 (0,0))) :
  Calls Tryz.prog 127 #[.pointer (some ⟨cj,0,none⟩)] w fun e w'=>e=.returned (.bool (decide ((n:Int)>=30)))/\w'=w:=by
 have hc:w.cell? ⟨cj,0,none⟩=some (.slice o n cap):=ae h rfl
 go_enter Tryz.func127,Tryz.ntmps127
 go_wp2_with fail
 go_ret
 exact ⟨rfl,rfl⟩
theorem checkTime_ok (aj:Nat) (rt rm nv ev pv:Value) (E:List bx) (time:Int) (w:World) (hw:w.heap[aj]? = some (.cells #[rt,rm,nv,ev,pv] 153 (0,0))) (hE:bY w ev E) (hn:E.length<=1000000) (ht:0<=time/\time<=1000000000000) (hl:∀ e,E.getLast? = some e->e.time<time) :
  Calls Tryz.prog 125 #[.pointer (some ⟨aj,0,none⟩),.int .i64 time] w fun e w'=>e=.returned .nilIface/\w'=w:=by
 have cz:=aw hw
 have r_:w.cell? ⟨aj,3,none⟩=some ev:=ae hw rfl
 rcases hE.cases with ⟨rfl,rfl⟩ | ⟨g,cap,rfl,cW,sa,hg⟩
 ·go_enter Tryz.func125,Tryz.ntmps125
  go_wp2_with fail
  go_ret
  exact ⟨rfl,rfl⟩
 ·cases hlen:E.length with
  | zero =>
   rw [hlen] at r_
   go_enter Tryz.func125,Tryz.ntmps125
   go_wp2_with fail
   go_ret
   exact ⟨rfl,rfl⟩
  | succ m =>
   have fD:E[m]? = some E[m]:=List.getElem?_eq_getElem (by omega)
   have hlast:E[m].time<time:=hl _ (by rw [List.getLast?_eq_getElem?,show E.length-1=m by omega];exact fD)
   have q1:w.cell? ⟨g,m*4+1,none⟩=some (.int .i64 E[m].time):=hE.cell (k:=1) fD rfl
   rw [hlen] at r_ cW
   generalize E[m].time=t1 at *
   go_enter Tryz.func125,Tryz.ntmps125
   go_wp2_with fail
   go_ret
   exact ⟨rfl,rfl⟩
theorem checkRoom_ok (aj:Nat) (ai room:Int) (nv ev pv:Value) (E:List bx) (time:Int) (w:World) (hw:w.heap[aj]? = some (.cells #[.int .i64 ai,.int .i64 room,nv,ev,pv] 153 (0,0))) (hE:bY w ev E) (hn:E.length<=1000000) (ht:0<=time/\time<=1000000000000) (hr:0<=ai/\ai<=1000000000)
  (oI:(E.length:Int)-nj (time-ai) E+1<=room) :
  Calls Tryz.prog 128 #[.pointer (some ⟨aj,0,none⟩),.int .i64 time] w fun e w'=>e=.returned .nilIface/\Below w.heap.size w w':=by
 have hO:∀ w',Below w.heap.size w w'->Calls Tryz.prog 131 #[.pointer (some ⟨aj,0,none⟩),.int .i64 time] w' fun e w''=>e=.returned (.int .i64 (nj (time-ai) E))/\Below w'.heap.size w' w'':=fun w' hb=>old_any aj ai (.int .i64 room) nv ev pv E time w' (hb.aE hw) (hE.below hb) hn ht hr
 have hle:=oldF_le (time-ai) E
 generalize nj (time-ai) E=k at *
 obtain ⟨ea,cap,rfl,cW,sa,hea⟩:=hE.form
 generalize hlen:E.length=n at *
 have kJ:w.cell? ⟨aj,1,none⟩=some (.int .i64 room):=ae hw rfl
 have r_:w.cell? ⟨aj,3,none⟩=some (.slice ea n cap):=ae hw rfl
 have df:∀ w',Below w.heap.size w w'->w'.cell? ⟨aj,1,none⟩=some (.int .i64 room)/\w'.cell? ⟨aj,3,none⟩=some (.slice ea n cap):=fun w' h=>⟨ae (h.aE hw) rfl,ae (h.aE hw) rfl⟩
 have kj:Hid (∀ w',Below w.heap.size w w'->w'.cell? ⟨aj,1,none⟩=some (.int .i64 room)/\w'.cell? ⟨aj,3,none⟩=some (.slice ea n cap)):=df
 have HO:Hid (∀ w',Below w.heap.size w w'->Calls Tryz.prog 131 #[.pointer (some ⟨aj,0,none⟩),.int .i64 time] w' fun e w''=>e=.returned (.int .i64 k)/\Below w'.heap.size w' w''):=hO
 clear df hO hw hE hea
 go_enter Tryz.func128,Tryz.ntmps128
 go_wp2_with fail
 go_region_held (fun w'=>w'.cell? ⟨aj,1,none⟩=some (.int .i64 room)/\w'.cell? ⟨aj,3,none⟩=some (.slice ea n cap))
  ((refine kj.out _ ?_;first | exact (Below.refl _ _).drew | exact (Below.refl w.heap.size w).drew.trans a_))
  ((go_at_call 131;refine (HO.out _ ?_).mono ?_;exact (Below.refl _ _).drew;rintro e w1 ⟨rfl,a_⟩))
 all_goals (obtain ⟨z1,z3⟩:=kj.out w1 ((Below.refl w.heap.size w).drew.trans a_))
 all_goals go_wp2_with fail
 all_goals go_ret
 all_goals exact ⟨rfl,(Below.refl w.heap.size w).drew.trans a_⟩
end Ev
namespace Ev
open Go.RowKit Go.Deep
structure eR (s:ByteArray):Prop where
 low:1<=s.size
 high:s.size<=8
 full:(s.toList==[])=false
 other:(s.toList==[116,114,117,101])=false
 all:∀ pos,pos<s.size->97<=((Utf8.decode s pos).1:Int)/\((Utf8.decode s pos).1:Int)<=122
set_option maxHeartbeats 1000000 in
theorem isName_ok (s:ByteArray) (hs:eR s) (w:World):Calls Tryz.prog 167 #[.string s] w fun e w'=>e=.returned (.bool true)/\Below w.heap.size w w':=by
 obtain ⟨hl,hh,he,ho,nc⟩:=hs
 go_enter Tryz.func167,Tryz.ntmps167
 go_wp2_with fail
 go_loopw [4] (fun _ wr=>∃ pos:Nat,wr.heap[w.heap.size]? = some (.stringIter s pos)/\Below w.heap.size w wr) (fun _ wr=>s.size-wr.iterPos w.heap.size)
 case atStart=>exact ⟨0,World.iter_heap w s 0,(Below.refl _ _).al (.stringIter s 0)⟩
 case round =>
  obtain ⟨pos,hit,h_⟩:=hrel
  by_cases hp:pos<s.size
  ·have nh:∀ ty,(Instr.next (.pointer (some ⟨w.heap.size,0,none⟩)) true ty).run Tryz.prog wr=_:=fun ty=>Lib.run_next_any_at wr w.heap.size s pos ty hit hp
   have hwd:=width_pos s pos hp
   have hit2:=Lib.iterAt_heap wr w.heap.size s pos (pos+(Utf8.decode s pos).2) hit
   have sO:=Lib.below_iterAt h_ (k:=w.heap.size) (Nat.le_refl _) s (pos+(Utf8.decode s pos).2)
   have hm:Hid (wr.iterPos w.heap.size=pos):=iterPos_of hit
   have ha:=nc pos hp
   clear nc
   go_wp2_with fail
   generalize wr.iterAt w.heap.size s (pos+(Utf8.decode s pos).2)=W at *
   go_roundw
   case rel=>exact ⟨_,hit2,sO⟩
   case measure=>rw [hm.out,iterPos_of hit2];omega
  ·have nh:∀ ty,(Instr.next (.pointer (some ⟨w.heap.size,0,none⟩)) true ty).run Tryz.prog wr=_:=fun ty=>Lib.run_next_end_at wr w.heap.size s pos ty hit hp
   go_wp2_with fail
   go_ret
   exact ⟨rfl,h_⟩
def eI (w:World) (ao:Option Addr) (A:List ByteArray):Prop:=A≠[]->∃ b off,ao=some ⟨b,off,none⟩/\b<w.heap.size/\∀ j,j<A.length->w.cell? ⟨b,off+j,none⟩=some (.string (A.getD j ByteArray.empty))
theorem eI.below {w w':World} {ao:Option Addr} {A:List ByteArray} (h:eI w ao A) (hb:Below w.heap.size w w'):eI w' ao A:=fun hne=>by
 obtain ⟨b,off,h1,h2,h3⟩:=h hne
 exact ⟨b,off,h1,Nat.lt_of_lt_of_le h2 hb.size,fun j hj=>by rw [hb.cell (p:=⟨b,off+j,none⟩) h2];exact h3 j hj⟩
theorem uw (w:World) (ao:Option Addr) (A:List ByteArray) (cap n:Nat) (x:ByteArray) (h:eI w ao A) (hn:n<=A.length) (hA:A.length<=1000000):Calls Tryz.prog 168 #[.slice ao n cap,.string x] w fun e w'=>e=.returned (.bool (Lib.containsS (A.take n) x))/\w'=w:=by
 cases n with
 | zero=>exact (Tryz.slices_Contains_string_empty ao cap x w).mono fun e w' ⟨h1,h2⟩=>⟨by rw [h1];rfl,h2⟩
 | succ n =>
  obtain ⟨b,off,rfl,_,hc⟩:=h (by intro e;rw [e] at hn;simp at hn)
  exact Tryz.slices_Contains_string b off (n+1) cap A x w hn (by omega) hc
set_option maxHeartbeats 1000000 in
theorem checkAtoms_ok (ao:Option Addr) (A:List ByteArray) (cap:Nat) (w:World) (h:eI w ao A) (hA:A.length<=10) (cW:A.length<=cap) (hN:∀ j,j<A.length->eR (A.getD j ByteArray.empty)) (hD:∀ j,j<A.length->Lib.containsS (A.take j) (A.getD j ByteArray.empty)=false) :
  Calls Tryz.prog 126 #[.slice ao A.length cap] w fun e w'=>e=.returned .nilIface/\Below w.heap.size w w':=by
 have HA:Hid (∀ w',Below w.heap.size w w'->eI w' ao A):=fun w' hb=>h.below hb
 generalize hlen:A.length=n at *
 clear h
 go_enter Tryz.func126,Tryz.ntmps126
 go_wp2_with fail
 go_loopw [13] (fun iv wr=>∃ i:Nat,iv=.int .i64 i/\i<=n/\Below w.heap.size w wr) (fun iv _=>n-(intOf iv).toNat)
 case atStart=>exact ⟨0,rfl,Nat.zero_le _,Below.refl _ _⟩
 case round =>
  obtain ⟨i,rfl,tP,h_⟩:=hrel
  by_cases hi:i<n
  ·obtain ⟨b,off,rfl,hb,hc⟩:=HA.out wr h_ (by intro e;rw [e] at hlen;simp at hlen;omega)
   have q0:=hc i (by omega)
   have hNi:=hN i hi
   have hDi:=hD i hi
   have HC:=fun w' hb'=>uw w' (some ⟨b,off,none⟩) A cap i (A.getD i ByteArray.empty) (HA.out w' hb') (by omega) (by omega)
   rw [hDi] at HC
   have HC:Hid (∀ w',Below w.heap.size w w'->Calls Tryz.prog 168 #[.slice (some ⟨b,off,none⟩) i cap,.string (A.getD i ByteArray.empty)] w' fun e w''=>e=.returned (.bool false)/\w''=w'):=HC
   clear hc hN hD hDi
   generalize A.getD i ByteArray.empty=x at *
   go_wp2_with fail
   refine (isName_ok x hNi _).mono ?_
   rintro e w1 ⟨rfl,a_⟩
   go_wp2_with fail
   refine (HC.out _ (h_.tr a_)).mono ?_
   rintro e w2 ⟨rfl,rfl⟩
   go_wp2_with fail
   go_roundw
   case rel=>exact ⟨i+1,by go_num,by omega,h_.tr a_⟩
   case measure=>simp only [intOf];omega
  ·obtain rfl:i=n:=by omega
   go_wp2_with fail
   go_ret
   exact ⟨rfl,h_⟩
end Ev
namespace Ev
open Go.RowKit Go.Shelf
attribute [local go_sem] Oper.semAt_some
def fJ (n:Nat):Nat->List { j:Nat // j<n }
 | 0=>[]
 | k+1=>fJ n k++(if h:k<n then [⟨n-1-k,by omega⟩] else [])
theorem nz {n k:Nat} (h:k<n):fJ n (k+1)=fJ n k++[⟨n-1-k,by omega⟩]:=by simp [fJ,h]
theorem downTo_len {n:Nat}:∀ k,k<=n->(fJ n k).length=k
 | 0,_=>rfl
 | k+1,h=>by rw [nz (by omega),List.length_append,downTo_len k (by omega)];rfl
def gv (e:bx):Value:=.agg #[.int .i64 e.number,.int .i64 e.time,.slice e.ao e.al e.ac,.slice e.so e.sl e.sc]
set_option maxRecDepth 100000 in
set_option maxHeartbeats 2000000 in
theorem back1_in (F:Fence) (n:Nat) (h8:F.fn 215) (hro:F.round=none) (hn:1<=n) (l Bs sQ g cap len:Nat) (f:Nat->bx) (gG:len<=1000000) (hb:g<sQ) (hBn:Bs<sQ) (J Jx:List { j:Nat // j<len }->World->Prop)
  (hY:∀ pre x W,J pre W->pre.length<len->YieldAt F (n-1) Tryz.prog l #[.int .i64 (x.1:Int),gv (f x.1)] W fun e W' =>
   (e=.returned (.bool true)/\J (pre++[x]) W'/\Below sQ W W')\/(e=.returned (.bool false)/\Jx (pre++[x]) W'))
  (W:World) (hBs:W.cell? ⟨Bs,0,none⟩=some (.slice (some ⟨g,0,none⟩) len cap)) (cW:len<=cap) (hc:∀ i k v,i<len->(bf (f i))[k]? = some v->W.cell? ⟨g,i*4+k,none⟩=some v) (h0:J [] W) :
  CallsIn F n Tryz.prog 215 #[.func (.yield l) #[] #[],.pointer (some ⟨Bs,0,none⟩)] W fun e W'=>(∃ v,e=.returned v)/\
   ((∃ ys,ys=fJ len len/\J ys W')\/(∃ pre,(∃ k,k<=len/\pre=fJ len k)/\Jx pre W')):=by
 refine callsIn_of_wp Tryz.func215 rfl h8 ?_ hro
 simp only [Tryz.ntmps215,List.size_toArray,List.length_cons,List.length_nil,Nat.reduceAdd,Nat.reduceSub,Array.replicate_succ,Array.replicate_zero,List.push_toArray,List.append_toArray,List.nil_append,List.cons_append]
 gi_wp2
 gi_loopw [3] (fun i wr=>∃ k:Nat,k<=len/\i=.int .i64 ((len:Int)-1-k)/\J (fJ len k) wr/\Below sQ W wr)
  (fun i _=>((intOf i)+1).toNat)
 case atStart=>exact ⟨0,Nat.zero_le _,by go_num,h0,Below.refl _ _⟩
 case round =>
  obtain ⟨k,hk,rfl,hJs,nh⟩:=hrel
  have hs0:wr.cell? ⟨Bs,0,none⟩=some (.slice (some ⟨g,0,none⟩) len cap):=(nh.cell (p:=⟨Bs,0,none⟩) hBn).trans hBs
  by_cases cz:k<len
  ·have hj:len-1-k<len:=by omega
   have hR2:=nz cz
   obtain ⟨i,hi,hie⟩:∃ i:Nat,i=len-1-k/\((len:Int)-1-k=(i:Int)):=⟨_,rfl,by omega⟩
   obtain ⟨fn,tmps,assign,body,hy,hR⟩:=hY _ ⟨len-1-k,hj⟩ wr hJs (by rw [downTo_len k hk];exact cz)
   rw [<- hR2] at hR
   simp only [<- hi] at hy
   rw [<- hi] at hj
   have q0:wr.cell? ⟨g,i*4,none⟩=some (.int .i64 (f i).number):=(nh.cell (p:=⟨g,i*4,none⟩) hb).trans (hc i 0 _ hj rfl)
   have q1:wr.cell? ⟨g,i*4+1,none⟩=some (.int .i64 (f i).time):=(nh.cell (p:=⟨g,i*4+1,none⟩) hb).trans (hc i 1 _ hj rfl)
   have q2:wr.cell? ⟨g,i*4+2,none⟩=some (.slice (f i).ao (f i).al (f i).ac):=(nh.cell (p:=⟨g,i*4+2,none⟩) hb).trans (hc i 2 _ hj rfl)
   have q3:wr.cell? ⟨g,i*4+3,none⟩=some (.slice (f i).so (f i).sl (f i).sc):=(nh.cell (p:=⟨g,i*4+3,none⟩) hb).trans (hc i 3 _ hj rfl)
   dsimp only [gv] at hy
   clear hY hc hR2
   generalize f i=x at *
   rw [hie]
   have Hie:Hid ((len:Int)-1-k=(i:Int)):=hie
   have Hlt:Hid (k<len):=cz
   clear hi hie cz hk hJs
   gi_wp2
   refine hR.mono ?_
   rintro e W3 (⟨rfl,hJ3,hk3⟩ | ⟨rfl,hJx3⟩)
   ·gi_wp2
    go_roundw
    case rel=>exact ⟨k+1,Hlt.out,by have:=Hie.out;go_num,hJ3,nh.trans hk3⟩
    case measure=>have:=Hie.out;simp only [intOf];omega
   ·gi_wp2
    refine bodyPost_ret (results_none rfl _ _ _) rfl ?_
    exact ⟨⟨_,rfl⟩,.inr ⟨_,⟨k+1,Hlt.out,rfl⟩,hJx3⟩⟩
  ·obtain rfl:k=len:=by omega
   gi_wp2
   go_end0
   exact ⟨⟨_,rfl⟩,.inl ⟨_,rfl,hJs⟩⟩
theorem backward_in (F:Fence) (n:Nat) (h7:F.fn 207) (hro:F.round=none) (o:Option Addr) (len cap:Nat) (w:World) :
  CallsIn F n Tryz.prog 207 #[.slice o len cap] w fun e w'=>e=.returned (.func (.func 215) #[] #[.pointer (some ⟨w.heap.size,0,none⟩)])/\w'=w.alloc (.cells #[.slice o len cap] 146):=by
 refine callsIn_of_wp Tryz.func207 rfl h7 ?_ hro
 simp only [Tryz.ntmps207,List.size_toArray,List.length_cons,List.length_nil,Nat.reduceAdd,Nat.reduceSub,Array.replicate_succ,Array.replicate_zero,List.push_toArray,List.append_toArray,List.nil_append,List.cons_append]
 gi_wp2
 go_ret
 exact ⟨rfl,rfl⟩
theorem back_stops (F:Fence) (n:Nat) (h8:F.fn 215) (hro:F.round=none) (hn:1<=n) (Bs sQ g cap len:Nat) (f:Nat->bx) (gG:len<=1000000) (hb:g<sQ) (hBn:Bs<sQ) (w:World) (hn₀:sQ<=w.heap.size)
  (hBs:w.cell? ⟨Bs,0,none⟩=some (.slice (some ⟨g,0,none⟩) len cap)) (cW:len<=cap) (hc:∀ i k v,i<len->(bf (f i))[k]? = some v->w.cell? ⟨g,i*4+k,none⟩=some v) :
  SeqStopsK F n Tryz.prog 215 #[.pointer (some ⟨Bs,0,none⟩)] (fun x:{ j:Nat // j<len }=>#[Value.int .i64 (x.1:Int),gv (f x.1)]) (Below sQ) (fun ys=>ys=fJ len len) (fun pre=>∃ k,k<=len/\pre=fJ len k) len w:=fun l J Jx W hW _ _ hY h0 =>
 back1_in F n h8 hro hn l Bs sQ g cap len f gG hb hBn J Jx hY W ((hW.cell (p:=⟨Bs,0,none⟩) (show Bs<_ by omega)).trans hBs) cW (fun i k v hi hv=>(hW.cell (p:=⟨g,i*4+k,none⟩) (by show g<_;omega)).trans (hc i k v hi hv)) h0
end Ev
end Go.Proofs.YtpbbmagjhkakgaaGreatDoor
