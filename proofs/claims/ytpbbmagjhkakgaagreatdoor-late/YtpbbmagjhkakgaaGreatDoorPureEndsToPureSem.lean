import Derived.Test.YtpbbmagjhkakgaaGreatDoorPureTokToPureSize
namespace Go.Proofs.YtpbbmagjhkakgaaGreatDoor
open Go.Deep (BT)
theorem scan_ends (s:ByteArray) (hs:s.size<=300):∀ (b pos:Nat) (last:Int) (toks ts:List Tok),Mid pos last toks->scanF s b pos last toks=some ts->Ends ts
 | 0,pos,last,toks,ts,hm,h=>by
  simp only [scanF] at h
  injection h with h
  subst h
  exact hm.ends s
 | b+1,pos,last,toks,ts,hm,h=>by
  by_cases hp:pos<s.size
  ·have hw:=width_pos s pos hp
   simp only [scanF] at h
   rw [if_pos hp] at h
   by_cases h2:signF (Utf8.decode s pos).1 = -2
   ·rw [if_pos h2] at h;cases h
   ·rw [if_neg h2] at h
    have hne:signF (Utf8.decode s pos).1≠-1:=by
     rcases signF_ne (Utf8.decode s pos).1 with h | h
     ·exact h
     ·exact absurd h h2
    by_cases h3:signF (Utf8.decode s pos).1=last/\joinsB (signF (Utf8.decode s pos).1)=true
    ·rw [if_pos h3] at h
     have hnn:=hm.join (by rw [<- h3.1];exact h3.2)
     obtain ⟨ts0,t,rfl⟩:∃ ts0 t,toks=ts0++[t]:=⟨toks.dropLast,toks.getLast hnn,(List.dropLast_concat_getLast hnn).symm⟩
     rw [growF_snoc] at h
     exact scan_ends s hs b _ _ _ ts (hm.grow (by omega) hs) h
    ·rw [if_neg h3] at h
     by_cases h4:signF (Utf8.decode s pos).1=32
     ·rw [if_pos h4,h4] at h
      exact scan_ends s hs b _ _ _ ts (hm.blank (by omega)) h
     ·rw [if_neg h4] at h
      exact scan_ends s hs b _ _ _ ts (hm.more (by omega) hne) h
  ·rw [scanF_end s _ pos last toks hp] at h
   injection h with h
   subst h
   exact hm.ends s
theorem readF_sound {s:ByteArray} {x:BT Pay} {n:Int} (h:readF s=(some x,n)):Good x/\ZeroT x/\depthT x<=12/\n=0:=by
 have hs:s.size<=300:=by
  refine Nat.le_of_not_lt fun h2=>?_
  rw [readF_long h2] at h
  cases h
 exact ⟨readF_good h (fun ts hts=>scan_ends s hs _ _ _ _ _ Mid.start hts),readF_zero h⟩
theorem reachT_nonneg:∀ {x:BT Pay},WinOK x->0<=reachT x
 | .nil,_=>by simp [reachT]
 | .node _ _ a l r,h=>by
  obtain ⟨h1,h2,h3⟩:=h
  have:=reachT_nonneg h2
  have:=reachT_nonneg h3
  simp only [reachT]
  omega
end Go.Proofs.YtpbbmagjhkakgaaGreatDoor
namespace Go.Proofs.YtpbbmagjhkakgaaGreatDoor.Ev
open Go.Deep (BT)
abbrev Hap:=Int×List ByteArray
def onceS (t lo hi:Int) (p:List Hap->Bool):List Hap->Bool
 | []=>false
 | e::es=>if t-e.1 > hi then false else if t-e.1>=lo/\p (e::es)=true then true else onceS t lo hi p es
def sinceS (t lo hi:Int) (p q:List Hap->Bool):List Hap->Bool
 | []=>false
 | e::es=>if t-e.1 > hi then false else if t-e.1>=lo/\q (e::es)=true then true else if p (e::es)=false then false else sinceS t lo hi p q es
def beforeS (t lo hi:Int) (p:List Hap->Bool):List Hap->Bool
 | []=>false
 | e::es=>decide (lo<=t-e.1)&&decide (t-e.1<=hi)&&p (e::es)
def semT:BT Pay->List Hap->Bool
 | .nil,_=>false
 | .node _ _ a l r,h=>match h with
  | []=>false
  | e::older =>
   if a.op=116 then true
   else if a.op=97 then e.2.any (fun x=>decide (x=a.name))
   else if a.op=172 then !semT l (e::older)
   else if a.op=8743 then semT l (e::older)&&semT r (e::older)
   else if a.op=8744 then semT l (e::older)||semT r (e::older)
   else if a.op=89 then beforeS e.1 a.lo a.hi (semT l) older
   else if a.op=79 then onceS e.1 a.lo a.hi (semT l) (e::older)
   else if a.op=72 then !onceS e.1 a.lo a.hi (fun h=>!semT l h) (e::older)
   else sinceS e.1 a.lo a.hi (semT l) (semT r) (e::older)
section
variable {b o : Nat} {a : Pay} {l r : BT Pay} (e : Hap) (es : List Hap)
theorem sem_true (h:a.op=116):semT (.node b o a l r) (e::es)=true:=by simp [semT,h]
theorem sem_name (h:a.op=97):semT (.node b o a l r) (e::es)=e.2.any (fun x=>decide (x=a.name)):=by simp [semT,h]
theorem sem_neg (h:a.op=172):semT (.node b o a l r) (e::es)=!semT l (e::es):=by simp [semT,h]
theorem sem_and (h:a.op=8743):semT (.node b o a l r) (e::es)=(semT l (e::es)&&semT r (e::es)):=by simp [semT,h]
theorem sem_before (h:a.op=89):semT (.node b o a l r) (e::es)=beforeS e.1 a.lo a.hi (semT l) es:=by simp [semT,h]
theorem sem_once (h:a.op=79):semT (.node b o a l r) (e::es)=onceS e.1 a.lo a.hi (semT l) (e::es):=by simp [semT,h]
theorem sem_since (h:a.op=83):semT (.node b o a l r) (e::es)=sinceS e.1 a.lo a.hi (semT l) (semT r) (e::es):=by simp [semT,h]
end
theorem onceS_congr {t lo hi:Int} {p q:List Hap->Bool} (hpq:∀ e es,p (e::es)=q (e::es)):∀ h,onceS t lo hi p h=onceS t lo hi q h
 | []=>rfl
 | e::es=>by simp only [onceS,hpq e es,onceS_congr hpq es]
theorem sinceS_congr {t lo hi:Int} {p q p' q':List Hap->Bool} (hp:∀ e es,p (e::es)=p' (e::es)) (hq:∀ e es,q (e::es)=q' (e::es)):∀ h,sinceS t lo hi p q h=sinceS t lo hi p' q' h
 | []=>rfl
 | e::es=>by simp only [sinceS,hp e es,hq e es,sinceS_congr hp hq es]
theorem beforeS_congr {t lo hi:Int} {p q:List Hap->Bool} (hpq:∀ e es,p (e::es)=q (e::es)):∀ h,beforeS t lo hi p h=beforeS t lo hi q h
 | []=>rfl
 | e::es=>by simp only [beforeS,hpq e es]
theorem sem_not {x:BT Pay} (hx:Good x) (e:Hap) (es:List Hap):semT (notT x) (e::es)=!semT x (e::es):=by
 cases x with
 | nil=>exact hx.elim
 | node b o a l r =>
  by_cases ho:a.op=172
  ·simp [notT,semT,ho]
  ·simp [notT,ho,mk,semT]
theorem sem_core:∀ {x:BT Pay},Good x->∀ (e:Hap) (es:List Hap),semT (coreT x) (e::es)=semT x (e::es)
 | .nil,h=>h.elim
 | .node b o a l r,h=>by
  intro e es
  rcases h with ⟨h1,_⟩ | ⟨h1,_⟩ | ⟨h1,h2,h3,h4,gl,gr⟩ | ⟨h1,h2,h3,h4,gl,hr⟩
  ·unfold coreT;rw [if_pos (.inl h1)]
  ·unfold coreT;rw [if_pos (.inr h1)]
  ·have cl:=good_core gl
   have cr:=good_core gr
   have il:=sem_core gl
   have ir:=sem_core gr
   rcases h1 with h1 | h1 | h1
   ·simp [coreT,semT,h1,mk,il,ir]
   ·have hm:Good (mk 8743 ByteArray.empty 0 0 (notT (coreT l)) (notT (coreT r))):=.inr (.inr (.inl ⟨.inl rfl,rfl,by simp,fun _=>⟨rfl,rfl⟩,good_not cl,good_not cr⟩))
    have e1:coreT (.node b o a l r)=notT (mk 8743 ByteArray.empty 0 0 (notT (coreT l)) (notT (coreT r))):=by simp [coreT,h1]
    rw [e1,sem_not hm]
    have e2:semT (mk 8743 ByteArray.empty 0 0 (notT (coreT l)) (notT (coreT r))) (e::es)=(semT (notT (coreT l)) (e::es)&&semT (notT (coreT r)) (e::es)):=by simp [mk,semT]
    rw [e2,sem_not cl,sem_not cr,il,ir]
    simp [semT,h1]
   ·have e1:coreT (.node b o a l r)=mk a.op ByteArray.empty a.lo a.hi (coreT l) (coreT r):=by simp [coreT,h1]
    rw [e1,sem_since _ _ h1]
    exact (sem_since (a:=⟨a.op,ByteArray.empty,a.lo,a.hi⟩) _ _ h1).trans (sinceS_congr il ir _)
  ·have cl:=good_core gl
   have il:=sem_core gl
   rcases h1 with h1 | h1 | h1 | h1
   ·have e1:coreT (.node b o a l r)=notT (coreT l):=by simp [coreT,h1]
    rw [e1,sem_not cl,il]
    simp [semT,h1]
   ·have e1:coreT (.node b o a l r)=mk a.op ByteArray.empty a.lo a.hi (coreT l) .nil:=by simp [coreT,h1]
    rw [e1,sem_before _ _ h1]
    exact (sem_before (a:=⟨a.op,ByteArray.empty,a.lo,a.hi⟩) _ _ h1).trans (beforeS_congr il _)
   ·have e1:coreT (.node b o a l r)=mk a.op ByteArray.empty a.lo a.hi (coreT l) .nil:=by simp [coreT,h1]
    rw [e1,sem_once _ _ h1]
    exact (sem_once (a:=⟨a.op,ByteArray.empty,a.lo,a.hi⟩) _ _ h1).trans (onceS_congr il _)
   ·have hm:Good (mk 79 ByteArray.empty a.lo a.hi (notT (coreT l)) .nil):=.inr (.inr (.inr ⟨.inr (.inr (.inl rfl)),rfl,h3,fun h=>by simp [winB] at h,good_not cl,rfl⟩))
    have e1:coreT (.node b o a l r)=notT (mk 79 ByteArray.empty a.lo a.hi (notT (coreT l)) .nil):=by simp [coreT,h1]
    rw [e1,sem_not hm]
    have e2:semT (mk 79 ByteArray.empty a.lo a.hi (notT (coreT l)) .nil) (e::es)=onceS e.1 a.lo a.hi (semT (notT (coreT l))) (e::es):=by simp [mk,semT]
    have e3:semT (.node b o a l r) (e::es)=!onceS e.1 a.lo a.hi (fun h=>!semT l h) (e::es):=by simp [semT,h1]
    rw [e2,e3]
    congr 1
    exact onceS_congr (fun e es=>by rw [sem_not cl,il]) _
theorem reach_node (b o:Nat) (a:Pay) (l r:BT Pay):reachT (.node b o a l r)=a.hi+max (reachT l) (reachT r):=rfl
theorem reach_nonneg:∀ {x:BT Pay},Good x\/x=.nil->0<=reachT x
 | .nil,_=>by simp [reachT]
 | .node b o a l r,h=>by
  rw [reach_node]
  rcases h with h | h
  ·rcases h with ⟨_,_,_,h4,rfl,rfl⟩ | ⟨_,_,_,h4,rfl,rfl⟩ | ⟨_,_,h3,_,gl,gr⟩ | ⟨_,_,h3,_,gl,rfl⟩
   ·simp [reachT];omega
   ·simp [reachT];omega
   ·have:=reach_nonneg (.inl gl);omega
   ·have:=reach_nonneg (.inl gl);omega
  ·cases h
def NumT (K:List Key):BT Pay->Int->Prop
 | .nil,n=>n=0
 | .node _ _ a l r,n=>∃ (i:Nat) (p q:Int),n=(i:Int)+1/\K[i]? = some ⟨a.op,a.name,a.lo,a.hi,p,q⟩/\NumT K l p/\NumT K r q/\p<=i/\q<=i
theorem NumT.mono {K:List Key} (M:List Key):∀ {x:BT Pay} {n:Int},NumT K x n->NumT (K++M) x n
 | .nil,_,h=>h
 | .node _ _ _ _ _,_,⟨i,p,q,h1,h2,h3,h4,h5⟩=>⟨i,p,q,h1,by rw [List.getElem?_append_left (List.getElem?_eq_some_iff.1 h2).1];exact h2,h3.mono M,h4.mono M,h5⟩
theorem NumT.le {K:List Key}:∀ {x:BT Pay} {n:Int},NumT K x n->0<=n/\n<=K.length
 | .nil,n,h=>by have:n=0:=h;omega
 | .node _ _ _ _ _,_,⟨i,_,_,h1,h2,_⟩=>by have:=(List.getElem?_eq_some_iff.1 h2).1;omega
theorem addK_spec (K:List Key) (k:Key):(∃ M,(addK K k).2=K++M)/\∃ i:Nat,(addK K k).1=(i:Int)+1/\(addK K k).2[i]? = some k:=by
 unfold addK
 cases h:numK K k with
 | none=>exact ⟨⟨[k],rfl⟩,K.length,rfl,by simp⟩
 | some i =>
  refine ⟨⟨[],by simp⟩,i,rfl,?_⟩
  obtain ⟨hi,h1,_⟩:=List.findIdx?_eq_some_iff_getElem.1 h
  rw [List.getElem?_eq_getElem hi]
  exact congrArg some (keyEq_iff.1 h1).symm
theorem putK_pre:∀ (x:BT Pay) (K:List Key),∃ M,(putK K x).2=K++M
 | .nil,K=>⟨[],by simp [putK]⟩
 | .node _ _ a l r,K=>by
  obtain ⟨M1,h1⟩:=putK_pre l K
  obtain ⟨M2,h2⟩:=putK_pre r (putK K l).2
  obtain ⟨⟨M3,h3⟩,_⟩:=addK_spec (putK (putK K l).2 r).2 ⟨a.op,a.name,a.lo,a.hi,(putK K l).1,(putK (putK K l).2 r).1⟩
  exact ⟨M1++M2++M3,by rw [putK,h3,h2,h1];simp⟩
def Ahead (K:List Key):Prop:=∀ (i:Nat) (k:Key),K[i]? = some k->0<=k.l/\k.l<=(i:Int)/\0<=k.r/\k.r<=(i:Int)
theorem putK_num:∀ (x:BT Pay) (K:List Key),Ahead K->Ahead (putK K x).2/\NumT (putK K x).2 x (putK K x).1
 | .nil,K,h=>⟨h,rfl⟩
 | .node b o a l r,K,h=>by
  obtain ⟨a1,n1⟩:=putK_num l K h
  obtain ⟨a2,n2⟩:=putK_num r (putK K l).2 a1
  obtain ⟨M2,g2⟩:=putK_pre r (putK K l).2
  obtain ⟨⟨M3,g3⟩,i,hi,hk⟩:=addK_spec (putK (putK K l).2 r).2 ⟨a.op,a.name,a.lo,a.hi,(putK K l).1,(putK (putK K l).2 r).1⟩
  have e:putK K (.node b o a l r)=addK (putK (putK K l).2 r).2 ⟨a.op,a.name,a.lo,a.hi,(putK K l).1,(putK (putK K l).2 r).1⟩:=rfl
  rw [e]
  have m1:NumT (putK (putK K l).2 r).2 l (putK K l).1:=by rw [g2];exact n1.mono M2
  have ah:Ahead (addK (putK (putK K l).2 r).2 ⟨a.op,a.name,a.lo,a.hi,(putK K l).1,(putK (putK K l).2 r).1⟩).2:=by
   unfold addK
   cases hn:numK (putK (putK K l).2 r).2 ⟨a.op,a.name,a.lo,a.hi,(putK K l).1,(putK (putK K l).2 r).1⟩ with
   | some j=>exact a2
   | none =>
    intro j k hj
    simp only at hj
    rcases Nat.lt_or_ge j (putK (putK K l).2 r).2.length with hlt | hge
    ·rw [List.getElem?_append_left hlt] at hj;exact a2 j k hj
    ·rw [List.getElem?_append_right hge] at hj
     have hj0:j-(putK (putK K l).2 r).2.length=0:=by
      have:=(List.getElem?_eq_some_iff.1 hj).1
      simp at this;omega
     rw [hj0] at hj
     simp at hj
     subst hj
     have l1:=m1.le
     have l2:=n2.le
     simp only
     omega
  refine ⟨ah,i,(putK K l).1,(putK (putK K l).2 r).1,hi,hk,by rw [g3];exact m1.mono M3,by rw [g3];exact n2.mono M3,?_,?_⟩
  ·exact (ah i _ hk).2.1
  ·exact (ah i _ hk).2.2.2
structure Pe where
 number:Int
 time:Int
 atoms:List ByteArray
 so:List Bool
def Pe.at (e:Pe) (j:Int):Bool:=e.so.getD j.toNat false
def Pe.hap (e:Pe):Hap:=(e.time,e.atoms)
def onceF (t lo hi j:Int):List Pe->Bool
 | []=>false
 | e::es=>if t-e.time > hi then false else if t-e.time>=lo/\e.at j=true then true else onceF t lo hi j es
def sinceF (t lo hi j k:Int):List Pe->Bool
 | []=>false
 | e::es=>if t-e.time > hi then false else if t-e.time>=lo/\e.at k=true then true else if e.at j=false then false else sinceF t lo hi j k es
def beforeF (t lo hi j:Int):List Pe->Bool
 | []=>false
 | e::_=>decide (lo<=t-e.time)&&decide (t-e.time<=hi)&&e.at j
def saysF (k:Key) (now:Pe) (older:List Pe):Bool :=
 if k.op=116 then true
 else if k.op=97 then now.atoms.any (fun x=>decide (x=k.name))
 else if k.op=172 then !now.at k.l
 else if k.op=8743 then now.at k.l&&now.at k.r
 else if k.op=89 then beforeF now.time k.lo k.hi k.l older
 else if k.op=79 then onceF now.time k.lo k.hi k.l (now::older)
 else sinceF now.time k.lo k.hi k.l k.r (now::older)
def Pe.add (e:Pe) (b:Bool):Pe:={ e with so:=e.so++[b] }
def workF (older:List Pe):List Key->Pe->Pe
 | [],e=>e
 | k::K,e=>workF older K (e.add (saysF k e older))
def Pe.bare (e:Pe):Pe:={ e with so:=[false] }
theorem workF_snoc (older:List Pe) (k:Key):∀ (K:List Key) (e:Pe),workF older (K++[k]) e=(workF older K e).add (saysF k (workF older K e) older)
 | [],_=>rfl
 | _::K,_=>workF_snoc older k K _
theorem workF_same (older:List Pe):∀ (K:List Key) (e:Pe),(workF older K e).number=e.number/\(workF older K e).time=e.time/\(workF older K e).atoms=e.atoms/\(workF older K e).so.length=e.so.length+K.length/\∃ m,(workF older K e).so=e.so++m
 | [],e=>⟨rfl,rfl,rfl,rfl,[],by simp [workF]⟩
 | k::K,e=>by
  obtain ⟨h1,h2,h3,h4,m,h5⟩:=workF_same older K (e.add (saysF k e older))
  refine ⟨h1,h2,h3,?_,saysF k e older::m,?_⟩
  ·rw [workF,h4];simp [Pe.add];omega
  ·rw [workF,h5];simp [Pe.add]
def Cored:BT Pay->Prop
 | .nil=>True
 | .node _ _ a l r=>a.op≠8744/\a.op≠72/\Cored l/\Cored r
theorem cored_not {x:BT Pay} (h:Cored x):Cored (notT x):=by
 cases x with
 | nil=>exact h
 | node b o a l r =>
  show Cored (if a.op=172 then l else mk 172 ByteArray.empty 0 0 (BT.node b o a l r) .nil)
  by_cases ho:a.op=172
  ·rw [if_pos ho];exact h.2.2.1
  ·rw [if_neg ho];exact ⟨by decide,by decide,h,trivial⟩
theorem cored_core:∀ {x:BT Pay},Good x->Cored (coreT x)
 | .nil,h=>h.elim
 | .node b o a l r,h=>by
  rcases h with ⟨h1,_,_,_,rfl,rfl⟩ | ⟨h1,_,_,_,rfl,rfl⟩ | ⟨h1,h2,h3,h4,gl,gr⟩ | ⟨h1,h2,h3,h4,gl,hr⟩
  ·unfold coreT;rw [if_pos (.inl h1)];exact ⟨by omega,by omega,trivial,trivial⟩
  ·unfold coreT;rw [if_pos (.inr h1)];exact ⟨by omega,by omega,trivial,trivial⟩
  ·have cl:=cored_core gl
   have cr:=cored_core gr
   rcases h1 with h1 | h1 | h1
   ·have e1:coreT (.node b o a l r)=mk a.op ByteArray.empty a.lo a.hi (coreT l) (coreT r):=by simp [coreT,h1]
    rw [e1];exact ⟨fun h=>by have:a.op=8744:=h;omega,fun h=>by have:a.op=72:=h;omega,cl,cr⟩
   ·have e1:coreT (.node b o a l r)=notT (mk 8743 ByteArray.empty 0 0 (notT (coreT l)) (notT (coreT r))):=by simp [coreT,h1]
    rw [e1];exact cored_not ⟨by decide,by decide,cored_not cl,cored_not cr⟩
   ·have e1:coreT (.node b o a l r)=mk a.op ByteArray.empty a.lo a.hi (coreT l) (coreT r):=by simp [coreT,h1]
    rw [e1];exact ⟨fun h=>by have:a.op=8744:=h;omega,fun h=>by have:a.op=72:=h;omega,cl,cr⟩
  ·have cl:=cored_core gl
   rcases h1 with h1 | h1 | h1 | h1
   ·have e1:coreT (.node b o a l r)=notT (coreT l):=by simp [coreT,h1]
    rw [e1];exact cored_not cl
   ·have e1:coreT (.node b o a l r)=mk a.op ByteArray.empty a.lo a.hi (coreT l) .nil:=by simp [coreT,h1]
    rw [e1];exact ⟨fun h=>by have:a.op=8744:=h;omega,fun h=>by have:a.op=72:=h;omega,cl,trivial⟩
   ·have e1:coreT (.node b o a l r)=mk a.op ByteArray.empty a.lo a.hi (coreT l) .nil:=by simp [coreT,h1]
    rw [e1];exact ⟨fun h=>by have:a.op=8744:=h;omega,fun h=>by have:a.op=72:=h;omega,cl,trivial⟩
   ·have e1:coreT (.node b o a l r)=notT (mk 79 ByteArray.empty a.lo a.hi (notT (coreT l)) .nil):=by simp [coreT,h1]
    rw [e1];exact cored_not ⟨show (79:Int)≠8744 by decide,show (79:Int)≠72 by decide,cored_not cl,trivial⟩
def RowsOK (K:List Key) (dropped:List Hap):List Pe->Prop
 | []=>True
 | e::es=>e.so.length=K.length+1/\(∀ t n,Good t->Cored t->NumT K t n->(∀ d∈dropped,d.1<e.time-reachT t)->e.at n=semT t (e.hap::(es.map Pe.hap++dropped)))/\RowsOK K dropped es
theorem RowsOK.keep {K:List Key} {dropped:List Hap}:∀ {es old:List Pe},RowsOK K dropped (es++old)->RowsOK K (old.map Pe.hap++dropped) es
 | [],_,_=>trivial
 | e::es,old,⟨h1,h2,h3⟩=>⟨h1,fun t n hg hc hn hd=>by rw [h2 t n hg hc hn (fun d hm=>hd d (by simp [hm]))];simp,h3.keep⟩
section
variable {K : List Key} {dropped : List Hap} {es : List Pe}
theorem onceF_sem {t lo hi j:Int} {x:BT Pay} (hg:Good x) (hc:Cored x) (hn:NumT K x j) (hd:∀ d∈dropped,d.1<t-(hi+reachT x)):∀ es,RowsOK K dropped es->onceF t lo hi j es=onceS t lo hi (semT x) (es.map Pe.hap++dropped)
 | [],_=>by
  have:=reach_nonneg (.inl hg)
  cases dropped with
  | nil=>rfl
  | cons d ds=>have:=hd d (.head _);simp only [List.map_nil,List.nil_append,onceS,onceF];rw [if_pos (by omega)]
 | e::es,⟨_,h2,h3⟩=>by
  have ih:=onceF_sem (lo:=lo) hg hc hn hd es h3
  simp only [List.map_cons,List.cons_append,onceS,onceF,show e.hap.1=e.time from rfl]
  by_cases h:t-e.time > hi
  ·rw [if_pos h,if_pos h]
  ·rw [if_neg h,if_neg h,ih,h2 x j hg hc hn (fun d hm=>by have:=hd d hm;omega)]
theorem sinceF_sem {t lo hi j k:Int} {x y:BT Pay} (hx:Good x) (hy:Good y) (cx:Cored x) (cy:Cored y) (hj:NumT K x j) (hk:NumT K y k) (hd:∀ d∈dropped,d.1<t-(hi+max (reachT x) (reachT y))):∀ es,RowsOK K dropped es->sinceF t lo hi j k es=sinceS t lo hi (semT x) (semT y) (es.map Pe.hap++dropped)
 | [],_=>by
  have:=reach_nonneg (.inl hx)
  cases dropped with
  | nil=>rfl
  | cons d ds=>have:=hd d (.head _);simp only [List.map_nil,List.nil_append,sinceS,sinceF];rw [if_pos (by omega)]
 | e::es,⟨_,h2,h3⟩=>by
  have ih:=sinceF_sem (lo:=lo) hx hy cx cy hj hk hd es h3
  simp only [List.map_cons,List.cons_append,sinceS,sinceF,show e.hap.1=e.time from rfl]
  by_cases h:t-e.time > hi
  ·rw [if_pos h,if_pos h]
  ·rw [if_neg h,if_neg h,ih,h2 x j hx cx hj (fun d hm=>by have:=hd d hm;omega),h2 y k hy cy hk (fun d hm=>by have:=hd d hm;omega)]
theorem beforeF_sem {t lo hi j:Int} {x:BT Pay} (hg:Good x) (hc:Cored x) (hn:NumT K x j) (hd:∀ d∈dropped,d.1<t-(hi+reachT x)):∀ es,RowsOK K dropped es->beforeF t lo hi j es=beforeS t lo hi (semT x) (es.map Pe.hap++dropped)
 | [],_=>by
  have:=reach_nonneg (.inl hg)
  cases dropped with
  | nil=>rfl
  | cons d ds=>have:=hd d (.head _);simp only [List.map_nil,List.nil_append,beforeS,beforeF];rw [show decide (t-d.1<=hi)=false from decide_eq_false (by omega)];simp
 | e::es,⟨_,h2,h3⟩=>by
  simp only [List.map_cons,List.cons_append,beforeS,beforeF,show e.hap.1=e.time from rfl]
  by_cases h:t-e.time<=hi
  ·rw [h2 x j hg hc hn (fun d hm=>by have:=hd d hm;omega)]
  ·rw [show decide (t-e.time<=hi)=false from decide_eq_false h];simp
theorem at_add_old {e:Pe} {b:Bool} {n:Int} (h:n.toNat<e.so.length):(e.add b).at n=e.at n:=by
 simp only [Pe.at,Pe.add,List.getD_eq_getElem?_getD,List.getElem?_append_left h]
theorem at_add_new {e:Pe} {b:Bool} {n:Int} (h:n.toNat=e.so.length):(e.add b).at n=b:=by
 simp [Pe.at,Pe.add,h]
theorem says_sem {older:List Pe} {now:Pe} (ho:RowsOK K dropped older) {N:Nat} {k:Key} (hk:K[N]? = some k)
  (hnow:∀ t n,Good t->Cored t->NumT K t n->n<=N->(∀ d∈dropped,d.1<now.time-reachT t)->now.at n=semT t (now.hap::(older.map Pe.hap++dropped)))
  {t:BT Pay} (hg:Good t) (hc:Cored t) (hn:NumT K t ((N:Int)+1)) (hd:∀ d∈dropped,d.1<now.time-reachT t):saysF k now older=semT t (now.hap::(older.map Pe.hap++dropped)):=by
 cases t with
 | nil=>exact hg.elim
 | node b o a l r =>
  obtain ⟨i,p,q,h1,h2,h3,h4,h5,h6⟩:=hn
  obtain rfl:i=N:=by omega
  rw [h2] at hk
  obtain rfl:=Option.some.inj hk
  rw [reach_node] at hd
  obtain ⟨c1,c2,cl,cr⟩:=hc
  have ht:now.hap.1=now.time:=rfl
  rcases hg with ⟨g1,_⟩ | ⟨g1,_⟩ | ⟨g1,_,g3,_,gl,gr⟩ | ⟨g1,_,g3,_,gl,hr⟩
  ·rw [sem_true _ _ g1];simp [saysF,g1]
  ·rw [sem_name _ _ g1];simp [saysF,g1,Pe.hap]
  ·have nl:=reach_nonneg (.inl gl)
   have nr:=reach_nonneg (.inl gr)
   have vl:=hnow l p gl cl h3 h5 (fun d hm=>by have:=hd d hm;omega)
   have vr:=hnow r q gr cr h4 h6 (fun d hm=>by have:=hd d hm;omega)
   rcases g1 with g1 | g1 | g1
   ·rw [sem_and _ _ g1,<- vl,<- vr];simp [saysF,g1]
   ·exact absurd g1 c1
   ·have hs:=sinceF_sem (t:=now.time) (lo:=a.lo) (hi:=a.hi) gl gr cl cr h3 h4 hd older ho
    rw [sem_since _ _ g1]
    have e1:saysF ⟨a.op,a.name,a.lo,a.hi,p,q⟩ now older=sinceF now.time a.lo a.hi p q (now::older):=by simp [saysF,g1]
    rw [e1,ht]
    simp only [sinceF,sinceS,ht,hs,vl,vr]
  ·have nl:=reach_nonneg (.inl gl)
   subst hr
   have hz:reachT (.nil:BT Pay)=0:=rfl
   rw [hz] at hd
   have vl:=hnow l p gl cl h3 h5 (fun d hm=>by have:=hd d hm;omega)
   have hd':∀ d∈dropped,d.1<now.time-(a.hi+reachT l):=fun d hm=>by have:=hd d hm;omega
   rcases g1 with g1 | g1 | g1 | g1
   ·rw [sem_neg _ _ g1,<- vl];simp [saysF,g1]
   ·have hs:=beforeF_sem (t:=now.time) (lo:=a.lo) (hi:=a.hi) gl cl h3 hd' older ho
    rw [sem_before _ _ g1,ht,<- hs];simp [saysF,g1]
   ·have hs:=onceF_sem (t:=now.time) (lo:=a.lo) (hi:=a.hi) gl cl h3 hd' older ho
    rw [sem_once _ _ g1]
    have e1:saysF ⟨a.op,a.name,a.lo,a.hi,p,q⟩ now older=onceF now.time a.lo a.hi p (now::older):=by simp [saysF,g1]
    rw [e1,ht]
    simp only [onceF,onceS,ht,hs,vl]
   ·exact absurd g1 c2
theorem work_right {older:List Pe} (ho:RowsOK K dropped older) (now:Pe):RowsOK K dropped (workF older K now.bare::older):=by
 have key:∀ (N:Nat),N<=K.length->∀ t n,Good t->Cored t->NumT K t n->n<=N->(∀ d∈dropped,d.1<now.time-reachT t)->(workF older (K.take N) now.bare).at n=semT t (now.hap::(older.map Pe.hap++dropped)):=by
  intro N
  induction N with
  | zero =>
   intro _ t n hg hc hn hN hd
   cases t with
   | nil=>exact hg.elim
   | node b o a l r=>obtain ⟨i,_,_,h1,_⟩:=hn;omega
  | succ N ih =>
   intro hN t n hg hc hn hle hd
   have hlt:N<K.length:=by omega
   have e1:K.take (N+1)=K.take N++[K[N]]:=by rw [List.take_append_getElem hlt]
   obtain ⟨w1,w2,w3,w4,_⟩:=workF_same older (K.take N) now.bare
   have hlen:(workF older (K.take N) now.bare).so.length=N+1:=by rw [w4,List.length_take];simp [Pe.bare];omega
   have hhap:(workF older (K.take N) now.bare).hap=now.hap:=by unfold Pe.hap;rw [w2,w3];rfl
   rw [e1,workF_snoc]
   have n0:=hn.le
   by_cases hnN:n<=N
   ·rw [at_add_old (by omega)]
    exact ih (by omega) t n hg hc hn hnN hd
   ·have hn1:n=(N:Int)+1:=by omega
    subst hn1
    rw [at_add_new (by omega)]
    have:=says_sem (now:=workF older (K.take N) now.bare) ho (List.getElem?_eq_getElem hlt) (fun t n hg hc hn hle hd=>by rw [hhap];exact ih (by omega) t n hg hc hn hle (by rw [w2] at hd;exact hd)) hg hc hn (by rw [w2];exact hd)
    rw [this,hhap]
 obtain ⟨w1,w2,w3,w4,_⟩:=workF_same older K now.bare
 refine ⟨by rw [w4];simp [Pe.bare];omega,fun t n hg hc hn hd=>?_,ho⟩
 have:=key K.length (Nat.le_refl _) t n hg hc hn hn.le.2 (by rw [w2] at hd;exact hd)
 rw [List.take_length] at this
 have hhap:(workF older K now.bare).hap=now.hap:=by unfold Pe.hap;rw [w2,w3];rfl
 rw [this,hhap]
end
end Go.Proofs.YtpbbmagjhkakgaaGreatDoor.Ev
