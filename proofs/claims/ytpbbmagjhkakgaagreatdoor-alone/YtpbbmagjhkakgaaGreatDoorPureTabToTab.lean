import Derived.Test.YtpbbmagjhkakgaaGreatDoorPureCore
import Derived.Test.YtpbbmagjhkakgaaGreatDoorPureNumToPureRound
import Derived.Test.YtpbbmagjhkakgaaGreatDoorPureToPurePrint
import Derived.Test.YtpbbmagjhkakgaaGreatDoorProg
import Derived.Maps.OwnSet
import Derived.DeepKeys4
import Derived.MapViews
namespace Go.Proofs.YtpbbmagjhkakgaaGreatDoor
section
open Go.Deep (BT)
structure Key where
 op:Int
 name:ByteArray
 lo:Int
 hi:Int
 l:Int
 r:Int
def keyEq (k q:Key):Bool:=decide (k.op=q.op/\k.name=q.name/\k.lo=q.lo/\k.hi=q.hi/\k.l=q.l/\k.r=q.r)
theorem oO {k q:Key}:keyEq k q=true↔k=q:=by
 unfold keyEq
 rw [decide_eq_true_iff]
 constructor
 ·rintro ⟨h1,h2,h3,h4,h5,h6⟩
  cases k;cases q
  simp only at h1 h2 h3 h4 h5 h6
  subst h1;subst h2;subst h3;subst h4;subst h5;subst h6
  rfl
 ·rintro rfl
  exact ⟨rfl,rfl,rfl,rfl,rfl,rfl⟩
def kL (K:List Key) (k:Key):Option Nat:=K.findIdx? (keyEq k)
def numI (K:List Key) (k:Key):Int:=match kL K k with | some i=>(i:Int)+1 | none=>0
def mo (K:List Key) (k:Key):Int×List Key:=match kL K k with | some i=>((i:Int)+1,K) | none=>((K.length:Int)+1,K++[k])
def aX (K:List Key):BT aO->Int×List Key
 | .nil=>(0,K)
 | .node _ _ a l r=>mo (aX (aX K l).2 r).2 ⟨a.op,a.name,a.lo,a.hi,(aX K l).1,(aX (aX K l).2 r).1⟩
def aV:BT aO->Nat
 | .nil=>0
 | .node _ _ _ l r=>aV l+aV r+1
theorem numK_lt {K:List Key} {k:Key} {i:Nat} (h:kL K k=some i):i<K.length:=by
 unfold kL at h
 exact (List.findIdx?_eq_some_iff_getElem.1 h).1
theorem addK_len (K:List Key) (k:Key):K.length<=(mo K k).2.length/\(mo K k).2.length<=K.length+1:=by
 unfold mo
 cases h:kL K k with
 | some i=>simp
 | none=>simp
theorem addK_num (K:List Key) (k:Key):1<=(mo K k).1/\(mo K k).1<=K.length+1:=by
 unfold mo
 cases h:kL K k with
 | some i=>have:=numK_lt h;simp;omega
 | none=>simp;omega
theorem kt:∀ (x:BT aO) (K:List Key),K.length<=(aX K x).2.length/\(aX K x).2.length<=K.length+aV x/\0<=(aX K x).1/\(aX K x).1<=K.length+aV x
 | .nil,K=>by simp [aX,aV]
 | .node _ _ a l r,K=>by
  have h1:=kt l K
  have h2:=kt r (aX K l).2
  have h3:=addK_len (aX (aX K l).2 r).2 ⟨a.op,a.name,a.lo,a.hi,(aX K l).1,(aX (aX K l).2 r).1⟩
  have h4:=addK_num (aX (aX K l).2 r).2 ⟨a.op,a.name,a.lo,a.hi,(aX K l).1,(aX (aX K l).2 r).1⟩
  simp only [aX,aV]
  omega
theorem rK (K:List Key) (k:Key) (h:kL K k=none):kL (K++[k]) k=some K.length:=by
 unfold kL at *
 rw [List.findIdx?_append,h]
 simp [List.findIdx?_cons,oO.2 (rfl:k=k)]
theorem qq (K:List Key) (k q:Key) (h:q≠k):kL (K++[k]) q=kL K q:=by
 unfold kL
 rw [List.findIdx?_append]
 have hf:keyEq q k=false:=by
  cases hb:keyEq q k with
  | true=>exact absurd (oO.1 hb) h
  | false=>rfl
 simp [List.findIdx?_cons,hf]
def Zeros (f:List Tok->Option (BT aO×List Tok)):Prop:=∀ ts x r,f ts=some (x,r)->mn x
theorem zeros_step {f:List Tok->Option (BT aO×List Tok)} (hf:Zeros f):Zeros (jG f):=by
 intro ts x r h
 unfold jG at h
 split at h
 ·cases hw:jr (aH ts).1 with
  | none=>simp [hw] at h
  | some y =>
   simp [hw] at h
   obtain ⟨rfl,_⟩:=h
   unfold jr at hw
   split at hw
   ·injection hw with hw;subst hw;exact ⟨rfl,rfl,trivial,trivial⟩
   ·split at hw
    ·cases hw
    ·injection hw with hw;subst hw;exact ⟨rfl,rfl,trivial,trivial⟩
 ·split at h
  ·unfold oW at h
   cases h1:f (aH ts).2 with
   | none=>simp [h1] at h
   | some y =>
    obtain ⟨p,t1⟩:=y
    have d1:=hf _ _ _ h1
    simp only [h1] at h
    split at h
    ·cases h2:bX (aH t1).1.sign (aH t1).2 with
     | none=>simp [h2] at h
     | some z =>
      obtain ⟨⟨lo,hi⟩,t2⟩:=z
      simp only [h2] at h
      cases h3:f t2 with
      | none=>simp [h3] at h
      | some z =>
       obtain ⟨q,t3⟩:=z
       have d2:=hf _ _ _ h3
       simp only [h3] at h
       cases h4:bm 41 t3 with
       | none=>simp [h4] at h
       | some t4 =>
        simp [h4] at h
        obtain ⟨rfl,_⟩:=h
        exact ⟨rfl,rfl,d1,d2⟩
    ·cases h
  ·split at h
   ·unfold gO at h
    cases h2:bX (aH ts).1.sign (aH ts).2 with
    | none=>simp [h2] at h
    | some z =>
     obtain ⟨⟨lo,hi⟩,t2⟩:=z
     simp only [h2] at h
     cases h3:f t2 with
     | none=>simp [h3] at h
     | some z =>
      obtain ⟨q,t3⟩:=z
      have d2:=hf _ _ _ h3
      simp [h3] at h
      obtain ⟨rfl,_⟩:=h
      exact ⟨rfl,rfl,d2,trivial⟩
   ·cases h
theorem zeros_parse:∀ n,Zeros (gT n)
 | 0=>fun _ _ _ h=>by cases h
 | n+1=>zeros_step (zeros_parse n)
theorem readF_zero {s:ByteArray} {x:BT aO} {n:Int} (h:cI s=(some x,n)):mn x/\aK x<=12/\n=0:=by
 unfold cI at h
 split at h
 ·simp at h
 ·cases h1:cJ s s.size 0 32 [] with
  | none=>simp [h1] at h
  | some ts =>
   simp only [h1] at h
   cases h2:gT ts.length ts with
   | none=>simp [h2] at h
   | some y =>
    obtain ⟨z,r⟩:=y
    have g2:=zeros_parse _ _ _ _ h2
    simp only [h2] at h
    cases h3:bm (-1) r with
    | none=>simp [h3] at h
    | some t3 =>
     simp only [h3] at h
     split at h
     ·simp at h
     ·simp at h
      obtain ⟨rfl,rfl⟩:=h
      exact ⟨g2,by omega,rfl⟩
theorem readF_long {s:ByteArray} (h:300<s.size):cI s=(none,1):=by unfold cI;rw [if_pos h]
theorem dec_len:∀ (n u:Nat),u<10 ^ (n+1)->(Lib.decDigits u).length<=n+1
 | 0,u,h=>by rw [Lib.decDigits,dif_pos (by omega)];simp
 | n+1,u,h=>by
  rw [Lib.decDigits]
  split
  ·simp
  ·have:=dec_len n (u/10) (by rw [Nat.pow_succ] at h;omega)
   simp;omega
theorem iI (x:BT aO):aV (bQ x)<=aV x+1:=by
 cases x with
 | nil=>simp [bQ]
 | node b o a l r =>
  simp only [bQ]
  split
  ·simp [aV];omega
  ·simp [aV,mk]
theorem tU:∀ x:BT aO,aV (ak x)<=4*aV x
 | .nil=>by simp [ak,aV]
 | .node b o a l r=>by
  have h1:=tU l
  have h2:=tU r
  have h3:=iI (ak l)
  have h4:=iI (ak r)
  have h5:=iI (mk 8743 ByteArray.empty 0 0 (bQ (ak l)) (bQ (ak r)))
  have h6:=iI (mk 79 ByteArray.empty a.lo a.hi (bQ (ak l)) .nil)
  simp only [ak]
  repeat' split
  all_goals simp only [aV,mk] at *
  all_goals omega
theorem sw (s:ByteArray) (hs:s.size<=300):∀ (b pos:Nat) (last:Int) (bp ts:List Tok),Mid pos last bp->cJ s b pos last bp=some ts->Ends ts
 | 0,pos,last,bp,ts,hm,h=>by
  simp only [cJ] at h
  injection h with h
  subst h
  exact hm.ends s
 | b+1,pos,last,bp,ts,hm,h=>by
  by_cases hp:pos<s.size
  ·have hw:=width_pos s pos hp
   simp only [cJ] at h
   rw [if_pos hp] at h
   by_cases h2:bM (Utf8.decode s pos).1 = -2
   ·rw [if_pos h2] at h;cases h
   ·rw [if_neg h2] at h
    have hne:bM (Utf8.decode s pos).1≠-1:=by
     rcases signF_ne (Utf8.decode s pos).1 with h | h
     ·exact h
     ·exact absurd h h2
    by_cases h3:bM (Utf8.decode s pos).1=last/\gR (bM (Utf8.decode s pos).1)=true
    ·rw [if_pos h3] at h
     have hnn:=hm.join (by rw [<- h3.1];exact h3.2)
     obtain ⟨ts0,t,rfl⟩:∃ ts0 t,bp=ts0++[t]:=⟨bp.dropLast,bp.getLast hnn,(List.dropLast_concat_getLast hnn).symm⟩
     rw [pT] at h
     exact sw s hs b _ _ _ ts (hm.grow (by omega) hs) h
    ·rw [if_neg h3] at h
     by_cases h4:bM (Utf8.decode s pos).1=32
     ·rw [if_pos h4,h4] at h
      exact sw s hs b _ _ _ ts (hm.blank (by omega)) h
     ·rw [if_neg h4] at h
      exact sw s hs b _ _ _ ts (hm.more (by omega) hne) h
  ·rw [mg s _ pos last bp hp] at h
   injection h with h
   subst h
   exact hm.ends s
theorem iJ {s:ByteArray} {x:BT aO} {n:Int} (h:cI s=(some x,n)):Good x/\mn x/\aK x<=12/\n=0:=by
 have hs:s.size<=300:=by
  refine Nat.le_of_not_lt fun h2=>?_
  rw [readF_long h2] at h
  cases h
 exact ⟨readF_good h (fun ts hts=>sw s hs _ _ _ _ _ Mid.start hts),readF_zero h⟩
theorem eX:∀ {x:BT aO},WinOK x->0<=ax x
 | .nil,_=>by simp [ax]
 | .node _ _ a l r,h=>by
  obtain ⟨h1,h2,h3⟩:=h
  have:=eX h2
  have:=eX h3
  simp only [ax]
  omega
end
namespace Ev
open Go.Deep (BT)
abbrev uj:=Int×List ByteArray
def oU (t lo hi:Int) (p:List uj->Bool):List uj->Bool
 | []=>false
 | e::es=>if t-e.1 > hi then false else if t-e.1>=lo/\p (e::es)=true then true else oU t lo hi p es
def oh (t lo hi:Int) (p q:List uj->Bool):List uj->Bool
 | []=>false
 | e::es=>if t-e.1 > hi then false else if t-e.1>=lo/\q (e::es)=true then true else if p (e::es)=false then false else oh t lo hi p q es
def ny (t lo hi:Int) (p:List uj->Bool):List uj->Bool
 | []=>false
 | e::es=>decide (lo<=t-e.1)&&decide (t-e.1<=hi)&&p (e::es)
def cQ:BT aO->List uj->Bool
 | .nil,_=>false
 | .node _ _ a l r,h=>match h with
  | []=>false
  | e::bE =>
   if a.op=116 then true
   else if a.op=97 then e.2.any (fun x=>decide (x=a.name))
   else if a.op=172 then !cQ l (e::bE)
   else if a.op=8743 then cQ l (e::bE)&&cQ r (e::bE)
   else if a.op=8744 then cQ l (e::bE)||cQ r (e::bE)
   else if a.op=89 then ny e.1 a.lo a.hi (cQ l) bE
   else if a.op=79 then oU e.1 a.lo a.hi (cQ l) (e::bE)
   else if a.op=72 then !oU e.1 a.lo a.hi (fun h=>!cQ l h) (e::bE)
   else oh e.1 a.lo a.hi (cQ l) (cQ r) (e::bE)
section
variable {b o : Nat} {a : aO} {l r : BT aO} (e : uj) (es : List uj)
theorem sem_true (h:a.op=116):cQ (.node b o a l r) (e::es)=true:=by simp [cQ,h]
theorem sem_name (h:a.op=97):cQ (.node b o a l r) (e::es)=e.2.any (fun x=>decide (x=a.name)):=by simp [cQ,h]
theorem sem_neg (h:a.op=172):cQ (.node b o a l r) (e::es)=!cQ l (e::es):=by simp [cQ,h]
theorem sem_and (h:a.op=8743):cQ (.node b o a l r) (e::es)=(cQ l (e::es)&&cQ r (e::es)):=by simp [cQ,h]
theorem tZ (h:a.op=89):cQ (.node b o a l r) (e::es)=ny e.1 a.lo a.hi (cQ l) es:=by simp [cQ,h]
theorem sem_once (h:a.op=79):cQ (.node b o a l r) (e::es)=oU e.1 a.lo a.hi (cQ l) (e::es):=by simp [cQ,h]
theorem sem_since (h:a.op=83):cQ (.node b o a l r) (e::es)=oh e.1 a.lo a.hi (cQ l) (cQ r) (e::es):=by simp [cQ,h]
end
theorem rM {t lo hi:Int} {p q:List uj->Bool} (hpq:∀ e es,p (e::es)=q (e::es)):∀ h,oU t lo hi p h=oU t lo hi q h
 | []=>rfl
 | e::es=>by simp only [oU,hpq e es,rM hpq es]
theorem vK {t lo hi:Int} {p q p' q':List uj->Bool} (hp:∀ e es,p (e::es)=p' (e::es)) (hq:∀ e es,q (e::es)=q' (e::es)):∀ h,oh t lo hi p q h=oh t lo hi p' q' h
 | []=>rfl
 | e::es=>by simp only [oh,hp e es,hq e es,vK hp hq es]
theorem beforeS_congr {t lo hi:Int} {p q:List uj->Bool} (hpq:∀ e es,p (e::es)=q (e::es)):∀ h,ny t lo hi p h=ny t lo hi q h
 | []=>rfl
 | e::es=>by simp only [ny,hpq e es]
theorem sx {x:BT aO} (hx:Good x) (e:uj) (es:List uj):cQ (bQ x) (e::es)=!cQ x (e::es):=by
 cases x with
 | nil=>exact hx.elim
 | node b o a l r =>
  by_cases ho:a.op=172
  ·simp [bQ,cQ,ho]
  ·simp [bQ,ho,mk,cQ]
theorem vF:∀ {x:BT aO},Good x->∀ (e:uj) (es:List uj),cQ (ak x) (e::es)=cQ x (e::es)
 | .nil,h=>h.elim
 | .node b o a l r,h=>by
  intro e es
  rcases h with ⟨h1,_⟩ | ⟨h1,_⟩ | ⟨h1,h2,h3,h4,gl,gr⟩ | ⟨h1,h2,h3,h4,gl,hr⟩
  ·unfold ak;rw [if_pos (.inl h1)]
  ·unfold ak;rw [if_pos (.inr h1)]
  ·have cl:=cA gl
   have cr:=cA gr
   have il:=vF gl
   have ir:=vF gr
   rcases h1 with h1 | h1 | h1
   ·simp [ak,cQ,h1,mk,il,ir]
   ·have hm:Good (mk 8743 ByteArray.empty 0 0 (bQ (ak l)) (bQ (ak r))):=.inr (.inr (.inl ⟨.inl rfl,rfl,by simp,fun _=>⟨rfl,rfl⟩,fY cl,fY cr⟩))
    have e1:ak (.node b o a l r)=bQ (mk 8743 ByteArray.empty 0 0 (bQ (ak l)) (bQ (ak r))):=by simp [ak,h1]
    rw [e1,sx hm]
    have e2:cQ (mk 8743 ByteArray.empty 0 0 (bQ (ak l)) (bQ (ak r))) (e::es)=(cQ (bQ (ak l)) (e::es)&&cQ (bQ (ak r)) (e::es)):=by simp [mk,cQ]
    rw [e2,sx cl,sx cr,il,ir]
    simp [cQ,h1]
   ·have e1:ak (.node b o a l r)=mk a.op ByteArray.empty a.lo a.hi (ak l) (ak r):=by simp [ak,h1]
    rw [e1,sem_since _ _ h1]
    exact (sem_since (a:=⟨a.op,ByteArray.empty,a.lo,a.hi⟩) _ _ h1).trans (vK il ir _)
  ·have cl:=cA gl
   have il:=vF gl
   rcases h1 with h1 | h1 | h1 | h1
   ·have e1:ak (.node b o a l r)=bQ (ak l):=by simp [ak,h1]
    rw [e1,sx cl,il]
    simp [cQ,h1]
   ·have e1:ak (.node b o a l r)=mk a.op ByteArray.empty a.lo a.hi (ak l) .nil:=by simp [ak,h1]
    rw [e1,tZ _ _ h1]
    exact (tZ (a:=⟨a.op,ByteArray.empty,a.lo,a.hi⟩) _ _ h1).trans (beforeS_congr il _)
   ·have e1:ak (.node b o a l r)=mk a.op ByteArray.empty a.lo a.hi (ak l) .nil:=by simp [ak,h1]
    rw [e1,sem_once _ _ h1]
    exact (sem_once (a:=⟨a.op,ByteArray.empty,a.lo,a.hi⟩) _ _ h1).trans (rM il _)
   ·have hm:Good (mk 79 ByteArray.empty a.lo a.hi (bQ (ak l)) .nil):=.inr (.inr (.inr ⟨.inr (.inr (.inl rfl)),rfl,h3,fun h=>by simp [lC] at h,fY cl,rfl⟩))
    have e1:ak (.node b o a l r)=bQ (mk 79 ByteArray.empty a.lo a.hi (bQ (ak l)) .nil):=by simp [ak,h1]
    rw [e1,sx hm]
    have e2:cQ (mk 79 ByteArray.empty a.lo a.hi (bQ (ak l)) .nil) (e::es)=oU e.1 a.lo a.hi (cQ (bQ (ak l))) (e::es):=by simp [mk,cQ]
    have e3:cQ (.node b o a l r) (e::es)=!oU e.1 a.lo a.hi (fun h=>!cQ l h) (e::es):=by simp [cQ,h1]
    rw [e2,e3]
    congr 1
    exact rM (fun e es=>by rw [sx cl,il]) _
theorem mS (b o:Nat) (a:aO) (l r:BT aO):ax (.node b o a l r)=a.hi+max (ax l) (ax r):=rfl
theorem dV:∀ {x:BT aO},Good x\/x=.nil->0<=ax x
 | .nil,_=>by simp [ax]
 | .node b o a l r,h=>by
  rw [mS]
  rcases h with h | h
  ·rcases h with ⟨_,_,_,h4,rfl,rfl⟩ | ⟨_,_,_,h4,rfl,rfl⟩ | ⟨_,_,h3,_,gl,gr⟩ | ⟨_,_,h3,_,gl,rfl⟩
   ·simp [ax];omega
   ·simp [ax];omega
   ·have:=dV (.inl gl);omega
   ·have:=dV (.inl gl);omega
  ·cases h
def nR (K:List Key):BT aO->Int->Prop
 | .nil,n=>n=0
 | .node _ _ a l r,n=>∃ (i:Nat) (p q:Int),n=(i:Int)+1/\K[i]? = some ⟨a.op,a.name,a.lo,a.hi,p,q⟩/\nR K l p/\nR K r q/\p<=i/\q<=i
theorem nR.mono {K:List Key} (M:List Key):∀ {x:BT aO} {n:Int},nR K x n->nR (K++M) x n
 | .nil,_,h=>h
 | .node _ _ _ _ _,_,⟨i,p,q,h1,h2,h3,h4,h5⟩=>⟨i,p,q,h1,by rw [List.getElem?_append_left (List.getElem?_eq_some_iff.1 h2).1];exact h2,h3.mono M,h4.mono M,h5⟩
theorem nR.le {K:List Key}:∀ {x:BT aO} {n:Int},nR K x n->0<=n/\n<=K.length
 | .nil,n,h=>by have:n=0:=h;omega
 | .node _ _ _ _ _,_,⟨i,_,_,h1,h2,_⟩=>by have:=(List.getElem?_eq_some_iff.1 h2).1;omega
theorem addK_spec (K:List Key) (k:Key):(∃ M,(mo K k).2=K++M)/\∃ i:Nat,(mo K k).1=(i:Int)+1/\(mo K k).2[i]? = some k:=by
 unfold mo
 cases h:kL K k with
 | none=>exact ⟨⟨[k],rfl⟩,K.length,rfl,by simp⟩
 | some i =>
  refine ⟨⟨[],by simp⟩,i,rfl,?_⟩
  obtain ⟨hi,h1,_⟩:=List.findIdx?_eq_some_iff_getElem.1 h
  rw [List.getElem?_eq_getElem hi]
  exact congrArg some (oO.1 h1).symm
theorem vD:∀ (x:BT aO) (K:List Key),∃ M,(aX K x).2=K++M
 | .nil,K=>⟨[],by simp [aX]⟩
 | .node _ _ a l r,K=>by
  obtain ⟨M1,h1⟩:=vD l K
  obtain ⟨M2,h2⟩:=vD r (aX K l).2
  obtain ⟨⟨M3,h3⟩,_⟩:=addK_spec (aX (aX K l).2 r).2 ⟨a.op,a.name,a.lo,a.hi,(aX K l).1,(aX (aX K l).2 r).1⟩
  exact ⟨M1++M2++M3,by rw [aX,h3,h2,h1];simp⟩
def qg (K:List Key):Prop:=∀ (i:Nat) (k:Key),K[i]? = some k->0<=k.l/\k.l<=(i:Int)/\0<=k.r/\k.r<=(i:Int)
theorem vC:∀ (x:BT aO) (K:List Key),qg K->qg (aX K x).2/\nR (aX K x).2 x (aX K x).1
 | .nil,K,h=>⟨h,rfl⟩
 | .node b o a l r,K,h=>by
  obtain ⟨a1,n1⟩:=vC l K h
  obtain ⟨a2,n2⟩:=vC r (aX K l).2 a1
  obtain ⟨M2,g2⟩:=vD r (aX K l).2
  obtain ⟨⟨M3,g3⟩,i,hi,hk⟩:=addK_spec (aX (aX K l).2 r).2 ⟨a.op,a.name,a.lo,a.hi,(aX K l).1,(aX (aX K l).2 r).1⟩
  have e:aX K (.node b o a l r)=mo (aX (aX K l).2 r).2 ⟨a.op,a.name,a.lo,a.hi,(aX K l).1,(aX (aX K l).2 r).1⟩:=rfl
  rw [e]
  have m1:nR (aX (aX K l).2 r).2 l (aX K l).1:=by rw [g2];exact n1.mono M2
  have ah:qg (mo (aX (aX K l).2 r).2 ⟨a.op,a.name,a.lo,a.hi,(aX K l).1,(aX (aX K l).2 r).1⟩).2:=by
   unfold mo
   cases hn:kL (aX (aX K l).2 r).2 ⟨a.op,a.name,a.lo,a.hi,(aX K l).1,(aX (aX K l).2 r).1⟩ with
   | some j=>exact a2
   | none =>
    intro j k hj
    simp only at hj
    rcases Nat.lt_or_ge j (aX (aX K l).2 r).2.length with cz | pg
    ·rw [List.getElem?_append_left cz] at hj;exact a2 j k hj
    ·rw [List.getElem?_append_right pg] at hj
     have hj0:j-(aX (aX K l).2 r).2.length=0:=by
      have:=(List.getElem?_eq_some_iff.1 hj).1
      simp at this;omega
     rw [hj0] at hj
     simp at hj
     subst hj
     have l1:=m1.le
     have l2:=n2.le
     simp only
     omega
  refine ⟨ah,i,(aX K l).1,(aX (aX K l).2 r).1,hi,hk,by rw [g3];exact m1.mono M3,by rw [g3];exact n2.mono M3,?_,?_⟩
  ·exact (ah i _ hk).2.1
  ·exact (ah i _ hk).2.2.2
structure Pe where
 number:Int
 time:Int
 atoms:List ByteArray
 so:List Bool
def Pe.at (e:Pe) (j:Int):Bool:=e.so.getD j.toNat false
def Pe.jD (e:Pe):uj:=(e.time,e.atoms)
def qt (t lo hi j:Int):List Pe->Bool
 | []=>false
 | e::es=>if t-e.time > hi then false else if t-e.time>=lo/\e.at j=true then true else qt t lo hi j es
def kM (t lo hi j k:Int):List Pe->Bool
 | []=>false
 | e::es=>if t-e.time > hi then false else if t-e.time>=lo/\e.at k=true then true else if e.at j=false then false else kM t lo hi j k es
def beforeF (t lo hi j:Int):List Pe->Bool
 | []=>false
 | e::_=>decide (lo<=t-e.time)&&decide (t-e.time<=hi)&&e.at j
def jn (k:Key) (now:Pe) (bE:List Pe):Bool :=
 if k.op=116 then true
 else if k.op=97 then now.atoms.any (fun x=>decide (x=k.name))
 else if k.op=172 then !now.at k.l
 else if k.op=8743 then now.at k.l&&now.at k.r
 else if k.op=89 then beforeF now.time k.lo k.hi k.l bE
 else if k.op=79 then qt now.time k.lo k.hi k.l (now::bE)
 else kM now.time k.lo k.hi k.l k.r (now::bE)
def Pe.add (e:Pe) (b:Bool):Pe:={ e with so:=e.so++[b] }
def b9 (bE:List Pe):List Key->Pe->Pe
 | [],e=>e
 | k::K,e=>b9 bE K (e.add (jn k e bE))
def Pe.bare (e:Pe):Pe:={ e with so:=[false] }
theorem uf (bE:List Pe) (k:Key):∀ (K:List Key) (e:Pe),b9 bE (K++[k]) e=(b9 bE K e).add (jn k (b9 bE K e) bE)
 | [],_=>rfl
 | _::K,_=>uf bE k K _
theorem eZ (bE:List Pe):∀ (K:List Key) (e:Pe),(b9 bE K e).number=e.number/\(b9 bE K e).time=e.time/\(b9 bE K e).atoms=e.atoms/\(b9 bE K e).so.length=e.so.length+K.length/\∃ m,(b9 bE K e).so=e.so++m
 | [],e=>⟨rfl,rfl,rfl,rfl,[],by simp [b9]⟩
 | k::K,e=>by
  obtain ⟨h1,h2,h3,h4,m,h5⟩:=eZ bE K (e.add (jn k e bE))
  refine ⟨h1,h2,h3,?_,jn k e bE::m,?_⟩
  ·rw [b9,h4];simp [Pe.add];omega
  ·rw [b9,h5];simp [Pe.add]
def mi:BT aO->Prop
 | .nil=>True
 | .node _ _ a l r=>a.op≠8744/\a.op≠72/\mi l/\mi r
theorem lZ {x:BT aO} (h:mi x):mi (bQ x):=by
 cases x with
 | nil=>exact h
 | node b o a l r =>
  show mi (if a.op=172 then l else mk 172 ByteArray.empty 0 0 (BT.node b o a l r) .nil)
  by_cases ho:a.op=172
  ·rw [if_pos ho];exact h.2.2.1
  ·rw [if_neg ho];exact ⟨by decide,by decide,h,trivial⟩
theorem mr:∀ {x:BT aO},Good x->mi (ak x)
 | .nil,h=>h.elim
 | .node b o a l r,h=>by
  rcases h with ⟨h1,_,_,_,rfl,rfl⟩ | ⟨h1,_,_,_,rfl,rfl⟩ | ⟨h1,h2,h3,h4,gl,gr⟩ | ⟨h1,h2,h3,h4,gl,hr⟩
  ·unfold ak;rw [if_pos (.inl h1)];exact ⟨by omega,by omega,trivial,trivial⟩
  ·unfold ak;rw [if_pos (.inr h1)];exact ⟨by omega,by omega,trivial,trivial⟩
  ·have cl:=mr gl
   have cr:=mr gr
   rcases h1 with h1 | h1 | h1
   ·have e1:ak (.node b o a l r)=mk a.op ByteArray.empty a.lo a.hi (ak l) (ak r):=by simp [ak,h1]
    rw [e1];exact ⟨fun h=>by have:a.op=8744:=h;omega,fun h=>by have:a.op=72:=h;omega,cl,cr⟩
   ·have e1:ak (.node b o a l r)=bQ (mk 8743 ByteArray.empty 0 0 (bQ (ak l)) (bQ (ak r))):=by simp [ak,h1]
    rw [e1];exact lZ ⟨by decide,by decide,lZ cl,lZ cr⟩
   ·have e1:ak (.node b o a l r)=mk a.op ByteArray.empty a.lo a.hi (ak l) (ak r):=by simp [ak,h1]
    rw [e1];exact ⟨fun h=>by have:a.op=8744:=h;omega,fun h=>by have:a.op=72:=h;omega,cl,cr⟩
  ·have cl:=mr gl
   rcases h1 with h1 | h1 | h1 | h1
   ·have e1:ak (.node b o a l r)=bQ (ak l):=by simp [ak,h1]
    rw [e1];exact lZ cl
   ·have e1:ak (.node b o a l r)=mk a.op ByteArray.empty a.lo a.hi (ak l) .nil:=by simp [ak,h1]
    rw [e1];exact ⟨fun h=>by have:a.op=8744:=h;omega,fun h=>by have:a.op=72:=h;omega,cl,trivial⟩
   ·have e1:ak (.node b o a l r)=mk a.op ByteArray.empty a.lo a.hi (ak l) .nil:=by simp [ak,h1]
    rw [e1];exact ⟨fun h=>by have:a.op=8744:=h;omega,fun h=>by have:a.op=72:=h;omega,cl,trivial⟩
   ·have e1:ak (.node b o a l r)=bQ (mk 79 ByteArray.empty a.lo a.hi (bQ (ak l)) .nil):=by simp [ak,h1]
    rw [e1];exact lZ ⟨show (79:Int)≠8744 by decide,show (79:Int)≠72 by decide,lZ cl,trivial⟩
def kA (K:List Key) (dropped:List uj):List Pe->Prop
 | []=>True
 | e::es=>e.so.length=K.length+1/\(∀ t n,Good t->mi t->nR K t n->(∀ d∈dropped,d.1<e.time-ax t)->e.at n=cQ t (e.jD::(es.map Pe.jD++dropped)))/\kA K dropped es
theorem kA.keep {K:List Key} {dropped:List uj}:∀ {es old:List Pe},kA K dropped (es++old)->kA K (old.map Pe.jD++dropped) es
 | [],_,_=>trivial
 | e::es,old,⟨h1,h2,h3⟩=>⟨h1,fun t n hg hc hn hd=>by rw [h2 t n hg hc hn (fun d hm=>hd d (by simp [hm]))];simp,h3.keep⟩
section
variable {K : List Key} {dropped : List uj} {es : List Pe}
theorem onceF_sem {t lo hi j:Int} {x:BT aO} (hg:Good x) (hc:mi x) (hn:nR K x j) (hd:∀ d∈dropped,d.1<t-(hi+ax x)):∀ es,kA K dropped es->qt t lo hi j es=oU t lo hi (cQ x) (es.map Pe.jD++dropped)
 | [],_=>by
  have:=dV (.inl hg)
  cases dropped with
  | nil=>rfl
  | cons d ds=>have:=hd d (.head _);simp only [List.map_nil,List.nil_append,oU,qt];rw [if_pos (by omega)]
 | e::es,⟨_,h2,h3⟩=>by
  have ih:=onceF_sem (lo:=lo) hg hc hn hd es h3
  simp only [List.map_cons,List.cons_append,oU,qt,show e.jD.1=e.time from rfl]
  by_cases h:t-e.time > hi
  ·rw [if_pos h,if_pos h]
  ·rw [if_neg h,if_neg h,ih,h2 x j hg hc hn (fun d hm=>by have:=hd d hm;omega)]
theorem sinceF_sem {t lo hi j k:Int} {x y:BT aO} (hx:Good x) (hy:Good y) (cx:mi x) (cy:mi y) (hj:nR K x j) (hk:nR K y k) (hd:∀ d∈dropped,d.1<t-(hi+max (ax x) (ax y))):∀ es,kA K dropped es->kM t lo hi j k es=oh t lo hi (cQ x) (cQ y) (es.map Pe.jD++dropped)
 | [],_=>by
  have:=dV (.inl hx)
  cases dropped with
  | nil=>rfl
  | cons d ds=>have:=hd d (.head _);simp only [List.map_nil,List.nil_append,oh,kM];rw [if_pos (by omega)]
 | e::es,⟨_,h2,h3⟩=>by
  have ih:=sinceF_sem (lo:=lo) hx hy cx cy hj hk hd es h3
  simp only [List.map_cons,List.cons_append,oh,kM,show e.jD.1=e.time from rfl]
  by_cases h:t-e.time > hi
  ·rw [if_pos h,if_pos h]
  ·rw [if_neg h,if_neg h,ih,h2 x j hx cx hj (fun d hm=>by have:=hd d hm;omega),h2 y k hy cy hk (fun d hm=>by have:=hd d hm;omega)]
theorem beforeF_sem {t lo hi j:Int} {x:BT aO} (hg:Good x) (hc:mi x) (hn:nR K x j) (hd:∀ d∈dropped,d.1<t-(hi+ax x)):∀ es,kA K dropped es->beforeF t lo hi j es=ny t lo hi (cQ x) (es.map Pe.jD++dropped)
 | [],_=>by
  have:=dV (.inl hg)
  cases dropped with
  | nil=>rfl
  | cons d ds=>have:=hd d (.head _);simp only [List.map_nil,List.nil_append,ny,beforeF];rw [show decide (t-d.1<=hi)=false from decide_eq_false (by omega)];simp
 | e::es,⟨_,h2,h3⟩=>by
  simp only [List.map_cons,List.cons_append,ny,beforeF,show e.jD.1=e.time from rfl]
  by_cases h:t-e.time<=hi
  ·rw [h2 x j hg hc hn (fun d hm=>by have:=hd d hm;omega)]
  ·rw [show decide (t-e.time<=hi)=false from decide_eq_false h];simp
theorem at_add_old {e:Pe} {b:Bool} {n:Int} (h:n.toNat<e.so.length):(e.add b).at n=e.at n:=by
 simp only [Pe.at,Pe.add,List.getD_eq_getElem?_getD,List.getElem?_append_left h]
theorem at_add_new {e:Pe} {b:Bool} {n:Int} (h:n.toNat=e.so.length):(e.add b).at n=b:=by
 simp [Pe.at,Pe.add,h]
theorem says_sem {bE:List Pe} {now:Pe} (ho:kA K dropped bE) {N:Nat} {k:Key} (hk:K[N]? = some k)
  (hnow:∀ t n,Good t->mi t->nR K t n->n<=N->(∀ d∈dropped,d.1<now.time-ax t)->now.at n=cQ t (now.jD::(bE.map Pe.jD++dropped)))
  {t:BT aO} (hg:Good t) (hc:mi t) (hn:nR K t ((N:Int)+1)) (hd:∀ d∈dropped,d.1<now.time-ax t):jn k now bE=cQ t (now.jD::(bE.map Pe.jD++dropped)):=by
 cases t with
 | nil=>exact hg.elim
 | node b o a l r =>
  obtain ⟨i,p,q,h1,h2,h3,h4,h5,h6⟩:=hn
  obtain rfl:i=N:=by omega
  rw [h2] at hk
  obtain rfl:=Option.some.inj hk
  rw [mS] at hd
  obtain ⟨c1,c2,cl,cr⟩:=hc
  have ht:now.jD.1=now.time:=rfl
  rcases hg with ⟨g1,_⟩ | ⟨g1,_⟩ | ⟨g1,_,g3,_,gl,gr⟩ | ⟨g1,_,g3,_,gl,hr⟩
  ·rw [sem_true _ _ g1];simp [jn,g1]
  ·rw [sem_name _ _ g1];simp [jn,g1,Pe.jD]
  ·have nl:=dV (.inl gl)
   have nr:=dV (.inl gr)
   have vl:=hnow l p gl cl h3 h5 (fun d hm=>by have:=hd d hm;omega)
   have vr:=hnow r q gr cr h4 h6 (fun d hm=>by have:=hd d hm;omega)
   rcases g1 with g1 | g1 | g1
   ·rw [sem_and _ _ g1,<- vl,<- vr];simp [jn,g1]
   ·exact absurd g1 c1
   ·have hs:=sinceF_sem (t:=now.time) (lo:=a.lo) (hi:=a.hi) gl gr cl cr h3 h4 hd bE ho
    rw [sem_since _ _ g1]
    have e1:jn ⟨a.op,a.name,a.lo,a.hi,p,q⟩ now bE=kM now.time a.lo a.hi p q (now::bE):=by simp [jn,g1]
    rw [e1,ht]
    simp only [kM,oh,ht,hs,vl,vr]
  ·have nl:=dV (.inl gl)
   subst hr
   have hz:ax (.nil:BT aO)=0:=rfl
   rw [hz] at hd
   have vl:=hnow l p gl cl h3 h5 (fun d hm=>by have:=hd d hm;omega)
   have hd':∀ d∈dropped,d.1<now.time-(a.hi+ax l):=fun d hm=>by have:=hd d hm;omega
   rcases g1 with g1 | g1 | g1 | g1
   ·rw [sem_neg _ _ g1,<- vl];simp [jn,g1]
   ·have hs:=beforeF_sem (t:=now.time) (lo:=a.lo) (hi:=a.hi) gl cl h3 hd' bE ho
    rw [tZ _ _ g1,ht,<- hs];simp [jn,g1]
   ·have hs:=onceF_sem (t:=now.time) (lo:=a.lo) (hi:=a.hi) gl cl h3 hd' bE ho
    rw [sem_once _ _ g1]
    have e1:jn ⟨a.op,a.name,a.lo,a.hi,p,q⟩ now bE=qt now.time a.lo a.hi p (now::bE):=by simp [jn,g1]
    rw [e1,ht]
    simp only [qt,oU,ht,hs,vl]
   ·exact absurd g1 c2
theorem ug {bE:List Pe} (ho:kA K dropped bE) (now:Pe):kA K dropped (b9 bE K now.bare::bE):=by
 have key:∀ (N:Nat),N<=K.length->∀ t n,Good t->mi t->nR K t n->n<=N->(∀ d∈dropped,d.1<now.time-ax t)->(b9 bE (K.take N) now.bare).at n=cQ t (now.jD::(bE.map Pe.jD++dropped)):=by
  intro N
  induction N with
  | zero =>
   intro _ t n hg hc hn hN hd
   cases t with
   | nil=>exact hg.elim
   | node b o a l r=>obtain ⟨i,_,_,h1,_⟩:=hn;omega
  | succ N ih =>
   intro hN t n hg hc hn hle hd
   have cz:N<K.length:=by omega
   have e1:K.take (N+1)=K.take N++[K[N]]:=by rw [List.take_append_getElem cz]
   obtain ⟨w1,w2,w3,w4,_⟩:=eZ bE (K.take N) now.bare
   have hlen:(b9 bE (K.take N) now.bare).so.length=N+1:=by rw [w4,List.length_take];simp [Pe.bare];omega
   have hhap:(b9 bE (K.take N) now.bare).jD=now.jD:=by unfold Pe.jD;rw [w2,w3];rfl
   rw [e1,uf]
   have n0:=hn.le
   by_cases hnN:n<=N
   ·rw [at_add_old (by omega)]
    exact ih (by omega) t n hg hc hn hnN hd
   ·have hn1:n=(N:Int)+1:=by omega
    subst hn1
    rw [at_add_new (by omega)]
    have:=says_sem (now:=b9 bE (K.take N) now.bare) ho (List.getElem?_eq_getElem cz) (fun t n hg hc hn hle hd=>by rw [hhap];exact ih (by omega) t n hg hc hn hle (by rw [w2] at hd;exact hd)) hg hc hn (by rw [w2];exact hd)
    rw [this,hhap]
 obtain ⟨w1,w2,w3,w4,_⟩:=eZ bE K now.bare
 refine ⟨by rw [w4];simp [Pe.bare];omega,fun t n hg hc hn hd=>?_,ho⟩
 have:=key K.length (Nat.le_refl _) t n hg hc hn hn.le.2 (by rw [w2] at hd;exact hd)
 rw [List.take_length] at this
 have hhap:(b9 bE K now.bare).jD=now.jD:=by unfold Pe.jD;rw [w2,w3];rfl
 rw [this,hhap]
end
end Ev
section
open Go.RowKit Go.Deep Go.Maps
def keyVal (k:Key):Value:=.agg #[.int .i32 k.op,.string k.name,.int .i64 k.lo,.int .i64 k.hi,.int .i64 k.l,.int .i64 k.r]
structure Key.OK (k:Key):Prop where
 op:(Lit.int .i32 k.op).wf=true
 name:k.name.size<=maxLen
 lo:(Lit.int .i64 k.lo).wf=true
 hi:(Lit.int .i64 k.hi).wf=true
 l:(Lit.int .i64 k.l).wf=true
 r:(Lit.int .i64 k.r).wf=true
theorem kType:Tryz.prog.keyType 226=true:=by kernel_rfl
theorem kFormed (k:Key):(keyVal k).formed Tryz.prog 226=true:=by kernel_rfl
theorem kSize:Tryz.prog.types.size=386:=by kernel_rfl
theorem kcNode:Tryz.prog.cellsOf 226=6:=by kernel_rfl
theorem kcOp:Tryz.prog.cellsOf 141=1:=by kernel_rfl
theorem kcStr:Tryz.prog.cellsOf 9=1:=by kernel_rfl
theorem kcWin:Tryz.prog.cellsOf 140=2:=by kernel_rfl
theorem kcInt:Tryz.prog.cellsOf 3=1:=by kernel_rfl
def klits (k:Key):List Lit:=[.int .i32 k.op,.string k.name.data.toList,.int .i64 k.lo,.int .i64 k.hi,.int .i64 k.l,.int .i64 k.r]
def klit (k:Key):Lit:=.string (keyBytes (klits k))
theorem lits_any (d:Nat) (k:Key) (h:k.OK):Tryz.prog.keyLits (d+1+1+1) 226 [.int .i32 k.op,.string k.name,.int .i64 k.lo,.int .i64 k.hi,.int .i64 k.l,.int .i64 k.r]=some (klits k):=by
 simp [Program.keyLits,Tryz.underlying226,Tryz.underlying141,Tryz.underlying9,Tryz.underlying140,Tryz.underlying3,kcNode,kcOp,kcStr,kcWin,kcInt,h.op,h.name,h.lo,h.hi,h.l,h.r,klits]
 rw [if_pos (by intro i hi;match i,hi with | 0,_=>simp | 1,_=>simp)]
 rfl
theorem sj (k:Key) (h:k.OK):keyOf Tryz.prog 226 (keyVal k)=some (klit k):=by
 unfold keyOf
 rw [Tryz.underlying226]
 simp only [kType,kFormed,Bool.and_self,if_true]
 rw [kSize]
 exact congrArg (Option.map fun ls=>Lit.string (keyBytes ls)) (lits_any 384 k h)
theorem laidOut:laidOutB Tryz.prog=true:=by kernel_rfl
theorem law:Keyed Tryz.prog 226:=Keyed.of_law (deep_law_laid laidOut (m:=3) (by omega) (of_decide_eq_true (by kernel_rfl)) (by kernel_rfl) (by kernel_rfl))
theorem zeroInt (w:World):(zeroValue 3).run Tryz.prog w=.ok (.int .i64 0) w:=by kernel_rfl
theorem klit_inj {k q:Key} (hk:k.OK) (hq:q.OK) (h:klit k=klit q):k=q:=by
 have e:=law.inj (sj k hk) (by rw [h];exact sj q hq)
 cases k;cases q
 simp [keyVal] at e
 obtain ⟨h1,h2,h3,h4,h5,h6⟩:=e
 subst h1;subst h2;subst h3;subst h4;subst h5;subst h6
 rfl
def iC (mb:Nat) (w:World) (K:List Key):Prop :=
 ∃ (n:Nat) (D:DataW Unit),w.ownsMap Tryz.prog 226 (plainElem Tryz.prog 3) mb n D/\n<=K.length/\Maps.size D=K.length/\(∀ k,k∈K->k.OK)/\
  ∀ k:Key,k.OK->Maps.has D (klit k)=(kL K k).isSome/\D.atKey (klit k) (.lit (.int .i64 0))=.lit (.int .i64 (numI K k))
theorem iC.lt {mb:Nat} {w:World} {K:List Key} (h:iC mb w K):mb<w.heap.size:=by obtain ⟨n,D,ho,_⟩:=h;exact ho.lt
theorem iC.made (w:World):iC w.heap.size (w.alloc (.map #[] 0)) [] :=
 ⟨0,.map [],World.ownsMap_made w _ _ _,Nat.le_refl _,rfl,by simp,fun k _=>⟨rfl,rfl⟩⟩
theorem iC.heap {mb:Nat} {w w':World} {K:List Key} (h:iC mb w K) (hb:w'.heap[mb]? = w.heap[mb]?):iC mb w' K:=by
 obtain ⟨n,D,⟨es,clock,h1,h2⟩,r⟩:=h
 exact ⟨n,D,⟨es,clock,by rw [hb];exact h1,h2⟩,r⟩
theorem iC.look {mb:Nat} {w:World} {K:List Key} (h:iC mb w K) (k:Key) (hk:k.OK) :
  (Instr.lookup 94 (.map (some mb)) (keyVal k) true).run Tryz.prog w=.ok (.tuple #[.int .i64 (numI K k),.bool (kL K k).isSome]) w:=by
 obtain ⟨n,D,ho,hn,hs,hK,nc⟩:=h
 obtain ⟨h1,h2⟩:=nc k hk
 obtain ⟨v,ps,dQ,hv⟩:=ho.look_ok law Tryz.underlying94 (zeroInt w) (plainElem_int Tryz.underlying3 (by decide)) (sj k hk)
 obtain ⟨c,rfl,hc,_⟩:=plainElem_int_inv Tryz.underlying3 hv
 have kJ:D.atKey (klit k) (.lit (.int .i64 0))=.lit (.int .i64 c):=congrArg Prod.fst hc
 have hc2:numI K k=c:=by
  have h3:=h2.symm.trans kJ
  simp only [DataW.lit.injEq,Lit.int.injEq,true_and] at h3
  exact h3
 rw [h1] at dQ
 rw [hc2]
 exact dQ
theorem iC.store {mb:Nat} {w:World} {K:List Key} (h:iC mb w K) (k:Key) (hk:k.OK) (hnew:kL K k=none) (hlen:K.length<=1000000000000000000) :
  ∃ w',(Instr.mapUpdate 94 (.map (some mb)) (keyVal k) (.int .i64 ((K.length:Int)+1))).run Tryz.prog w=.ok () w'/\iC mb w' (K++[k])/\Only mb w w':=by
 obtain ⟨n,D,ho,hn,hs,hK,nc⟩:=h
 have hwf:(Lit.int .i64 ((K.length:Int)+1)).wf=true:=WalkArith.wf_i64 (by omega)
 obtain ⟨w',dQ,ho',hg⟩:=ho.update law Tryz.underlying94 (by unfold maxLen;omega) (sj k hk) (plainElem_int Tryz.underlying3 hwf)
 have hD:=(ho.tidy law).isMap
 refine ⟨w',dQ,⟨n+1,_,ho',by simp;omega,?_,?_,?_⟩,⟨hg.os,hg.tape,hg.output,hg.size,fun i hi hne=>hg.block i hi (by simp;omega)⟩⟩
 ·rw [size_put (ho.tidy law),(nc k hk).1,hnew,hs];simp
 ·intro q hq
  rcases List.mem_append.1 hq with hq | hq
  ·exact hK q hq
  ·simp at hq;subst hq;exact hk
 ·intro q hq
  by_cases e:q=k
  ·subst e
   refine ⟨?_,?_⟩
   ·rw [has_put_same hD (law.key (sj q hk)),rK K q hnew];rfl
   ·rw [atKey_put_same hD (law.key (sj q hk))];unfold numI;rw [rK K q hnew]
  ·have hne:klit q≠klit k:=fun h=>e (klit_inj hq hk h)
   refine ⟨?_,?_⟩
   ·rw [has_put_other hne,qq K k q e];exact (nc q hq).1
   ·rw [atKey_put_other hne];unfold numI;rw [qq K k q e];exact (nc q hq).2
end
end Go.Proofs.YtpbbmagjhkakgaaGreatDoor
