import Derived.Test.YtpbbmagjhkakgaaGreatDoorShelfToPureScan
import Derived.Lib.ItoaNum
namespace Go.Proofs.YtpbbmagjhkakgaaGreatDoor
open Go.Deep (BT)
def depthT:BT Pay->Nat
 | .nil=>0
 | .node _ _ _ l r=>1+max (depthT l) (depthT r)
def reachT:BT Pay->Int
 | .nil=>0
 | .node _ _ a l r=>a.hi+max (reachT l) (reachT r)
def WinOK:BT Pay->Prop
 | .nil=>True
 | .node _ _ a l r=>(0<=a.lo/\a.lo<=a.hi/\a.hi<=1000000)/\WinOK l/\WinOK r
theorem reachT_bound:∀ {x:BT Pay},WinOK x->0<=reachT x/\reachT x<=1000000*depthT x
 | .nil,_=>by simp [reachT,depthT]
 | .node _ _ a l r,⟨h,hl,hr⟩=>by
  have h1:=reachT_bound hl
  have h2:=reachT_bound hr
  simp only [reachT,depthT]
  omega
def Shallow (n:Nat) (f:List Tok->Option (BT Pay×List Tok)):Prop:=∀ ts x r,f ts=some (x,r)->depthT x<=n
theorem shallow_step {n:Nat} {f:List Tok->Option (BT Pay×List Tok)} (hf:Shallow n f):Shallow (n+1) (stepF f):=by
 intro ts x r h
 unfold stepF at h
 split at h
 ·cases hw:wordF (takeF ts).1 with
  | none=>simp [hw] at h
  | some y =>
   simp [hw] at h
   obtain ⟨rfl,_⟩:=h
   unfold wordF at hw
   split at hw
   ·injection hw with hw;subst hw;simp [mk,depthT]
   ·split at hw
    ·cases hw
    ·injection hw with hw;subst hw;simp [mk,depthT]
 ·split at h
  ·unfold pairF at h
   cases h1:f (takeF ts).2 with
   | none=>simp [h1] at h
   | some y =>
    obtain ⟨p,t1⟩:=y
    have d1:=hf _ _ _ h1
    simp only [h1] at h
    split at h
    ·cases h2:windowF (takeF t1).1.sign (takeF t1).2 with
     | none=>simp [h2] at h
     | some y =>
      obtain ⟨⟨a,b⟩,t2⟩:=y
      simp only [h2] at h
      cases h3:f t2 with
      | none=>simp [h3] at h
      | some z =>
       obtain ⟨q,t3⟩:=z
       have d2:=hf _ _ _ h3
       simp only [h3] at h
       cases h4:expectF 41 t3 with
       | none=>simp [h4] at h
       | some t4 =>
        simp only [h4] at h
        injection h with h;injection h with h _;subst h
        simp only [mk,depthT];omega
    ·cases h
  ·split at h
   ·unfold singleF at h
    cases h1:windowF (takeF ts).1.sign (takeF ts).2 with
    | none=>simp [h1] at h
    | some y =>
     obtain ⟨⟨a,b⟩,t1⟩:=y
     simp only [h1] at h
     cases h2:f t1 with
     | none=>simp [h2] at h
     | some z =>
      obtain ⟨p,t2⟩:=z
      have d1:=hf _ _ _ h2
      simp only [h2] at h
      injection h with h;injection h with h _;subst h
      simp only [mk,depthT];omega
   ·cases h
theorem shallow_parse:∀ n,Shallow n (parseF n)
 | 0=>fun _ _ _ h=>by cases h
 | n+1=>shallow_step (shallow_parse n)
def readF (s:ByteArray):Option (BT Pay)×Int :=
 if 300<s.size then (none,1)
 else match scanF s s.size 0 32 [] with
  | none=>(none,1)
  | some ts=>match parseF ts.length ts with
   | none=>(none,1)
   | some (x,r)=>match expectF (-1) r with
    | none=>(none,1)
    | some _=>if 12<depthT x then (none,2) else (some x,0)
def opBytes (r:Int):List UInt8:=if r=172 then [194,172] else if r=8743 then [226,136,167] else if r=8744 then [226,136,168] else if r=89 then [89] else if r=79 then [79] else if r=72 then [72] else [83]
def isSign (r:Int):Prop:=r=172\/r=8743\/r=8744\/r=89\/r=79\/r=72\/r=83
def opW (a:Pay):List UInt8:=if winB a.op then opBytes a.op++[91]++Lib.itoa a.lo++[44]++Lib.itoa a.hi++[93] else opBytes a.op
def printB:BT Pay->List UInt8
 | .nil=>[]
 | .node _ _ a l r =>
  if a.op=116 then [116,114,117,101]
  else if a.op=97 then a.name.data.toList
  else if a.op=8743\/a.op=8744\/a.op=83 then [40]++printB l++[32]++opW a++[32]++printB r++[41]
  else opW a++printB l
def Good:BT Pay->Prop
 | .nil=>False
 | .node _ _ a l r =>
  (a.op=116/\a.name=ByteArray.empty/\a.lo=0/\a.hi=0/\l=.nil/\r=.nil)
  \/(a.op=97/\(1<=a.name.size/\a.name.size<=8/\a.name≠trueB/\∀ c,c∈a.name.data.toList->97<=c.toNat/\c.toNat<=122)/\a.lo=0/\a.hi=0/\l=.nil/\r=.nil)
  \/((a.op=8743\/a.op=8744\/a.op=83)/\a.name=ByteArray.empty/\(0<=a.lo/\a.lo<=a.hi/\a.hi<=1000000)/\(winB a.op=false->a.lo=0/\a.hi=0)/\Good l/\Good r)
  \/((a.op=172\/a.op=89\/a.op=79\/a.op=72)/\a.name=ByteArray.empty/\(0<=a.lo/\a.lo<=a.hi/\a.hi<=1000000)/\(winB a.op=false->a.lo=0/\a.hi=0)/\Good l/\r=.nil)
theorem Good.win:∀ {x:BT Pay},Good x->WinOK x
 | .node _ _ a l r,h=>by
  rcases h with ⟨_,_,h1,h2,rfl,rfl⟩ | ⟨_,_,h1,h2,rfl,rfl⟩ | ⟨_,_,h1,_,hl,hr⟩ | ⟨_,_,h1,_,hl,rfl⟩
  ·exact ⟨by omega,trivial,trivial⟩
  ·exact ⟨by omega,trivial,trivial⟩
  ·exact ⟨h1,hl.win,hr.win⟩
  ·exact ⟨h1,hl.win,trivial⟩
def notT:BT Pay->BT Pay
 | .nil=>.nil
 | .node b o a l r=>if a.op=172 then l else mk 172 ByteArray.empty 0 0 (.node b o a l r) .nil
def coreT:BT Pay->BT Pay
 | .nil=>.nil
 | .node b o a l r =>
  if a.op=116\/a.op=97 then .node b o a l r
  else if a.op=172 then notT (coreT l)
  else if a.op=8744 then notT (mk 8743 ByteArray.empty 0 0 (notT (coreT l)) (notT (coreT r)))
  else if a.op=72 then notT (mk 79 ByteArray.empty a.lo a.hi (notT (coreT l)) .nil)
  else if a.op=89\/a.op=79 then mk a.op ByteArray.empty a.lo a.hi (coreT l) .nil
  else mk a.op ByteArray.empty a.lo a.hi (coreT l) (coreT r)
theorem Good.ne:∀ {x:BT Pay},Good x->x≠.nil
 | .nil,h=>h.elim
 | .node _ _ _ _ _,_=>by intro h;cases h
theorem good_not {x:BT Pay} (h:Good x):Good (notT x):=by
 cases x with
 | nil=>exact h
 | node b o a l r =>
  show Good (if a.op=172 then l else mk 172 ByteArray.empty 0 0 (BT.node b o a l r) .nil)
  by_cases ho:a.op=172
  ·rw [if_pos ho]
   rcases h with ⟨h1,_⟩ | ⟨h1,_⟩ | ⟨h1,_⟩ | ⟨_,_,_,_,gl,_⟩
   ·omega
   ·omega
   ·omega
   ·exact gl
  ·rw [if_neg ho]
   exact .inr (.inr (.inr ⟨.inl rfl,rfl,by simp,fun _=>⟨rfl,rfl⟩,h,rfl⟩))
theorem good_core:∀ {x:BT Pay},Good x->Good (coreT x)
 | .nil,h=>h
 | .node b o a l r,h=>by
  have h':=h
  unfold coreT
  rcases h with ⟨h1,_⟩ | ⟨h1,_⟩ | ⟨h1,h2,h3,h4,gl,gr⟩ | ⟨h1,h2,h3,h4,gl,hr⟩
  ·rw [if_pos (.inl h1)];exact h'
  ·rw [if_pos (.inr h1)];exact h'
  ·have cl:=good_core gl
   have cr:=good_core gr
   rw [if_neg (by omega),if_neg (by omega)]
   by_cases h8:a.op=8744
   ·rw [if_pos h8]
    exact good_not (.inr (.inr (.inl ⟨.inl rfl,rfl,by simp,fun _=>⟨rfl,rfl⟩,good_not cl,good_not cr⟩)))
   ·rw [if_neg h8,if_neg (by omega),if_neg (by omega)]
    exact .inr (.inr (.inl ⟨h1,rfl,h3,h4,cl,cr⟩))
  ·have cl:=good_core gl
   rw [if_neg (by omega)]
   by_cases h8:a.op=172
   ·rw [if_pos h8];exact good_not cl
   ·rw [if_neg h8,if_neg (by omega)]
    by_cases h9:a.op=72
    ·rw [if_pos h9]
     exact good_not (.inr (.inr (.inr ⟨.inr (.inr (.inl rfl)),rfl,h3,fun h=>absurd (show winB 79=false from h) (by decide),good_not cl,rfl⟩)))
    ·rw [if_neg h9,if_pos (by omega)]
     exact .inr (.inr (.inr ⟨h1,rfl,h3,h4,cl,rfl⟩))
structure Key where
 op:Int
 name:ByteArray
 lo:Int
 hi:Int
 l:Int
 r:Int
def keyEq (k q:Key):Bool:=decide (k.op=q.op/\k.name=q.name/\k.lo=q.lo/\k.hi=q.hi/\k.l=q.l/\k.r=q.r)
theorem keyEq_iff {k q:Key}:keyEq k q=true↔k=q:=by
 unfold keyEq
 rw [decide_eq_true_iff]
 constructor
 ·rintro ⟨h1,h2,h3,h4,h5,h6⟩
  cases k;cases q
  simp only at h1 h2 h3 h4 h5 h6
  subst h1;subst h2;subst h3;subst h4;subst h5;subst h6
  rfl
 ·rintro rfl
  exact ⟨rfl,rfl,rfl,rfl,rfl,rfl⟩
def numK (K:List Key) (k:Key):Option Nat:=K.findIdx? (keyEq k)
def numI (K:List Key) (k:Key):Int:=match numK K k with | some i=>(i:Int)+1 | none=>0
def addK (K:List Key) (k:Key):Int×List Key:=match numK K k with | some i=>((i:Int)+1,K) | none=>((K.length:Int)+1,K++[k])
def putK (K:List Key):BT Pay->Int×List Key
 | .nil=>(0,K)
 | .node _ _ a l r=>addK (putK (putK K l).2 r).2 ⟨a.op,a.name,a.lo,a.hi,(putK K l).1,(putK (putK K l).2 r).1⟩
def nodesT:BT Pay->Nat
 | .nil=>0
 | .node _ _ _ l r=>nodesT l+nodesT r+1
theorem numK_lt {K:List Key} {k:Key} {i:Nat} (h:numK K k=some i):i<K.length:=by
 unfold numK at h
 exact (List.findIdx?_eq_some_iff_getElem.1 h).1
theorem addK_len (K:List Key) (k:Key):K.length<=(addK K k).2.length/\(addK K k).2.length<=K.length+1:=by
 unfold addK
 cases h:numK K k with
 | some i=>simp
 | none=>simp
theorem addK_num (K:List Key) (k:Key):1<=(addK K k).1/\(addK K k).1<=K.length+1:=by
 unfold addK
 cases h:numK K k with
 | some i=>have:=numK_lt h;simp;omega
 | none=>simp;omega
theorem putK_len:∀ (x:BT Pay) (K:List Key),K.length<=(putK K x).2.length/\(putK K x).2.length<=K.length+nodesT x/\0<=(putK K x).1/\(putK K x).1<=K.length+nodesT x
 | .nil,K=>by simp [putK,nodesT]
 | .node _ _ a l r,K=>by
  have h1:=putK_len l K
  have h2:=putK_len r (putK K l).2
  have h3:=addK_len (putK (putK K l).2 r).2 ⟨a.op,a.name,a.lo,a.hi,(putK K l).1,(putK (putK K l).2 r).1⟩
  have h4:=addK_num (putK (putK K l).2 r).2 ⟨a.op,a.name,a.lo,a.hi,(putK K l).1,(putK (putK K l).2 r).1⟩
  simp only [putK,nodesT]
  omega
theorem numK_snoc_same (K:List Key) (k:Key) (h:numK K k=none):numK (K++[k]) k=some K.length:=by
 unfold numK at *
 rw [List.findIdx?_append,h]
 simp [List.findIdx?_cons,keyEq_iff.2 (rfl:k=k)]
theorem numK_snoc_other (K:List Key) (k q:Key) (h:q≠k):numK (K++[k]) q=numK K q:=by
 unfold numK
 rw [List.findIdx?_append]
 have hf:keyEq q k=false:=by
  cases hb:keyEq q k with
  | true=>exact absurd (keyEq_iff.1 hb) h
  | false=>rfl
 simp [List.findIdx?_cons,hf]
end Go.Proofs.YtpbbmagjhkakgaaGreatDoor
