import Derived.Test.YtpbbmagjhkakgaaGreatDoorA2
import Derived.Test.YtpbbmagjhkakgaaGreatDoorB2
import Derived.Conc.CompanyMem
import Derived.Conc.CrowdComm
namespace Go.Proofs.YtpbbmagjhkakgaaGreatDoor
namespace Ev
open Go.Deep (BT)
abbrev nz:=Int×aB aZ
def oJ(t lo hi:Int)(p:aB nz->Bool):aB nz->Bool
 |[]=>false
 |e::es=>if t-e.1>hi then false else if t-e.1>=lo/\p (e::es)=true then true else oJ t lo hi p es
def oB(t lo hi:Int)(p q:aB nz->Bool):aB nz->Bool
 |[]=>false
 |e::es=>if t-e.1>hi then false else if t-e.1>=lo/\q (e::es)=true then true else if p (e::es)=false then false else oB t lo hi p q es
def qx(t lo hi:Int)(p:aB nz->Bool):aB nz->Bool
 |[]=>false
 |e::es=>decide (lo<=t-e.1)&&decide (t-e.1<=hi)&&p (e::es)
def dQ:BT c_->aB nz->Bool
 |.nil,_=>false
 |.node _ _ a l r,h=>match h with
  |[]=>false
  |e::um=>
   if a.op=116 then true
   else if a.op=97 then e.2.any λx=>decide (x=a.name)
   else if a.op=172 then !dQ l (e::um)
   else if a.op=8743 then dQ l (e::um)&&dQ r (e::um)
   else if a.op=8744 then dQ l (e::um)||dQ r (e::um)
   else if a.op=89 then qx e.1 a.lo a.hi (dQ l) um
   else if a.op=79 then oJ e.1 a.lo a.hi (dQ l) (e::um)
   else if a.op=72 then !oJ e.1 a.lo a.hi (λh=> !dQ l h) (e::um)
   else oB e.1 a.lo a.hi (dQ l) (dQ r) (e::um)
section
variable{b o:Nat}{a:c_}{l r:BT c_}(e:nz)(es:aB nz)
theorem Ly(h:a.op=116):dQ (.node b o a l r) (e::es)=true:=by simp[dQ,h]
theorem Lx(h:a.op=97):dQ (.node b o a l r) (e::es)=e.2.any (λx=>decide (x=a.name)):=by simp[dQ,h]
theorem Pk(h:a.op=172):dQ (.node b o a l r) (e::es)= !dQ l (e::es):=by simp[dQ,h]
theorem Pj(h:a.op=8743):dQ (.node b o a l r) (e::es)=(dQ l (e::es)&&dQ r (e::es)):=by simp[dQ,h]
theorem Ya(h:a.op=8744):dQ (.node b o a l r) (e::es)=(dQ l (e::es)||dQ r (e::es)):=by simp[dQ,h]
theorem qi(h:a.op=89):dQ (.node b o a l r) (e::es)=qx e.1 a.lo a.hi (dQ l) es:=by simp[dQ,h]
theorem zJ(h:a.op=79):dQ (.node b o a l r) (e::es)=oJ e.1 a.lo a.hi (dQ l) (e::es):=by simp[dQ,h]
theorem N_(h:a.op=72):dQ (.node b o a l r) (e::es)= !oJ e.1 a.lo a.hi (λh=> !dQ l h) (e::es):=by simp[dQ,h]
theorem wL(h:a.op=83):dQ (.node b o a l r) (e::es)=oB e.1 a.lo a.hi (dQ l) (dQ r) (e::es):=by simp[dQ,h]
end
theorem vJ{t lo hi:Int}{p q:aB nz->Bool}(a:∀e es,p (e::es)=q (e::es)):∀h,oJ t lo hi p h=oJ t lo hi q h
 |[]=>rfl
 |e::es=>by simp only[oJ,a e es,vJ a es]
theorem zQ{t lo hi:Int}{p q b c:aB nz->Bool}(a:∀e es,p (e::es)=b (e::es))(d:∀e es,q (e::es)=c (e::es)):∀h,oB t lo hi p q h=oB t lo hi b c h
 |[]=>rfl
 |e::es=>by simp only[oB,a e es,d e es,zQ a d es]
theorem Fu{t lo hi:Int}{p q:aB nz->Bool}(a:∀e es,p (e::es)=q (e::es)):∀h,qx t lo hi p h=qx t lo hi q h
 |[]=>rfl
 |e::es=>by simp only[qx,a e es]
theorem wK{x}(d:Good x)(e es):dQ (eD x) (e::es)= !dQ x (e::es):=by
 cases x with
 |nil=>exact d.elim
 |node b o a l r=>
  by_cases c:a.op=172
  .simp[eD,dQ,c]
  .simp[eD,c,mk,dQ]
theorem zI:∀{x:BT c_},Good x->∀(e:nz)(es:aB nz),dQ (aN x) (e::es)=dQ x (e::es)
 |.nil,h=>h.elim
 |.node b o a l r,h=>by
  intro e es
  obtain⟨c,_⟩|⟨c,_⟩|⟨c,s,q,t,i,n⟩|⟨c,s,q,t,i,v⟩:=h
  .unfold aN;rw[bY (.inl c)]
  .unfold aN;rw[bY (.inr c)]
  .let g:=dK i
   let p:=dK n
   let f:=zI i
   let k:=zI n
   obtain c|c|c:=c
   .simp[aN,dQ,c,mk,f,k]
   .let m:Good (mk 8743 ByteArray.empty 0 0 (eD (aN l)) (eD (aN r))):=.inr (.inr (.inl ⟨.inl rfl,rfl,aE,λ_=>⟨rfl,rfl⟩,iw g,iw p⟩))
    let d:aN (.node b o a l r)=eD (mk 8743 ByteArray.empty 0 0 (eD (aN l)) (eD (aN r))):=by simp[aN,c]
    rw[d,wK m]
    let j:dQ (mk 8743 ByteArray.empty 0 0 (eD (aN l)) (eD (aN r))) (e::es)=(dQ (eD (aN l)) (e::es)&&dQ (eD (aN r)) (e::es)):=by simp[mk,dQ]
    rw[j,wK g,wK p,f,k]
    simp[dQ,c]
   .let d:aN (.node b o a l r)=mk a.op ByteArray.empty a.lo a.hi (aN l) (aN r):=by simp[aN,c]
    rw[d,wL _ _ c]
    exact(wL (a:=⟨a.op,ByteArray.empty,a.lo,a.hi⟩) _ _ c).trans (zQ f k _)
  .let g:=dK i
   let f:=zI i
   obtain c|c|c|c:=c
   .let d:aN (.node b o a l r)=eD (aN l):=by simp[aN,c]
    rw[d,wK g,f]
    simp[dQ,c]
   .let d:aN (.node b o a l r)=mk a.op ByteArray.empty a.lo a.hi (aN l) .nil:=by simp[aN,c]
    rw[d,qi _ _ c]
    exact(qi (a:=⟨a.op,ByteArray.empty,a.lo,a.hi⟩) _ _ c).trans (Fu f _)
   .let d:aN (.node b o a l r)=mk a.op ByteArray.empty a.lo a.hi (aN l) .nil:=by simp[aN,c]
    rw[d,zJ _ _ c]
    exact(zJ (a:=⟨a.op,ByteArray.empty,a.lo,a.hi⟩) _ _ c).trans (vJ f _)
   .let m:Good (mk 79 ByteArray.empty a.lo a.hi (eD (aN l)) .nil):=.inr (.inr (.inr ⟨.inr (.inr (.inl rfl)),rfl,q,λh=>by simp[lY]at h,iw g,rfl⟩))
    let d:aN (.node b o a l r)=eD (mk 79 ByteArray.empty a.lo a.hi (eD (aN l)) .nil):=by simp[aN,c]
    rw[d,wK m]
    let j:dQ (mk 79 ByteArray.empty a.lo a.hi (eD (aN l)) .nil) (e::es)=oJ e.1 a.lo a.hi (dQ (eD (aN l))) (e::es):=by simp[mk,dQ]
    let u:dQ (.node b o a l r) (e::es)= !oJ e.1 a.lo a.hi (λh=> !dQ l h) (e::es):=by simp[dQ,c]
    rw[j,u]
    congr 1
    exact vJ (λe es=>by rw[wK g,f]) _
theorem qd(b o)(a)(l r):bD (.node b o a l r)=a.hi+max (bD l) (bD r):=rfl
theorem eM:∀{x:BT c_},Good x\/x=.nil->0<=bD x
 |.nil,_=>by simp[bD]
 |.node b o a l r,h=>by
  rw[qd]
  obtain h|h:=h
  .obtain⟨_,_,_,e,rfl,rfl⟩|⟨_,_,_,e,rfl,rfl⟩|⟨_,_,d,_,c,f⟩|⟨_,_,d,_,c,rfl⟩:=h
   .simp[bD];omega
   .simp[bD];omega
   .have:=eM (.inl c);omega
   .have:=eM (.inl c);omega
  .cases h
def pF(K:aB Key):BT c_->Int->Prop
 |.nil,n=>n=0
 |.node _ _ a l r,n=>∃(i:Nat)(p q:Int),n=(i:Int)+1/\K[i]?=some ⟨a.op,a.name,a.lo,a.hi,p,q⟩/\pF K l p/\pF K r q/\p<=i/\q<=i
theorem pF.mono{K:aB Key}(M:aB Key):∀{x:BT c_}{n:Int},pF K x n->pF (K++M) x n
 |.nil,_,h=>h
 |.node _ _ _ _ _,_,⟨i,p,q,b,a,d,e,c⟩=>⟨i,p,q,b,by rw[tZ (e_.1 a).1];exact a,d.mono M,e.mono M,c⟩
theorem pF.le{K:aB Key}:∀{x:BT c_}{n:Int},pF K x n->0<=n/\n<=K.length
 |.nil,n,h=>by have:n=0:=h;omega
 |.node _ _ _ _ _,_,⟨i,_,_,b,a,_⟩=>by have:=(e_.1 a).1;omega
theorem Gc(K k):(∃M,(rv K k).2=K++M)/\∃i:Nat,(rv K k).1=(i)+1/\(rv K k).2[i]?=some k:=by
 unfold rv;cases h:q9 K k with
 |none=>exact⟨⟨[k],rfl⟩,K.length,rfl,aE⟩
 |some i=>
  refine⟨⟨[],aE⟩,i,rfl,?_⟩;let⟨hi,h1,_⟩:=RF.1 h;rw[fG hi];exact og some (rM.1 h1).symm
theorem zt:∀(x:BT c_)(K:aB Key),∃M,(cM K x).2=K++M
 |.nil,K=>⟨[],by simp[cM]⟩
 |.node _ _ a l r,K=>by
  let⟨M1,h1⟩:=zt l K
  let⟨M2,h2⟩:=zt r (cM K l).2
  let⟨⟨M3,h3⟩,_⟩:=Gc (cM (cM K l).2 r).2 ⟨a.op,a.name,a.lo,a.hi,(cM K l).1,(cM (cM K l).2 r).1⟩
  exact⟨M1++M2++M3,by rw[cM,h3,h2,h1];simp⟩
def xb(K:aB Key):Prop:=∀(i:Nat)(k:Key),K[i]?=some k->0<=k.l/\k.l<=(i:Int)/\0<=k.r/\k.r<=(i:Int)
theorem zq:∀(x:BT c_)(K:aB Key),xb K->xb (cM K x).2/\pF (cM K x).2 x (cM K x).1
 |.nil,K,h=>⟨h,rfl⟩
 |.node b o a l r,K,h=>by
  let⟨a1,n1⟩:=zq l K h
  let⟨a2,n2⟩:=zq r (cM K l).2 a1
  let⟨M2,g2⟩:=zt r (cM K l).2
  let⟨⟨M3,g3⟩,i,hi,hk⟩:=Gc (cM (cM K l).2 r).2 ⟨a.op,a.name,a.lo,a.hi,(cM K l).1,(cM (cM K l).2 r).1⟩
  let e:cM K (.node b o a l r)=rv (cM (cM K l).2 r).2 ⟨a.op,a.name,a.lo,a.hi,(cM K l).1,(cM (cM K l).2 r).1⟩:=rfl
  rw[e]
  let n:pF (cM (cM K l).2 r).2 l (cM K l).1:=g2▸n1.mono M2
  let g:xb (rv (cM (cM K l).2 r).2 ⟨a.op,a.name,a.lo,a.hi,(cM K l).1,(cM (cM K l).2 r).1⟩).2:=by
   unfold rv;cases p:q9 (cM (cM K l).2 r).2 ⟨a.op,a.name,a.lo,a.hi,(cM K l).1,(cM (cM K l).2 r).1⟩with
   |some j=>exact a2
   |none=>
    intro j k c;simp only at c;obtain d|m:=Bn j (cM (cM K l).2 r).2.length
    .rw[tZ d]at c;exact a2 j k c
    .rw[sr m]at c;let f:j-(cM (cM K l).2 r).2.length=0:=by
      have:=(e_.1 c).1;simp at this;omega
     rw[f]at c;simp at c;subst c;let q:=n.le;let s:=n2.le;simp only;omega
  refine⟨g,i,(cM K l).1,(cM (cM K l).2 r).1,hi,hk,by rw[g3];exact n.mono M3,by rw[g3];exact n2.mono M3,?_,?_⟩
  .exact(g i _ hk).2.1
  .exact(g i _ hk).2.2.2
structure Pe where
 number:Int
 time:Int
 atoms:aB aZ
 so:aB Bool
def Pe.at(e:Pe)(j:Int):Bool:=e.so.getD j.toNat false
def Pe.m_(e:Pe):nz:=(e.time,e.atoms)
def vI(t lo hi j:Int):aB Pe->Bool
 |[]=>false
 |e::es=>if t-e.time>hi then false else if t-e.time>=lo/\e.at j=true then true else vI t lo hi j es
def qk(t lo hi j k:Int):aB Pe->Bool
 |[]=>false
 |e::es=>if t-e.time>hi then false else if t-e.time>=lo/\e.at k=true then true else if e.at j=false then false else qk t lo hi j k es
def beforeF(t lo hi j:Int):aB Pe->Bool
 |[]=>false
 |e::_=>decide (lo<=t-e.time)&&decide (t-e.time<=hi)&&e.at j
def mT(k:Key)(a:Pe)(b:aB Pe):Bool:=
 if k.op=116 then true
 else if k.op=97 then a.atoms.any λx=>decide (x=k.name)
 else if k.op=172 then !a.at k.l
 else if k.op=8743 then a.at k.l&&a.at k.r
 else if k.op=89 then beforeF a.time k.lo k.hi k.l b
 else if k.op=79 then vI a.time k.lo k.hi k.l (a::b)
 else qk a.time k.lo k.hi k.l k.r (a::b)
def Pe.add(e:Pe)(b:Bool):Pe:={e with so:=e.so++[b]}
def eG(um:aB Pe):aB Key->Pe->Pe
 |[],e=>e
 |k::K,e=>eG um K (e.add (mT k e um))
def Pe.bare(e:Pe):Pe:={e with so:=[false]}
theorem yd(a:aB Pe)(k:Key):∀(K:aB Key)(e:Pe),eG a (K++[k]) e=(eG a K e).add (mT k (eG a K e) a)
 |[],_=>rfl
 |_::K,_=>yd a k K _
theorem iT(a:aB Pe):∀(K:aB Key)(e:Pe),(eG a K e).number=e.number/\(eG a K e).time=e.time/\(eG a K e).atoms=e.atoms/\(eG a K e).so.length=e.so.length+K.length/\∃m,(eG a K e).so=e.so++m
 |[],e=>⟨rfl,rfl,rfl,rfl,[],by simp[eG]⟩
 |k::K,e=>by
  let⟨h1,h2,h3,h4,m,h5⟩:=iT a K (e.add (mT k e a))
  refine⟨h1,h2,h3,?_,mT k e a::m,?_⟩
  .rw[eG,h4];simp[Pe.add];omega
  .rw[eG,h5];simp[Pe.add]
def pE:BT c_->Prop
 |.nil=>True
 |.node _ _ a l r=>a.op≠8744/\a.op≠72/\pE l/\pE r
theorem o8{x}(h:pE x):pE (eD x):=by
 cases x with
 |nil=>exact h
 |node b o a l r=>
  show pE (if a.op=172 then l else mk 172 ByteArray.empty 0 0 (BT.node b o a l r) .nil);by_cases c:a.op=172
  .rw[bY c];exact h.2.2.1
  .rw[bN c];exact⟨aG,aG,h,trivial⟩
theorem pJ:∀{x:BT c_},Good x->pE (aN x)
 |.nil,h=>h.elim
 |.node b o a l r,h=>by
  obtain⟨c,_,_,_,rfl,rfl⟩|⟨c,_,_,_,rfl,rfl⟩|⟨c,j,k,m,g,i⟩|⟨c,j,k,m,g,n⟩:=h
  .unfold aN;rw[bY (.inl c)];exact⟨aA,aA,trivial,trivial⟩
  .unfold aN;rw[bY (.inr c)];exact⟨aA,aA,trivial,trivial⟩
  .let e:=pJ g
   let f:=pJ i
   obtain c|c|c:=c
   .let d:aN (.node b o a l r)=mk a.op ByteArray.empty a.lo a.hi (aN l) (aN r):=by simp[aN,c]
    rw[d];exact⟨λh=>by have:a.op=8744:=h;omega,λh=>by have:a.op=72:=h;omega,e,f⟩
   .let d:aN (.node b o a l r)=eD (mk 8743 ByteArray.empty 0 0 (eD (aN l)) (eD (aN r))):=by simp[aN,c]
    rw[d];exact o8 ⟨aG,aG,o8 e,o8 f⟩
   .let d:aN (.node b o a l r)=mk a.op ByteArray.empty a.lo a.hi (aN l) (aN r):=by simp[aN,c]
    rw[d];exact⟨λh=>by have:a.op=8744:=h;omega,λh=>by have:a.op=72:=h;omega,e,f⟩
  .let e:=pJ g
   obtain c|c|c|c:=c
   .let d:aN (.node b o a l r)=eD (aN l):=by simp[aN,c]
    rw[d];exact o8 e
   .let d:aN (.node b o a l r)=mk a.op ByteArray.empty a.lo a.hi (aN l) .nil:=by simp[aN,c]
    rw[d];exact⟨λh=>by have:a.op=8744:=h;omega,λh=>by have:a.op=72:=h;omega,e,trivial⟩
   .let d:aN (.node b o a l r)=mk a.op ByteArray.empty a.lo a.hi (aN l) .nil:=by simp[aN,c]
    rw[d];exact⟨λh=>by have:a.op=8744:=h;omega,λh=>by have:a.op=72:=h;omega,e,trivial⟩
   .let d:aN (.node b o a l r)=eD (mk 79 ByteArray.empty a.lo a.hi (eD (aN l)) .nil):=by simp[aN,c]
    rw[d];exact o8 ⟨show(79:Int)≠8744 from aG,show(79:Int)≠72 from aG,o8 e,trivial⟩
def kS(K:aB Key)(dropped:aB nz):aB Pe->Prop
 |[]=>True
 |e::es=>e.so.length=K.length+1/\(∀t n,Good t->pE t->pF K t n->(∀d∈dropped,d.1<e.time-bD t)->e.at n=dQ t (e.m_::(es.map Pe.m_++dropped)))/\kS K dropped es
theorem kS.keep{K:aB Key}{dropped:aB nz}:∀{es old:aB Pe},kS K dropped (es++old)->kS K (old.map Pe.m_++dropped) es
 |[],_,_=>trivial
 |e::es,old,⟨b,g,j⟩=>⟨b,λt n h f c i=>by rw[g t n h f c λd a=>i d (by simp[a])];simp,j.keep⟩
section
variable{K:aB Key}{dropped:aB nz}{es:aB Pe}
theorem GF{t lo hi j:Int}{x:BT c_}(a:Good x)(f:pE x)(c:pF K x j)(b:∀d∈dropped,d.1<t-(hi+bD x)):∀es,kS K dropped es->vI t lo hi j es=oJ t lo hi (dQ x) (es.map Pe.m_++dropped)
 |[],_=>by
  have:=eM (.inl a)
  cases dropped with
  |nil=>rfl
  |cons d m=>have:=b d (.head _);simp only[sD,jW,oJ,vI];rw[bY aA]
 |e::es,⟨_,k,l⟩=>by
  let i:=GF (lo:=lo) a f c b es l
  simp only[gW,mz,oJ,vI,show e.m_.1=e.time from rfl]
  by_cases h:t-e.time>hi
  .rw[bY h,bY h]
  .rw[bN h,bN h,i,k x j a f c λd g=>by have:=b d g;omega]
theorem EE{t lo hi j k:Int}{x y:BT c_}(c:Good x)(n:Good y)(i:pE x)(l:pE y)(m:pF K x j)(f:pF K y k)(a:∀d∈dropped,d.1<t-(hi+max (bD x) (bD y))):∀es,kS K dropped es->qk t lo hi j k es=oB t lo hi (dQ x) (dQ y) (es.map Pe.m_++dropped)
 |[],_=>by
  have:=eM (.inl c)
  cases dropped with
  |nil=>rfl
  |cons d q=>have:=a d (.head _);simp only[sD,jW,oB,qk];rw[bY aA]
 |e::es,⟨_,g,p⟩=>by
  let o:=EE (lo:=lo) c n i l m f a es p
  simp only[gW,mz,oB,qk,show e.m_.1=e.time from rfl]
  by_cases h:t-e.time>hi
  .rw[bY h,bY h]
  .rw[bN h,bN h,o,g x j c i m (λd b=>by have:=a d b;omega),g y k n l f λd b=>by have:=a d b;omega]
theorem JZ{t lo hi j:Int}{x:BT c_}(a:Good x)(g:pE x)(f:pF K x j)(b:∀d∈dropped,d.1<t-(hi+bD x)):∀es,kS K dropped es->beforeF t lo hi j es=qx t lo hi (dQ x) (es.map Pe.m_++dropped)
 |[],_=>by
  have:=eM (.inl a)
  cases dropped with
  |nil=>rfl
  |cons d l=>have:=b d (.head _);simp only[sD,jW,qx,beforeF];rw[show decide (t-d.1<=hi)=false from kg aA];simp
 |e::es,⟨_,i,k⟩=>by
  simp only[gW,mz,qx,beforeF,show e.m_.1=e.time from rfl]
  by_cases h:t-e.time<=hi
  .rw[i x j a g f λd c=>by have:=b d c;omega]
  .rw[show decide (t-e.time<=hi)=false from kg h];simp
theorem Mv{e:Pe}{b n}(h:n.toNat<e.so.length):(e.add b).at n=e.at n:=by
 simp only[Pe.at,Pe.add,qp,tZ h]
theorem Mu{e:Pe}{b n}(h:n.toNat=e.so.length):(e.add b).at n=b:=by
 simp[Pe.at,Pe.add,h]
theorem Up{c now}(w:kS K dropped c){N:Nat}{k}(x:K[N]?=some k)
  (f:∀t n,Good t->pE t->pF K t n->n<=N->(∀d∈dropped,d.1<now.time-bD t)->now.at n=dQ t (now.m_::(c.map Pe.m_++dropped)))
  {t} (y:Good t) (E:pE t) (D:pF K t ((N)+1)) (h:∀d∈dropped,d.1<now.time-bD t):mT k now c=dQ t (now.m_::(c.map Pe.m_++dropped)):=by
 cases t with
 |nil=>exact y.elim
 |node b o a l r=>
  let⟨i,p,q,h1,h2,h3,h4,h5,h6⟩:=D;obtain rfl:i=N:=aA;rw[h2]at x;obtain rfl:=oW x;rw[qd]at h;let⟨c1,c2,cl,cr⟩:=E;let m:now.m_.1=now.time:=rfl;obtain⟨e,_⟩|⟨e,_⟩|⟨e,_,F,_,g,u⟩|⟨e,_,F,_,g,C⟩:=y
  .rw[Ly _ _ e];simp[mT,e]
  .rw[Lx _ _ e];simp[mT,e,Pe.m_]
  .let A:=eM (.inl g);let G:=eM (.inl u);let s:=f l p g cl h3 h5 (λd j=>by have:=h d j;omega);let z:=f r q u cr h4 h6 (λd j=>by have:=h d j;omega);obtain e|e|e:=e
   .rw[Pj _ _ e,<-s,<-z];simp[mT,e]
   .exact absurd e c1
   .rw[wL _ _ e];let v:mT ⟨a.op,a.name,a.lo,a.hi,p,q⟩ now c=qk now.time a.lo a.hi p q (now::c):=by simp[mT,e]
    rw[v,m];simp only[qk,oB,m,EE (t:=now.time) (lo:=a.lo) (hi:=a.hi) g u cl cr h3 h4 h c w,s,z]
  .let A:=eM (.inl g);subst C;let B:bD (.nil:BT c_)=0:=rfl;rw[B]at h;let s:=f l p g cl h3 h5 (λd j=>by have:=h d j;omega);let UT:∀d∈dropped,d.1<now.time-(a.hi+bD l):=λd j=>by have:=h d j;omega
   obtain e|e|e|e:=e
   .rw[Pk _ _ e,<-s];simp[mT,e]
   .rw[qi _ _ e,m,<-(JZ (t:=now.time) (lo:=a.lo) (hi:=a.hi) g cl h3 UT c w)];simp[mT,e]
   .rw[zJ _ _ e];let v:mT ⟨a.op,a.name,a.lo,a.hi,p,q⟩ now c=vI now.time a.lo a.hi p (now::c):=by simp[mT,e]
    rw[v,m];simp only[vI,oJ,m,GF (t:=now.time) (lo:=a.lo) (hi:=a.hi) g cl h3 UT c w,s]
   .exact absurd e c2
theorem E2{c}(w:kS K dropped c)(now:Pe):kS K dropped (eG c K now.bare::c):=by
 have s:∀(N:Nat),N<=K.length->∀t n,Good t->pE t->pF K t n->n<=N->(∀d∈dropped,d.1<now.time-bD t)->(eG c (K.take N) now.bare).at n=dQ t (now.m_::(c.map Pe.m_++dropped)):=by
  intro N
  induction N with
  |zero=>
   intro _ t n h j f x g;cases t with
   |nil=>exact h.elim
   |node b o a l r=>obtain⟨i,_,_,A,_⟩:=f;omega
  |succ N v=>
   intro x t n h j f k g;have m:N<K.length:=aA;have y:K.take (N+1)=K.take N++[K[N]]:=by rw[List.take_append_getElem m]
   have⟨w1,w2,w3,w4,_⟩:=iT c (K.take N) now.bare;have u:(eG c (K.take N) now.bare).so.length=N+1:=by rw[w4,kR];simp[Pe.bare];omega
   have e:(eG c (K.take N) now.bare).m_=now.m_:=by unfold Pe.m_;rw[w2,w3];rfl
   rw[y,yd];have z:=f.le;by_cases p:n<=N
   .rw[Mv aA];exact v aA t n h j f p g
   .have q:n=(N:Int)+1:=by omega
    subst q;rw[Mu aA];have:=Up (now:=eG c (K.take N) now.bare) w (List.getElem?_eq_getElem m) (λt n h j f k g=>by rw[e];exact v (by omega) t n h j f k (by rw[w2]at g;exact g)) h j f (by rw[w2];exact g);rw[this,e]
 have⟨w1,w2,w3,w4,_⟩:=iT c K now.bare;refine⟨by rw[w4];simp[Pe.bare];omega,λt n h j f g=>?_,w⟩;have:=s K.length aX t n h j f f.le.2 (by rw[w2]at g;exact g);rw[L0]at this;have e:(eG c K now.bare).m_=now.m_:=by unfold Pe.m_;rw[w2,w3];rfl
 rw[this,e]
end
end Ev
namespace Ev
open Go
section
variable{P:Program}{ops:aY Oper}{Q:Exit->Act->aC->Prop}{md:Region.Mode}{S:aC->Prop}{fin:Nat}
def vX(md:Region.Mode)(ops:aY Oper)(a:aY Bool):Prop:=∀(k:Nat)(o:Oper),ops[k]?=some o->a.getD k false=true->∀e∈o.after,Region.binds md e=true->a.getD e.on false=true
def Iq(md:Region.Mode)(ops:aY Oper)(a:aY Bool):Bool:=(List.range ops.size).all λk=>match ops[k]? with
 |some o=> !a.getD k false||o.after.all λe=> !Region.binds md e||a.getD e.on false
 |none=>true
theorem Ir{a}(h:Iq md ops a=true):vX md ops a:=by
 intro k o c d e f g;let b:=yn.1 h k (zZ.2 ((jM.1 c).1));rw[c]at b;simp only[d,xa,Bool.false_or]at b;simpa[g]using(Array.all_eq_true'.1 b e f)
theorem vX.set{a j}(h:vX md ops a)(n:j∈Region.ready md ops a):vX md ops (a.setIfInBounds j true):=by
 let⟨_,oj,S_,FV⟩:=mem_ready.1 n;let up:∀q,a.getD q false=true->(a.setIfInBounds j true).getD q false=true:=λq g=>by
  by_cases b:q=j
  .subst b;have:q<a.size:=by
    obtain d|d:=Bn q a.size
    .exact d
    .simp[Mb d]at g
   simp[this]
  .simp only[Ma]at g⊢;rw[qv (lx b)];exact g
 intro k o i f e l m;by_cases c:k=j
 .subst c;rw[S_]at i;cases i;exact up _ (FV e l m)
 .refine up _ (h k o i ?_ e l m);simp only[Ma]at f⊢;rw[qv (lx c)]at f;exact f
def vT(md:Region.Mode)(ops:aY Oper):Nat->Nat->Nat->Bool
 |0,_,_=>false
 |fuel+1,k,i=>match ops[k]? with
  |some o=>o.after.any λe=>Region.binds md e&&(e.on==i||vT md ops fuel e.on i)
  |none=>true
theorem B9{a:aY Bool}{i:Nat}(n:vX md ops a):∀(b k:Nat),vT md ops b k i=true->∀o,ops[k]?=some o->(∀e∈o.after,Region.binds md e=true->a.getD e.on false=true)->(∀q,a.getD q false=true->q<ops.size)->a.getD i false=true
 |0,_,h,_,_,_,_=>by cases h
 |b+1,k,h,o,p,c,m=>by
  unfold vT at h
  rw[p]at h
  let⟨e,he,f⟩:=Array.any_eq_true'.1 h
  simp only[sB,Bool.or_eq_true,vV]at f
  obtain⟨f,rfl|hw⟩:=f
  .exact c e he f
  .let l:=c e he f
   let d:=m _ l
   exact B9 n b e.on hw ops[e.on] (su d) (λr g j=>n _ _ (su d) l r g j) m
def cA(P:Program)(md:Region.Mode)(ops:aY Oper)(Q:Exit->Act->aC->Prop)(S:aC->Prop)(fin:Nat):Nat->aY Bool->Act->aC->Prop
 |0,listed,a,w=>Region.ready md ops listed=[]/\Q .normal a w
 |fuel+1,listed,a,w=>(Region.ready md ops listed=[]->Q .normal a w)/\
  ∀i∈Region.ready md ops listed,wpOp P ops Q i (λa' w'=>(i<fin->S w')/\cA P md ops Q S fin fuel (listed.setIfInBounds i true) a' w') a w
theorem cA.any:∀(c:Nat)(b:aY Bool)(a:Act)(w:aC),cA P md ops Q S fin c b a w->wpAny P md ops Q c b a w
 |0,_,_,_,h=>h
 |c+1,_,_,_,h=>⟨h.1,λi hi=>wpOp_mono (λd w' k=>cA.any c _ d w' k.2) (h.2 i hi)⟩
theorem cA.first{i u v}(hi:ops[i]?=some u)(p:∀(j:Nat)(o) D b,ops[j]?=some o->o.op≠.select D b)(A:∀k,fin<=k->vT md ops ops.size k i=true)
  (U:∀c a w,Q (.panic c) (a.put u.dst v) w->Q (.panic c) a w):∀f (d a) (w),d.size=ops.size->vX md ops d->
   (∀j n,ops[j]?=some n->j≠i->d.getD j true=false->(∀e∈n.after,Region.binds md e=true->e.on≠i)->u.apart ops n=true)->
   i∈Region.ready md ops d->YieldsIf P ops S u v a->S w->cA P md ops Q S fin f (d.setIfInBounds i true) (a.put u.dst v) w->cA P md ops Q S fin (f+1) d a w:=by
 intro f
 induction f with
 |zero=>
  intro d a w _ _ _ r F x H;refine⟨λh=>(by rw[h]at r;cases r),λj B=>?_⟩;by_cases g:j=i
  .subst g;exact F.wpOp hi x ⟨λ_=>x,H⟩
  .have:=ready_mono B g;rw[H.1]at this;cases this
 |succ f X=>
  intro d a w I z m r F x H;refine⟨λh=>(by rw[h]at r;cases r),λj B=>?_⟩;by_cases g:j=i
  .subst g;exact F.wpOp hi x ⟨λ_=>x,H⟩
  .let⟨S6,n,S_,FV⟩:=mem_ready.1 B;let l:d.getD i false=true->False:=λs=>by
    let N:=(mem_ready.1 r).1;obtain t|t:=Bn i d.size
    .simp[t]at N s;rw[N]at s;cases s
    .simp[Mb t]at s
   let C:∀e∈n.after,Region.binds md e=true->e.on≠i:=λe R Y M=>by
    let s:=FV e R Y;rw[M]at s;exact l s
   let L:j<fin:=by
    refine Nat.lt_of_not_le λG=>?_;refine l (B9 z _ _ (A j G) n S_ FV λq T=>?_);obtain t|t:=Bn q d.size
    .omega
    .simp[Mb t]at T
   refine wpOp_mono (λV W E=>⟨E.2.1,X (d.setIfInBounds j true) V W (by simp[I]) (z.set B) (λk ok O J l K=>m k ok O J ?_ K) (ready_mono r (lx g)) E.1 (E.2.1 L) ?_⟩) (wpOp_putIf S_ (m j n S_ g S6 C) (λD b=>p i u D b hi) (λD b=>p j n D b S_) U F (H.2 j (ready_mono B g)))
   .by_cases y:j=k
    .subst y;exact S6
    .rw[getD_set_ne true y]at l;exact l
   .rw[Array.setIfInBounds_comm _ _ g];exact E.2.2
theorem cA.take(i){g v e b a w}(hi:ops[i]?=some g)(q:Region.noSelect ops=true)(u:Region.free md ops b i=true)(p:(Region.ready md ops b).contains i=true)
  (d:(((List.range ops.size).all λk=>decide (k<fin)||vT md ops ops.size k i)&&Iq md ops b&&(b.size==ops.size))=true) (r:∀c a w,Q (.panic c) (a.put g.dst v) w->Q (.panic c) a w)
  (hw:Region.wanted g (yielded ops a.tmps)=true) (t:∀w,S w->(execOp a.eval g).run P w=.ok (.value v) w) (n:S w) (h:cA P md ops Q S fin e (b.setIfInBounds i true) (a.put g.dst v) w):cA P md ops Q S fin (e+1) b a w:=by
 simp only[sB,vV]at d;let l:=(jM.1 hi).1;let f:∀k,fin<=k->vT md ops ops.size k i=true:=λk o=>by
  by_cases j:k<ops.size
  .have:=yn.1 d.1.1 k (zZ.2 j);simpa[Nat.not_lt.2 o]using this
  .obtain⟨m,s⟩:∃m,ops.size=m+1:=⟨ops.size-1,aA⟩;rw[s];unfold vT;rw[(Mb aA)]
 exact cA.first hi (Region.noSelect_spec q) f r e b a w d.2 (Ir d.1.2) (Region.free_spec hi u) (by simpa using p) (.inl ⟨hw,t⟩) n h
theorem cA.one{i o c b a w}(e:Region.ready md ops b=[i])(g:ops[i]?=some o)(hw:Region.wanted o (yielded ops a.tmps)=true)
  (h:Oper.wp P o a w (λk w'=>(i<fin->S w')/\cA P md ops Q S fin c (b.setIfInBounds i true) k w') Q):cA P md ops Q S fin (c+1) b a w:=
 ⟨λf=>(by rw[e]at f;cases f),λj d=>by
  rw[e]at d;simp at d;subst d
  unfold wpOp
  simp only[g,hw,fA]
  exact .inl h⟩
theorem cA.op{i o c b a w}(f:Region.ready md ops b=[i])(e:ops[i]?=some o)(hw:Region.wanted o (yielded ops a.tmps)=true)
  (h:∀K,(∀d w',((i<fin->S w')/\cA P md ops Q S fin c (b.setIfInBounds i true) d w')->K d w')->Oper.wp P o a w K Q):cA P md ops Q S fin (c+1) b a w:=
 cA.one f e hw (h _ λ_ _ x=>x)
theorem cA.tk(i:Nat){oi:Oper}{v:aF}{fuel:Nat}{listed:aY Bool}{a:Act}{w:aC}(hS:S w)(h:cA P md ops Q S fin fuel (listed.setIfInBounds i true) (a.put oi.dst v) w)(hi:ops[i]?=some oi:=by rfl)(hs:Region.noSelect ops=true:=by decide+kernel)(hf:Region.free md ops listed i=true:=by decide+kernel)(hr:(Region.ready md ops listed).contains i=true:=by decide+kernel)
  (S3:(((List.range ops.size).all λk=>decide (k<fin)||vT md ops ops.size k i)&&Iq md ops listed&&(listed.size==ops.size))=true:=by decide+kernel)
  (hw:Region.wanted oi (yielded ops a.tmps)=true:=by rfl) (hy:∀w,S w->∀K:Result Next->bQ,K (.ok (.value v) w)->K ((execOp a.eval oi).run P w):=by
   intro w' hS K' hK'
   try simp only at hS
   go_simp;exact hK') (hQ:∀c a w,Q (.panic c) (a.put oi.dst v) w->Q (.panic c) a w:=by first|exact λ_ _ _ h=>h|exact λc a w h=>hQ c a _ _ w h):cA P md ops Q S fin (fuel+1) listed a w:=cA.take i hi hs hf hr S3 hQ hw (λw h=>Go.Conc.run_eq_of (hy w h)) hS h
theorem cA.o(i:Nat){fuel:Nat}{listed:aY Bool}{a:Act}{w:aC}(h:wpOp P ops Q i (λe w'=>(i<fin->S w')/\cA P md ops Q S fin fuel (listed.setIfInBounds i true) e w') a w)(c:Region.ready md ops listed=[i]:=by decide+kernel):cA P md ops Q S fin (fuel+1) listed a w:=
 ⟨λd=>(by rw[c]at d;cases d),λj b=>by rw[c]at b;simp at b;subst b;exact h⟩
theorem cA.t(i j:Nat){fuel:Nat}{listed:aY Bool}{a:Act}{w:aC}(h:wpOp P ops Q i (λc w'=>(i<fin->S w')/\cA P md ops Q S fin fuel (listed.setIfInBounds i true) c w') a w)
  (k:wpOp P ops Q j (λc w'=>(j<fin->S w')/\cA P md ops Q S fin fuel (listed.setIfInBounds j true) c w') a w) (d:Region.ready md ops listed=[i,j]:=by decide+kernel):cA P md ops Q S fin (fuel+1) listed a w:=
 ⟨λe=>(by rw[d]at e;cases e),λq b=>by rw[d]at b;simp at b;rcases b with rfl|rfl<;>assumption⟩
theorem O8{i:Nat}{o:Oper}{K:Act->aC->bQ}{a:Act}{w w':aC}{v:aF}(h:K (a.put o.dst v) w')(b:ops[i]?=some o:=by rfl)(hw:Region.wanted o (yielded ops a.tmps)=true:=by rfl) (hy:∀K:Result Next->bQ,K (.ok (.value v) w')->K ((execOp a.eval o).run P w):=by
   intro K' hK';go_simp;exact hK'):wpOp P ops Q i K a w:=by
 unfold wpOp;simp only[b,hw,fA];unfold Oper.wp;rw[Go.Conc.run_eq_of hy];exact .inl h
theorem opk{i:Nat}{o:Oper}{K:Act->aC->bQ}{a:Act}{w w':aC}(h:K (a.put o.dst undef) w')(b:ops[i]?=some o:=by rfl)(hw:Region.wanted o (yielded ops a.tmps)=true:=by rfl) (hy:∀K:Result Next->bQ,K (.ok .skip w')->K ((execOp a.eval o).run P w):=by
   intro K' hK';go_simp;exact hK'):wpOp P ops Q i K a w:=by
 unfold wpOp;simp only[b,hw,fA];unfold Oper.wp;rw[hy (λr=>r=.ok .skip w') rfl];exact .inl h
theorem Md{i:Nat}{o:Oper}{f:FuncId}{fn:Func}{args:aY Operand}{ats:aY TypeId}{xs:aY aF}{R:Ending->aC->bQ}{K:Act->aC->bQ}{a:Act}{w:aC}(g:P.funcs[f]?=some fn)(j:Calls P f xs w R)(h:∀e b,R e b->∃v,e=.returned v/\K (a.put o.dst v) b)(c:ops[i]?=some o:=by rfl)(hw:Region.wanted o (yielded ops a.tmps)=true:=by rfl)
  (Ah:o.op=.call {callee:=.value (.func f),args,argTypes:=ats}:=by rfl) (hx:args.map a.eval=xs:=by simp only[F9,gW,sD];try rfl) (hn:(fn.name== "runtime.NumGoroutine")=false:=by decide) (hb:fn.body.isNone=false:=by rfl):wpOp P ops Q i K a w:=by
 unfold wpOp;simp only[c,hw,fA];unfold Oper.wp;rw[Go.Conc.run_call_body Ah g hn hb,hx];refine .inl (j.mono λe b d=>?_);obtain⟨v,rfl,k⟩:=h e b d;exact k
theorem cA.done{b:aY Bool}{a:Act}{w:aC}(d:Region.ready md ops b=[])(h:Q .normal a w):∀c,cA P md ops Q S fin c b a w
 |0=>⟨d,h⟩
 |_+1=>⟨λ_=>h,λi hi=>by rw[d]at hi;cases hi⟩
theorem cA.begin{id a w}(b:P.follows .mixedOrders=true)(h:cA P .any ops Q S fin ops.size (Array.replicate ops.size false) a w.drew):(Code.region id ops true).wp P Q a w:=
 wp_region_any b (cA.any _ _ _ _ h)
theorem cA.weaken{d:Nat}:∀(c:Nat)(b:aY Bool)(a:Act)(w:aC),cA P md ops Q S fin c b a w->cA P md ops Q (λ_=>True) d c b a w
 |0,_,_,_,h=>h
 |c+1,_,_,_,h=>⟨h.1,λi hi=>wpOp_mono (λe f k=>⟨λ_=>trivial,cA.weaken c _ e f k.2⟩) (h.2 i hi)⟩
end
end Ev
namespace Lf
open Go Go.Conc
variable{P:Program}{main:Bool}{R:(Nat->Prop)->aC->aC->Prop}{D:(Nat->Prop)->aC->aC->aY Event->Prop}
def grow(S:Nat->Prop)(w a:aC):Nat->Prop:=λb=>S b\/(w.heap.size<=b/\b<a.heap.size)
theorem pd(S){w w'}(h:w'.heap.size=w.heap.size):grow S w w'=S:=by
 funext b;exact propext ⟨λa=>a.elim id λx=>absurd x.2 aA,.inl⟩
@[simp] theorem cZ(S w):grow S w w=S:=pd S rfl
structure fU(R:(Nat->Prop)->aC->aC->Prop)(D:(Nat->Prop)->aC->aC->aY Event->Prop):Prop where
 trans:∀S a b c,R S a b->R S b c->R S a c
 idle:∀S w,D S w w #[]
 draw:∀S w,D S w {w with drawn:=w.drawn+1} #[]
inductive RT(P:Program)(main:Bool)(R:(Nat->Prop)->aC->aC->Prop)(D:(Nat->Prop)->aC->aC->aY Event->Prop)(Stop:(Nat->Prop)->bU->aC->Prop):(Nat->Prop)->bU->aC->Prop
 |stop {S:Nat->Prop} {g:bU} {w:aC}:(∀w₁,R S w w₁->Stop S g w₁)->RT P main R D Stop S g w
 |step {S:Nat->Prop} {g:bU} {w:aC} (f:aC->bU×aC×aY Event):g.status=.running->(∀w₁,R S w w₁->stepG P main g w₁=.go (f w₁).1 (f w₁).2.1 (f w₁).2.2/\D S w₁ (f w₁).2.1 (f w₁).2.2)->
   (∀w₁,R S w w₁->RT P main R D Stop (grow S w₁ (f w₁).2.1) (f w₁).1 (f w₁).2.1)->RT P main R D Stop S g w
theorem RT.one{Stop S g w}(k:g.status=.running)(h:∀a,R S w a->(stepG P main g a).goes λe w' f=>D S a w' f/\RT P main R D Stop (grow S a w') e w'):RT P main R D Stop S g w:=by
 let c:∀a,R S w a->∃x:bU×aC×aY Event,stepG P main g a=.go x.1 x.2.1 x.2.2/\D S a x.2.1 x.2.2/\RT P main R D Stop (grow S a x.2.1) x.1 x.2.1:=by
  intro a b;have:=h a b
  revert this
  cases i:stepG P main g a<;>simp only[GStep.goes,false_imp_iff];rename_i e w' f;exact λ⟨d,r⟩=>⟨(e,w',f),rfl,d,r⟩
 let VI:∀a,∃x:bU×aC×aY Event,R S w a->stepG P main g a=.go x.1 x.2.1 x.2.2/\D S a x.2.1 x.2.2/\RT P main R D Stop (grow S a x.2.1) x.1 x.2.1:=by
  intro a;by_cases j:R S w a
  .let⟨x,i⟩:=c a j;exact⟨x,λ_=>i⟩
  .exact⟨(g,w,#[]),λh=>absurd h j⟩
 exact .step (λa=>Classical.choose (VI a)) k (λa b=>⟨(E4 (VI a) b).1,(E4 (VI a) b).2.1⟩) λa b=>((E4 (VI a) b).2.2)
theorem RT.rely(T:fU R D){Stop S g w c}(h:RT P main R D Stop S g w)(d:R S w c):RT P main R D Stop S g c:=by
 cases h with
 |stop h=>exact .stop λb a=>h b (T.trans _ _ _ _ d a)
 |step f i h e=>exact .step f i (λb a=>h b (T.trans _ _ _ _ d a)) λb a=>e b (T.trans _ _ _ _ d a)
section
variable{Stop:(Nat->Prop)->bU->aC->Prop}{S:Nat->Prop}{b:Frame}{a:Act}{k:aB Item}{cs:aB Frame}{w:aC}
theorem RT.skip(T:fU R D)(h:RT P main R D Stop S (G (b.at a k) cs) w):RT P main R D Stop S (G (b.at a (.code .skip::k)) cs) w:=.one rfl λd c=>by rw[stepG_skip];rw[goes_go,cZ];exact⟨T.idle _ _,h.rely T c⟩
theorem RT.seq(T:fU R D){x y}(h:RT P main R D Stop S (G (b.at a (.code x::.code y::k)) cs) w):RT P main R D Stop S (G (b.at a (.code (.seq x y)::k)) cs) w:=.one rfl λd c=>by rw[stepG_seq];rw[goes_go,cZ];exact⟨T.idle _ _,h.rely T c⟩
theorem RT.cond(T:fU R D){c x y}(t)(f:a.eval c=.bool t)(h:RT P main R D Stop S (G (b.at a (.code (if t then x else y)::k)) cs) w):RT P main R D Stop S (G (b.at a (.code (.cond c x y)::k)) cs) w:=.one rfl λe d=>by rw[stepG_cond f];rw[goes_go,cZ];exact⟨T.idle _ _,h.rely T d⟩
theorem RT.block(T:fU R D){id c}(h:RT P main R D Stop S (G (b.at a (.code c::.inBlock id::k)) cs) w):RT P main R D Stop S (G (b.at a (.code (.block id c)::k)) cs) w:=.one rfl λe d=>by rw[stepG_block];rw[goes_go,cZ];exact⟨T.idle _ _,h.rely T d⟩
theorem RT.inBlock(T:fU R D){id}(h:RT P main R D Stop S (G (b.at a k) cs) w):RT P main R D Stop S (G (b.at a (.inBlock id::k)) cs) w:=.one rfl λd c=>by rw[stepG_inBlock];rw[goes_go,cZ];exact⟨T.idle _ _,h.rely T c⟩
theorem RT.loop(T:fU R D){c}(h:RT P main R D Stop S (G (b.at a (.code c::.inLoop c::k)) cs) w):RT P main R D Stop S (G (b.at a (.code (.loop c)::k)) cs) w:=.one rfl λe d=>by rw[stepG_loop];rw[goes_go,cZ];exact⟨T.idle _ _,h.rely T d⟩
theorem RT.inLoop(T:fU R D){c}(h:RT P main R D Stop S (G (b.at a (.code c::.inLoop c::k)) cs) w):RT P main R D Stop S (G (b.at a (.inLoop c::k)) cs) w:=.one rfl λe d=>by rw[stepG_inLoop];rw[goes_go,cZ];exact⟨T.idle _ _,h.rely T d⟩
theorem RT.exit(T:fU R D){id d}(f:exitTo id k=some d)(h:RT P main R D Stop S (G (b.at a d) cs) w):RT P main R D Stop S (G (b.at a (.code (.exit id)::k)) cs) w:=.one rfl λe c=>by rw[stepG_exit f];rw[goes_go,cZ];exact⟨T.idle _ _,h.rely T c⟩
theorem RT.ret(T:fU R D)(h:RT P main R D Stop S (G {b.at a (.code .ret::k)with mode:=.returning} cs) w):RT P main R D Stop S (G (b.at a (.code .ret::k)) cs) w:=.one rfl λd c=>by rw[stepG_ret'];rw[goes_go,cZ];exact⟨T.idle _ _,h.rely T c⟩
theorem RT.ends(T:fU R D)(h:RT P main R D Stop S (G {b.at a []with mode:=.returning} cs) w):RT P main R D Stop S (G (b.at a []) cs) w:=.one rfl λd c=>by rw[stepG_end];rw[goes_go,cZ];exact⟨T.idle _ _,h.rely T c⟩
theorem RT.region(T:fU R D){id c}(h:RT P main R D Stop S (G (b.at a (.inRegion c (List.range c.size)::k)) cs) w):RT P main R D Stop S (G (b.at a (.code (.region id c false)::k)) cs) w:=.one rfl λe d=>by rw[stepG_region];rw[goes_go,cZ];exact⟨T.idle _ _,h.rely T d⟩
theorem RT.nil(T:fU R D){d}(h:RT P main R D Stop S (G (b.at a k) cs) w):RT P main R D Stop S (G (b.at a (.inRegion d []::k)) cs) w:=.one rfl λe c=>by rw[stepG_region_end];rw[goes_go,cZ];exact⟨T.idle _ _,h.rely T c⟩
theorem RT.draw(T:fU R D){id d}(h:∀c,R S w c->∀t,RT P main R D Stop S (G (b.at a (.inRegion d (Region.schedule (P.follows .mixedOrders) d t)::k)) cs) {c with drawn:=c.drawn+1}):RT P main R D Stop S (G (b.at a (.code (.region id d true)::k)) cs) w:=.one rfl λc e=>by rw[stepG_region_draw];rw[goes_go,pd S (w:=c) (w':={c with drawn:=c.drawn+1}) rfl];exact⟨T.draw _ _,h c e _⟩
theorem RT.op{e i rest o}(l:e[i]?=some o)(hw:Region.wanted o (yielded e a.tmps)=true)(m:b.kind≠.early)
  (h:∀c,R S w c->∀K,(∀j w',D S c w' (listed P b.fn a o c)/\RT P main R D Stop (grow S c w') (G (b.at j (.inRegion e rest::k)) cs) w'->K j w')->uponK o a K ((execOp a.eval o).run P c)):
  RT P main R D Stop S (G (b.at a (.inRegion e (i::rest)::k)) cs) w:=by
 refine .one rfl λc f=>goes_oper l hw m ?_;have:=h c f _ λ_ _ x=>x
 revert this
 cases(execOp a.eval o).run P c with
 |ok x w'=>cases x<;>first|exact λ⟨d,g⟩=>⟨d,g⟩|exact id
 |halt _ _=>exact id
def lI(P:Program)(main:Bool)(R:(Nat->Prop)->aC->aC->Prop)(D:(Nat->Prop)->aC->aC->aY Event->Prop)(f:FuncId)(b:aY aF)(S:Nat->Prop)(w:aC)(a:aF->(Nat->Prop)->aC->Prop):Prop:=
 ∀(Stop:(Nat->Prop)->bU->aC->Prop)(c:Frame)(cs:aB Frame),(∀v d e,a v d e->RT P main R D Stop d (G (c.finish v) cs) e)->RT P main R D Stop S (G (Frame.enter P f b .normal) (c::cs)) w
theorem lI.mono{f d S w b a}(h:lI P main R D f d S w b)(i:∀v S w,b v S w->a v S w):lI P main R D f d S w a:=
 λStop c cs j=>h Stop c cs λv e g x=>j v e g (i v e g x)
theorem RT.call(T:fU R D){d i rest o f q args ats Post}(r:d[i]?=some o)(hw:Region.wanted o (yielded d a.tmps)=true)(y:b.kind≠.early)(j:o.op=.call {callee:=.value (.func f),args,argTypes:=ats})
  (s:P.funcs[f]?=some q) (e:(q.name== "runtime.NumGoroutine")=false) (t:q.body.isNone=false)
  (g:∀c,R S w c->lI P main R D f (args.map a.eval) S c Post) (h:∀v n p,Post v n p->RT P main R D Stop n (G (b.at (a.put o.dst v) (.inRegion d rest::k)) cs) p):
  RT P main R D Stop S (G (b.at a (.inRegion d (i::rest)::k)) cs) w:=by
 let l:∀v,(b.at a (.inRegion d (i::rest)::k)).finish v=b.at (a.put o.dst v) (.inRegion d rest::k):=λv=>by rw[Frame.finish_at,r];rfl
 refine .one rfl λc m=>?_;let u:listed P b.fn a o c=#[]:=by unfold listed;rw[events_call_body j s e t];exact seen_none P _
 rw[stepG_enter r hw y (run_call_body j s e t),u];refine⟨T.idle _ _,by rw[cZ];exact g c m Stop _ cs λv n p x=>by rw[l];exact h v n p x⟩
theorem Jj{e d c v}(h:b.kind=.normal)(f:a.defers=[])(i:P.funcs[b.fn]?=some e)(g:(results e a.tmps).run P w=.ok v w):
  stepG P main (G {b.at a d with mode:=.returning} (c::cs)) w=.go (G (c.finish v) cs) w (seen P b.fn ((results e a.tmps).events P w #[])):=by
 simp[G,stepG,unwind,doReturn,Frame.at,h,f,i,g,GStep.after]
theorem RT.leave(T:fU R D){g f c v}(k:b.kind=.normal)(j:a.defers=[])(l:P.funcs[b.fn]?=some g)(i:∀d,R S w d->(results g a.tmps).run P d=.ok v d/\D S d d (seen P b.fn ((results g a.tmps).events P d #[])))
  (h:RT P main R D Stop S (G (c.finish v) cs) w):RT P main R D Stop S (G {b.at a f with mode:=.returning} (c::cs)) w:=
 .one rfl λd e=>by rw[Jj k j l (i d e).1];rw[goes_go,cZ];exact⟨(i d e).2,h.rely T e⟩
end
end Lf
namespace Lf
open Go
def gh:Next->Prop
 |.value _|.skip|.enter .. |.round .. |.defer _|.recover|.spawn _|.comm .. |.coroswitch .. =>True
 |.row r _=>r= "runtime.print$piece"
 |_=>False
def Plain(P:Program):Prop:=∀(f:FuncId)(a:Func),P.funcs[f]?=some a->a.name≠ "runtime.NumGoroutine"/\(a.body.isNone=true->Extern.findNext a=none/\∀e,Extern.find a=some e->∀b,Fit P (λ_=>True) 0 (e b))
variable{P:Program}
theorem gI{s}(h:Fit P (λ_=>True) 0 s):Fit P gh 0 (do pure (.value (<-s)):Sem Next):=bV h λ_=>⟨rfl,trivial⟩
theorem SJ{s}(h:Fit P (λ_=>True) 0 s):Fit P gh 0 (do s;pure .skip:Sem Next):=bV h λ_=>⟨rfl,trivial⟩
theorem SH{n}(h:gh n):Fit P gh 0 (pure n):=⟨rfl,h⟩
theorem SG(d){a M}{f:Bool->Sem a}(c:∀b,Fit P M d (f b)):Fit P M d (Extern.PrintPieces.held>>=f):=by
 unfold Extern.PrintPieces.held;intro v;show Fit P M d (Sem.bind _ f);cases v<;>first|exact c _|exact .inr rfl
theorem Kr(n b):Fit P (λ_=>True) 0 (writeFd n b):=by
 unfold writeFd;refine⟨⟨_,rfl,rfl⟩,λr=>?_⟩;cases r<;>first|exact .inl rfl|exact⟨rfl,trivial⟩
theorem Gl(x y a):Fit P gh 0 (Extern.PrintPieces.piece x y a):=by
 unfold Extern.PrintPieces.piece;split
 .rename_i first _
  split
  .rename_i p _
   extract_lets last j1 j2 j3 j4 j5
   let e:Fit P gh 0 (j1 ()):=⟨rfl,trivial⟩;let c:Fit P gh 0 (j2 ()):=by
    refine bV (Kr _ _) λ_=>eK ⟨rfl,rfl⟩ (eK ?_ e);exact e
   let d:=c;let f:Fit P gh 1 (j4 ()):=by
    show Fit P gh 1 (if(!last)=true then _ else _);split
    .exact d
    .exact d
   let g:Fit P gh 0 (j5 ()):=by
    show Fit P gh 0 (if first=true then _ else _);split
    .show Fit P gh 1 (Extern.PrintPieces.held>>=_);refine SG 1 λb=>?_;split
     .exact .inr rfl
     .exact f
    .exact c
   exact eK (.inl rfl) g
  .exact aH P _
 .exact aH P _
theorem aaj{d c:Type}{l:aB d}:∀{f:(a:d)->a∈l->c->Sem (ForInStep c)}(_:∀a h b,Fit P (λ_=>True) 0 (f a h b))(b),Fit P (λ_=>True) 0 (forIn' l b f):=by
 induction l with
 |nil=>intro f _ b;rw[List.forIn'_nil];exact aO P _
 |cons a l g=>intro f e b;rw[List.forIn'_cons];refine bV (e _ _ _) λr=>?_;split<;>first|exact aO P _|exact g (λ_ _ _=>e _ _ _) _
theorem aak{c}{l:Std.Legacy.Range}{f:(a:Nat)->a∈l->c->Sem (ForInStep c)}(d:∀a h b,Fit P (λ_=>True) 0 (f a h b))(_l:Std.Legacy.Range)(b):Fit P (λ_=>True) 0 (forIn' l b f):=by
 rw[Std.Legacy.Range.forIn'_eq_forIn'_range'];exact aaj (λ_ _ _=>d _ _ _) _
theorem IB(t v):Fit P (λ_=>True) 0 (Builtin.printOne t v):=by
 unfold Builtin.printOne;refine bV (cU P _) λi=>?_
 extract_lets j
 let a:Fit P (λ_=>True) 0 (j ()):=by
  simp-zeta only[j];cases v with
  |pointer r=>cases r<;>first|exact aO P _|exact bJ P _
  |map r=>cases r<;>first|exact aO P _|exact bJ P _
  |chan r=>cases r<;>first|exact aO P _|exact bJ P _
  |slice r _ _=>cases r<;>first|exact aO P _|exact bJ P _
  |_=>first|exact aO P _|exact bJ P _|exact aH P _
 split
 .exact eK (bV (bJ P _) λ_=>a) a
 .exact a
theorem MR(a b c d):Fit P (λ_=>True) 0 (Builtin.pieces a b c d):=by
 unfold Builtin.pieces;refine bV (aak (λi _ b=>?_) [0:0] _) λg=>(eK (aO P _) (aO P _))
 .extract_lets out' cst j
  let f:∀o e,Fit P (λ_=>True) 0 (j o e):=by
   intro o e;simp-zeta only[j];split
   .refine bV (IB _ _) λl=>bV (Ys (λ_ _=>aO P _) _ _) λ_=>aO P _
   .exact aH P _
  exact eK (f () _) (f () _)
theorem CO(a b c d):Fit P gh 0 (Builtin.printMarked a b c d):=by
 unfold Builtin.printMarked;refine bV (MR _ _ _ _) λps=>?_;exact eK ⟨rfl,trivial⟩ (Gl _ _ _)
theorem Kn(a b c d e):Fit P gh 0 (builtin a b c d e):=by
 unfold builtin;cases a
 all_goals first
  |exact gI (wO P _ _ _)|exact gI (AB P _ _ _)|exact gI (xx P _ _ _)|exact gI (xy P _ _ _)
  |exact gI (uS P _ _ _)|exact gI (yH P _ _ _)|exact gI (wP P _ _ _)|exact gI (yI P _ _ _)
  |exact gI (rF P _ _ _)|exact gI (AE P _ _ _)|exact gI (AG P _ _ _)|exact gI (uf P _)
  |exact CO _ _ _ _|exact gI (yJ P _ _ _)|exact SH (n:=.recover) trivial|exact aH P _|exact gI (jA P _ _ _)
  |exact gI (qV P _ _ _)|exact gI (ot P _ _ _)|exact gI (qq P _ _ _)|exact gI (nY P _ _ _)
  |exact bV (cU P _) λ_=>⟨rfl,trivial⟩|exact bJ P _
theorem jF{a L}(e):Fit P L 0 (runtimePanic e:Sem a):=by
 unfold runtimePanic
 repeat' (first|(with_reducible exact mh P _)|(with_reducible exact aH P _)|(with_reducible exact bJ P _)|(with_reducible exact aO P _)|(with_reducible apply dX)|(with_reducible apply lQ)|(with_reducible apply kC)|(with_reducible apply jD)|(with_reducible apply cU)|(with_reducible apply bV)|(intro _)|split|(dsimp only))
theorem td(h:Plain P)(f b):Fit P gh 0 (callFunc f b):=by
 unfold callFunc;show Fit P gh 0 (match P.funcs[f]? with|none=>_|some c=>_);cases g:P.funcs[f]? with
 |none=>exact aH P _
 |some c=>
  let⟨hn,hb⟩:=h f c g;let Z6:(c.name== "runtime.NumGoroutine")=false:=by simpa using hn
  simp only[Z6,gD,fx];by_cases a:c.body.isNone=true
  .let⟨h1,h2⟩:=hb a;simp only[a,fA,h1];refine bV (lO P aE aE) λ_=>?_;cases d:Extern.find c with
   |some e=>exact gI (h2 e d b)
   |none=>exact eK ⟨rfl,trivial⟩ (bJ P _)
  .simp only[a,fx,gD];exact⟨rfl,trivial⟩
theorem ve(d:Plain P)(a b c):Fit P gh 0 (callMethod a b c):=by
 unfold callMethod;split
 .exact bV (dX P) λ_=>bV (MP P _ _ _ _) λ_=>td d _ _
 .exact jF _
 .exact aH P _
theorem Qc(a b):Fit P gh 0 (Instr.yield a b):=by
 unfold Instr.yield;refine bV (gH P _) λr=>?_
 extract_lets j
 exact eK (bV (aH P _) λ_=>⟨rfl,trivial⟩) ⟨rfl,trivial⟩
theorem tu(b:Plain P)(t a):Fit P gh 0 (invoke t a):=by
 unfold invoke;split
 .exact jF _
 .exact Kn _ _ _ _ _
 .exact td b _ _
 .split
  .exact ve b _ _ _
  .exact aH P _
 .split
  .refine bV (cQ P _) λ_=>?_
   extract_lets j
   exact ve b _ _ _
  .exact aH P _
 .split
  .exact bV (CQ P _ _ _ _) λ_=>td b _ _
  .exact aH P _
 .exact Qc _ _
 .exact aH P _
 .exact⟨rfl,trivial⟩
theorem MO(d:Plain P)(c o):Fit P gh 0 (execOp c o):=by
 unfold execOp
 extract_lets v u
 have a:∀s,Fit P (λ_=>True) 0 s->Fit P gh 0 (v s):=λs h=>gI h;have b:∀s,Fit P (λ_=>True) 0 s->Fit P gh 0 (u s):=λs h=>SJ h
 clear_value v u
 split
 all_goals first
  |exact⟨rfl,trivial⟩
  |exact a _ (CD P _ _ _)
  |exact a _ (FI P _ _)
  |exact a _ (CF P _ _)
  |exact a _ (uX P _ _ _)
  |exact a _ (AH P _ _)
  |exact b _ (yS P _ _ _)
  |exact b _ (CK P _)
  |exact a _ (CM P _)
  |exact a _ (Iy P _ _)
  |exact a _ (Kp P _ _ _)
  |exact a _ (yL P _ _)
  |exact a _ (rG P _ _)
  |exact a _ (xC P _ _ _)
  |exact a _ (yQ P _ _)
  |exact a _ (xB P _ _)
  |exact a _ (wU P _ _ _)
  |exact a _ (yR P _ _ _ _ _)
  |exact a _ (yO P _ _ _)
  |exact a _ (CH P _ _ _)
  |exact a _ (yP P _ _ _)
  |exact a _ (CI P _ _ _)
  |exact a _ (AI P _ _ _ _)
  |exact b _ (wV P _ _ _ _)
  |exact a _ (xD P _ _ _)
  |exact b _ (uY P _ _ _ _)
  |exact a _ (CJ P _ _)
  |exact a _ (DQ P _ _ _)
  |exact a _ (CG P _)
  |exact a _ (u7 P _ _ _ _)
  |exact a _ (yN P _ _)
  |exact a _ (uf P _)
  |exact a _ (bV (Kq P _ _ _ _ _ _) λ_=>Qa P _ _ _ _)
  |exact bV (s_ P _) λ_=>⟨rfl,trivial⟩
  |exact bV (qC P _ _ _) λ_=>tu d _ _
  |exact bV (qC P _ _ _) λ_=>⟨rfl,trivial⟩
  |skip
 .split
  .exact jF _
  .exact jF _
  .exact jF _
  .split
   .exact jF _
   .refine bV (dX P) λ_=>bV (Iz P _ _ _ _) λ_=>?_;exact eK (bV (bJ P _) λ_=>⟨rfl,trivial⟩) ⟨rfl,trivial⟩
   .exact⟨rfl,trivial⟩
  .exact⟨rfl,trivial⟩
 .refine bV (cQ P _) λ_=>?_;split
  .exact bV (eH P _) λ_=>⟨rfl,trivial⟩
  .exact aH P _
 .refine bV (fAm (λ_=>bV (eH P _) λ_=>aO P _) _) λ_=>⟨rfl,trivial⟩
end Lf
namespace Lf
open Go Go.Conc
variable{P:Program}
def vn(d:Nat)(e:Event):Nat:=match e.loc with|.mark .disable=>d+1|.mark .enable=>d-1|_=>d
theorem ic(d a):deafBehind d a=a.foldl vn d:=rfl
theorem gK(d a e):deafBehind d (a.push e)=vn (deafBehind d a) e:=by
 rw[ic,ic,Array.foldl_push]
theorem pK(d b a):deafBehind d (b++a)=deafBehind (deafBehind d b) a:=by
 simp only[ic,Array.foldl_append]
theorem rz(d)(l:aB a_)(wr at_):deafBehind d (l.toArray.map λa=>(⟨.cell a,wr,at_⟩:Event))=d:=by
 rw[ic]
 induction l generalizing d with
 |nil=>simp
 |cons a l b=>have:=b d;simp at this⊢;exact this
def jq{a:Type}:Result a->Bool
 |.ok _ _=>true
 |.halt (.panic _) _|.halt .goexit _=>true
 |_=>false
theorem Lm{b}{r:Result b}(h:jq r=true):Ug r=true:=by
 cases r with
 |ok a w=>rfl
 |halt x w=>cases x<;>first|rfl|(simp[jq]at h)
theorem Eg(w:aC)(a s b){c}:jq (.halt (w.noCell a s) b:Result c)=false:=by
 unfold World.noCell;split<;>rfl
theorem Kh{p}{w:aC}{a b h}(c:w.farLoad p a b=.error h)(e){d}:jq (.halt h e:Result d)=false:=by
 unfold World.farLoad at c;split at c
 .split at c
  .cases c
  .cases c;rfl
 .cases c;exact Eg _ _ _ _
theorem Iw{p}{w:aC}{a v b h}(c:w.farStore p a v b=.error h)(e){d}:jq (.halt h e:Result d)=false:=by
 unfold World.farStore at c;split at c
 .split at c
  .cases c
  .cases c;rfl
 .cases c;exact Eg _ _ _ _
theorem GZ{A L}(s:Sem A):∀n (w j) (b),Fit P L n s->jq (s.runT P w j).1=true->deafBehind b j=n->deafBehind b (s.runT P w j).2=0:=by
 induction s with
 |pure a=>exact λn w j b f _ g=>g.trans f.1
 |load m a k i=>
  intro n w j b f d g;simp only[Sem.runT]at d⊢;cases hw:w.cell? a with
  |some v=>simp only[hw]at d⊢;exact i v n w _ b (f v) d (by rw[gK,g];rfl)
  |none=>
   simp only[hw]at d⊢;cases l:w.farLoad P a (m==.atomic)with
   |ok x=>obtain⟨v,t⟩:=x;simp only[l]at d⊢;exact i v n w _ b (f v) d (by rw[pK,g,rz])
   |error e=>simp only[l]at d;rw[Kh l]at d;cases d
 |store m a v k i=>
  intro n w j b f d g;cases v with
  |agg x=>cases d
  |tuple x=>cases d
  |_=>
   simp only[Sem.runT]at d⊢;cases hw:w.cell? a with
   |some u=>
    simp only[hw]at d⊢;split at d
    .cases d
    .rename_i p;simp only[p,fx,gD];exact i n _ _ b f d (by rw[gK,g];rfl)
   |none=>
    simp only[hw]at d⊢;cases l:w.farStore P a _ (m==Mode.atomic)with
    |ok x=>obtain⟨B,t⟩:=x;simp only[l]at d⊢;exact i n B _ b f d (by rw[pK,g,rz])
    |error e=>simp only[l]at d;rw[Iw l]at d;cases d
 |new o k i=>exact λn w j b f d g=>i w.heap.size n _ j b (f _) d g
 |shape r k i=>exact λn w j b f d g=>i (w.shape? r) n w j b (f _) d g
 |freeze a c k i=>exact λn w j b f d g=>i n _ j b f d g
 |frozen a k i=>exact λn w j b f d g=>i (w.frozen? a) n w j b (f _) d g
 |getObj r k i=>
  intro n w j b f d g;simp only[Sem.runT]at d⊢;cases hw:w.heap[r]? with
  |none=>simp only[hw]at d;cases d
  |some o=>
   cases o with
   |cells c t z=>simp only[hw]at d;cases d
   |_=>simp only[hw]at d⊢;exact i _ n w _ b (f _) d (by rw[gK,g];rfl)
 |setObj r o k i=>
  intro n w j b f d g;simp only[Sem.runT]at d⊢;cases hw:w.heap[r]? with
  |none=>simp only[hw]at d;cases d
  |some x=>
   cases x with
   |cells c t z=>simp only[hw]at d;cases d
   |_=>simp only[hw]at d⊢;exact i n _ _ b f d (by rw[gK,g];rfl)
 |choose q k i=>
  intro n w j b f d g;simp only[Sem.runT]at d⊢;by_cases y:q.forced=true
  .simp only[y,fA]at d⊢;exact i 0 n w j b (f _) d g
  .simp only[y,fx,gD]at d⊢;exact i _ n _ j b (f _) d g
 |sys c k i=>exact λn w j b f d g=>i _ n _ _ b (f.2 _) d (by rw[gK,g];rfl)
 |program k i=>exact λn w j b f d g=>i P n w j b f d g
 |mark m k i=>
  intro n w j b f d g;apply i _ w _ b f d;rw[gK,g];cases m<;>rfl
 |halt h=>
  intro n w j b f d g;obtain f|f:=f
  .exact g.trans f
  .simp only[Sem.runT]at d;cases h<;>first|(simp[jq]at d;done)|(simp[Ends]at f;done)
theorem A7{i L}(s):∀(n:Nat)(w f){a:i}{g},Fit P L n s->(s.runT P w f).1=.ok a g->L a:=by
 induction s with
 |pure a=>intro n w f b g d h;simp only[Sem.runT,Result.ok.injEq]at h;exact h.1▸d.2
 |load m a k e=>
  intro n w f b g d h;simp only[Sem.runT]at h;split at h
  .exact e _ n _ _ (d _) h
  .split at h
   .exact e _ n _ _ (d _) h
   .cases h
 |store m a v k e=>
  intro n w f b g d h;cases v with
  |agg x=>cases h
  |tuple x=>cases h
  |_=>
   simp only[Sem.runT]at h;split at h
   .split at h
    .cases h
    .exact e n _ _ d h
   .split at h
    .exact e n _ _ d h
    .cases h
 |new o k e=>intro n w f b g d h;exact e _ n _ _ (d _) h
 |shape r k e=>intro n w f b g d h;exact e _ n _ _ (d _) h
 |freeze a c k e=>intro n w f b g d h;exact e n _ _ d h
 |frozen a k e=>intro n w f b g d h;exact e _ n _ _ (d _) h
 |getObj r k e=>
  intro n w f b g d h;simp only[Sem.runT]at h;split at h
  .cases h
  .exact e _ n _ _ (d _) h
  .cases h
 |setObj r o k e=>
  intro n w f b g d h;simp only[Sem.runT]at h;split at h
  .cases h
  .exact e n _ _ d h
  .cases h
 |choose q k e=>
  intro n w f b g d h;simp only[Sem.runT]at h;split at h
  .exact e _ n _ _ (d _) h
  .exact e _ n _ _ (d _) h
 |sys c k e=>intro n w f b g d h;exact e _ n _ _ (d.2 _) h
 |program k e=>intro n w f b g d h;exact e _ n _ _ d h
 |mark m k e=>intro n w f b g d h;exact e _ _ _ d h
 |halt x=>intro n w f b g d h;cases h
def sI(a:aY Event):Prop:=∀e∈a,(e.loc=.mark .disable\/e.loc=.mark .enable)->e.sync=true
theorem sI.push{b e}(h:sI b)(c:(e.loc=.mark .disable\/e.loc=.mark .enable)->e.sync=true):sI (b.push e):=by
 intro x a;obtain a|rfl:=Array.mem_push.1 a
 .exact h x a
 .exact c
theorem sI.cells{c}(h:sI c)(l:aB a_)(wr at_):sI (c++l.toArray.map λa=>(⟨.cell a,wr,at_⟩:Event)):=by
 intro x b;obtain b|b:=Ck.1 b
 .exact h x b
 .obtain⟨a,_,rfl⟩:=Array.mem_map.1 b;simp
theorem B5{e}(s:Sem e):∀w (d),sI d->sI (s.runT P w d).2:=by
 induction s with
 |pure a=>exact λw d h=>h
 |load m a k b=>
  intro w d h;simp only[Sem.runT];split
  .exact b _ _ _ (h.push aE)
  .split
   .exact b _ _ _ (h.cells _ _ _)
   .exact h
 |store m a v k b=>
  intro w d h;cases v with
  |agg x=>exact h
  |tuple x=>exact h
  |_=>
   simp only[Sem.runT];split
   .split
    .exact h
    .exact b _ _ (h.push aE)
   .split
    .exact b _ _ (h.cells _ _ _)
    .exact h
 |new o k b=>exact λw d h=>b _ _ _ h
 |shape r k b=>exact λw d h=>b _ _ _ h
 |freeze a c k b=>exact λw d h=>b _ _ h
 |frozen a k b=>exact λw d h=>b _ _ _ h
 |getObj r k b=>
  intro w d h;simp only[Sem.runT];split
  .exact h
  .exact b _ _ _ (h.push aE)
  .exact h
 |setObj r o k b=>
  intro w d h;simp only[Sem.runT];split
  .exact h
  .exact b _ _ (h.push aE)
  .exact h
 |choose q k b=>
  intro w d h;simp only[Sem.runT];split<;>exact b _ _ _ h
 |sys c k b=>exact λw d h=>b _ _ _ (h.push aE)
 |program k b=>exact λw d h=>b _ _ _ h
 |mark m k b=>exact λw d h=>b _ _ (h.push aE)
 |halt x=>exact λw d h=>h
theorem Ha(j){d}(h:sI d)(b):deafBehind b (seen P j d)=deafBehind b d:=by
 unfold seen;let⟨l⟩:=d;let g:∀(l:aB Event)(q:Bool)(kept:aY Event),(∀e∈l,(e.loc=.mark .disable\/e.loc=.mark .enable)->e.sync=true)->
   deafBehind b (l.foldl (λ(x:Bool×aY Event) e=>match x with|(q,kept)=>match e.loc with|.mark (.extern f)=>((P.funcs[f]?).any (·.norace),kept)|_=>(q,if q&& !e.sync then kept else kept.push e)) (q,kept)).2=l.foldl vn (deafBehind b kept):=by
  intro l
  induction l with
  |nil=>intro q kept _;rfl
  |cons e l n=>
   intro q kept k;simp only[Cm];let xf:=λx o=>k x (sw _ o);let c:=k e aE;split
   .rename_i f r;rw[n _ _ xf];congr 1;simp[vn,r]
   .rename_i p;rw[n _ _ xf];congr 1;split
    .rename_i m;let a:e.sync=false:=by simp at m;exact m.2
     unfold vn;split
     .rename_i i;rw[c (.inl i)]at a;cases a
     .rename_i i;rw[c (.inr i)]at a;cases a
     .rfl
    .rw[gK]
 have:=g l ((P.funcs[j]?).any (·.norace)) #[] λe c=>h e (by simpa using c);simp only[List.foldl_toArray]at this⊢;apply this.trans;rw[ic,ic];simp
end Lf
namespace Lf
open Go Go.Conc
variable{P:Program}
def cX:Item->Prop
 |.extern row _=>row= "runtime.print$piece"
 |.call .. =>False
 |_=>True
def bK(b:Frame):Prop:=∀a∈b.todo,cX a
def lowest(g:bU):Frame:=g.callers.getLast?.getD g.frame
structure oI(g:bU):Prop where
 frame:bK g.frame
 callers:∀fr∈g.callers,bK fr
 dying:∀d,g.dying=some d->d.calling=true->(lowest g).kind=.report
def Local(dying:Bool)(F:aC->GStep)(w:aC):Prop:=
 match F w with
 |.go g e f=>oI g/\(dying=true->g.dying≠none)/\(∀t,g.status≠.sleeping t)/\g.status≠.parked/\
   (g.dying=none->g.status=.running->g.offers=none/\deafBehind 0 f=0/\∃m,e=re e w.tape (w.drawn+m)/\∀a d,Alike w m a d->F (re w a d)=.go g (re e a (d+m)) f)
 |.comm g h b i e f=>oI g/\g.status=.running/\(dying=true->g.dying≠none)/\
   (g.dying=none->g.offers=none/\deafBehind 0 f=0/\∃m,e=re e w.tape (w.drawn+m)/\∀a d,Alike w m a d->F (re w a d)=.comm g h b i (re e a (d+m)) f)
 |.coroswitch g c x e f=>oI g/\g.status=.running/\(dying=true->g.dying≠none)/\
   (g.dying=none->g.offers=none/\deafBehind 0 f=0/\∃m,e=re e w.tape (w.drawn+m)/\∀a d,Alike w m a d->F (re w a d)=.coroswitch g c x (re e a (d+m)) f)
 |.spawn .. =>True
 |.ended .. =>True
 |_=>False
theorem fL{fr}(h:bK fr)(v):bK (fr.finish v):=by
 unfold Frame.finish;split
 all_goals rename_i b
 all_goals intro c a
 .simp only[gp]at a;obtain rfl|a:=a
  .exact trivial
  .exact h c (b▸sw _ a)
 .simp only[gp]at a;obtain rfl|a:=a
  .exact trivial
  .exact h c (b▸sw _ a)
 .exact h c (b▸sw _ a)
 .exact(h (.call _ _ _ _) (b▸CZ):False).elim
 .exact h c (b▸sw _ a)
 .exact h c a
theorem mR{fr}(h:bK fr){fr'}(c:∀a∈fr'.todo,a∈fr.todo\/cX a):bK fr':=λa b=>(c a b).elim (h a) id
theorem iN(f b k):bK (Frame.enter P f b k):=by
 intro c a;simp only[Frame.enter,sA]at a;subst a;exact trivial
theorem xi(l f t a b k):bK (Frame.round l f t a b k):=by
 intro d c;simp only[Frame.round,gp,iW,oF]at c;obtain rfl|rfl|rfl:=c<;>exact trivial
theorem BQ(b k):bK (Frame.ofRow P "runtime.print$piece" b k):=by
 intro c a;simp only[Frame.ofRow,sA]at a;subst a;rfl
theorem g_{fr}(h:bK fr){fr'}(a:fr'.todo=fr.todo):bK fr':=by unfold bK;rw[a];exact h
theorem iO{a}(h:bK a)(vs):bK (a.raise vs):=by unfold Frame.raise;split<;>exact g_ h rfl
theorem iL(fr:Frame)(v):(fr.finish v).kind=fr.kind:=by unfold Frame.finish;split<;>rfl
theorem lU(a:Frame)(v):(a.raise v).kind=a.kind:=by unfold Frame.raise;split<;>rfl
theorem oI.top{g}(h:oI g){a}(e:bK a)(i:a.kind=g.frame.kind)(st off):oI {frame:=a,callers:=g.callers,status:=st,dying:=g.dying,offers:=off}:=by
 refine⟨e,h.callers,λd c f=>?_⟩;have:=h.dying d c f;unfold lowest at this⊢;cases b:g.callers.getLast? with
 |none=>rw[b]at this;simp only[Option.getD_none]at this⊢;rw[i];exact this
 |some x=>rw[b]at this;simp only[ig]at this⊢;exact this
theorem oI.push{g}(h:oI g){i a}(l:bK i)(f:bK a)(n:a.kind=g.frame.kind)(st):oI {frame:=i,callers:=a::g.callers,status:=st,dying:=g.dying}:=by
 refine⟨l,λx c=>?_,λd j m=>?_⟩
 .obtain rfl|c:=gp.1 c
  .exact f
  .exact h.callers x c
 .have:=h.dying d j m;unfold lowest at this⊢;cases b:g.callers.getLast? with
  |none=>
   let k:g.callers=[]:=by simpa using b
   rw[b]at this;simp only[k,List.getLast?_singleton,ig,Option.getD_none]at this⊢;rw[n];exact this
  |some x=>
   rw[b]at this;let e:(a::g.callers).getLast?=some x:=by
    rw[List.getLast?_cons];simp[b]
   simp only[e,ig];exact this
theorem oI.pop{g}(h:oI g){c rest}(f:g.callers=c::rest){b}(k:bK b)(l:b.kind=c.kind)(st):oI {frame:=b,callers:=rest,status:=st,dying:=g.dying}:=by
 refine⟨k,λx i=>h.callers x (f▸sw _ i),λd j a=>?_⟩;have:=h.dying d j a;unfold lowest at this⊢;rw[f,List.getLast?_cons]at this;cases e:rest.getLast? with
 |none=>simp only[e,Option.getD_none,ig]at this⊢;rw[l];exact this
 |some x=>simp only[e,ig]at this⊢;exact this
theorem oI.dead{g d}(f:g.dying=some d)(j:d.calling=false)(h:bK g.frame)(b:∀i∈g.callers,bK i):oI g:=
 ⟨h,b,λe c a=>by rw[f]at c;cases c;rw[j]at a;cases a⟩
def Made(dying:Bool){h:Type}(r:Result h)(K:Result h->GStep)(x:GStep):Prop:=match x with
   |.go g f e=>e=#[]/\oI g/\(dying=true->g.dying≠none)/\(∀t,g.status≠.sleeping t)/\g.status≠.parked/\
     (g.dying=none->g.status=.running->g.offers=none/\jq r=true/\∀a d,K (Ph a d r)=.go g (re f a d) #[])
   |.comm g i b j f e=>e=#[]/\oI g/\g.status=.running/\(dying=true->g.dying≠none)/\
     (g.dying=none->g.offers=none/\jq r=true/\∀a d,K (Ph a d r)=.comm g i b j (re f a d) #[])
   |.coroswitch g c x f e=>e=#[]/\oI g/\g.status=.running/\(dying=true->g.dying≠none)/\
     (g.dying=none->g.offers=none/\jq r=true/\∀a d,K (Ph a d r)=.coroswitch g c x (re f a d) #[])
   |.spawn .. =>True
   |.ended .. =>True
   |_=>False
theorem qF{dying F E w w' m}(t:F w=E w')(q:w'=re w' w.tape (w.drawn+m))(s:∀f d,Alike w m f d->F (re w f d)=E (re w' f (d+m)))(h:Local dying E w'):Local dying F w:=by
 have r:w'.tape=w.tape:=by rw[q];rfl
 have p:w'.drawn=w.drawn+m:=by rw[q];rfl
 have k:∀i e (X:aC->GStep),(e=re e w'.tape (w'.drawn+i)/\∀f d,Alike w' i f d->E (re w' f d)=X (re e f (d+i)))->
   ∃n,e=re e w.tape (w.drawn+n)/\∀f d,Alike w n f d->F (re w f d)=X (re e f (d+n)):=by
  rintro i e X ⟨a,b⟩;refine⟨m+i,by rw[r,p]at a;rw[<-qw];exact a,λf d o=>?_⟩;rw[s f d λj u=>o j aA,<-qw];refine b f (d+m) λj u=>?_;rw[r,p];have:=o (m+j) aA;rw[<-qw]at this;rw[this,<-qw]
 unfold Local at h⊢;rw[t];generalize E w'=x at h⊢;cases x with
 |go g e l=>
  have⟨a1,a2,a3,a4,a5⟩:=h;exact⟨a1,a2,a3,a4,λx y=>let⟨b1,b2,i,b3,b4⟩:=a5 x y;⟨b1,b2,k i e (λv=>.go g v l) ⟨b3,b4⟩⟩⟩
 |comm g z b A e l=>
  have⟨a1,a0,a2,a5⟩:=h;exact⟨a1,a0,a2,λx=>let⟨b1,b2,i,b3,b4⟩:=a5 x;⟨b1,b2,k i e (λv=>.comm g z b A v l) ⟨b3,b4⟩⟩⟩
 |coroswitch g c y e l=>
  have⟨a1,a0,a2,a5⟩:=h;exact⟨a1,a0,a2,λx=>let⟨b1,b2,i,b3,b4⟩:=a5 x;⟨b1,b2,k i e (λv=>.coroswitch g c y v l) ⟨b3,b4⟩⟩⟩
 |spawn=>exact trivial
 |ended=>exact trivial
 |_=>exact h.elim
theorem rP{M L s}(E:Fit P L 0 s)(dying D)(K:Result M->GStep)(w){F}
  (G:∀w,∃v,F w=GStep.after v (K (s.runT P w #[]).1)/\(jq (s.runT P w #[]).1=true->v=seen P D (s.runT P w #[]).2\/v=#[])/\
   ∀o,(s.runT P o #[]).2=(s.runT P w #[]).2->jq (s.runT P w #[]).1=true->jq (s.runT P o #[]).1=true->F o=GStep.after v (K (s.runT P o #[]).1))
  (O:Made dying (s.runT P w #[]).1 K (K (s.runT P w #[]).1)):
  Local dying F w:=by
 unfold Local;have⟨ev,hF1,ZW,YY⟩:=G w;have l:=O;unfold Made at l;have i:jq (s.runT P w #[]).1=true->deafBehind 0 ev=0:=λh=>by
  obtain rfl|rfl:=ZW h
  .rw[Ha D (B5 s w #[] λe H=>by simp at H)];exact GZ s 0 w #[] 0 E h rfl
  .rfl
 have j:=λh=>qh P s 0 w #[] E (Lm h);rw[hF1];generalize Q:s.runT P w #[]=x at l i j YY⊢;have⟨r,v⟩:=x;simp only at l i j YY⊢;have n:∀f d,jq (Ph f d r)=jq r:=λf d=>by cases r with|ok a w=>rfl|halt x w=>cases x<;>rfl
 generalize C:K r=k at l⊢;cases k with
 |go g o u=>
  obtain⟨rfl,z,t,N,J,B⟩:=l;refine⟨z,t,N,J,λA I=>?_⟩;have⟨h6,h7,h9⟩:=B A I;have⟨m,e1,e2⟩:=j h7;refine⟨h6,by simpa[GStep.after]using i h7,m,?_,λf d q=>?_⟩
  .have:=h9 w.tape (w.drawn+m);rw[<-e1,C]at this;simp only[GStep.go.injEq,vW,oD]at this;exact this
  .have hw:=e2 f d q;rw[YY (re w f d) (by rw[hw]) h7 (by rw[hw];simp only[n];exact h7),hw];simp only[h9,GStep.after]
 |comm g R b S o u=>
  obtain⟨rfl,z,p,t,B⟩:=l;refine⟨z,p,t,λA=>?_⟩;have⟨h6,h7,h9⟩:=B A;have⟨m,e1,e2⟩:=j h7;refine⟨h6,by simpa[GStep.after]using i h7,m,?_,λf d q=>?_⟩
  .have:=h9 w.tape (w.drawn+m);rw[<-e1,C]at this;simp only[GStep.comm.injEq,vW,oD]at this;exact this
  .have hw:=e2 f d q;rw[YY (re w f d) (by rw[hw]) h7 (by rw[hw];simp only[n];exact h7),hw];simp only[h9,GStep.after]
 |coroswitch g c y o u=>
  obtain⟨rfl,z,p,t,B⟩:=l;refine⟨z,p,t,λA=>?_⟩;have⟨h6,h7,h9⟩:=B A;have⟨m,e1,e2⟩:=j h7;refine⟨h6,by simpa[GStep.after]using i h7,m,?_,λf d q=>?_⟩
  .have:=h9 w.tape (w.drawn+m);rw[<-e1,C]at this;simp only[GStep.coroswitch.injEq,vW,oD]at this;exact this
  .have hw:=e2 f d q;rw[YY (re w f d) (by rw[hw]) h7 (by rw[hw];simp only[n];exact h7),hw];simp only[h9,GStep.after]
 |spawn=>exact trivial
 |ended=>exact trivial
 |_=>exact l.elim
def made(P:Program)(fr:Frame)(callers:aB Frame)(dying:aQ Dying):Result Next->GStep
 |.ok a w=>stepG.apply P false fr callers dying (.pure a) w
 |.halt h w=>stepG.apply P false fr callers dying (.halt h) w
end Lf
namespace Lf
open Go Go.Conc
variable{P:Program}
theorem iy(a):seen P a #[]=#[]:=by simp[seen]
theorem eU(x):GStep.after #[] x=x:=by cases x<;>simp[GStep.after]
theorem uH(b callers dying s w){r es}(h:s.runT P w #[]=(r,es))(c:jq r=true):
  stepG.apply P true b callers dying s w=GStep.after (seen P b.fn (if b.kind==.early then#[]else es)) (made P b callers dying r):=by
 cases r with
 |ok a d=>
  simp only[made];unfold stepG.apply;simp only[h,fA,gD,fx,Sem.run,qP,iy,eU]
 |halt x d=>
  cases x<;>first|(simp[jq]at c;done)|skip
  all_goals
   simp only[made];unfold stepG.apply;simp only[h,fA,gD,fx,Sem.run,qP,iy,eU]
theorem zap{T:bQ}(k:T:=by first|(refine⟨seen P fr.fn (if fr.kind==.early then#[]else es),?_⟩;simp only[made];unfold stepG.apply;simp only[h,fA,gD,fx,Sem.run,qP,iy,eU];done)|(refine⟨#[],?_⟩;simp only[made];unfold stepG.apply;simp only[h,fA,gD,fx,Sem.run,qP,iy,eU];done)):T:=k
theorem JR(fr callers dying s w){r es}(h:s.runT P w #[]=(r,es)):
  ∃b,stepG.apply P true fr callers dying s w=GStep.after b (made P fr callers dying r):=by
 cases r with
 |ok a c=>exact⟨_,uH fr callers dying s w h rfl⟩
 |halt x c=>
  cases x with
  |unsupported u=>cases u<;>exact zap
  |_=>exact zap
theorem Mt(a callers dying s w):
  ∃es,stepG.apply P true a callers dying s w=GStep.after es (made P a callers dying (s.runT P w #[]).1)/\(jq (s.runT P w #[]).1=true->es=seen P a.fn (s.runT P w #[]).2\/es=#[])/\
   ∀b,(s.runT P b #[]).2=(s.runT P w #[]).2->jq (s.runT P w #[]).1=true->jq (s.runT P b #[]).1=true->stepG.apply P true a callers dying s b=GStep.after es (made P a callers dying (s.runT P b #[]).1):=by
 by_cases c:jq (s.runT P w #[]).1=true
 .refine⟨_,uH a callers dying s w rfl c,λ_=>?_,λb e _ f=>?_⟩
  .by_cases d:(a.kind==.early)=true
   .exact .inr (by simp only[d,fA,iy])
   .exact .inl (by simp only[d,fx,gD])
  .rw[<-e];exact uH a callers dying s b rfl f
 .let⟨es',h⟩:=JR a callers dying s w (r:=(s.runT P w #[]).1) (es:=(s.runT P w #[]).2) rfl;exact⟨es',h,λh=>absurd h c,λ_ _ h=>absurd h c⟩
theorem oI.here{fr callers st dying off}(h:oI ⟨fr,callers,st,dying,off⟩){fr'}(c:bK fr')(b:fr'.kind=fr.kind)(a):oI {frame:=fr',callers:=callers,status:=a,dying:=dying}:=
 h.top c b a none
theorem J_{a}(d:bK a)(l m b w dying){c r}(K:Result c->GStep):Made dying r K (dieOf a l m b w):=by
 unfold dieOf Made;exact⟨rfl,oI.dead rfl rfl d (λ_ h=>by cases h),(λ_ h=>by cases h),aE,aE,(λh=>by cases h)⟩
theorem uQ{fr}(b:bK fr)(m w dying){a r}(K:Result a->GStep):Made dying r K (endThrow fr m w):=J_ b _ _ _ _ _ _
theorem Bt{a}(d:bK a)(callers b m w dying){c r}(K:Result c->GStep):Made dying r K (endFatal P a callers b m w):=by
 unfold endFatal;simp only;split
 .exact J_ d _ _ _ _ _ _
 .exact trivial
 .exact trivial
def oO(b a:aB Frame):Prop:=a.map (λf=>(f.todo,f.kind))=b.map λf=>(f.todo,f.kind)
theorem mV:∀{callers:aB Frame}{d v}{b},tryRecover d callers=some (v,b)->oO callers b:=by
 intro callers
 induction callers with
 |nil=>intro d v b h;unfold tryRecover at h;split at h<;>simp_all
 |cons c rest e=>
  intro d v b h;unfold tryRecover at h;split at h
  .rename_i a;cases a;split at h
   .cases h;simp[oO]
   .cases h
  .rename_i a;cases a;let⟨⟨v',Xe⟩,h1,h2⟩:=na.1 h;cases h2;have:=e h1;simp only[oO,gW]at this⊢;rw[this]
  .cases h
theorem yc:∀{callers:aB Frame}{l v}{a},tryRecoverLoop l callers=some (v,a)->oO callers a:=by
 intro callers
 induction callers with
 |nil=>intro l v a h;simp[tryRecoverLoop]at h
 |cons c rest b=>
  intro l v a h;unfold tryRecoverLoop at h;let⟨⟨v',Xe⟩,h1,h2⟩:=na.1 h;cases h2;have:oO rest Xe:=by
   split at h1
   .exact b h1
   .split at h1
    .exact mV h1
    .exact b h1
   .exact b h1
  simp only[oO,gW]at this⊢;rw[this]
theorem oI.sim{g}(h:oI g){b}(l:oO g.callers b):oI {g with callers:=b}:=by
 refine⟨h.frame,λi j=>?_,λd n m=>?_⟩
 .have:(i.todo,i.kind)∈g.callers.map (λf=>(f.todo,f.kind)):=by rw[<-l];exact iX.2 ⟨i,j,rfl⟩
  let⟨f,hf,e⟩:=iX.1 this;exact g_ (h.callers f hf) (by simp only[oC]at e;exact e.1.symm)
 .let a:=h.dying d n m;let e:(b.map λf=>(f.todo,f.kind)).getLast?=(g.callers.map λf=>(f.todo,f.kind)).getLast?:=by rw[l]
  rw[List.getLast?_map,List.getLast?_map]at e;unfold lowest at a⊢;simp only;cases k:g.callers.getLast? with
  |none=>rw[k]at e a;cases c:b.getLast? with
   |none=>exact a
   |some x=>rw[c]at e;cases e
  |some y=>rw[k]at e a;cases c:b.getLast? with
   |none=>rw[c]at e;cases e
   |some x=>rw[c]at e;simp only[HJ,Jt,oC]at e;simp only[ig]at a⊢;rw[e.2];exact a
theorem RM{T:bQ}(h:T:=by intros;simp only[made,stepG.apply,gD,fx,Sem.run,qP,iy,eU]):T:=h
theorem Wx{T Q:bQ}(k:Q) (h:Q->T:=by
 intro hok;rw[e];exact⟨rfl,hok,vk _ rfl,by simp,by simp,λ_ _=>⟨rfl,rfl,λ_ _=>e _⟩⟩):T:=h k
theorem VR{fr}{callers}{dying}(i:oI ⟨fr,callers,.running,dying,none⟩)(r)(hL:∀a o,r=.ok a o->gh a)
  (B:∀g o,r≠.halt (.unsupported (.initOrder g)) o):Made dying.isSome r (made P fr callers dying) (made P fr callers dying r):=by
 have vk:∀g:bU,g.dying=dying->(dying.isSome=true->g.dying≠none):=λg h E=>by rw[h];intro F;rw[F]at E;cases E
 cases r with
 |ok n o=>
  have D:=hL n o rfl;cases n with
  |value v=>
   have e:∀w,made P fr callers dying (.ok (.value v) w)=.go {frame:=fr.finish v,callers,status:=.running,dying} w:=RM;exact Wx (i.here (fL i.frame v) (iL _ _) .running)
  |skip=>
   have e:∀w,made P fr callers dying (.ok .skip w)=.go {frame:=fr.finish undef,callers,status:=.running,dying} w:=RM;exact Wx (i.here (fL i.frame _) (iL _ _) .running)
  |enter f j=>
   have e:∃k,∀w,made P fr callers dying (.ok (.enter f j) w)=.go {frame:=Frame.enter P f j k,callers:=fr::callers,status:=.running,dying} w:=⟨_,λw=>by
    simp only[made,stepG.apply,gD,fx,Sem.run,qP,iy,eU];rfl⟩
   have⟨k,e⟩:=e;exact Wx (i.push (iN _ _ _) i.frame rfl .running)
  |round l f t a b=>
   have e:∀w,made P fr callers dying (.ok (.round l f t a b) w)=.go {frame:=Frame.round l f t a b .normal,callers:=fr::callers,status:=.running,dying} w:=RM;exact Wx (i.push (xi _ _ _ _ _ _) i.frame rfl .running)
  |defer d=>
   have e:∀w,made P fr callers dying (.ok (.defer d) w)=.go {frame:=({fr with defers:=d::fr.defers}:Frame).finish undef,callers,status:=.running,dying} w:=RM;exact Wx (i.here (fr':=({fr with defers:=d::fr.defers}:Frame).finish undef) (fL (fr:={fr with defers:=d::fr.defers}) (g_ (fr:=fr) i.frame rfl) _) (by rw[iL]) .running)
  |spawn d=>
   have e:(∃m,made P fr callers dying (.ok (.spawn d) o)=endThrow fr m o)\/∃g c,made P fr callers dying (.ok (.spawn d) o)=.spawn g c o:=by
    simp only[made,stepG.apply,gD,fx,Sem.run,qP,iy,eU]
    repeat' split
    all_goals first|exact .inl ⟨_,rfl⟩|exact .inr ⟨_,_,rfl⟩
   obtain⟨m,e⟩|⟨g,c,e⟩:=e
   .rw[e];exact uQ i.frame m o _ _
   .rw[e];exact trivial
  |comm q b C=>
   have e:∀w,made P fr callers dying (.ok (.comm q b C) w)=.comm {frame:=fr,callers,status:=.running,dying} q b C w:=RM;rw[e];exact⟨rfl,i,rfl,vk _ rfl,λ_=>⟨rfl,rfl,λ_ _=>e _⟩⟩
  |coroswitch c x=>
   have e:∀w,made P fr callers dying (.ok (.coroswitch c x) w)=.coroswitch {frame:=fr,callers,status:=.running,dying} c x w:=RM;rw[e];exact⟨rfl,i,rfl,vk _ rfl,λ_=>⟨rfl,rfl,λ_ _=>e _⟩⟩
  |row row j=>
   obtain rfl:row= "runtime.print$piece":=D;by_cases y:∃ro A k,fr.todo=.extern ro A::k
   .have⟨ro,A,k,ht⟩:=y;have e:∀w,made P fr callers dying (.ok (.row "runtime.print$piece" j) w)=.go {frame:={fr with todo:=.extern "runtime.print$piece" j::k},callers,status:=.running,dying} w:=λw=>by
     simp only[made,stepG.apply,gD,fx,Sem.run,qP,iy,eU,ht]
    rw[e];refine⟨rfl,i.here (fr':={fr with todo:=.extern "runtime.print$piece" j::k}) (λz s=>?_) rfl _,vk _ rfl,aE,aE,λ_ _=>⟨rfl,rfl,λ_ _=>e _⟩⟩;obtain rfl|s:=gp.1 s
    .rfl
    .exact i.frame z (by show z∈fr.todo;rw[ht];exact sw _ s)
   .have e:∃k,∀w,made P fr callers dying (.ok (.row "runtime.print$piece" j) w)=.go {frame:=Frame.ofRow P "runtime.print$piece" j k,callers:=fr::callers,status:=.running,dying} w:=by
     refine⟨.normal,λw=>?_⟩;cases p:fr.todo with
     |nil=>simp only[made,stepG.apply,gD,fx,Sem.run,qP,iy,eU,p]
     |cons z k=>
      cases z with
      |extern ro A=>exact(y ⟨_,_,_,p⟩).elim
      |call a b c d=>exact(i.frame (.call a b c d) (by show _∈fr.todo;rw[p];exact CZ):False).elim
      |_=>simp only[made,stepG.apply,gD,fx,Sem.run,qP,iy,eU,p]
    have⟨k,e⟩:=e;exact Wx (i.push (BQ _ _) i.frame rfl .running)
  |recover=>
   have e:(∃v q,oO callers q/\∀w,made P fr callers dying (.ok .recover w)=.go {frame:=fr.finish v,callers:=q,status:=.running,dying} w):=by
    simp only[made,stepG.apply,gD,fx,Sem.run,qP,iy,eU];split
    .rename_i v q h;refine⟨v,q,?_,λ_=>rfl⟩;split at h
     .split at h
      .exact mV h
      .exact yc h
     .exact mV h
    .exact⟨_,callers,rfl,λ_=>rfl⟩
   have⟨v,q,hs,e⟩:=e;exact Wx ((i.here (fL i.frame v) (iL _ _) .running).sim hs)
  |_=>exact D.elim
 |halt x o=>
  cases x with
  |panic v=>
   have e:∀w,made P fr callers dying (.halt (.panic v) w)=.go {frame:=fr.raise [{v,recovered:=false}],callers,status:=.running,dying} w:=RM;exact Wx (i.here (iO i.frame _) (lU _ _) .running)
  |goexit=>
   have e:∀w,made P fr callers dying (.halt .goexit w)=.go {frame:=fr.raise [goexitEntry],callers,status:=.running,dying} w:=RM;exact Wx (i.here (iO i.frame _) (lU _ _) .running)
  |blocked=>
   have e:made P fr callers dying (.halt .blocked o)=.go {frame:=fr,callers,status:=.blocked,dying} o:=RM;rw[e];exact⟨rfl,i.here i.frame rfl _,vk _ rfl,aE,aE,λ_ h=>by cases h⟩
  |waiting=>
   have e:made P fr callers dying (.halt .waiting o)=.go {frame:=fr,callers,status:=.waiting,dying} o:=RM;rw[e];exact⟨rfl,i.here i.frame rfl _,vk _ rfl,aE,aE,λ_ h=>by cases h⟩
  |fatal m=>
   have e:made P fr callers dying (.halt (.fatal m) o)=endFatal P fr callers dying m o:=RM;rw[e];exact Bt i.frame callers dying m o _ _
  |throw m=>
   have e:made P fr callers dying (.halt (.throw m) o)=endThrow fr m o:=RM;rw[e];exact uQ i.frame m o _ _
  |unsupported u=>
   cases u with
   |initOrder g=>exact absurd rfl (B g o)
   |_=>
    simp only[made,stepG.apply,gD,fx,Sem.run,qP,iy,eU];exact trivial
  |_=>
   simp only[made,stepG.apply,gD,fx,Sem.run,qP,iy,eU];exact trivial
theorem oI.X8{c callers dying}(h:oI ⟨c,callers,.running,dying,none⟩){f}(i:bK f){l}(b:∀x∈l,bK x):oI {frame:=f,callers:=l++c::callers,status:=.running,dying:=dying}:=by
 refine⟨i,λx a=>?_,λd g e=>?_⟩
 .obtain a|a:=i_.1 a
  .exact b x a
  .obtain rfl|a:=gp.1 a
   .exact h.frame
   .exact h.callers x a
 .have:=h.dying d g e;unfold lowest at this⊢;simp only[List.getLast?_append,List.getLast?_cons]at this⊢;cases b:callers.getLast?<;>simp[b]at this⊢<;>exact this
theorem MA(w b d n):∀l s,P.brought (re w b d) n l s=P.brought w n l s:=by
 induction n with
 |zero=>intro l s;unfold Program.brought;cases l<;>rfl
 |succ n a=>
  intro l s;cases l with
  |nil=>rfl
  |cons f l=>
   unfold Program.brought;simp only[a];rfl
theorem SL(w b d n):∀f,P.found (re w b d) n f=P.found w n f:=by
 induction n with
 |zero=>intro f;rfl
 |succ n a=>
  intro f;unfold Program.found;simp only[a];rfl
theorem KQ{q callers dying}(O:oI ⟨q,callers,.running,dying,none⟩)(g w):Local dying.isSome (λw=>early P q callers dying g w) w:=by
 let vk:∀g:bU,g.dying=dying->(dying.isSome=true->g.dying≠none):=λg h S=>by rw[h];intro N;rw[N]at S;cases S
 let D:∀w a d,(re w a d).heap=w.heap:=λ_ _ _=>rfl;let J:∀w a d n l s,P.brought (re w a d) n l s=P.brought w n l s:=λw a d n l s=>MA w a d n l s;let t:∀w a d n f,P.found (re w a d) n f=P.found w n f:=λw a d n f=>SL w a d n f;let K:∀{F:aC->GStep}(x:bU)(f:aY Obj->aY Obj)(w:aC),oI x->x.dying=dying->x.status=.running->x.offers=none->(∀a d,F (re w a d)=.go x (re {w with heap:=f w.heap} a d))->Local dying.isSome F w:=by
  intro F x f w R T I U G;let N:=G w.tape w.drawn;rw[Ja]at N;unfold Local;rw[N];exact⟨R,vk _ T,by rw[I];simp,by rw[I];simp,λ_ _=>⟨U,rfl,0,rfl,λa d _=>G a d⟩⟩
 let stop:∀{F:aC->GStep}(w:aC){o w' es},F w=.ended o w' es->Local dying.isSome F w:=by
  intro F w o w' es h;unfold Local;rw[h];trivial
 let b:∀{F:aC->GStep}(w:aC),(∀a d,F (re w a d)=match w.heap[g]? with|some (.pending c elem)=>.go {frame:=q,callers,status:=.running,dying} (re {w with heap:=w.heap.setIfInBounds g (.cells c elem)} a d)|_=>.ended (.stuck "early: the variable does not wait" (q.pos P)) (re w a d))->Local dying.isSome F w:=by
  intro F w G;cases hw:w.heap[g]? with
  |none=>exact stop w (by have:=G w.tape w.drawn;rw[hw]at this;exact this)
  |some o=>
   cases o with
   |pending c elem=>exact K _ (λh=>h.setIfInBounds g (.cells c elem)) w (O.here O.frame rfl _) rfl rfl rfl (λa d=>by rw[G,hw])
   |_=>exact stop w (by have:=G w.tape w.drawn;rw[hw]at this;exact this)
 let j:∀w a d (o:aQ Nat),o.bind (re w a d).shape?=o.bind w.shape?:=λ_ _ _ _=>rfl;by_cases p:P.follows .staticDataAhead=true
 .cases r:P.stepOf g with
  |none=>exact stop (o:=.unsupported (.initOrder g) (q.pos P)) (w':=w) (es:=#[]) w (by simp[early,p,r])
  |some f=>
   let i:∀{F:aC->GStep}(w:aC),(∀a d,F (re w a d)=.go {frame:=Frame.enter P f #[] .early,callers:=(if(P.code? f).any P.plainData then(P.brought w (2*P.funcs.size+1) [f] []).drop 1 else[]).map (Frame.enter P · #[] .early)++q::callers,status:=.running,dying} (re w a d))->Local dying.isSome F w:=by
    intro F w G;refine K _ (λh=>h) w (O.X8 (iN _ _ _) λx R=>?_) rfl rfl rfl G;obtain⟨y,_,rfl⟩:=iX.1 R;exact iN _ _ _
   by_cases u:(P.code? f).any P.atRunTime=true
   .exact b w (λa d=>by simp only[early,p,r,u,D,xa,gD,fx,fA];rfl)
   by_cases z:(((P.code? f).bind λc=>(readies c).getLast?).bind w.shape?).isSome=true
   .exact b w (λa d=>by simp only[early,p,r,u,z,D,j,xa,gD,fx,fA];rfl)
   cases B:P.found w P.funcs.size f with
   |unknown=>exact stop (o:=.unsupported (.initOrder g) (q.pos P)) (w':=w) (es:=#[]) w (by simp only[early,p,r,u,z,B,xa,gD,fx])
   |notYet=>
    cases A:(q.kind==.early)with
    |true=>exact stop (o:=.unsupported (.initOrder g) (q.pos P)) (w':=w) (es:=#[]) w (by simp only[early,p,r,u,z,B,A,xa,gD,fx])
    |false=>exact b w (λa d=>by simp only[early,p,r,u,z,B,A,D,j,t,xa,gD,fx];rfl)
   |either=>
    cases A:(q.kind==.early)with
    |true=>exact i w (λa d=>by simp only[early,p,r,u,z,B,A,D,j,t,J,xa,gD,fx])
    |false=>
     by_cases H:(P.code? f).any P.plainData=true
     .exact i w (λa d=>by simp only[early,p,r,u,z,B,A,H,D,j,t,J,xa,gD,fx,fA])
     by_cases L:(P.code? f).any P.bareCopy=true
     .let C:∀w,(choose (.early g)).run P w=.ok ((Question.early g).cut (w.tape w.drawn (.early g))) {w with drawn:=w.drawn+1}:=λw=>by simp[choose,Sem.run,Question.forced]
      let al:∀a d,Alike w 1 a d->a d=w.tape w.drawn:=λa d h=>by have:=h 0 aA;simpa using this
      cases M:(Question.early g).cut (w.tape w.drawn (.early g))with
      |zero=>
       refine qF (E:=λv=>match v.heap[g]? with|some (.pending c elem)=>.go {frame:=q,callers,status:=.running,dying} {v with heap:=v.heap.setIfInBounds g (.cells c elem)}|_=>.ended (.stuck "early: the variable does not wait" (q.pos P)) v) (w':={w with drawn:=w.drawn+1}) (m:=1) ?_ rfl (λa d Q=>?_) (b _ λa d=>?_)
       .simp only[early,p,r,u,z,B,A,H,L,C,M,xa,gD,fx];rfl
       .let e:(Question.early g).cut ((re w a d).tape (re w a d).drawn (.early g))=0:=by show(Question.early g).cut (a d (.early g))=0;rw[al a d Q];exact M
        simp only[early,p,r,u,z,B,A,H,L,D,j,t,C,e,xa,gD,fx];rfl
       .rfl
      |succ k=>
       refine qF (E:=λv=>.go {frame:=Frame.enter P f #[] .early,callers:=(if(P.code? f).any P.plainData then(P.brought w (2*P.funcs.size+1) [f] []).drop 1 else[]).map (Frame.enter P · #[] .early)++q::callers,status:=.running,dying} v) (w':={w with drawn:=w.drawn+1}) (m:=1) ?_ rfl (λa d Q=>?_) (i _ λa d=>?_)
       .simp only[early,p,r,u,z,B,A,H,L,C,M,xa,gD,fx]
       .let e:(Question.early g).cut ((re w a d).tape (re w a d).drawn (.early g))=k+1:=by show(Question.early g).cut (a d (.early g))=k+1;rw[al a d Q];exact M
        simp only[early,p,r,u,z,B,A,H,L,D,j,t,C,e,xa,gD,fx];rfl
       .simp only[H,gD,fx]
     .exact b w (λa d=>by simp only[early,p,r,u,z,B,A,H,L,D,j,t,xa,Bool.not_false,gD,fx,fA];rfl)
 .exact b w (λa d=>by simp only[early,p,D,Bool.not_false,fA];rfl)
theorem qE{fr callers dying}(f:oI ⟨fr,callers,.running,dying,none⟩){s}(c:Fit P gh 0 s)(w):Local dying.isSome (λw=>stepG.apply P true fr callers dying s w) w:=by
 by_cases b:∃g w',(s.runT P w #[]).1=.halt (.unsupported (.initOrder g)) w'
 .let⟨g,w',hr⟩:=b;let⟨m,e1,e2⟩:=qh P s 0 w #[] c (by rw[hr];rfl);let ea:∀w w' e,s.runT P w #[]=(.halt (.unsupported (.initOrder g)) w',e)->stepG.apply P true fr callers dying s w=early P fr callers dying g w':=by
   intro w w' e h;unfold stepG.apply;simp only[h,fA,qP,iy,eU]
  refine qF (E:=λw=>early P fr callers dying g w) (w':=w') (m:=m) (ea w w' _ (Prod.ext hr rfl)) ?_ (λi d j=>?_) (KQ f g w')
  .rw[hr]at e1;simp only[Ph,Result.halt.injEq,vW]at e1;exact e1
  .have:=e2 i d j;rw[hr]at this;exact ea _ _ _ this
 .exact rP c _ fr.fn (made P fr callers dying) w (λw=>Mt fr callers dying s w) (VR f _ (λa w' h=>A7 s 0 w #[] c h) λg w' h=>b ⟨g,w',h⟩)
end Lf
namespace Lf
open Go Go.Conc
variable{P:Program}
theorem vk{dying}(g:bU)(h:g.dying=dying):(dying.isSome=true->g.dying≠none):=λa=>by rw[h];intro b;rw[b]at a;cases a
theorem rO{dying:aQ Dying}{F w}(x)(e:oI x)(g:dying.isSome=true->x.dying≠none)(i:∀t,x.status≠.sleeping t)(f:x.status≠.parked)(h:x.offers=none)(b:∀a d,F (re w a d)=.go x (re w a d)):Local dying.isSome F w:=by
 let c:=b w.tape w.drawn;rw[Ja]at c;unfold Local;rw[c];exact⟨e,g,i,f,λ_ _=>⟨h,rfl,0,rfl,λa d _=>b a d⟩⟩
theorem gO{dying F w o w' es}(h:F w=.ended o w' es):Local dying F w:=by
 unfold Local;rw[h];trivial
theorem ja{dying h r}{K:Result h->GStep}{g b}(l:oI g)(c:dying=true->g.dying≠none)(k:∀t,g.status≠.sleeping t)(i:g.status≠.parked)(j:g.offers=none)(e:jq r=true)(f:∀a d,K (Ph a d r)=.go g (re b a d)):Made dying r K (.go g b):=
 ⟨rfl,l,c,k,i,λ_ _=>⟨j,e,f⟩⟩
theorem uO{a callers dying}(i:oI ⟨a,callers,.running,dying,none⟩)(C:∀d,dying=some d->d.calling=true)(v){D r}{K:Result D->GStep}{w}(z:jq r=true)(E:∀p d,K (Ph p d r)=doReturn P true a callers dying v (re w p d)):
  Made dying.isSome r K (doReturn P true a callers dying v w):=by
 have j:∀{x:bU},oI x->(dying.isSome=true->x.dying≠none)->x.status=.running->x.offers=none->(∀w,doReturn P true a callers dying v w=.go x w)->Made dying.isSome r K (doReturn P true a callers dying v w):=by
  intro x B y u A t;rw[t];exact ja B y (by rw[u];simp) (by rw[u];simp) A z (λp d=>by rw[E,t])
 cases callers with
 |cons c rest=>
  have b:=i.callers c CZ;cases g:a.kind with
  |normal=>exact j (i.pop rfl (fL b v) (iL _ _) .running) (vk _ rfl) rfl rfl (λw=>by simp only[doReturn,g])
  |wrapped=>exact j (i.pop rfl (fL b v) (iL _ _) .running) (vk _ rfl) rfl rfl (λw=>by simp only[doReturn,g])
  |early=>exact j (i.pop rfl b rfl .running) (vk _ rfl) rfl rfl (λw=>by simp only[doReturn,g])
  |_=>
   have e:∃m:Frame,m.todo=c.todo/\m.kind=c.kind/\∀w,doReturn P true a (c::rest) dying v w=.go {frame:=m,callers:=rest,status:=.running,dying} w:=by
    simp only[doReturn,g];split
    .split
     .exact⟨{c with mode:=.returning},rfl,rfl,λ_=>rfl⟩
     .exact⟨{c with mode:=.panicking _},rfl,rfl,λ_=>rfl⟩
    .exact⟨c,rfl,rfl,λ_=>rfl⟩
   have⟨m,s,q,e3⟩:=e;exact j (i.pop rfl (g_ b s) q .running) (vk _ rfl) rfl rfl e3
 |nil=>
  cases g:a.kind with
  |report=>
   have e:(∃l,l.calling=false/\∀w,doReturn P true a [] dying v w=.go {frame:=a,callers:=[],status:=.running,dying:=some l} w)\/∃o,doReturn P true a [] dying v w=.ended o w:=by
    simp only[doReturn,g];split
    .exact .inl ⟨_,rfl,λ_=>rfl⟩
    .exact .inr ⟨_,rfl⟩
    .rename_i h _;exact absurd rfl h
   obtain⟨l,s,q⟩|⟨o,e⟩:=e
   .exact j (x:={frame:=a,callers:=[],status:=.running,dying:=some l}) (oI.dead rfl s i.frame λ_ h=>by cases h) (λ_ h=>by cases h) rfl rfl q
   .rw[e];exact trivial
  |_=>
   have n:dying=none:=by
    cases k:dying with
    |none=>rfl
    |some d=>
     have:=i.dying d k (C d k);simp[lowest,g]at this
   subst n;have e:(∃f,∀w,doReturn P true a [] none v w=.go {frame:=Frame.enter P f #[] .normal,callers:=[],status:=.running,dying:=none} w)\/∃o,doReturn P true a [] none v w=.ended o w:=by
    simp only[doReturn,g,xa,gD,fx];split
    .exact .inl ⟨_,λ_=>rfl⟩
    .exact .inr ⟨_,rfl⟩
   obtain⟨f,e⟩|⟨o,e⟩:=e
   .exact j (x:={frame:=Frame.enter P f #[] .normal,callers:=[],status:=.running,dying:=none}) ⟨iN _ _ _,(λ_ h=>by cases h),(λ_ h=>by cases h)⟩ (λh=>by cases h) rfl rfl e
   .rw[e];exact trivial
theorem B3(fn b):Fit P (λ_=>True) 0 (results fn b):=by
 unfold results;refine bV (fAm (λx=>?_) _) λ_=>aO P _;cases x with
 |tmp t=>exact aO P _
 |cell a t=>exact bV (nF P _) λ_=>jo P _ _
theorem jH(B:Plain P){fr callers dying}(g:oI ⟨fr,callers,.running,dying,none⟩)(d w):Local dying.isSome (λw=>callDeferred P fr callers dying d w) w:=by
 by_cases C:d.target=.nil/\∃c,fr.mode=.panicking c
 .have⟨k,c,j⟩:=C;have:∃o,callDeferred P fr callers dying d w=.ended o w:=by
   unfold callDeferred;rw[k,j];exact⟨_,rfl⟩
  have⟨o,e⟩:=this;exact gO e
 .have e:∃(z:Result Next->aY Event->aY Event)(K:Result Next->GStep),(∀w,callDeferred P fr callers dying d w=GStep.after (z ((invoke d.target d.args).runT P w #[]).1 ((invoke d.target d.args).runT P w #[]).2) (K ((invoke d.target d.args).runT P w #[]).1))/\
    (∀r p,jq r=true->z r p=seen P fr.fn p)/\∀r:Result Next,(∀a i,r=.ok a i->gh a)->Made dying.isSome r K (K r):=by
   refine⟨λr p=>seen P fr.fn (match r with|.halt .blocked _|.halt .waiting _=>#[]|_=>p),?K,?main,?bH,?rest⟩
   case main=>
    intro w;unfold callDeferred;refine(bN λh=>C ?_).trans ?_
    .cases k:d.target<;>rw[k]at h<;>first|(simp at h;done)|skip
     cases j:fr.mode<;>rw[j]at h<;>first|(simp at h;done)|skip
     exact⟨rfl,_,rfl⟩
    generalize(invoke d.target d.args).runT P w #[]=x;have⟨r,p⟩:=x;dsimp only;exact rfl
   case bH=>
    intro r p q;cases r with
    |ok a w=>rfl
    |halt x w=>cases x<;>first|rfl|(simp[jq]at q;done)
   case rest=>
    intro r hL;cases r with
    |ok n i=>
     have A:=hL n i rfl;cases n with
     |enter f s=>exact ja (g.push (iN _ _ _) g.frame rfl _) (vk _ rfl) aE aE rfl rfl λ_ _=>rfl
     |round l f t a b=>exact ja (g.push (xi _ _ _ _ _ _) g.frame rfl _) (vk _ rfl) aE aE rfl rfl λ_ _=>rfl
     |row row s=>
      obtain rfl:row= "runtime.print$piece":=A;exact ja (g.push (BQ _ _) g.frame rfl _) (vk _ rfl) aE aE rfl rfl λ_ _=>rfl
     |recover=>
      have e:∃y,oO callers y/\∀w,(match fr.mode,tryRecover fr callers with|.returning,some (_,callers)=>GStep.go {frame:=fr,callers,status:=.running,dying} w|_,_=>GStep.go {frame:=fr,callers,status:=.running,dying} w)=.go {frame:=fr,callers:=y,status:=.running,dying} w:=by
       split
       .rename_i h;exact⟨_,mV h,λ_=>rfl⟩
       .exact⟨callers,rfl,λ_=>rfl⟩
      have⟨y,k,j⟩:=e;exact Eq.mpr (og (Made dying.isSome (Result.ok Next.recover i) _) (j i)) (ja ((g.here g.frame rfl .running).sim k) (vk _ rfl) aE aE rfl rfl λE d=>j (re i E d))
     |coroswitch c x=>
      cases x with
      |true=>exact⟨rfl,g,rfl,vk _ rfl,λ_=>⟨rfl,rfl,λ_ _=>rfl⟩⟩
      |false=>exact trivial
     |value v=>exact ja (g.here g.frame rfl _) (vk _ rfl) aE aE rfl rfl λ_ _=>rfl
     |skip=>exact ja (g.here g.frame rfl _) (vk _ rfl) aE aE rfl rfl λ_ _=>rfl
     |defer d=>exact ja (g.here g.frame rfl _) (vk _ rfl) aE aE rfl rfl λ_ _=>rfl
     |spawn d=>exact ja (g.here g.frame rfl _) (vk _ rfl) aE aE rfl rfl λ_ _=>rfl
     |comm a b c=>exact ja (g.here g.frame rfl _) (vk _ rfl) aE aE rfl rfl λ_ _=>rfl
     |_=>exact A.elim
    |halt x i=>
     cases x with
     |panic v=>exact ja (g.here (iO g.frame _) (lU _ _) _) (vk _ rfl) aE aE rfl rfl λ_ _=>rfl
     |goexit=>exact ja (g.here (iO g.frame _) (lU _ _) _) (vk _ rfl) aE aE rfl rfl λ_ _=>rfl
     |fatal m=>exact Bt g.frame callers dying m i _ _
     |throw m=>exact uQ g.frame m i _ _
     |blocked=>exact⟨rfl,g.here (fr':={fr with defers:=d::fr.defers}) (g_ (fr:=fr) g.frame rfl) rfl _,vk _ rfl,aE,aE,λ_ h=>by cases h⟩
     |waiting=>exact⟨rfl,g.here (fr':={fr with defers:=d::fr.defers}) (g_ (fr:=fr) g.frame rfl) rfl _,vk _ rfl,aE,aE,λ_ h=>by cases h⟩
     |_=>exact trivial
  have⟨z,K,k,j,h3⟩:=e;refine rP (tu B _ _) _ fr.fn K w (λw=>⟨_,k w,λq=>.inl (j _ _ q),λi D q u=>?_⟩) (h3 _ λa i h=>A7 _ 0 w #[] (tu B _ _) h);rw[k i,j _ _ q,j _ _ u,D]
end Lf
namespace Lf
open Go Go.Conc
variable{P:Program}
theorem tG{c L s}(b:Fit P L 0 s){dying fn w F}
  (h:∃K:Result c->GStep,(∀w,F w=GStep.after (seen P fn (s.runT P w #[]).2) (K (s.runT P w #[]).1))/\∀r,Made dying r K (K r)):Local dying F w:=by
 let⟨K,h1,h2⟩:=h;refine rP b _ fn K w (λw=>⟨_,h1 w,λ_=>.inl rfl,λd a _ _=>?_⟩) (h2 _);rw[h1 d,a]
theorem Eb{a callers dying}(c:oI ⟨a,callers,.running,dying,none⟩)(e:∀d,dying=some d->d.calling=true)(v){F}(b:∀w,F w=doReturn P true a callers dying v w)(w):Local dying.isSome F w:=by
 refine rP (L:=λ_=>True) (s:=(pure ():Sem Unit)) (aO P ()) _ a.fn (λr=>match r with|.ok _ w=>doReturn P true a callers dying v w|.halt _ w=>.ended (.stuck "" "") w) w (λw=>⟨#[],?_,λ_=>.inr rfl,λf _ _ _=>?_⟩) (uO c e v rfl λ_ _=>rfl)
 .rw[b,eU];rfl
 .rw[b,eU];rfl
theorem Ea{dying F w e a d}(c:bK a)(b:d.calling=false)(h:F w=.go {frame:=a,callers:=[],status:=.running,dying:=some d} e):Local dying F w:=by
 unfold Local;rw[h];exact⟨oI.dead rfl b c (λ_ h=>by cases h),(λ_ h=>by cases h),aE,aE,(λh=>by cases h)⟩
theorem IX(m:Plain P){fr callers dying}(i:oI ⟨fr,callers,.running,dying,none⟩)(q:∀d,dying=some d->d.calling=true)(w):Local dying.isSome (λw=>unwind P true fr callers dying w) w:=by
 cases g:fr.defers with
 |cons d k=>
  have Vs:oI ⟨{fr with defers:=k},callers,.running,dying,none⟩:=i.here (fr':={fr with defers:=k}) (g_ (fr:=fr) i.frame rfl) rfl _;have⟨t,args⟩:=d;cases t with
  |collected block=>
   refine tG (P:=P) (s:=Instr.takeDeferred block) (s8 P block) (fn:=fr.fn) ⟨?K,?main,?rest⟩
   case main=>
    intro w;unfold unwind;rw[g];dsimp only;generalize(Instr.takeDeferred block).runT P w #[]=x;have⟨r,es⟩:=x;dsimp only;exact rfl
   case rest=>
    intro r;cases r with
    |ok a w=>exact ja (i.here (fr':={fr with defers:=a++k}) (g_ (fr:=fr) i.frame rfl) rfl _) (vk _ rfl) aE aE rfl rfl λ_ _=>rfl
    |halt x w=>exact trivial
  |fn a b=>
   have e:∀w,unwind P true fr callers dying w=callDeferred P {fr with defers:=k} callers dying ⟨.fn a b,args⟩ w:=λw=>by unfold unwind;rw[g]
   simp only[e];exact jH m Vs _ w
  |nil=>
   have e:∀w,unwind P true fr callers dying w=callDeferred P {fr with defers:=k} callers dying ⟨.nil,args⟩ w:=λw=>by unfold unwind;rw[g]
   simp only[e];exact jH m Vs _ w
  |builtin a b c d=>
   have e:∀w,unwind P true fr callers dying w=callDeferred P {fr with defers:=k} callers dying ⟨.builtin a b c d,args⟩ w:=λw=>by unfold unwind;rw[g]
   simp only[e];exact jH m Vs _ w
  |coroexit c=>
   have e:∀w,unwind P true fr callers dying w=callDeferred P {fr with defers:=k} callers dying ⟨.coroexit c,args⟩ w:=λw=>by unfold unwind;rw[g]
   simp only[e];exact jH m Vs _ w
 |nil=>
  cases j:fr.mode with
  |run=>exact gO (o:=.stuck "unwind: the frame is running" (fr.pos P)) (w':=w) (es:=#[]) (by unfold unwind;rw[g,j])
  |panicking chain=>
   by_cases f:fr.catches P=true
   .exact gO (o:=.unsupported (.noEntry "a panic or Goexit out of a method that fmt calls behind a cut's door") (fr.pos P)) (w':=w) (es:=#[]) (by unfold unwind;rw[g,j];simp only[f,fA])
   .cases callers with
    |cons c rest=>
     exact rO _ (i.pop rfl (iO (i.callers c CZ) chain) (lU _ _) .running) (vk _ rfl) aE aE rfl (λz d=>by unfold unwind;rw[g,j];simp only[f,fx,gD])
    |nil=>
     cases aau:dying with
     |none=>
      subst aau;by_cases l:(chain.head?.any (·.goexit))=true
      .exact rO (dying:=none) {frame:=fr,callers:=[],status:=.finished,dying:=none} (i.here i.frame rfl _) (λh=>by cases h) aE aE rfl (λz d=>by unfold unwind;rw[g,j];simp only[f,l,fx,fA,gD])
      .have e:(∃d w',d.calling=false/\unwind P true fr [] none w=.go {frame:=fr,callers:=[],status:=.running,dying:=some d} w')\/∃o w',unwind P true fr [] none w=.ended o w':=by
        unfold unwind;rw[g,j];simp only[f,l,fx,gD];split
        .exact .inl ⟨_,_,rfl,rfl⟩
        .exact .inr ⟨_,_,rfl⟩
        .exact .inr ⟨_,_,rfl⟩
       obtain⟨d,w',p,y⟩|⟨o,w',h⟩:=e
       .exact Ea i.frame p y
       .exact gO h
     |some d=>
      have e:(∃n w',n.calling=false/\unwind P true fr [] (some d) w=.go {frame:=fr,callers:=[],status:=.running,dying:=some n} w')\/∃o w',unwind P true fr [] (some d) w=.ended o w':=by
       unfold unwind;rw[g,j];simp only[f,fx,gD];split
       .unfold endPrinting;dsimp only;split
        .exact .inl ⟨_,_,rfl,rfl⟩
        .exact .inr ⟨_,_,rfl⟩
       .exact .inr ⟨_,_,rfl⟩
      obtain⟨n,w',p,h⟩|⟨o,w',h⟩:=e
      .exact Ea i.frame p h
      .exact gO h
  |returning=>
   cases u:P.funcs[fr.fn]? with
   |none=>exact Eb (P:=P) i q (fr.tmps.getD 0 undef) (λw=>by unfold unwind;rw[g,j];simp only[u]) w
   |some fn=>
    refine tG (P:=P) (s:=results fn fr.tmps) (B3 fn fr.tmps) (fn:=fr.fn) ⟨?K2,?Zp,?Zy⟩
    case Zp=>
     intro w;unfold unwind;rw[g,j];simp only[u];generalize(results fn fr.tmps).runT P w #[]=x;have⟨r,es⟩:=x;dsimp only;exact rfl
    case Zy=>
     intro r;cases r with
     |ok v w=>exact uO i q v rfl λ_ _=>rfl
     |halt x w=>cases x<;>exact trivial
end Lf
namespace Lf
open Go Go.Conc
variable{P:Program}
theorem NC:Extern.next "runtime.print$piece"=some (Extern.PrintPieces.piece #[] #[]):=by rfl
theorem Nl{u:Type}{L:u->bQ}{s:Sem u}(v:Fit P L 0 s){dying:Bool}{fn:FuncId}{w:aC}{F:aC->GStep}{E:u->aC->GStep}{H:Halt->aC->GStep}
  (q:∀w,F w=match s.runT P w #[]with|(r,es)=>GStep.after (seen P fn es) (match r with|.ok a w=>E a w|.halt x w=>H x w)) (B:∀a w,Local dying (E a) w) (A:∀x w,∃o,H x w=.ended o w):Local dying F w:=by
 cases k:(s.runT P w #[]).1 with
 |halt x w'=>
  have⟨o,ho⟩:=A x w';apply gO (o:=o) (w':=w') (es:=seen P fn (s.runT P w #[]).2);rw[q w];show GStep.after (seen P fn (s.runT P w #[]).2) (match(s.runT P w #[]).1 with|.ok a w=>E a w|.halt x w=>H x w)=_;rw[k];simp only[ho,GStep.after,Array.append_empty]
 |ok a w'=>
  have⟨m,e1,e2⟩:=qh P s 0 w #[] v (by rw[k];rfl);have l:deafBehind 0 (seen P fn (s.runT P w #[]).2)=0:=by
   rw[Ha fn (B5 s w #[] λe z=>by simp at z)];exact GZ s 0 w #[] 0 v (by rw[k];rfl) rfl
  generalize j:seen P fn (s.runT P w #[]).2=ev at l;have t:F w=GStep.after ev (E a w'):=by
   rw[q w,<-j];show GStep.after (seen P fn (s.runT P w #[]).2) (match(s.runT P w #[]).1 with|.ok a w=>E a w|.halt x w=>H x w)=_;rw[k]
  rw[k]at e1 e2;simp only[Ph,Result.ok.injEq,vW]at e1;refine qF (E:=λw=>GStep.after ev (E a w)) (w':=w') (m:=m) t e1 (λi d f=>?_) ?_
  .rw[q,e2 i d f];simp only[Ph,j]
  .have h:=B a w';have XL:∀es,deafBehind 0 es=0->deafBehind 0 (ev++es)=0:=λes h=>by rw[pK,l,h]
   unfold Local at h⊢;dsimp only;cases p:E a w' with
   |go g n es=>
    rw[p]at h;have⟨a1,a2,a3,a4,a5⟩:=h;exact⟨a1,a2,a3,a4,λx y=>let⟨b1,b2,m',b3,b4⟩:=a5 x y;⟨b1,XL _ b2,m',b3,λi d f=>by rw[b4 i d f];rfl⟩⟩
   |comm g C b D n es=>
    rw[p]at h;have⟨a1,a0,a2,a5⟩:=h;exact⟨a1,a0,a2,λx=>let⟨b1,b2,m',b3,b4⟩:=a5 x;⟨b1,XL _ b2,m',b3,λi d f=>by rw[b4 i d f];rfl⟩⟩
   |coroswitch g c y n es=>
    rw[p]at h;have⟨a1,a0,a2,a5⟩:=h;exact⟨a1,a0,a2,λx=>let⟨b1,b2,m',b3,b4⟩:=a5 x;⟨b1,XL _ b2,m',b3,λi d f=>by rw[b4 i d f];rfl⟩⟩
   |spawn=>exact trivial
   |ended=>exact trivial
   |_=>rw[p]at h;exact h.elim
theorem ML{id}:∀{k c:aB Item},exitTo id k=some c->∀x∈c,x∈k:=by
 intro k
 induction k with
 |nil=>intro c h;simp[exitTo]at h
 |cons a k e=>
  intro c h x d;unfold exitTo at h;split at h
  .rename_i b;cases b;split at h
   .cases h;exact sw _ d
   .exact sw _ (e h x d)
  .rename_i b;cases b;exact sw _ (e h x d)
  .cases h
theorem MW{id}:∀{k d:aB Item},gotoIn id k=some d->∀x∈d,x∈k\/cX x:=by
 intro k
 induction k with
 |nil=>intro d h;simp[gotoIn]at h
 |cons a k e=>
  intro d h x c;unfold gotoIn at h;split at h
  .rename_i b;cases b;split at h
   .cases h;obtain rfl|c:=gp.1 c
    .exact .inr trivial
    .exact .inl c
   .exact(e h x c).imp (sw _) λh=>h
  .rename_i b;cases b;exact(e h x c).imp (sw _) λh=>h
  .cases h
theorem zx{T:bQ}(h:T:=by intro w;simp only[stepG.exec,ht]):T:=h
theorem zy{T:bQ} (h:T:=by
 intro w;unfold stepG;cases hdd:dying with
 |none=>simp only[hm]
 |some d=>have:=hc d hdd;obtain⟨a,b,c,e,f,g,h⟩:=d;simp only at this;subst this;simp only[hm]):T:=h
theorem Nk(R:Plain P){fr callers dying}(q:oI ⟨fr,callers,.running,dying,none⟩)(U:∀d,dying=some d->d.calling=true)(w):Local dying.isSome (λw=>stepG.exec P true true fr callers dying w) w:=by
 have D:∀(todo:aB Item),(∀M∈todo,M∈fr.todo\/cX M)->(∀w,stepG.exec P true true fr callers dying w=.go {frame:={fr with todo},callers,status:=.running,dying} w)->Local dying.isSome (λw=>stepG.exec P true true fr callers dying w) w:=by
  intro todo J I;exact rO _ (q.here (fr':={fr with todo}) (mR (fr:=fr) q.frame J) rfl .running) (vk _ rfl) aE aE rfl λQ d=>I _
 have leave:∀(g:aQ Code),(fr.roundOf=none->(∀w,stepG.exec P true true fr callers dying w=.go {frame:={fr with mode:=.returning},callers,status:=.running,dying} w)\/∃o,stepG.exec P true true fr callers dying w=.ended o w)->
   (∀l,fr.roundOf=some l->∃K:Result aF->GStep,(∀w,stepG.exec P true true fr callers dying w=GStep.after (seen P fr.fn ((Instr.endRound l g).runT P w #[]).2) (K ((Instr.endRound l g).runT P w #[]).1))/\(∀v w,K (.ok v w)=doReturn P true fr callers dying v w)/\∀x w,∃o,K (.halt x w)=.ended o w)->
   Local dying.isSome (λw=>stepG.exec P true true fr callers dying w) w:=by
  intro g h V;cases p:fr.roundOf with
  |none=>
   obtain h|⟨o,h⟩:=h p
   .exact rO _ (q.here (fr':={fr with mode:=.returning}) (g_ (fr:=fr) q.frame rfl) rfl .running) (vk _ rfl) aE aE rfl λQ d=>h _
   .exact gO h
  |some l=>
   have⟨K,J,I,h3⟩:=V l p;refine tG (P:=P) (xA P l g) (fn:=fr.fn) ⟨K,J,λr=>?_⟩;cases r with
   |ok v w=>rw[I];exact uO q U v rfl λ_ _=>I _ _
   |halt x w=>obtain⟨o,h⟩:=h3 x w;rw[h];exact trivial
 have u:∀(g:aQ Code)(l:Nat),fr.roundOf=some l->(∀w,stepG.exec P true true fr callers dying w=match(Instr.endRound l g).runT P w #[]with|(r,es)=>GStep.after (seen P fr.fn es) (match r with|.ok v w=>doReturn P true fr callers dying v w|.halt _ w=>.ended (.stuck "range over a function: no such loop" (fr.pos P)) w))->
   ∃K:Result aF->GStep,(∀w,stepG.exec P true true fr callers dying w=GStep.after (seen P fr.fn ((Instr.endRound l g).runT P w #[]).2) (K ((Instr.endRound l g).runT P w #[]).1))/\(∀v w,K (.ok v w)=doReturn P true fr callers dying v w)/\∀x w,∃o,K (.halt x w)=.ended o w:=by
  intro g l p h;exact⟨λr=>match r with|.ok v w=>doReturn P true fr callers dying v w|.halt _ w=>.ended (.stuck "range over a function: no such loop" (fr.pos P)) w,h,λ_ _=>rfl,λ_ _=>⟨_,rfl⟩⟩
 cases ht:fr.todo with
 |nil=>exact leave none (λp=>.inl λw=>by simp only[stepG.exec,ht,p,fA]) (λl p=>u none l p λw=>by simp only[stepG.exec,ht,p];rfl)
 |cons M k=>
  have sub:∀x∈k,x∈fr.todo:=λx m=>by rw[ht];exact sw _ m
  have C:∀x∈k,x∈fr.todo\/cX x:=λx m=>.inl (sub x m);have z:∀{a:Item},cX a->∀x∈a::k,x∈fr.todo\/cX x:=λ{a} N x m=>by
   obtain rfl|m:=gp.1 m
   .exact .inr N
   .exact .inl (sub x m)
  have B:∀{a b:Item},cX a->cX b->∀x∈a::b::k,x∈fr.todo\/cX x:=λ{a b} N W x m=>by
   obtain rfl|m:=gp.1 m
   .exact .inr N
   .exact z W x m
  cases M with
  |code c=>
   cases c with
   |skip=>exact D k C zx
   |label l=>exact D k C zx
   |seq a b=>exact D (.code a::.code b::k) (B trivial trivial) zx
   |block id b=>exact D (.code b::.inBlock id::k) (B trivial trivial) zx
   |loop b=>exact D (.code b::.inLoop b::k) (B trivial trivial) zx
   |scope b=>exact D (.code b::.inScope b::k) (B trivial trivial) zx
   |cond c a b=>
    cases F:fr.eval c with
    |bool t=>exact D (.code (if t then a else b)::k) (z trivial) (λw=>by simp only[stepG.exec,ht,F])
    |_=>exact gO (o:=.stuck "cond: bool expected" (fr.pos P)) (w':=w) (es:=#[]) (by simp only[stepG.exec,ht,F])
   |ret=>exact leave (some .ret) (λp=>.inl λw=>by simp only[stepG.exec,ht,p,fA]) (λl p=>u (some .ret) l p λw=>by simp only[stepG.exec,ht,p];rfl)
   |exit id=>
    cases F:exitTo id k with
    |some O=>exact D O (λx m=>.inl (sub x (ML F x m))) (λw=>by simp only[stepG.exec,ht,F,Option.elim])
    |none=>exact leave (some (.exit id)) (λp=>.inr ⟨.stuck "exit, goto: no such block or label" (fr.pos P),by simp only[stepG.exec,ht,p,F,Option.elim,gD,fx]⟩) (λl p=>u (some (.exit id)) l p λw=>by simp only[stepG.exec,ht,p,F,Option.elim];rfl)
   |goto l=>
    cases F:gotoIn l k with
    |some O=>exact D O (λx m=>(MW F x m).imp (sub x) id) (λw=>by simp only[stepG.exec,ht,F,Option.elim])
    |none=>exact leave (some (.goto l)) (λp=>.inr ⟨.stuck "exit, goto: no such block or label" (fr.pos P),by simp only[stepG.exec,ht,p,F,Option.elim,gD,fx]⟩) (λT p=>u (some (.goto l)) T p λw=>by simp only[stepG.exec,ht,p,F,Option.elim];rfl)
   |refuse X=>exact gO (w':=w) (es:=#[]) (by simp only[stepG.exec,ht];rfl)
   |region id A draw=>
    cases draw with
    |false=>exact D (.inRegion A (List.range A.size)::k) (z trivial) (λw=>by simp only[stepG.exec,ht,Bool.not_false,fA])
    |true=>
     refine rP (L:=λ_=>True) (s:=choose (.order fr.fn id)) (dT P _) _ fr.fn (λr=>match r with|.ok t w=>.go {frame:={fr with todo:=.inRegion A (Region.schedule (P.follows .mixedOrders) A t)::k},callers,status:=.running,dying} w|.halt _ w=>.ended (.stuck "order" (fr.pos P)) w) w (λw=>⟨#[],?_,λ_=>.inr rfl,λw' _ _ _=>?_⟩) (ja (q.here (fr':={fr with todo:=.inRegion A _::k}) (mR (fr:=fr) q.frame (z trivial)) rfl .running) (vk _ rfl) aE aE rfl rfl λ_ _=>rfl)
     .simp only[stepG.exec,ht,xa,gD,fx,eU];rfl
     .simp only[stepG.exec,ht,xa,gD,fx,eU];rfl
   |rangeFunc f ps a b=>
    refine Nl (P:=P) (s:=Instr.enterLoop fr.fn fr.tmps ps a b fr.roundOf) (wT P _ _ _ _ _ _) (fn:=fr.fn) (E:=λx w=>stepG.apply P true {fr with todo:=.inRangeFunc x.1::k,defers:=x.2++fr.defers} callers dying (do let d<-resolve ({fr with todo:=.inRangeFunc x.1::k,defers:=x.2++fr.defers}:Frame).eval {callee:=.value f,args:=#[.const (.func (.yield x.1) #[] #[])],argTypes:=#[]} 0;invoke d.target d.args) w) (H:=λ_ w=>.ended (.stuck "range over a function: no such loop" (fr.pos P)) w) (λw=>?_) (λx w=>?_) λ_ _=>⟨_,rfl⟩
    .simp only[stepG.exec,ht];generalize(Instr.enterLoop fr.fn fr.tmps ps a b fr.roundOf).runT P w #[]=x;have⟨r,es⟩:=x;cases r with
     |ok y w=>obtain⟨l,mk⟩:=y;rfl
     |halt y w=>rfl
    .refine qE (q.here (fr':={fr with todo:=.inRangeFunc x.1::k,defers:=x.2++fr.defers}) (mR (fr:=fr) q.frame (z trivial)) rfl .running) (bV (qC P _ _ _) λ_=>tu R _ _) w
  |inBlock id=>exact D k C zx
  |inScope b=>exact D k C zx
  |inLoop b=>exact D (.code b::.inLoop b::k) (B trivial trivial) zx
  |inRangeFunc l=>exact gO (w':=w) (es:=#[]) (by simp only[stepG.exec,ht];rfl)
  |call a b c d=>exact(q.frame (.call a b c d) (by show _∈fr.todo;rw[ht];exact CZ):False).elim
  |extern row G=>
   obtain rfl:row= "runtime.print$piece":=q.frame (.extern row G) (by show _∈fr.todo;rw[ht];exact CZ);have e:∀w,stepG.exec P true true fr callers dying w=stepG.apply P true fr callers dying (Extern.PrintPieces.piece #[] #[] G) w:=λw=>by simp only[stepG.exec,ht,NC,Option.elim]
   simp only[e];exact qE q (Gl _ _ _) w
  |beginRound=>
   have e:∃s,Fit P gh 0 s/\∀w,stepG.exec P true true fr callers dying w=stepG.apply P true fr callers dying s w:=by
    refine⟨_,?_,λw=>by simp only[stepG.exec,ht];rfl⟩;refine bV ?_ λ_=>⟨rfl,trivial⟩;cases fr.roundOf with
    |none=>exact aH P _
    |some l=>exact uW P l
   have⟨s,J,I⟩:=e;simp only[I];exact qE q J w
  |endRangeFunc l=>
   refine tG (P:=P) (s:=Instr.endLoop l) (yM P l) (fn:=fr.fn) ⟨?K,?main,?rest⟩
   case main=>
    intro w;simp only[stepG.exec,ht];generalize(Instr.endLoop l).runT P w #[]=x;have⟨r,es⟩:=x;dsimp only;exact rfl
   case rest=>
    intro r;cases r with
    |ok j w=>
     refine ja (q.here (fr':={fr with todo:=(j.map Item.code).toList++k}) (mR (fr:=fr) q.frame λx m=>?_) rfl .running) (vk _ rfl) aE aE rfl rfl λ_ _=>rfl;obtain m|m:=i_.1 m
     .cases j with
      |none=>cases m
      |some c=>simp at m;subst m;exact .inr trivial
     .exact .inl (sub x m)
    |halt x w=>
     cases x with
     |panic v=>exact ja (q.here (iO q.frame _) (lU _ _) _) (vk _ rfl) aE aE rfl rfl λ_ _=>rfl
     |_=>exact trivial
  |inRegion A l=>
   cases l with
   |nil=>exact D k C zx
   |cons i l=>
    by_cases hw:(((A[i]?).map (Region.wanted · (yielded A fr.tmps))).getD false)=true
    .have e:∀w,stepG.exec P true true fr callers dying w=stepG.oper P true fr callers dying w:=λw=>by simp only[stepG.exec,ht,hw,fA]
     simp only[e];cases S:fr.oper? with
     |none=>exact gO (o:=.stuck "no operation here" (fr.pos P)) (w':=w) (es:=#[]) (by simp only[stepG.oper,S])
     |some o=>
      have e:∃s,Fit P gh 0 s/\∀w,stepG.oper P true fr callers dying w=stepG.apply P true fr callers dying s w:=by
       simp only[stepG.oper,S];split
       .exact⟨_,bV (qC P _ _ _) λ_=>bV (sZ P _ _) λ_=>SH (n:=.skip) trivial,λ_=>rfl⟩
       .exact⟨_,MO R _ _,λ_=>rfl⟩
      have⟨s,J,I⟩:=e;simp only[I];exact qE q J w
    .exact rO _ (q.here (fL q.frame undef) (iL _ _) .running) (vk _ rfl) aE aE rfl (λQ d=>by simp only[stepG.exec,ht,hw,fx,gD])
theorem Xw{fr}(q:bK fr){d}(b:d.calling=false)(w):(∃o j e,die P fr d w=.ended o j e)\/∃c st i j e,die P fr d w=.go {frame:=c,callers:=[],status:=st,dying:=some i} j e/\bK c/\(i.calling=true->c.kind=.report)/\(st=.running\/st=.blocked):=by
 have a:∀(i:Dying)(st:GoStatus)(j:aC)(e:aY Event),i.calling=false->(st=.running\/st=.blocked)->∃c g k m l,GStep.go {frame:=fr,callers:=[],status:=st,dying:=some i} j e=.go {frame:=c,callers:=[],status:=g,dying:=some k} m l/\bK c/\(k.calling=true->c.kind=.report)/\(g=.running\/g=.blocked):=
  λi st j e p n=>⟨_,_,_,_,_,rfl,q,λh=>(by rw[p]at h;cases h),n⟩
 unfold die;split
 .rename_i f _;unfold writeOn;split
  .exact .inl ⟨_,_,_,rfl⟩
  .dsimp only;split
   .exact .inr (a _ _ _ _ b (.inl rfl))
   .exact .inr (a _ _ _ _ b (.inr rfl))
   .exact .inl ⟨_,_,_,rfl⟩
   .exact .inl ⟨_,_,_,rfl⟩
 .split
  .split
   .exact .inr (a _ _ _ _ b (.inr rfl))
   .refine .inl ?_;unfold endWith;dsimp only;split
    .split<;>exact⟨_,_,_,rfl⟩
    .exact⟨_,_,_,rfl⟩
    .exact⟨_,_,_,rfl⟩
  .rename_i v mark rest _;dsimp only;split
   .exact .inr (a _ _ _ _ b (.inl rfl))
   .split
    .exact .inr (a _ _ _ _ b (.inl rfl))
    .exact .inl ⟨_,_,_,rfl⟩
   .rename_i t recv name _;generalize(invoke (.fn (.method name) #[]) #[.iface t recv]).runT P w #[]=x;have⟨r,e⟩:=x;dsimp only;split
    .exact .inr ⟨_,_,_,_,_,rfl,iN _ _ _,λ_=>rfl,.inl rfl⟩
    .exact .inr (a _ _ _ _ b (.inl rfl))
    .exact .inl ⟨_,_,_,rfl⟩
    .unfold endPrinting;dsimp only;split
     .exact .inr (a _ _ _ _ rfl (.inl rfl))
     .exact .inl ⟨_,_,_,rfl⟩
    .exact .inl ⟨_,_,_,rfl⟩
   .exact .inl ⟨_,_,_,rfl⟩
theorem KR(l:Plain P){g}(k:oI g)(w):Local g.dying.isSome (λw=>stepG P true g w) w:=by
 obtain⟨fr,callers,st,dying,off⟩:=g;let Vs:oI ⟨fr,callers,.running,dying,none⟩:=k.top k.frame rfl _ _;by_cases j:∃d,dying=some d/\d.calling=false
 .obtain⟨d,rfl,i⟩:=j;let e:∀w,stepG P true ⟨fr,callers,st,some d,off⟩ w=die P fr d w:=λw=>by
   unfold stepG;let⟨a,b,c,e,f,g,h⟩:=d;simp only at i;subst i;rfl
  simp only[e];obtain⟨o,u,q,h⟩|⟨s,r,v,u,q,h,t,n,m⟩:=Xw (P:=P) (fr:=fr) k.frame i w
  .exact gO h
  .unfold Local;dsimp only;rw[h];refine⟨⟨t,(λ_ h=>by cases h),λp j hc=>?_⟩,(λ_ h=>by cases h),?_,?_,(λh=>by cases h)⟩
   .cases j;exact n hc
   .obtain rfl|rfl:=m<;>simp
   .obtain rfl|rfl:=m<;>simp
 .let hc:∀d,dying=some d->d.calling=true:=λd h=>by
   cases i:d.calling with
   |true=>rfl
   |false=>exact absurd ⟨d,h,i⟩ j
  cases hm:fr.mode with
  |run=>
   let e:∀w,stepG P true ⟨fr,callers,st,dying,off⟩ w=stepG.exec P true true fr callers dying w:=zy;simp only[e];exact Nk l Vs hc w
  |_=>
   let e:∀w,stepG P true ⟨fr,callers,st,dying,off⟩ w=unwind P true fr callers dying w:=zy;simp only[e];exact IX l Vs hc w
end Lf
namespace Lf
open Go Go.Conc
variable{P:Program}
def ZO(a:aY bU):Prop:=∀r s,partners a r s=[]
theorem EW{a}(h:ZO a)(w c):ways w a c=ways w #[] c:=by
 let b:∀r s,partners #[] r s=[]:=λr s=>by simp[partners]
 unfold ways;split
 .split<;>simp only[h _ _,b _ _]
 .rfl
def vu(a:aY bU)(rest:Rest):Stepped->Stepped
 |.next m=>.next {world:=m.world,gs:=a.setIfInBounds 0 (m.gs.getD 0 default),rest}
 |.ended o w=>.ended o w
theorem IZ:ZO #[ph]:=λr s=>by simp[partners,ph]
theorem ql{rest}(h:rest.timers=#[])(cases w):waitingAt rest cases w=some w:=by
 let a:timerAhead rest w.os.mono cases=false:=by
  have:=timerAhead_crowd #[] w none w.os.mono cases;unfold timerAhead at this⊢;rw[h];exact this
 unfold waitingAt;rw[a];rfl
def qf:Rest:={timers:=#[],alone:=none,slice:=none}
theorem EX{w c x}(h:x∈ways w #[] c):∀a b,x≠.partner a b:=by
 let d:∀r s,partners #[] r s=[]:=λr s=>by simp[partners]
 intro a b e;subst e;unfold ways at h;split at h
 .split at h
  .simp only[d]at h;split at h<;>first|(simp at h;done)|(split at h<;>simp at h)
  .simp only[d]at h;split at h<;>first|(simp at h;done)|(split at h<;>simp at h)
  .cases h
 .cases h
theorem Es{w}{l:aB (Nat×CommCase×aB Way)}(f:∀x∈l,∀y∈x.2.2,∀a b,y≠.partner a b){k c y w'}
  (h:(do
   let a<-choose (.select l.length)
   let b<-choose (.extern "which waiting goroutine is the partner" (l.getD a (0,default,[])).2.2.length)
   pure ((l.getD a (0,default,[])).1,(l.getD a (0,default,[])).2.1,(l.getD a (0,default,[])).2.2.getD b .closed):Sem (Nat×CommCase×Way)).run P w=.ok (k,c,y) w'):∀a b,y≠.partner a b:=by
 refine A7 (P:=P) (L:=λx=>∀a b,x.2.2≠.partner a b) _ 0 w #[] ?_ ((Sem.runT_fst P _ w #[]).trans h);refine bV (dT P _) λa=>bV (dT P _) λb=>⟨rfl,?_⟩;intro x z;simp only[qp];cases g:l[a]? with
 |none=>simp
 |some e=>
  cases d:e.2.2[b]? with
  |none=>simp[d]
  |some u=>simp only[ig,d];exact f e (iA g) u (iA d) x z
theorem P4{e rest}(f:ZO e)(h:rest.timers=#[])(g cases a shape w):
  communicate P rest e 0 g cases a shape w=(vu e rest (communicate P qf #[ph] 0 g cases a shape w).1,(communicate P qf #[ph] 0 g cases a shape w).2):=by
 unfold communicate;simp only[EW f,EW IZ,f _ _,IZ _ _,ql h,ql (rest:=qf) rfl];split
 .rfl
 split
 .split
  .simp[vu]
  .simp[vu]
 .split
  .rfl
  .split
   .split
    .simp[vu]
    .rfl
   .simp[vu]
   .simp[vu]
   .simp[vu]
   .refine absurd rfl (Es ?_ ‹Sem.run P _ w=Result.ok _ _› _ _);intro x b y d;obtain⟨⟨c,k⟩,_,rfl⟩:=iX.1 (HZ.1 b).1;exact EX d
   .refine absurd rfl (Es ?_ ‹Sem.run P _ w=Result.ok _ _› _ _);intro x b y d;obtain⟨⟨c,k⟩,_,rfl⟩:=iX.1 (HZ.1 b).1;exact EX d
   .rfl
theorem SI(l:aB (Nat×CommCase×aB Way)):Fit P (λ_=>True) 0 (do
   let a<-choose (.select l.length)
   let b<-choose (.extern "which waiting goroutine is the partner" (l.getD a (0,default,[])).2.2.length)
   pure ((l.getD a (0,default,[])).1,(l.getD a (0,default,[])).2.1,(l.getD a (0,default,[])).2.2.getD b .closed):Sem (Nat×CommCase×Way)):=
 bV (dT P _) λ_=>bV (dT P _) λ_=>aO P _
theorem MC(g cases e shape w):
  (∃o w',(communicate P qf #[ph] 0 g cases e shape w).1=.ended o w')\/
  (communicate P qf #[ph] 0 g cases e shape w=(.next {world:=w,gs:=#[{g with status:=.blocked,offers:=some (cases,shape)}],rest:=qf},#[]))\/
  (∃(p:bU)(w':aC)(n:aY MemAct)(m:Nat),
   p.callers=g.callers/\p.dying=g.dying/\(p.status=.running\/p.status=g.status)/\(p.offers=none\/p.offers=g.offers)/\(∀a∈n,∀m,a≠.mark m)/\((∃v,p.frame=g.frame.finish v)\/∃v,p.frame=g.frame.raise v)/\
   w'=re w' w.tape (w.drawn+m)/\communicate P qf #[ph] 0 g cases e shape w=(.next {world:=w',gs:=#[p],rest:=qf},n.map λa=>{g:=0,fn:=g.frame.fn,pos:=g.frame.place,act:=a})/\
   ∀f d,Alike w m f d->communicate P qf #[ph] 0 g cases e shape (re w f d)=(.next {world:=re w' f (d+m),gs:=#[p],rest:=qf},n.map λa=>{g:=0,fn:=g.frame.fn,pos:=g.frame.place,act:=a})):=by
 have S:∀f d,(re w f d).heap=w.heap:=λ_ _=>rfl;have I:∀f d c,ways (re w f d) #[] c=ways w #[] c:=λ_ _ _=>rfl;unfold communicate;simp only[EW IZ,IZ _ _,ql (rest:=qf) rfl,S,I];split
 .exact .inl ⟨_,_,rfl⟩
 rename_i K;split
 .split
  .exact .inr (.inl (by simp))
  .refine .inr (.inr ⟨g.finishComm P cases shape (-1) undef false,w,#[],0,rfl,rfl,.inl rfl,.inl rfl,(by simp),.inl ⟨_,rfl⟩,rfl,by simp,λf d _=>by simp⟩)
 .rename_i R;generalize Q:(List.filter (λx=> !x.2.snd.isEmpty) (List.map (λx=>(x.snd,x.fst,ways w #[] x.fst)) cases.zipIdx.toList))=l;have G:∀x∈l,∀y∈x.2.2,∀a b,y≠.partner a b:=by
   intro x L y T;rw[<-Q]at L;obtain⟨⟨c,k⟩,_,rfl⟩:=iX.1 (HZ.1 L).1;exact EX T
  have u:=λk c y w' h=>Es (P:=P) (w:=w) G (k:=k) (c:=c) (y:=y) (w':=w') h;have C:=qh P _ 0 w #[] (SI (P:=P) l);simp only[Sem.runT_fst]at C;generalize U:(do
   let a<-choose (.select l.length);let b<-choose (.extern "which waiting goroutine is the partner" (l.getD a (0,default,[])).2.2.length)
   pure ((l.getD a (0,default,[])).1,(l.getD a (0,default,[])).2.1,(l.getD a (0,default,[])).2.2.getD b .closed):Sem (Nat×CommCase×Way))=pk at C u⊢
  cases H:pk.run P w with
  |halt x j=>exact .inl ⟨_,_,rfl⟩
  |ok x j=>
   obtain⟨k,c,B⟩:=x;have J:=u k c B j H;obtain⟨m,D,M⟩:=C (by rw[H];rfl);rw[H]at D M;simp only[Ph,Result.ok.injEq,vW]at D;have F:∀f d,Alike w m f d->pk.run P (re w f d)=.ok (k,c,B) (re j f (d+m)):=λf d q=>by
    have:=og Prod.fst (M f d q);rw[Sem.runT_fst]at this;exact this
   have z:∀w,(runtimePanic (.plain "send on closed channel"):Sem Unit).run P w=.halt (.panic (.iface P.rt.plainError (strVal "send on closed channel"))) w:=λw=>rfl;have E:∀f d,(re j f d).heap=j.heap:=λ_ _=>rfl;dsimp only;generalize A:Goroutine.again.match_3 (λ_=>Nat) c.chan (λr=>r) (λ_=>0)=t;cases B with
   |partner a b=>exact absurd rfl (J a b)
   |sendClosed=>
    refine .inr (.inr ⟨{g with frame:=g.frame.raise [{v:=.iface P.rt.plainError (strVal "send on closed channel"),recovered:=false}]},j,#[],m,rfl,rfl,.inr rfl,.inr rfl,by simp,.inr ⟨_,rfl⟩,D,by simp only[z];simp,λf d q=>by simp only[F f d q,z];simp⟩)
   |closed=>
    refine .inr (.inr ⟨g.finishComm P cases shape k c.zero false,j,#[.recvClosed t],m,rfl,rfl,.inl rfl,.inl rfl,by simp,.inl ⟨_,rfl⟩,D,by simp,λf d q=>by simp only[F f d q,A];simp⟩)
   |buffer=>
    cases O:j.heap[t]? with
    |none=>exact .inl ⟨_,_,rfl⟩
    |some o=>
     cases o with
     |chan cap s closed eE i tm=>
      cases N:c.send with
      |some v=>
       refine .inr (.inr ⟨g.finishComm P cases shape k undef false,{j with heap:=j.heap.setIfInBounds t (.chan cap (s.push v) closed (eE+1) i tm)},#[.send t eE,.sendDone t eE],m,rfl,rfl,.inl rfl,.inl rfl,by simp,.inl ⟨_,rfl⟩,by rw[D];rfl,by simp,λf d q=>by simp only[F f d q,E,A,O,N];simp[re]⟩)
      |none=>
       refine .inr (.inr ⟨g.finishComm P cases shape k (s.getD 0 undef) true,{j with heap:=j.heap.setIfInBounds t (.chan cap (s.extract 1 s.size) closed eE (i+1) tm)},#[.recv t i cap,.recvDone t i],m,rfl,rfl,.inl rfl,.inl rfl,by simp,.inl ⟨_,rfl⟩,by rw[D];rfl,by simp,λf d q=>by simp only[F f d q,E,A,O,N];simp[re]⟩)
     |_=>exact .inl ⟨_,_,rfl⟩
end Lf
namespace Lf
open Go Go.Conc
variable{P:Program}
structure fZ(g:bU):Prop where
 ok:oI g
 status:g.status=.running
 dying:g.dying=none
 offers:g.offers=none
structure Fl(g:bU):Prop where
 ok:oI g
 awake:∀t,g.status≠.sleeping t
 lost:g.dying≠none\/g.status≠.running
structure Alone(P:Program)(g:bU)(w:aC)(g':bU)(w':aC)(ops:aY MemOp):Prop where
 own:∀op∈ops,op.g=0
 hears:∀t,Deaf t 0=0->Deaf (t++ops) 0=0
 alike:∃m,w'=re w' w.tape (w.drawn+m)/\∀τ d,Alike w m τ d->stepT P (solo g (re w τ d))=(.next (solo g' (re w' τ (d+m))),ops)
 beside:∀(gs:aY bU)(sl:aQ (Nat×Nat)),gs[0]?=some g->(∀i x,0<i->gs[i]?=some x->x.status=.running\/x.status=.finished)->
  ∃f:bU->bU,(∀x,(x.status=.running\/x.status=.finished)->f x=x)/\runT P (crowd gs w sl) 0=(.next (crowd ((gs.map f).setIfInBounds 0 g') w' sl),ops)
theorem QB{b:aY bU}(h:∀i x,0<i->b[i]?=some x->x.status=.running\/x.status=.finished):ZO (b.setIfInBounds 0 ph):=by
 intro r s;refine partners_nil λj x a=>?_;obtain⟨_,rfl⟩|⟨c,a⟩:=getElem?_stand b 0 j x a
 .exact offersAt_ph r s
 .refine offersAt_of_not_blocked ?_ r s;obtain h|h:=h j x aA a<;>rw[h]<;>simp
theorem Pz(t fn pos)(b:aY MemAct)(h:∀a∈b,∀m,a≠.mark m):Deaf (t++b.map λa=>{g:=0,fn,pos,act:=a}) 0=Deaf t 0:=by
 let⟨l⟩:=b
 induction l generalizing t with
 |nil=>simp
 |cons a l o=>
  let d:=o (t++#[{g:=0,fn,pos,act:=a}]) λx k=>h x (by simp at k⊢;exact .inr k);let e:(t++(Array.map (λa=>({g:=0,fn,pos,act:=a}:MemOp)) ⟨a::l⟩))=t++#[{g:=0,fn,pos,act:=a}]++Array.map (λa=>({g:=0,fn,pos,act:=a}:MemOp)) ⟨l⟩:=by
   rw[Ce];simp
  rw[e,d];show Trace.deaf _ 0 _=Trace.deaf t 0 t.size;let f:=h a aE;rw[Array.size_append];let c:(t++#[({g:=0,fn,pos,act:=a}:MemOp)])[t.size]?=some {g:=0,fn,pos,act:=a}:=by rw[Array.getElem?_append_right aX];simp
  let i:∀n,n<=t.size->Trace.deaf (t++#[({g:=0,fn,pos,act:=a}:MemOp)]) 0 n=Trace.deaf t 0 n:=by
   intro n
   induction n with
   |zero=>intro _;rfl
   |succ n j=>
    intro p;unfold Trace.deaf;rw[getElem?_append_old aA,j aA]
  rw[<-i t.size aX];show Trace.deaf (t++#[_]) 0 (t.size+1)=_;rw[Trace.deaf];rw[c];split
  .rename_i d;simp only[Jt,MemOp.mk.injEq]at d;exact absurd d.2.2.2 (f _)
  .rename_i d;simp only[Jt,MemOp.mk.injEq]at d;exact absurd d.2.2.2 (f _)
  .rfl
theorem Ba(hP:Plain P){g}(hg:oI g)(Z:g.status=.running){w m' T}(h:stepT P (solo g w)=(.next m',T)):
  2<=m'.gs.size\/∃p D,m'=solo p D/\(Fl p\/(g.dying=none/\(g.offers=none->fZ p/\Alone P g w p D T))):=by
 rw[stepT_solo Z]at h;have B:=KR hP hg w;unfold Local at B;dsimp only at B;cases r:stepG P true g w with
 |go p D I=>
  rw[r]at B;have⟨h1,h2,h3,h4,h5⟩:=B;rw[runT_solo_go r]at h;simp only[oC,Stepped.next.injEq]at h;obtain⟨rfl,rfl⟩:=h;refine .inr ⟨p,D,rfl,?_⟩;by_cases N:p.dying=none/\p.status=.running
  .have⟨h6,h7,m,h8,h9⟩:=h5 N.1 N.2;refine .inr ⟨?_,λF=>⟨⟨h1,N.2,N.1,h6⟩,⟨?_,?_,⟨m,h8,λC d M=>?_⟩,?_⟩⟩⟩
   .cases u:g.dying with
    |none=>rfl
    |some d=>exact absurd N.1 (h2 (by rw[u];rfl))
   .intro op l;obtain⟨e,_,rfl⟩:=Go.Conc.mem_ofEvents l;rfl
   .intro t S;rw[Deaf_own,S];exact h7
   .rw[stepT_solo Z,runT_solo_go (h9 C d M)]
   .intro n sl K V;refine⟨woken P g p D,λx r=>?_,runT_crowd_go K r⟩;unfold woken;split
    .exact again_running _ r
    .rfl
  .exact .inl ⟨h1,h3,by
    by_cases u:p.dying=none
    .exact .inr λe=>N ⟨u,e⟩
    .exact .inl u⟩
 |comm k X b O f I=>
  rw[r]at B;have⟨h1,h6',h2,h5⟩:=B;have U:(#[g]:aY bU).setIfInBounds 0 ph=#[ph]:=aE;have a7:runT P (solo g w) 0=((communicate P qf #[ph] 0 k X b O f).1,MemOp.ofEvents 0 g.frame.fn g.frame.place I++(communicate P qf #[ph] 0 k X b O f).2):=by
   rw[solo_eq_crowd,runT_crowd_comm (i:=0) (g:=g) rfl r,U];rfl
  rw[a7]at h;obtain⟨o,D,e⟩|e|⟨p,D,aa,m2,G,Y,e3,e4,e5,e6,e7,e8,e9⟩:=MC (P:=P) k X b O f
  .rw[e]at h;cases h
  .rw[e]at h;cases h;exact .inr ⟨_,f,rfl,.inl ⟨h1.top h1.frame rfl _ _,aE,.inr aE⟩⟩
  .rw[e8]at h;cases h;have Y':oI p:=by
    have H:bK p.frame/\p.frame.kind=k.frame.kind:=by
     obtain⟨v,e⟩|⟨v,e⟩:=e6
     .rw[e];exact⟨fL h1.frame v,iL _ _⟩
     .rw[e];exact⟨iO h1.frame v,lU _ _⟩
    have⟨f',c',s',d',o'⟩:=p;simp only at G Y H;subst G Y;exact h1.top H.1 H.2 _ _
   have R:=e3.elim id λx=>x.trans h6';refine .inr ⟨p,D,rfl,?_⟩;by_cases u:k.dying=none
   .have⟨h6,h7,m,h8,h9⟩:=h5 u;refine .inr ⟨?_,λF=>⟨⟨Y',R,Y.trans u,e4.elim id λx=>x.trans h6⟩,⟨?_,?_,⟨m+m2,?_,λC d M=>?_⟩,?_⟩⟩⟩
    .cases J:g.dying with
     |none=>rfl
     |some d=>exact absurd u (h2 (by rw[J];rfl))
    .intro op l;obtain l|l:=Ck.1 l
     .obtain⟨e,_,rfl⟩:=Go.Conc.mem_ofEvents l;rfl
     .obtain⟨a,_,rfl⟩:=Array.mem_map.1 l;rfl
    .intro t S;rw[<-Ce,Pz _ _ _ _ e5,Deaf_own,S];exact h7
    .have a1:f.tape=w.tape:=by rw[h8];rfl
     have a2:f.drawn=w.drawn+m:=by rw[h8];rfl
     rw[a1,a2]at e7;rw[<-qw];exact e7
    .have a1:f.tape=w.tape:=by rw[h8];rfl
     have a2:f.drawn=w.drawn+m:=by rw[h8];rfl
     have a6:runT P (solo g (re w C d)) 0=((communicate P qf #[ph] 0 k X b O (re f C (d+m))).1,MemOp.ofEvents 0 g.frame.fn g.frame.place I++(communicate P qf #[ph] 0 k X b O (re f C (d+m))).2):=by
      rw[solo_eq_crowd,runT_crowd_comm (i:=0) (g:=g) rfl (h9 C d λj E=>M j aA),U];rfl
     rw[stepT_solo Z,a6,e9 C (d+m) λj E=>by rw[a1,a2];have:=M (m+j) aA;rw[<-qw]at this;rw[this,<-qw],<-qw];rfl
    .intro n sl K V;refine⟨id,λ_ _=>rfl,?_⟩;rw[runT_crowd_comm (i:=0) K r,P4 (QB V) (rest:=(crowd n w sl).rest) rfl,e8];simp[vu,crowd]
   .exact .inl ⟨Y',(by rw[R];simp),.inl (Y▸u)⟩
 |coroswitch k c x f I=>
  rw[r]at B;have⟨h1,h6',h2,h5⟩:=B;have A:∀(n:aY bU)(w f:aC)(sl:aQ (Nat×Nat)),n[0]?=some g->stepG P true g w=.coroswitch k c x f I->runT P (crowd n w sl) 0=(match f.heap[c]? with
    |some (.coro (some h))=>.next (crowd ((n.setIfInBounds 0 (if x then{k with status:=.finished}else{k with frame:=k.frame.finish undef,status:=.parked})).modify h λo=>{o with status:=.running}) {f with heap:=f.heap.setIfInBounds c (.coro (if x then none else some 0))} sl)
    |some (.coro none)=>(match endThrow k.frame "coroswitch on exited coro" f with|.go g w _=>.next (crowd (n.setIfInBounds 0 g) w sl)|_=>.ended (.stuck "" "") f)
    |_=>.ended (.stuck "coroswitch: no coroutine" "") f,MemOp.ofEvents 0 g.frame.fn g.frame.place I):=by
   intro n w f sl K r;obtain⟨s,rfl⟩:=jM.1 K;show runT P {world:=w,gs:=n,rest:={timers:=#[],alone:=none,slice:=sl}} 0=_;unfold runT;simp only[(swapAt_of_lt s {(default:bU)with status:=.finished}),Cl,r,GStep.es,set_setIfInBounds s,crowd];rfl
  rw[solo_eq_crowd,A #[g] w f none rfl r]at h;cases F:f.heap[c]? with
  |none=>rw[F]at h;cases h
  |some o=>
   cases o with
   |coro q=>
    cases q with
    |none=>
     rw[F]at h;simp only[endThrow,dieOf,oC,Stepped.next.injEq]at h;obtain⟨rfl,rfl⟩:=h;exact .inr ⟨_,f,rfl,.inl ⟨oI.dead rfl rfl h1.frame (λ_ h=>by cases h),aE,.inl aE⟩⟩
    |some q=>
     rw[F]at h;simp only[oC,Stepped.next.injEq]at h;obtain⟨rfl,rfl⟩:=h;generalize y:(if x then{k with status:=.finished}else{k with frame:=k.frame.finish undef,status:=.parked}:bU)=z;have L:∀st,oI {z with status:=st}:=λst=>by
      rw[<-y];cases x
      .exact h1.top (fL h1.frame undef) (iL _ _) st _
      .exact h1.top h1.frame rfl st _
     have W:z.dying=k.dying:=by rw[<-y];cases x<;>rfl
     have a8:z.offers=k.offers:=by rw[<-y];cases x<;>rfl
     have Q:z.status≠.running/\∀t,z.status≠.sleeping t:=by rw[<-y];cases x<;>simp
     by_cases V:q=0
     .subst V;have G:∀n:aY bU,(n.setIfInBounds 0 z).modify 0 (λo=>{o with status:=.running})=n.setIfInBounds 0 {z with status:=.running}:=λn=>by
       apply Array.ext_getElem?;intro j;rw[ua];by_cases E:0=j
       .subst E;by_cases s:0<n.size
        .rw[Fb s,Fb s];rfl
        .rw[Mb (by simpa using Nat.le_of_not_lt s),Mb (by simpa using Nat.le_of_not_lt s)];rfl
       .simp[qv E,E]
      rw[G];refine .inr ⟨{z with status:=.running},{f with heap:=f.heap.setIfInBounds c (.coro (if x then none else some 0))},by simp[solo,crowd],?_⟩;by_cases u:k.dying=none
      .have⟨h6,h7,m,h8,h9⟩:=h5 u;refine .inr ⟨?_,λ_=>⟨⟨L _,rfl,W.trans u,a8.trans h6⟩,⟨?_,?_,⟨m,by rw[h8];rfl,λC d M=>?_⟩,?_⟩⟩⟩
       .cases J:g.dying with
        |none=>rfl
        |some d=>exact absurd u (h2 (by rw[J];rfl))
       .intro op l;obtain⟨e,_,rfl⟩:=Go.Conc.mem_ofEvents l;rfl
       .intro t S;rw[Deaf_own,S];exact h7
       .rw[stepT_solo Z,solo_eq_crowd,A #[g] _ _ none rfl (h9 C d M)];have ho':(re f C (d+m)).heap[c]?=some (.coro (some 0)):=F;rw[ho'];simp only[y,G];simp[solo,crowd,re]
       .intro n sl K _;refine⟨id,λ_ _=>rfl,?_⟩;rw[A n w f sl K r,F];simp only[y,G,Array.map_id]
      .exact .inl ⟨L _,aE,.inl (by show z.dying≠none;rw[W];exact u)⟩
     .have G:((#[g]:aY bU).setIfInBounds 0 z).modify q (λo=>{o with status:=.running})=#[z]:=by
       apply Array.ext_getElem?;intro j;rw[ua];by_cases E:q=j
       .subst E;simp[V]
       .simp[E]
      rw[G];exact .inr ⟨z,_,rfl,.inl ⟨L z.status,Q.2,.inr Q.1⟩⟩
   |_=>rw[F]at h;cases h
 |spawn a b c d=>
  rw[runT_solo_spawn r]at h;cases h;exact .inl (by simp[duo])
 |ended o D I=>
  have:(runT P (solo g w) 0).1=.ended o D:=by rw[solo_eq_crowd,runT_many_ended (i:=0) (g:=g) rfl r]
  rw[h]at this;cases this
 |_=>rw[r]at B;exact B.elim
end Lf
namespace Lf
open Go Go.Conc
variable{P:Program}
theorem Qk{g}(m:g.status≠.running)(e:∀t,g.status≠.sleeping t)(w):(∃a,stepT P (solo g w)=(.next (solo g w),a))\/∃o p a,stepT P (solo g w)=(.ended o p,a):=by
 let n:g.canRun w.os.mono=false:=by
  unfold Goroutine.canRun;split
  .rename_i h;exact absurd h m
  .rename_i h;exact absurd h (e _)
  .rfl
 let k:runnable #[g] w.os.mono=[]:=by simp[runnable_eq,H2,n]
 let i:ahead (solo g w) false=none:=by
  unfold ahead solo;simp only[jn,jl];cases f:g.status with
  |sleeping t=>exact absurd f (e t)
  |_=>simp[f]
 let j:due (solo g w).rest.timers w.os.mono=[]:=by simp[due,solo]
 let d:runnable (solo g w).gs (solo g w).world.os.mono=[]:=k;let l:move P (solo g w)=askOn P (solo g w):=by simp[move,ask,solo]
 let UT:due (solo g w).rest.timers (solo g w).world.os.mono=[]:=j;let ha':ahead {world:=(solo g w).world,gs:=(solo g w).gs,rest:=(solo g w).rest} false=none:=i;let c:(solo g w).gs.any (λx=>x.status==.waiting)=(g.status==.waiting):=by simp[solo]
 rw[stepT,l];unfold askOn;simp only[d,UT,List.isEmpty_nil,fA,pure,Sem.run,jl,zX,fx,ha',c];by_cases hw:(g.status==.waiting)=true
 .refine .inl ⟨#[],?_⟩;simp only[hw,fA]
 .refine .inr ?_;simp only[hw,fx,gD];split<;>rename_i b<;>split at b<;>cases b<;>exact⟨_,_,_,rfl⟩
theorem Qw(m:Plain P){g}(b:Fl g){w c}(h:step P (solo g w)=.next c):2<=c.gs.size\/∃d f,c=solo d f/\Fl d:=by
 by_cases i:g.status=.running
 .cases k:stepT P (solo g w)with
  |mk s a=>
   have:s=.next c:=by have:=h;rw[step,k]at this;exact this
   subst this;obtain l|⟨d,f,rfl,j|⟨j,_⟩⟩:=Ba m b.ok i k
   .exact .inl l
   .exact .inr ⟨d,f,rfl,j⟩
   .exact(b.lost.elim (λx=>x j) λx=>x i).elim
 .obtain⟨a,e⟩|⟨o,f,a,e⟩:=Qk (P:=P) i b.awake w
  .rw[step,e]at h;cases h;exact .inr ⟨g,w,rfl,b⟩
  .rw[step,e]at h;cases h
theorem A6{n m a}(h:runN P n m=.next a):m.gs.size<=a.gs.size:=by
 let c:=runNT_fst P n m #[];cases b:runNT P n m #[]with
 |mk s t=>
  rw[b]at c;have:s=.next a:=c.trans h
  subst this;exact runNT_size P n m a #[] t b
theorem KS(f:Plain P):∀{n:Nat}{g w a}{d},Fl g->runN P n (solo g w)=.next (solo a d)->Fl a:=by
 intro n
 induction n with
 |zero=>intro g w a d b h;simp only[runN,Stepped.next.injEq]at h;have:=og (λm:Machine=>m.gs[0]?) h;simp[solo]at this;exact this▸b
 |succ n i=>
  intro g w a d b h;simp only[runN]at h;cases c:step P (solo g w)with
  |ended o x=>rw[c]at h;cases h
  |next p=>
   rw[c]at h;obtain j|⟨k,l,rfl,e⟩:=Qw f b c
   .have:=A6 h;simp[solo]at this;omega
   .exact i e h
theorem fZ.TE{g}(h:fZ g):¬Fl g:=λx=>x.lost.elim (λy=>y h.dying) λy=>y h.status
theorem DO(l:Plain P){n g w f k}(d:fZ g)(e:fZ f)(h:runN P (n+1) (solo g w)=.next (solo f k)):
  ∃b c a,stepT P (solo g w)=(.next (solo b c),a)/\fZ b/\Alone P g w b c a/\runN P n (solo b c)=.next (solo f k):=by
 simp only[runN]at h;cases i:stepT P (solo g w)with
 |mk s a=>
  let m:step P (solo g w)=s:=by rw[step,i]
  rw[m]at h;cases s with
  |ended o x=>cases h
  |next r=>
   obtain q|⟨b,c,rfl,p|⟨_,j⟩⟩:=Ba l d.ok d.status i
   .have:=A6 h;simp[solo]at this;omega
   .exact absurd (KS l p h) e.TE
   .exact⟨b,c,a,rfl,(j d.offers).1,(j d.offers).2,h⟩
end Lf
namespace Lf
open Go Go.Conc
variable{P:Program}
inductive Tree(P:Program)(K:bU->aC->Prop):bU->aC->Prop
 |stop {g:bU} {w:aC}:K g w->Tree P K g w
 |step {g:bU} {w:aC} (f:Tape->Nat->bU×aC×aY MemOp):fZ g->(∀τ d,fZ (f τ d).1/\Alone P g (re w τ d) (f τ d).1 (f τ d).2.1 (f τ d).2.2/\stepT P (solo g (re w τ d))=(.next (solo (f τ d).1 (f τ d).2.1),(f τ d).2.2))->
   (∀τ d,Tree P K (f τ d).1 (f τ d).2.1)->Tree P K g w
def Mg(P:Program)(K:bU->aC->Prop)(g:bU)(w:aC):Prop:=∃n a b,runN P n (solo g w)=.next (solo a b)/\fZ a/\K a b
theorem J6(s:Plain P){K}(u:∀g w τ d,K g w->K g (re w τ d)):
  ∀(n:Nat){g e w l τ Wz}{a b},fZ g->fZ e->(∀j,Wz (b+j)=τ (a+j))->runN P n (solo g (re w τ a))=.next (solo e l)->K e l->Mg P K g (re w Wz b):=by
 intro n
 induction n with
 |zero=>
  intro g e w l τ Wz a b p c q h f;simp only[runN,Stepped.next.injEq]at h;let o:=og (λm:Machine=>m.gs[0]?) h;let i:=og (λm:Machine=>m.world) h;simp[solo]at o i;subst o;refine⟨0,g,re w Wz b,rfl,p,?_⟩;rw[<-i]at f;exact u g (re w τ a) Wz b f
 |succ n t=>
  intro g e w l τ Wz a b p c q h f;let⟨g1,w1,ops,h1,h2,h3,h4⟩:=DO s p c h;let⟨m,o,i⟩:=h3.alike;let r:=i Wz b λj _=>q j;rw[Ue]at r;rw[o]at h4;let⟨k,g2,w2,h5,h6,h7⟩:=t (w:=w1) (τ:=τ) (Wz:=Wz) (a:=a+m) (b:=b+m) h2 c (λj=>by rw[qw,qw];exact q _) h4 f;exact⟨k+1,g2,w2,by simp only[runN,step,r];exact h5,h6,h7⟩
theorem F3(hP:Plain P){K}(L:∀g w τ d,K g w->K g (re w τ d)){g w}(E:fZ g)(h:∀τ d,Mg P K g (re w τ d)):Tree P K g w:=by
 apply F8;intro Z;let S:bU×aC->bQ:=λs=>fZ s.1/\(∀τ d,Mg P K s.1 (re s.2 τ d))/\¬Tree P K s.1 s.2;let next:∀s:{s//S s},∃(s':{s//S s})(τ:Tape)(d m:Nat),∀e r,(∀j,j<m->e (r+j)=τ (d+j))->stepT P (solo s.1.1 (re s.1.2 e r))=(.next (solo s'.1.1 (re s'.1.2 e (r+m))),(stepT P (solo s.1.1 (re s.1.2 τ d))).2):=by
  rintro⟨⟨g,w⟩,E,W,R⟩;simp only at E W R;let I:¬K g w:=λU=>R (.stop U);let one:∀τ d,∃l t f,stepT P (solo g (re w τ d))=(.next (solo l t),f)/\fZ l/\Alone P g (re w τ d) l t f:=by
   intro τ d;let⟨n,g',w',i,B,h3⟩:=W τ d;cases n with
   |zero=>
    simp only[runN,Stepped.next.injEq]at i;let M:=og (λm:Machine=>m.gs[0]?) i;let C:=og (λm:Machine=>m.world) i;simp[solo]at M C;subst M;rw[<-C]at h3;exact absurd (L g (re w τ d) w.tape w.drawn h3) I
   |succ n=>
    let⟨l,t,f,a,b,c,_⟩:=DO hP E B i;exact⟨l,t,f,a,b,c⟩
  let a1:∃τ d l t f,stepT P (solo g (re w τ d))=(.next (solo l t),f)/\fZ l/\Alone P g (re w τ d) l t f/\¬Tree P K l t:=by
   apply F8;intro F;let X3:∀x:Tape×Nat,∃y:bU×aC×aY MemOp,stepT P (solo g (re w x.1 x.2))=(.next (solo y.1 y.2.1),y.2.2)/\fZ y.1/\Alone P g (re w x.1 x.2) y.1 y.2.1 y.2.2:=λx=>let⟨l,t,f,h⟩:=one x.1 x.2;⟨(l,t,f),h⟩;refine R (.step (λτ d=>Classical.choose (X3 (τ,d))) E (λτ d=>?_) λτ d=>?_)
   .let⟨a,b,c⟩:=E4 (X3 (τ,d));exact⟨b,c,a⟩
   .let⟨a,b,c⟩:=E4 (X3 (τ,d));apply F8;intro Y;exact F ⟨τ,d,_,_,_,a,b,c,Y⟩
  let⟨τ,d,l,t,f,a,b,c,Y⟩:=a1;let⟨m,M,C⟩:=c.alike;let e1':=M;refine⟨⟨(l,t),b,λA V=>?_,Y⟩,τ,d,m,λe r B=>?_⟩
  ·
   let e:Tape:=λp=>if p<d+m then τ p else A (p-(d+m)+V)
   let hs:=C e d (λj hj=>by show(if d+j<d+m then τ (d+j)else _)=τ (d+j);rw[bY aA]);rw[Ue]at hs;let⟨n,g',w',i,B,h3⟩:=W e d;cases n with
   |zero=>
    simp only[runN,Stepped.next.injEq]at i;let G:=og (λm:Machine=>m.gs[0]?) i;let H:=og (λm:Machine=>m.world) i;simp[solo]at G H;subst G;rw[<-H]at h3;exact absurd (L g (re w e d) w.tape w.drawn h3) I
   |succ n=>
    simp only[runN,step,hs]at i;refine J6 hP L n (τ:=e) (a:=d+m) b B (λj=>?_) i h3;show A (V+j)=(if d+m+j<d+m then τ (d+m+j)else A (d+m+j-(d+m)+V));rw[bN aA];congr 1;omega
  .have:=C e r B;rw[Ue]at this;rw[this,a]
 let next':∀s:{s//S s},∃x:{s//S s}×Tape×Nat×Nat,∀e r,(∀j,j<x.2.2.2->e (r+j)=x.2.1 (x.2.2.1+j))->stepT P (solo s.1.1 (re s.1.2 e r))=(.next (solo x.1.1.1 (re x.1.1.2 e (r+x.2.2.2))),(stepT P (solo s.1.1 (re s.1.2 x.2.1 x.2.2.1))).2):=
  λs=>let⟨a,b,c,d,h⟩:=next s;⟨(a,b,c,d),h⟩
 let nx:{s//S s}->{s//S s}:=λs=>(Classical.choose (next' s)).1;let N:{s//S s}->Tape:=λs=>(Classical.choose (next' s)).2.1;let J:{s//S s}->Nat:=λs=>(Classical.choose (next' s)).2.2.1;let u:{s//S s}->Nat:=λs=>(Classical.choose (next' s)).2.2.2;let X:∀s e r,(∀j,j<u s->e (r+j)=N s (J s+j))->stepT P (solo s.1.1 (re s.1.2 e r))=(.next (solo (nx s).1.1 (re (nx s).1.2 e (r+u s))),(stepT P (solo s.1.1 (re s.1.2 (N s) (J s)))).2):=λs=>E4 (next' s);let s0:{s//S s}:=⟨(g,w),E,h,Z⟩;let o:Nat->{s//S s}:=λn=>Nat.rec s0 (λ_ s=>nx s) n;let D:Nat->Nat:=λn=>Nat.rec 0 (λk a=>a+u (o k)) n;let Q:∀n,D (n+1)=D n+u (o n):=λ_=>rfl;let v:∀a b,a<=b->D a<=D b:=by
  intro a b O
  induction O with
  |refl=>exact aX
  |step _ ih=>exact gC ih (by rw[Q];omega)
 haveI:∀p,Decidable (∃n,D n<=p/\p<D (n+1)):=λ_=>Classical.propDecidable _
 let q:Tape:=λp=>if z:∃n,D n<=p/\p<D (n+1)then N (o (Classical.choose z)) (J (o (Classical.choose z))+(p-D (Classical.choose z)))else λ_=>0
 let aa:∀n j,j<u (o n)->q (D n+j)=N (o n) (J (o n)+j):=by
  intro n j hj;let z:∃k,D k<=D n+j/\D n+j<D (k+1):=⟨n,aA,by rw[Q];omega⟩;let hc:=E4 z;let U:Classical.choose z=n:=by
   obtain T|a8|a7:=Nat.lt_trichotomy (Classical.choose z) n
   .have:=v _ _ (show Classical.choose z+1<=n from T);omega
   .exact a8
   .let i:=v _ _ (show n+1<=Classical.choose z from a7);rw[Q]at i;omega
  show(if z:∃n',D n'<=D n+j/\D n+j<D (n'+1)then _ else _)=_;rw[dif_pos z,U];congr 1;omega
 let a6:∀n,runN P n (solo g (re w q 0))=.next (solo (o n).1.1 (re (o n).1.2 q (D n))):=by
  intro n
  induction n with
  |zero=>rfl
  |succ n ih=>
   rw[runN_add,ih];have:=X (o n) q (D n) λj hj=>aa n j hj;simp only[runN,step,this];rfl
 let⟨n,g',w',i,_,h3⟩:=h q 0;rw[a6 n]at i;simp only[Stepped.next.injEq]at i;let G:=og (λm:Machine=>m.gs[0]?) i;let H:=og (λm:Machine=>m.world) i;simp[solo]at G H;rw[<-G,<-H]at h3;exact(o n).2.2.2 (.stop (L _ (re (o n).1.2 q (D n)) (o n).1.2.tape (o n).1.2.drawn h3))
end Lf
namespace Lf
open Go Go.Conc
open Go.ConcN (sumTo upd sumTo_upd upd_ne upd_same)
variable{P:Program}
structure Fr(P:Program)(gs:aY bU)(t:Trace)(g:bU):Prop where
 zero:gs[0]?=some g
 leave:∃q,Leavers P t gs q
 aaY:∃B,Past (λ_=>False) B t
def oG(P:Program)(K:bU->aC->Prop)(g:bU)(w:aC):Prop:=
 ∀d sl t,Fr P d t g->∃N a c e b f,runNT P N (crowd d w sl) t=(.next (crowd a e b),f)/\Fr P a f c/\K c e
theorem Q0{m c a t d b N M}(h:runNT P N m t=(.next c,d))(e:runNT P M c d=(.next a,b)):runNT P (N+M) m t=(.next a,b):=by
 rw[runNT_add,h];exact e
theorem oG.here{K g w}(h:K g w):oG P K g w:=λb sl t a=>⟨0,b,g,w,sl,t,rfl,a,h⟩
theorem oG.trans{K L g w}(h:oG P K g w)(d:∀a w',K a w'->oG P L a w'):oG P L g w:=by
 intro b sl t c;let⟨N,gs1,g1,w1,sl1,t1,h1,h2,h3⟩:=h b sl t c;let⟨M,gs2,g2,w2,sl2,t2,h4,h5,h6⟩:=d g1 w1 h3 gs1 sl1 t1 h2;exact⟨N+M,gs2,g2,w2,sl2,t2,Q0 h1 h4,h5,h6⟩
theorem oG.mono{K L g w}(h:oG P K g w)(c:∀a b,K a b->L a b):oG P L g w:=h.trans λa b x=>.here (c a b x)
theorem VQ(b:MemAct):∃B,b.low B:=by
 cases b with
 |access e=>
  let⟨loc,wr,sy⟩:=e;cases loc with
  |cell a=>exact⟨a.block+1,jV⟩
  |obj r=>exact⟨r+1,jV⟩
  |_=>exact⟨0,trivial⟩
 |mark m=>
  cases m with
  |acquire a=>exact⟨a.block+1,jV⟩
  |release a=>exact⟨a.block+1,jV⟩
  |releaseMerge a=>exact⟨a.block+1,jV⟩
  |read a=>exact⟨a.block+1,jV⟩
  |write a=>exact⟨a.block+1,jV⟩
  |_=>exact⟨0,trivial⟩
 |go _=>exact⟨0,trivial⟩
 |start=>exact⟨0,trivial⟩
 |send c _=>exact⟨c+1,jV⟩
 |sendDone c _=>exact⟨c+1,jV⟩
 |recv c _ _=>exact⟨c+1,jV⟩
 |recvDone c _=>exact⟨c+1,jV⟩
 |close c=>exact⟨c+1,jV⟩
 |recvClosed c=>exact⟨c+1,jV⟩
theorem zg(c:aY MemOp)(B):∃d,B<=d/\∀op∈c,op.act.low d:=by
 let⟨l⟩:=c
 induction l with
 |nil=>exact⟨B,aX,aE⟩
 |cons a l e=>
  let⟨B1,h1,h2⟩:=e;let⟨B2,h3⟩:=VQ a.act;refine⟨max B1 B2,gC h1 (Nat.le_max_left _ _),λop b=>?_⟩;simp at b;obtain rfl|b:=b
  .exact MemAct.low_mono (Nat.le_max_right _ _) h3
  .exact MemAct.low_mono (Nat.le_max_left _ _) (h2 op (by simpa using b))
theorem Fr.own{l t g g'}(p:Fr P l t g){a:aY MemOp}{f}(e:∀op∈a,op.g=0)(m:Deaf t 0=0->Deaf (t++a) 0=0)(n:∀x,(x.status=.running\/x.status=.finished)->f x=x):
  Fr P ((l.map f).setIfInBounds 0 g') (t++a) g':=by
 let⟨h0,⟨q,hL⟩,⟨B,hB⟩⟩:=p;let d:=(jM.1 h0).1;let⟨B',yZ,RG⟩:=zg a B;refine⟨by simp[d],⟨q,λj x b i=>?_,λj b=>?_⟩,⟨B',?_⟩⟩
 .let c:0≠j:=by omega
  rw[qv c,CY]at i;obtain⟨y,o,rfl⟩:=na.1 i;let k:=hL.old j y b o;rw[n y k.status,Deaf_other t aA a e];exact k
 .rw[Deaf_other t (g':=0) (by simp at b;omega) a e];exact hL.above j (by simpa using b)
 .refine(hB.mono yZ).app0 e (λ_ _ _ _ h=>h.elim) ?_ RG;rw[m hB.hears,hB.hears]
theorem Ou{K g w}(h:Tree P K g w):oG P K g w:=by
 induction h with
 |stop X=>exact .here X
 |@step g w f R Y _ Z=>
  let H:∀(M:Nat)(a:aY bU)(d0:Nat)(sl:aQ (Nat×Nat))(t:Trace)(q:Nat->Nat),sumTo a.size q<=M->a[0]?=some g->Leavers P t a q->(∃B,Past (λ_=>False) B t)->
    ∃N c g' A b s,runNT P N (crowd a (w.at d0) sl) t=(.next (crowd c A b),s)/\Fr P c s g'/\K g' A:=by
   intro M
   induction M using Nat.strongRecOn with
   |_ M S=>
    intro a d0 sl t q hM n hL u;let Q:∀x∈a,awake x:=by
     intro x r;obtain⟨i,hi,rfl⟩:=Array.mem_iff_getElem.1 r;obtain rfl|l:=Bj i
     .have:a[0]=g:=by simpa[su hi]using n
      rw[this];exact awake_of (.inl R.status)
     .exact awake_of ((hL.old i _ l (su hi)).status.elim .inl λx=>.inr (.inr x))
    let⟨i,x,d,b,hi,r,RJ⟩:=crowd_pick (P:=P) (w:=w.at d0) (sl:=sl) Q ⟨0,g,n,R.status⟩;let hw:(w.at d0).at d=re w w.tape d:=rfl;rw[hw]at RJ;obtain rfl|l:=Bj i
    ·
     obtain rfl:x=g:=by rw[n]at hi;exact(oW hi).symm
     let⟨a1,a2,a3⟩:=Y w.tape d;let⟨fw,b1,b2⟩:=a2.beside a b n λj y v C=>(hL.old j y v C).status;let⟨N,c,g',A,Yd,s,c1,c2,c3⟩:=Z w.tape d _ b _ (Fr.own (P:=P) (g':=(f w.tape d).1) ⟨n,⟨q,hL⟩,u⟩ a2.own (a2.hears t) b1);exact⟨N+1,c,g',A,Yd,s,by simp only[runNT,RJ,b2];exact c1,c2,c3⟩
    ·
     let I:=hL.old i x l hi;let L:(i==0)=false:=bI;let D:=(jM.1 hi).1;cases p:q i with
     |zero=>rw[p]at I;rw[I.1]at r;cases r
     |succ k=>
      rw[p]at I;obtain⟨F,_⟩|⟨_,J,W,hm,G,U⟩:=I
      .rw[F]at r;cases r
      let T:((a.map (woken P x J (re w w.tape d))).setIfInBounds i J).size=a.size:=aE;let V:sumTo a.size (upd q i k)+(k+1)=sumTo a.size q+k:=by
       have:=sumTo_upd q k id D;simpa[p]using this
      let⟨B,u⟩:=u;let⟨N,c,g',A,Yd,s,c1,c2,c3⟩:=S (sumTo a.size (upd q i k)) aA ((a.map (woken P x J (re w w.tape d))).setIfInBounds i J) d b (t++MemOp.ofEvents i x.frame.fn x.frame.place W) (upd q i k) (T▸aX)
       (by
        let O:i≠0:=aA;rw[qv O,CY,n];simp[woken_running R.status])
       ⟨λj y v C=>by
        by_cases m:i=j
        .subst m;rw[Fb (by simpa using D)]at C;obtain rfl:=oW C;rw[upd_same,Deaf_own];exact U
        .rw[qv m,CY]at C;obtain⟨z,hz,rfl⟩:=na.1 C;let E:=hL.old j z v hz;rw[woken_quitsD E,upd_ne q k (lx m),Deaf_other t m _ λop o=>by obtain⟨e,_,rfl⟩:=Go.Conc.mem_ofEvents o;rfl];exact E,λj v=>by
        rw[Deaf_other t (g':=i) (by simp at v;omega) _ λop o=>by obtain⟨e,_,rfl⟩:=Go.Conc.mem_ofEvents o;rfl];exact hL.above j (by simpa using v)⟩
       ⟨B,u.mute aA hm⟩
      exact⟨N+1,c,g',A,Yd,s,by simp only[runNT,RJ,(runT_crowd_go (P:=P) (w:=re w w.tape d) (sl:=b) (i:=i) hi (L▸G (re w w.tape d)))];exact c1,c2,c3⟩
  intro a sl t hf;let⟨n,⟨q,hL⟩,u⟩:=hf;exact H _ a w.drawn sl t q aX n hL u
end Lf
namespace Lf
open Go Go.Conc
open Go.ConcN (sumTo upd sumTo_upd upd_ne upd_same)
variable{P:Program}
theorem ku(t){g}(u)(c:∀op∈u,op.g≠g):Deaf (t++u) g=Deaf t g:=by
 let b:∀(l:aB MemOp)(d:Nat),(∀op∈l,op.g≠g)->l.foldl (deafStep g) d=d:=by
  intro l
  induction l with
  |nil=>intro d _;rfl
  |cons y l f=>
   intro d h;let i:=h y aE;have:deafStep g d y=d:=by
    unfold deafStep;split<;>simp_all
   rw[Cm,this];exact f d λop a=>h op (by simp[a])
 let e:(t++u:Trace)=t++u.toList.toArray:=aE;rw[e,Deaf_append];exact b _ _ λop a=>c op (by simpa using a)
structure rk(P:Program)(skip:Nat->Prop)(t:Trace)(gs:aY bU)(q:Nat->Nat):Prop where
 old:∀i g,0<i->¬skip i->gs[i]?=some g->QuitsD P (q i) (Deaf t i) g
 above:∀j,gs.size<=j->Deaf t j=0
theorem rk.of{t a q}(h:Leavers P t a q)(skip):rk P skip t a q:=⟨λi g c _ b=>h.old i g c b,h.above⟩
theorem rk.all{t a q}(h:rk P (λ_=>False) t a q):Leavers P t a q:=⟨λi g c b=>h.old i g c (λx=>x) b,h.above⟩
theorem rk.Jp{skip t u c b q}(h:rk P skip t c q)(n:b.size=c.size)(m:∀i x,0<i->¬skip i->b[i]?=some x->c[i]?=some x)(f:∀op∈u,(op.g=0\/skip op.g)/\op.g<c.size):rk P skip (t++u) b q:=by
 refine⟨λi x g d l=>?_,λj o=>?_⟩
 .rw[ku t u λop a e=>?_]
  .exact h.old i x g d (m i x g d l)
  .obtain k|k:=(f op a).1
   .omega
   .exact d (e▸k)
 .rw[ku t u λop a e=>?_]
  .exact h.above j aA
  .have:=(f op a).2;omega
theorem slip{skip c t q w sl i x}(hL:rk P skip t c q)(hi:c[i]?=some x)(C:x.status=.running)(p:0<i)(A:¬skip i):
  ∃(d:aY bU)(u:Trace)(J:Nat->Nat),runT P (crowd c w sl) i=(.next (crowd d w sl),u)/\d.size=c.size/\sumTo c.size J<sumTo c.size q/\rk P skip (t++u) d J/\
   (∀op∈u,op.g=i/\op.act.touch?=none/\∀B,op.act.low B)/\∀j y,(j=0\/skip j)->c[j]?=some y->(∀a O,woken P a O w y=y)->d[j]?=some y:=by
 let D:=hL.old i x p A hi;let E:(i==0)=false:=bI;let o:=(jM.1 hi).1;cases l:q i with
 |zero=>rw[l]at D;rw[D.1]at C;cases C
 |succ k=>
  rw[l]at D;obtain⟨s,_⟩|⟨_,L,I,N,v,H⟩:=D
  .rw[s]at C;cases C
  let g:∀op∈MemOp.ofEvents i x.frame.fn x.frame.place I,op.g=i:=λop b=>by obtain⟨e,_,rfl⟩:=Go.Conc.mem_ofEvents b;rfl
  refine⟨(c.map (woken P x L w)).setIfInBounds i L,MemOp.ofEvents i x.frame.fn x.frame.place I,upd q i k,runT_crowd_go (P:=P) (w:=w) (sl:=sl) (i:=i) hi (E▸v w),aE,?_,⟨λj y m G n=>?_,λj m=>?_⟩,λop b=>?_,λj y m n hw=>?_⟩
  .let M:sumTo c.size (upd q i k)+(k+1)=sumTo c.size q+k:=by
    have:=sumTo_upd q k id o;simpa[l]using this
   omega
  .by_cases f:i=j
   .subst f;rw[Fb (by simpa using o)]at n;obtain rfl:=oW n;rw[upd_same,Deaf_own];exact H
   .rw[qv f,CY]at n;obtain⟨z,Q,rfl⟩:=na.1 n;let r:=hL.old j z m G Q;rw[woken_quitsD r,upd_ne q k (lx f),ku t _ λop b e=>f ((g op b).symm.trans e)];exact r
  .rw[ku t _ λop b e=>by have:=g op b;simp at m;omega];exact hL.above j (by simpa using m)
  .obtain⟨e,K,rfl⟩:=Go.Conc.mem_ofEvents b;exact⟨rfl,touch_mute (N e K),low_mute (N e K)⟩
  .let F:i≠j:=by
    rintro rfl;obtain h|h:=m
    .omega
    .exact A h
   rw[qv F,CY,n];simp[hw]
def Bp(C:Touch->Prop)(e:Event):Prop:=(∀x,(MemAct.ofEvent e).touch?=some x->x.loc.isMemory=true->C x)/\e.loc≠.mark .disable/\e.loc≠.mark .enable
structure Me(B:Nat)(S T:Nat->Prop)(w:aC):Prop where
 s:∀b,S b->B<=b/\b<w.heap.size
 t:∀b,T b->B<=b/\b<w.heap.size
 st:∀b,S b->¬T b
 low:B<=w.heap.size
theorem Me.same{B S T w a}(h:Me B S T w)(e:a.heap.size=w.heap.size):Me B S T a:=⟨λb x=>by rw[e];exact h.s b x,λb x=>by rw[e];exact h.t b x,h.st,by rw[e];exact h.low⟩
theorem Me.OT{B S T w a}(h:Me B S T w)(e:w.heap.size<=a.heap.size):Me B (grow S w a) T a:=
 ⟨λb x=>by
  obtain x|x:=x
  .have:=h.s b x;omega
  .have:=h.low;omega,λb x=>by have:=h.t b x;omega,λb x y=>by
  obtain x|x:=x
  .exact h.st b x y
  .have:=h.t b y;omega,by have:=h.low;omega⟩
theorem Me.WR{B S T w a}(h:Me B S T w)(e:w.heap.size<=a.heap.size):Me B S (grow T w a) a:=
 ⟨λb x=>by have:=h.s b x;omega,λb x=>by
  obtain x|x:=x
  .have:=h.t b x;omega
  .have:=h.low;omega,λb x y=>by
  obtain y|y:=y
  .exact h.st b x y
  .have:=h.s b x;omega,by have:=h.low;omega⟩
structure Am(c B:Nat)(R0:(Nat->Prop)->aC->aC->Prop)(D0:(Nat->Prop)->aC->aC->aY Event->Prop)(RB:(Nat->Prop)->aC->aC->Prop)(DB:(Nat->Prop)->aC->aC->aY Event->Prop)(CA CB:(Nat->Prop)->Touch->Prop):Prop where
 t0:fU R0 D0
 tB:fU RB DB
 B0:∀S w,R0 S w w
 GQ:∀S w,RB S w w
 at0:∀S (w:aC) (d:Nat),R0 S w (w.at d)
 atB:∀S (w:aC) (d:Nat),RB S w (w.at d)
 QM:∀S (w:aC) n buf cl s r tm,R0 S w (w.setChan c n buf cl s r tm)
 V6:∀S (w:aC) n buf cl s r tm,RB S w (w.setChan c n buf cl s r tm)
 d0:∀S T w w' es,Me B S T w->D0 S w w' es->RB T w w'/\w'.heap[c]?=w.heap[c]?/\(∀e∈es,Bp (CA (grow S w w')) e)/\w.heap.size<=w'.heap.size
 dB:∀S T w w' es,Me B S T w->DB T w w' es->R0 S w w'/\w'.heap[c]?=w.heap[c]?/\(∀e∈es,Bp (CB (grow T w w')) e)/\w.heap.size<=w'.heap.size
 mono:∀S S',(∀b,S b->S' b)->(∀a,CA S a->CA S' a)/\(∀a,CB S a->CB S' a)
 apart:∀S T w,Me B S T w->De (CA S) (CB T)
theorem DX(S w a):∀b,S b->grow S w a b:=λ_ h=>.inl h
theorem jL(w:aC)(c n a b s r tm):(w.setChan c n a b s r tm).heap.size=w.heap.size:=by simp[World.setChan]
section
theorem Pc{C g fn pos c}(h:∀e∈c,Bp C e):(∀op∈MemOp.ofEvents g fn pos c,op.g=g)/\(∀op∈MemOp.ofEvents g fn pos c,∀b,op.act.touch?=some b->b.loc.isMemory=true->C b)/\∀t,Deaf (t++MemOp.ofEvents g fn pos c) g=Deaf t g:=
 ⟨λop a=>by obtain⟨e,_,rfl⟩:=Go.Conc.mem_ofEvents a;rfl,λop a b i f=>by obtain⟨e,d,rfl⟩:=Go.Conc.mem_ofEvents a;exact(h e d).1 b i f,λt=>by rw[Deaf_own];exact deafBehind_still (λe d=>(h e d).2) _⟩
theorem TI.P_{i b B A C t}(c:b≠0)(j:De A C)(h:TI i b B A C t){fn pos f}(d:∀e∈f,Bp A e):∃a,B<=a/\TI i b a A C (t++MemOp.ofEvents 0 fn pos f):=by
 let⟨h1,h2,h3⟩:=Pc (g:=0) (fn:=fn) (pos:=pos) d;let⟨a,hb,hl⟩:=zg (MemOp.ofEvents 0 fn pos f) B;exact⟨a,hb,(h.mono hb (λ_ x=>x) λ_ x=>x).app0 c j h1 h2 ((h3 t).trans h.hears) hl⟩
theorem TI.XD{i a B A C t}(c:a≠0)(j:De A C)(h:TI i a B A C t){fn pos f}(d:∀e∈f,Bp C e):∃b,B<=b/\TI i a b A C (t++MemOp.ofEvents a fn pos f):=by
 let⟨h1,h2,h3⟩:=Pc (g:=a) (fn:=fn) (pos:=pos) d;let⟨b,hb,hl⟩:=zg (MemOp.ofEvents a fn pos f) B;exact⟨b,hb,(h.mono hb (λ_ x=>x) λ_ x=>x).aag c j h1 h2 (λx=>(h3 t).trans (h.vo x)) hl⟩
theorem TI.still{i b B A C t u}(h:TI i b B A C t)(m:∀op∈u,op.act.touch?=none)(j:∀op∈u,(op.g≠0\/(op.act≠.mark .disable/\op.act≠.mark .enable))/\(op.g≠b\/(op.act≠.mark .disable/\op.act≠.mark .enable)\/¬i)):∃c,B<=c/\TI i b c A C (t++u):=by
 have still:∀g,(∀op∈u,op.g≠g\/(op.act≠.mark .disable/\op.act≠.mark .enable))->Deaf (t++u) g=Deaf t g:=by
  intro g k;have f:∀(l:aB MemOp)(d:Nat),(∀op∈l,op.g≠g\/(op.act≠.mark .disable/\op.act≠.mark .enable))->l.foldl (deafStep g) d=d:=by
   intro l
   induction l with
   |nil=>intro d _;rfl
   |cons y l n=>
    intro d h;have o:=h y aE;have:deafStep g d y=d:=by
     unfold deafStep;split<;>simp_all
    rw[Cm,this];exact n d λop a=>h op (by simp[a])
  have e:(t++u:Trace)=t++u.toList.toArray:=aE;rw[e,Deaf_append];exact f _ _ λop a=>k op (by simpa using a)
 have⟨c,hb,hl⟩:=zg u B;refine⟨c,hb,(h.mono hb (λ_ x=>x) λ_ x=>x).appMute m ((still 0 λop a=>(j op a).1).trans h.hears) (λx=>(still b λop a=>?_).trans (h.vo x)) hl⟩;obtain y|y|y:=(j op a).2
 .exact .inl y
 .exact .inr y
 .exact absurd x y
end
end Lf
namespace Lf
open Go Go.Conc
open Go.ConcN (sumTo upd sumTo_upd upd_ne upd_same)
variable{P:Program}
section
variable(P:Program)(c:Nat)(z:aF)(R0:(Nat->Prop)->aC->aC->Prop)(D0:(Nat->Prop)->aC->aC->aY Event->Prop)(RB:(Nat->Prop)->aC->aC->Prop)(DB:(Nat->Prop)->aC->aC->aY Event->Prop)(CA CB:(Nat->Prop)->Touch->Prop)(n:Nat)
def AtR(S:Nat->Prop)(g:bU)(w:aC):Prop:=∀a,R0 S w a->∃b,stepG P true g a=.comm g #[rcase c z] true (.recv true) a b/\∀e∈b,Bp (CA S) e
inductive SA(K:bU->aC->Prop):aB aF->(Nat->Prop)->bU->aC->Prop
 |own {L:aB aF} {S:Nat->Prop} {g:bU} {w:aC} (f:aC->bU×aC×aY Event):g.status=.running->(∀w₁,R0 S w w₁->stepG P true g w₁=.go (f w₁).1 (f w₁).2.1 (f w₁).2.2/\D0 S w₁ (f w₁).2.1 (f w₁).2.2)->(∀w₁,R0 S w w₁->SA K L (grow S w₁ (f w₁).2.1) (f w₁).1 (f w₁).2.1)->SA K L S g w
 |recv {v:aF} {L:aB aF} {S:Nat->Prop} {g:bU} {w:aC}:g.status=.running->AtR P c z R0 CA S g w->(∀w₁,R0 S w w₁->SA K L S (Go.Conc.served g (recvd true v true)) w₁)->SA K (v::L) S g w
 |fin {S:Nat->Prop} {g:bU} {w:aC}:g.status=.running->AtR P c z R0 CA S g w->(∀w₁,R0 S w w₁->K (Go.Conc.served g (recvd true z false)) w₁)->SA K [] S g w
inductive SB:aB aF->(Nat->Prop)->bU->aC->Prop
 |own {L:aB aF} {T:Nat->Prop} {g:bU} {w:aC} (f:aC->bU×aC×aY Event):g.status=.running->(∀w₁,RB T w w₁->stepG P false g w₁=.go (f w₁).1 (f w₁).2.1 (f w₁).2.2/\DB T w₁ (f w₁).2.1 (f w₁).2.2)->(∀w₁,RB T w w₁->SB L (grow T w₁ (f w₁).2.1) (f w₁).1 (f w₁).2.1)->SB L T g w
 |send {v y:aF} {L:aB aF} {T:Nat->Prop} {g:bU} {w:aC}:g.status=.running->(∀w₁,RB T w w₁->∃es,stepG P false g w₁=.comm g #[scase c v y] true .send w₁ es/\∀e∈es,Bp (CB T) e)->(∀w₁,RB T w w₁->SB L T (Go.Conc.served g undef) w₁)->SB (v::L) T g w
 |close {T:Nat->Prop} {g g':bU} {w:aC} {q:Nat}:g.status=.running->mayWake P g=true->(∀w₁ buf s r,RB T w w₁->w₁.heap[c]?=some (.chan n buf false s r false)->∃es:aY Event,stepG P false g w₁=.go g' (w₁.setChan c n buf true s r false) (es.push ⟨.obj c,true,true⟩)/\∀e∈es,Bp (CB T) e)->QuitsD P q 0 g'->SB [] T g w
end
section
variable{c:Nat}{z:aF}{kJ:Nat}{R0:(Nat->Prop)->aC->aC->Prop}{D0:(Nat->Prop)->aC->aC->aY Event->Prop}{RB:(Nat->Prop)->aC->aC->Prop}{DB:(Nat->Prop)->aC->aC->aY Event->Prop}{CA CB:(Nat->Prop)->Touch->Prop}{n:Nat}{K:bU->aC->Prop}
theorem SA.running{L S g w}(h:SA P c z R0 D0 CA K L S g w):g.status=.running:=by cases h<;>assumption
theorem SA.rely(H:Am c kJ R0 D0 RB DB CA CB){L S g w w'}(h:SA P c z R0 D0 CA K L S g w)(d:R0 S w w'):SA P c z R0 D0 CA K L S g w':=by
 cases h with
 |own f j e i=>exact .own f j (λb a=>e b (H.t0.trans _ _ _ _ d a)) λb a=>i b (H.t0.trans _ _ _ _ d a)
 |recv j e i=>exact .recv j (λb a=>e b (H.t0.trans _ _ _ _ d a)) λb a=>i b (H.t0.trans _ _ _ _ d a)
 |fin j e i=>exact .fin j (λb a=>e b (H.t0.trans _ _ _ _ d a)) λb a=>i b (H.t0.trans _ _ _ _ d a)
structure ly(x g:bU):Prop where
 status:x.status=.running
 frame:x.frame=g.frame
 callers:x.callers=g.callers
 dying:x.dying=g.dying
theorem ly.step{x g}(h:ly x g)(a w):stepG P a x w=stepG P a g w:=stepG_same h.frame h.callers h.dying w
theorem ly.self{g}(h:g.status=.running):ly g g:=⟨h,rfl,rfl,rfl⟩
def l9(P:Program)(K:bU->aC->Prop)(m:Machine)(t:Trace):Prop:=∃N a c d b e,runNT P N m t=(.next (crowd a d b),e)/\Fr P a e c/\K c d
theorem l9.step{m a t}{u:Trace}(h:stepT P m=(.next a,u))(b:l9 P K a (t++u)):l9 P K m t:=by
 let⟨N,gs',g',w',ZC,t',h1,h2⟩:=b;exact⟨N+1,gs',g',w',ZC,t',by simp only[runNT,h];exact h1,h2⟩
theorem n6{gs:aY bU}{i r send}(h:∀j (g),j≠i->gs[j]?=some g->g.status≠.blocked):partners (gs.setIfInBounds i ph) r send=[]:=by
 refine partners_nil λj g c=>?_;obtain⟨_,rfl⟩|⟨b,a⟩:=getElem?_stand gs i j g c
 .exact offersAt_ph r send
 .exact offersAt_of_not_blocked (h j g b a) r send
theorem kP{w:aC}{c cap s r a j i d b g e tm f}(h:w.heap[c]?=some (.chan a b e j i f)):(w.setChan c cap d g s r tm).heap[c]?=some (.chan cap d g s r tm):=heap_put h
theorem Hf{a:aY aF}{v L}(b:v::L=a.toList):0<a.size/\a.getD 0 undef=v/\(a.extract 1 a.size).toList=L:=by
 have⟨l⟩:=a;simp only at b;subst b;simp[Array.getD_eq_getD_getElem?]
structure Sh(P:Program)(c kJ:Nat)(R0:(Nat->Prop)->aC->aC->Prop)(CA CB:(Nat->Prop)->Touch->Prop)(n κ:Nat)(L:aB aF)(S:Nat->Prop)(g:bU)(w:aC)(T:Nat->Prop)(gs:aY bU)(x:bU)(Yj:aC)(t:Trace)(q:Nat->Nat)(buf:aY aF)(s r:Nat):Prop where
 Jw:Me kJ S T Yj
 r0:R0 S w Yj
 lk:ly x g
 zero:gs[0]?=some x
 lt:κ<gs.size
 leave:rk P (λ_=>False) t gs q
 trace:∃B,TI False κ B (CA S) (CB T) t
 shut:Shut κ c t
 chan:Yj.heap[c]?=some (.chan n buf true s r false)
 list:L=buf.toList
theorem NA(H:Am c kJ R0 D0 RB DB CA CB){W}(p:W≠0){L S g w}(hA:SA P c z R0 D0 CA K L S g w):
  ∀M T gs x b sl t q k s r,sumTo gs.size q<=M->Sh P c kJ R0 CA CB n W L S g w T gs x b t q k s r->l9 P K (crowd gs b sl) t:=by
 let core:∀{L S g w}(_:∀T gs x b sl t q k s r,Sh P c kJ R0 CA CB n W L S g w T gs x b t q k s r->∃m' u,runT P (crowd gs b sl) 0=(.next m',u)/\l9 P K m' (t++u)) M T gs x b sl t q k s r,sumTo gs.size q<=M->Sh P c kJ R0 CA CB n W L S g w T gs x b t q k s r->l9 P K (crowd gs b sl) t:=by
  intro L S g w mv M
  induction M using Nat.strongRecOn with
  |_ M a6=>
   intro T gs x b sl t q k s r hM ⟨m,C,D,A,Q,hL,⟨B,N⟩,I,F,G⟩;let Z:∀y∈gs,awake y:=by
    intro y hy;obtain⟨i,hi,rfl⟩:=Array.mem_iff_getElem.1 hy;obtain rfl|E:=Bj i
    .have:gs[0]=x:=by simpa[su hi]using A
     rw[this];exact awake_of (.inl D.status)
    .exact awake_of ((hL.old i _ E (λx=>x) (su hi)).status.elim .inl λx=>.inr (.inr x))
   let⟨i,y,d,ZC,hi,hy,RJ⟩:=crowd_pick (P:=P) (w:=b) (sl:=sl) Z ⟨0,x,A,D.status⟩;let ZX:=H.t0.trans _ _ _ _ C (H.at0 _ b d);let YX:Me kJ S T (b.at d):=m.same rfl;obtain rfl|E:=Bj i
   .let⟨m',u,e1,e2⟩:=mv T gs x (b.at d) ZC t q k s r ⟨YX,ZX,D,A,Q,hL,⟨B,N⟩,I,F,G⟩;exact l9.step (RJ.trans e1) e2
   .let⟨gs',u,q',e1,e2,e3,e4,e5,e6⟩:=slip (w:=b.at d) (sl:=ZC) hL hi hy E λx=>x;let⟨B',_,CR⟩:=N.still (λop h=>(e5 op h).2.1) λop h=>⟨.inl (by rw[(e5 op h).1];omega),.inr (.inr λx=>x)⟩;exact l9.step (RJ.trans e1) (a6 _ (fW e3 hM) T gs' x _ ZC _ q' k s r (e2▸aX) ⟨YX,ZX,D,e6 0 x (.inl rfl) A λa a'=>woken_running D.status,by rw[e2];exact Q,e4,⟨B',CR⟩,I.app λop h _=>(e5 op h).2.1,F,G⟩)
 induction hA with
 |@own L S g w f hs R V ih=>
  refine core λT gs x b sl t q k s r ⟨m,C,D,A,Q,hL,⟨B,N⟩,I,F,G⟩=>?_;let⟨a1,a2⟩:=R _ C;let⟨b1,b2,b3,b4⟩:=H.d0 _ _ _ _ _ m a2;let l:=(jM.1 A).1;let⟨B',_,CR⟩:=(N.mono (Yz B) (H.mono _ _ (DX S b (f b).2.1)).1 λ_ x=>x).P_ p (H.apart _ _ _ (m.OT b4)) (fn:=x.frame.fn) (pos:=x.frame.place) b3;refine⟨_,_,runT_crowd_go (P:=P) (w:=b) (sl:=sl) (i:=0) A (show stepG P (0==0) x b=_ from((D.step (P:=P) true b).trans a1)),ih _ C _ T _ _ _ sl _ q k s r aX ⟨m.OT b4,H.B0 _ _,ly.self (V _ C).running,by simp[l],by simpa using Q,?_,⟨B',CR⟩,?_,b2.trans F,G⟩⟩
  .refine hL.Jp aE (λj v U _ J=>?_) (λop h=>by obtain⟨e,_,rfl⟩:=Go.Conc.mem_ofEvents h;exact⟨.inl rfl,l⟩);rw[qv aA,CY]at J;obtain⟨z',hz,rfl⟩:=na.1 J;rw[woken_quitsD (hL.old j z' U (λx=>x) hz)];exact hz
  .exact I.app λop h e=>by obtain⟨e',_,rfl⟩:=Go.Conc.mem_ofEvents h;exact absurd e.symm p
 |@recv v L S g w hs R V ih=>
  refine core λT gs x b sl t q k s r ⟨m,C,D,A,Q,hL,⟨B,N⟩,I,F,G⟩=>?_;let⟨es,a1,a2⟩:=R _ C;let⟨KB,hhd,htl⟩:=Hf G;let l:=(jM.1 A).1;let o:=crowd_recv_buf (P:=P) (gs:=gs) (w:=b) (sl:=sl) (i:=0) A (show stepG P (0==0) x b=_ from((D.step (P:=P) true b).trans a1)) F KB
   (n6 λj X U O=>by have:=(hL.old j X aA (λx=>x) O).status;rcases this with e|e<;>rw[e]<;>simp)
  rw[finishComm_recv,hhd]at o;let⟨B',_,CR⟩:=N.P_ p (H.apart _ _ _ m) (fn:=x.frame.fn) (pos:=x.frame.place) a2;obtain⟨a7,_,Y⟩:=CR.still (u:=#[{g:=0,fn:=g.frame.fn,pos:=g.frame.place,act:=.recv c r n},{g:=0,fn:=g.frame.fn,pos:=g.frame.place,act:=.recvDone c r}]) (λop h=>by simp at h;rcases h with rfl|rfl<;>rfl) (λop h=>by simp at h;rcases h with rfl|rfl<;>simp);refine⟨_,_,o,ih _ (H.t0.trans _ _ _ _ C (H.QM S b n (k.extract 1 k.size) true s (r+1) false)) _ T _ _ _ sl _ q (k.extract 1 k.size) s (r+1) aX ⟨m.same (jL _ _ _ _ _ _ _ _),H.B0 _ _,ly.self rfl,by simp[l],by simpa using Q,?_,⟨a7,by rw[<-Ce];exact Y⟩,?_,kP F,htl.symm⟩⟩
  .refine hL.Jp aE (λj v U _ J=>?_) λop h=>?_
   .rw[qv aA]at J;exact J
   .obtain h|h:=Ck.1 h
    .obtain⟨e,_,rfl⟩:=Go.Conc.mem_ofEvents h;exact⟨.inl rfl,l⟩
    .simp at h;rcases h with rfl|rfl<;>exact⟨.inl rfl,l⟩
  .refine I.app λop h e=>?_;obtain h|h:=Ck.1 h
   .obtain⟨e',_,rfl⟩:=Go.Conc.mem_ofEvents h;exact absurd e.symm p
   .simp at h;rcases h with rfl|rfl<;>rfl
 |@fin S g w hs R V=>
  refine core λT gs x b sl t q k s r ⟨m,C,D,A,Q,hL,⟨B,N⟩,I,F,G⟩=>?_;let⟨es,a1,a2⟩:=R _ C;obtain rfl:k=#[]:=by
   have:k.toList=[]:=G.symm;simpa using this
  let l:=(jM.1 A).1;let o:=crowd_recv_closed (P:=P) (gs:=gs) (w:=b) (sl:=sl) (i:=0) A (show stepG P (0==0) x b=_ from((D.step (P:=P) true b).trans a1)) F
   (n6 λj X U O=>by have:=(hL.old j X aA (λx=>x) O).status;rcases this with e|e<;>rw[e]<;>simp)
  rw[finishComm_recv]at o;let⟨B',Yu,CR⟩:=N.P_ p (H.apart _ _ _ m) (fn:=x.frame.fn) (pos:=x.frame.place) a2;refine⟨_,_,o,0,_,_,_,sl,_,rfl,⟨by simp[l],⟨q,?_⟩,⟨_,by rw[<-Ce];exact((CR.mono (Nat.le_max_left B' (c+1)) (λ_ x=>x) λ_ x=>x).join p (I.app λop h e=>by obtain⟨e',_,rfl⟩:=Go.Conc.mem_ofEvents h;exact absurd e.symm p) (y:={g:=0,fn:=g.frame.fn,pos:=g.frame.place,act:=.recvClosed c}) ⟨rfl,rfl⟩ (fW (ZM c) (Nat.le_max_right _ _)))⟩⟩,V _ C⟩;refine(hL.Jp aE (λj v U _ J=>?_) λop h=>?_).all
  .rw[qv aA]at J;exact J
  .obtain h|h:=Ck.1 h
   .obtain⟨e,_,rfl⟩:=Go.Conc.mem_ofEvents h;exact⟨.inl rfl,l⟩
   .simp at h;rcases h with rfl;exact⟨.inl rfl,l⟩
end
end Lf
namespace Lf
open Go Go.Conc
variable{P:Program}
theorem fq(a b):¬Fl (G a b):=λh=>h.lost.elim (λx=>x rfl) λx=>x rfl
theorem Kk(l:Plain P){n g w f k}(d:fZ g)(e:¬Fl f)(h:runN P (n+1) (solo g w)=.next (solo f k)):
  ∃b c a,stepT P (solo g w)=(.next (solo b c),a)/\fZ b/\Alone P g w b c a/\runN P n (solo b c)=.next (solo f k):=by
 simp only[runN]at h;cases i:stepT P (solo g w)with
 |mk s a=>
  let m:step P (solo g w)=s:=by rw[step,i]
  rw[m]at h;cases s with
  |ended o x=>cases h
  |next r=>
   obtain q|⟨b,c,rfl,p|⟨_,j⟩⟩:=Ba l d.ok d.status i
   .have:=A6 h;simp[solo]at this;omega
   .exact absurd (KS l p h) e
   .exact⟨b,c,a,rfl,(j d.offers).1,(j d.offers).2,h⟩
theorem Ul(e:Plain P):∀{n:Nat}{g w b}{d},fZ g->¬Fl b->runN P n (solo g w)=.next (solo b d)->fZ b:=by
 intro n
 induction n with
 |zero=>intro g w b d c _ h;simp only[runN,Stepped.next.injEq]at h;have:=og (λm:Machine=>m.gs[0]?) h;simp[solo]at this;exact this▸c
 |succ n f=>
  intro g w b d c a h;let⟨g1,w1,_,_,h2,_,h4⟩:=Kk e c a h;exact f h2 a h4
theorem sR{b a}(d:bK b)(c:∀x∈a,bK x):fZ (G b a):=⟨⟨d,c,λ_ h=>by cases h⟩,rfl,rfl,rfl⟩
theorem nL{b a w v}(h:(results b a).run P w=.ok v w)(c d):(results b a).run P (re w c d)=.ok v (re w c d):=by
 have e:=(Sem.runT_fst P _ w #[]).trans h;have⟨m,e1,e2⟩:=qh P (results b a) 0 w #[] (B3 (P:=P) b a) (by rw[e];rfl);rw[e]at e1 e2;simp only[Ph,Result.ok.injEq,vW]at e1;have f:m=0:=by have:=og World.drawn e1;simp[re]at this;omega
 subst f;have:=congrArg Prod.fst (e2 c d (λj g=>absurd g (Nat.not_lt_zero j)));rw[Sem.runT_fst]at this;simpa[Ph]using this
theorem p8{b:Frame}{w e}(h:b.leaving P w e)(a d):b.leaving P (re w a d) e:=by
 cases e with
 |returned v=>obtain⟨k,c,j,f,g,i⟩:=h;exact⟨k,c,j,f,g,nL i a d⟩
 |panicked chain=>exact h
 |outgrown=>trivial
def aJ(P:Program)(K:bU->aC->Prop)(g:bU)(w:aC):Prop:=∀a d,oG P K g (re w a d)
theorem aJ.leads{K g w}(h:aJ P K g w):oG P K g w:=h w.tape w.drawn
theorem aJ.other{K g w}(h:aJ P K g w)(c d):aJ P K g (re w c d):=λa b=>h a b
theorem aJ.trans{K L g w}(h:aJ P K g w)(c:∀a w',K a w'->aJ P L a w'):aJ P L g w:=λb d=>(h b d).trans λa w' x=>(c a w' x).leads
theorem aJ.mono{K L g w}(h:aJ P K g w)(e:∀a b,K a b->L a b):aJ P L g w:=λc d=>(h c d).mono e
theorem aJ.of_steps(k:Plain P){K}(l:∀g w b d,K g w->K g (re w b d)){g w}(f:fZ g)(h:∀b d,∃a c,Steps P (solo g (re w b d)) (solo a c)/\¬Fl a/\(fZ a->K a c)):aJ P K g w:=by
 intro e i;refine Ou (F3 k l f λb d=>?_);let⟨a,c,⟨n,hn⟩,h2,h3⟩:=h b d;let j:=Ul k f h2 hn;exact⟨n,a,c,hn,j,h3 j⟩
def dI(P:Program)(f:FuncId)(b:aY aF)(w:aC)(R:Ending->aC->Prop):Prop:=
 ∀c,(∀a∈c,bK a)->aJ P (λg d=>∃e a,g=G a c/\bK a/\R e d/\a.fn=f/\a.leaving P d e) (G (Frame.enter P f b .normal) c) w
theorem dI.mono{f a w R R'}(h:dI P f a w R)(i:∀e c,R e c->R' e c):dI P f a w R':=
 λg b=>(h g b).mono λ_ _ ⟨e,m,n,d,l,j,k⟩=>⟨e,m,n,d,i _ _ l,j,k⟩
theorem dI.El(r:Plain P){f a w R}(q:∀e w b d,R e w->R e (re w b d))(o:∀w,¬R .outgrown w)(h:∀b d,Calls P f a (re w b d) R):dI P f a w R:=by
 intro j m;refine aJ.of_steps r ?_ (sR (iN (P:=P) f a .normal) m) λb d=>?_
 .rintro g w b d ⟨e,i,l,k,p,n,t⟩;exact⟨e,i,l,k,q _ _ _ _ p,n,p8 t b d⟩
 .let⟨e,w',i,l,k,p,n⟩:=h b d j;let s:Steps P (lone (Frame.enter P f a .normal) j (re w b d)) (lone i j w'):=by
   cases e with
   |returned v=>exact k
   |panicked c=>exact k
   |outgrown=>exact absurd l (o _)
  exact⟨G i j,w',s,fq i j,λu=>⟨e,i,rfl,u.ok.frame,l,p,n⟩⟩
end Lf
namespace Lf
open Go Go.Conc
variable{P:Program}
def At(b:Frame)(k:aB Item)(e:aB Frame)(g:bU):Exit->Act->Prop
 |.normal,a=>g=G (b.at a k) e
 |.exit id,a=>∃d,exitTo id k=some d/\g=G (b.at a d) e
 |.goto l,a=>∃d,gotoIn l k=some d/\g=G (b.at a d) e
 |.ret,a=>∃c,(∀f∈c,cX f)/\g=G {b.at a c with mode:=.returning} e
 |.panic chain,a=>∃c,(∀f∈c,cX f)/\g=G {b.at a c with mode:=.panicking chain} e
 |.outgrown,_=>False
structure Ai(Q:Exit->Act->aC->Prop)(k:aB Item)(cs:aB Frame):Prop where
 items:∀it∈k,cX it
 frames:∀fr∈cs,bK fr
 Kg:∀id a w,Q (.exit id) a w->∃k',exitTo id k=some k'
 gotos:∀l a w,Q (.goto l) a w->∃k',gotoIn l k=some k'
def gX(P:Program)(c:Code)(Q:Exit->Act->aC->Prop)(a:Act)(w:aC):Prop:=
 ∀(b:Frame)(k:aB Item)(d:aB Frame),Ai Q k d->aJ P (λg h=>∃e f,Q e f h/\At b k d g e f) (G (b.at a (.code c::k)) d) w
theorem gX.mono{c Q g a w}(h:gX P c Q a w)(f:∀e a w,Q e a w->g e a w):gX P c g a w:=
 λb k i d=>(h b k i ⟨d.items,d.frames,λid a w x=>d.Kg id a w (f _ _ _ x),λid a w x=>d.gotos id a w (f _ _ _ x)⟩).mono λ_ _ ⟨e,j,x,y⟩=>⟨e,j,f _ _ _ x,y⟩
theorem jK{b:Frame}{a k}(h:∀it∈k,cX it):bK (b.at a k):=h
theorem bP{it k}(b:cX it)(h:∀it∈k,cX it):∀x∈it::k,cX x:=λx a=>by
 obtain rfl|a:=gp.1 a
 .exact b
 .exact h x a
theorem kL{b:Frame}{a c k d}(h:∀e∈k,cX e)(g:∀f∈d,bK f):fZ (G (b.at a (.code c::k)) d):=sR (jK (bP trivial h)) g
theorem aJ.move(m:Plain P){K f a b w}(j:fZ (G f b))(h:∀w,Steps P (lone f b w) (lone a b w))(n:fZ (G a b)->aJ P K (G a b) w):aJ P K (G f b) w:=by
 let k:aJ P (λg i=>g=G a b/\fZ g/\∃c d,i=re w c d) (G f b) w:=by
  refine .of_steps m ?_ j λc d=>⟨G a b,re w c d,h _,fq _ _,λe=>⟨rfl,e,c,d,rfl⟩⟩;rintro g i c d ⟨rfl,e,l,o,rfl⟩;exact⟨rfl,e,c,d,rfl⟩
 apply k.trans;rintro g i ⟨rfl,e,c,d,rfl⟩;exact(n e).other c d
theorem gX.of_wp(u:Plain P){c Q a w}(v:∀e a w n d,Q e a w->Q e a (re w n d))(s:∀a w,¬Q .outgrown a w)(h:∀n d,c.wp P Q a (re w n d)):gX P c Q a w:=by
 intro b k x q;refine .of_steps u ?_ (kL q.items q.frames) λn d=>?_
 .rintro g w n d ⟨e,j,i,m⟩;exact⟨e,j,v _ _ _ _ _ i,m⟩
 .let⟨e,j,w',i,m⟩:=h n d b k x;cases e with
  |normal=>exact⟨_,w',m,fq _ _,λ_=>⟨.normal,j,i,rfl⟩⟩
  |exit id=>obtain⟨o,p⟩:=q.Kg id j w' i;exact⟨_,w',m o p,fq _ _,λ_=>⟨.exit id,j,i,o,p,rfl⟩⟩
  |goto l=>obtain⟨o,p⟩:=q.gotos l j w' i;exact⟨_,w',m o p,fq _ _,λ_=>⟨.goto l,j,i,o,p,rfl⟩⟩
  |ret=>obtain⟨f,r⟩:=m;exact⟨_,w',r,fq _ _,λt=>⟨.ret,j,i,f,t.ok.frame,rfl⟩⟩
  |panic chain=>obtain⟨f,r⟩:=m;exact⟨_,w',r,fq _ _,λt=>⟨.panic chain,j,i,f,t.ok.frame,rfl⟩⟩
  |outgrown=>exact absurd i (s _ _)
theorem At.pass{b x k f g e a}(m:x.plain=true)(i:e≠.normal)(h:At b (x::k) f g e a):At b k f g e a:=by
 cases e with
 |normal=>exact absurd rfl i
 |exit id=>obtain⟨c,j,d⟩:=h;exact⟨c,by cases x<;>simp_all[exitTo,Item.plain],d⟩
 |goto l=>obtain⟨c,j,d⟩:=h;exact⟨c,by cases x<;>simp_all[gotoIn,Item.plain],d⟩
 |ret=>exact h
 |panic chain=>exact h
 |outgrown=>exact h
theorem Ai.pass{Q c k e x}(b:Ai Q k e)(i:x.plain=true)(d:cX x)(g:∀id a w,c (.exit id) a w->Q (.exit id) a w)(f:∀id a w,c (.goto id) a w->Q (.goto id) a w):Ai c (x::k) e:=
 ⟨bP d b.items,b.frames,λid a w h=>by
  let⟨k',hk⟩:=b.Kg id a w (g _ _ _ h);exact⟨k',by cases x<;>simp_all[exitTo,Item.plain]⟩,λid a w h=>by
  let⟨k',hk⟩:=b.gotos id a w (f _ _ _ h);exact⟨k',by cases x<;>simp_all[gotoIn,Item.plain]⟩⟩
theorem aJ.then{K L g w}(h:aJ P K g w)(c:∀a w',K a w'->oG P L a w'):aJ P L g w:=λb d=>(h b d).trans c
theorem aJ.step(k:Plain P){K c fr' b cs' w}(f:fZ (G c b))(h:∀τ d,Steps P (lone c b (re w τ d)) (lone fr' cs' (re w τ d)))(l:fZ (G fr' cs')->aJ P K (G fr' cs') w):aJ P K (G c b) w:=by
 let i:aJ P (λg e=>g=G fr' cs'/\fZ g/\∃τ d,e=re w τ d) (G c b) w:=by
  refine .of_steps k ?_ f λτ d=>⟨G fr' cs',re w τ d,h _ _,fq _ _,λa=>⟨rfl,a,τ,d,rfl⟩⟩;rintro g e τ d ⟨rfl,a,j,m,rfl⟩;exact⟨rfl,a,τ,d,rfl⟩
 apply i.trans;rintro g e ⟨rfl,a,τ,d,rfl⟩;exact(l a).other τ d
theorem aJ.here{K g w}(h:∀a d,K g (re w a d)):aJ P K g w:=λa d=>.here (h a d)
theorem gX.seq(l:Plain P){x y Q a w}(h:gX P x (Exit.then (gX P y Q) Q) a w):gX P (.seq x y) Q a w:=by
 intro b k i c;refine aJ.move l (kL c.items c.frames) (λ_=>.one step_seq) λ_=>?_;apply(h b (.code y::k) i (c.pass rfl trivial (λ_ _ _ x=>x) λ_ _ _ x=>x)).then
 rintro g m ⟨e,j,f,d⟩;cases e with
 |normal=>cases d;exact(f b k i c).leads
 |_=>exact .here ⟨_,j,f,At.pass (x:=.code y) rfl aE d⟩
theorem gX.seq'(b:Plain P){x y Q a w}(J)(h:gX P x (Exit.then J Q) a w)(c:∀a w,J a w->gX P y Q a w):gX P (.seq x y) Q a w:=
 .seq b (h.mono λe a w x=>by cases e<;>first|exact c _ _ x|exact x)
theorem gX.cond(g:Plain P){c x y t Q}{a:Act}{w}(f:a.eval c=.bool t)(h:gX P (if t then x else y) Q a w):gX P (.cond c x y) Q a w:=
 λb k e d=>aJ.move g (kL d.items d.frames) (λ_=>.one (step_cond f)) λ_=>h b k e d
theorem gX.block(s:Plain P){id c Q a w}(t:∀a w r d,Q .normal a w->Q .normal a (re w r d))(h:gX P c (Exit.inBlock id Q) a w):gX P (.block id c) Q a w:=by
 intro b k u j;refine aJ.move s (kL j.items j.frames) (λ_=>.one step_block) λ_=>?_;refine(h b (.inBlock id::k) u ⟨bP trivial j.items,j.frames,λf a w x=>?_,λl a w x=>?_⟩).then ?_
 .by_cases hid:f=id
  .exact⟨k,by simp[exitTo,hid]⟩
  .simp only[Exit.inBlock,hid,fx]at x;let⟨m,hk⟩:=j.Kg f a w x;have:(id==f)=false:=by simp;exact λh=>hid h.symm
   exact⟨m,by simp[exitTo,this,hk]⟩
 .let⟨m,hk⟩:=j.gotos l a w x;exact⟨m,by simp[gotoIn,hk]⟩
 rintro g v ⟨e,p,i,o⟩;cases e with
 |normal=>
  cases o;exact(aJ.move s (sR (jK (bP (it:=.inBlock id) trivial j.items)) j.frames) (λ_=>.one step_inBlock) λ_=>.here λr d=>⟨.normal,p,t _ _ _ _ i,rfl⟩).leads
 |exit f=>
  let⟨m,n,q⟩:=o;by_cases hid:f=id
  .subst hid;simp only[Exit.inBlock,fA]at i;simp[exitTo]at n;subst n;exact .here ⟨.normal,p,i,q⟩
  .simp only[Exit.inBlock,hid,fx]at i;have:(id==f)=false:=by simp;exact λh=>hid h.symm
   simp[exitTo,this]at n;exact .here ⟨.exit f,p,i,m,n,q⟩
 |goto l=>obtain⟨m,n,q⟩:=o;simp[gotoIn]at n;exact .here ⟨.goto l,p,i,m,n,q⟩
 |ret=>exact .here ⟨.ret,p,i,o⟩
 |panic chain=>exact .here ⟨.panic chain,p,i,o⟩
 |outgrown=>exact o.elim
theorem gX.loop(r:Plain P){c Q a w}(I:Nat->Act->aC->bQ)(d)(i:I d a w)
  (h:∀n a w,I n a w->gX P c (Exit.then (λf w'=>∃m,m<n/\I m f w') Q) a w):gX P (.loop c) Q a w:=by
 intro b k p j;let o:∀n a w,I n a w->aJ P (λg w'=>∃e f,Q e f w'/\At b k p g e f) (G (b.at a (.code c::.inLoop c::k)) p) w:=by
  intro n
  induction n using Nat.strongRecOn with
  |_ n t=>
   intro a w s;apply(h n a w s b (.inLoop c::k) p (j.pass rfl trivial (λ_ _ _ x=>x) λ_ _ _ x=>x)).then
   rintro g w' ⟨e,f,l,q⟩;cases e with
   |normal=>
    cases q;let⟨m,hm,l⟩:=l;exact(aJ.move r (sR (jK (bP (it:=.inLoop c) trivial j.items)) j.frames) (λ_=>.one step_inLoop) λ_=>t m hm f w' l).leads
   |_=>exact .here ⟨_,f,l,At.pass (x:=.inLoop c) rfl aE q⟩
 exact aJ.move r (kL j.items j.frames) (λ_=>.one step_loop) λ_=>o d a w i
theorem gX.ret(f:Plain P){Q a w}(h:∀b d,Q .ret a (re w b d)):gX P .ret Q a w:=
 λ_ _ _ c=>aJ.move f (kL c.items c.frames) (λ_=>.one step_ret) λe=>.here λb d=>⟨.ret,a,h b d,_,e.ok.frame,rfl⟩
theorem gX.exit(e:Plain P){id Q a w}(h:∀b d,Q (.exit id) a (re w b d)):gX P (.exit id) Q a w:=λ_ _ _ c=>by
 let⟨k',hk⟩:=c.Kg id a _ (h w.tape w.drawn)
 exact aJ.move e (kL c.items c.frames) (λ_=>.one (step_exit hk)) λ_=>.here λb d=>⟨.exit id,a,h b d,k',hk,rfl⟩
def kx(P:Program)(d:aY Oper)(Q:Exit->Act->aC->Prop)(l:aB Nat)(a:Act)(w:aC):Prop:=
 ∀(b:Frame)(k:aB Item)(c:aB Frame),Ai Q k c->aJ P (λg h=>∃e f,Q e f h/\At b k c g e f) (G (b.at a (.inRegion d l::k)) c) w
theorem lq{c b}(d:bK c)(h:∀x∈b,bK x):∀x∈c::b,bK x:=λx a=>by
 obtain rfl|a:=gp.1 a
 .exact d
 .exact h x a
theorem pO{b:Frame}{a c l k d}(h:∀e∈k,cX e)(g:∀f∈d,bK f):fZ (G (b.at a (.inRegion c l::k)) d):=sR (jK (bP trivial h)) g
theorem kx.nil(f:Plain P){c Q a w}(h:∀b d,Q .normal a (re w b d)):kx P c Q [] a w:=
 λ_ _ _ e=>aJ.move f (pO e.items e.frames) (λ_=>.one step_region_end) λ_=>.here λb d=>⟨.normal,a,h b d,rfl⟩
theorem V4{ops Q i rest K a w}(r:¬LetsOut Q)(h:wpOp P ops Q i K a w)(b:Frame)(k cs):
  (∃t g,K t g/\Steps P (lone (b.at a (.inRegion ops (i::rest)::k)) cs w) (lone (b.at t (.inRegion ops rest::k)) cs g))\/
  (∃chain g,Q (.panic chain) a g/\Steps P (lone (b.at a (.inRegion ops (i::rest)::k)) cs w) (lone {b.at a (.inRegion ops (i::rest)::k)with mode:=.panicking chain} cs g)):=by
 unfold wpOp at h;cases n:ops[i]? with
 |none=>
  simp only[n]at h;let q:=step_op_skip (P:=P) (b:=b) (a:=a) (k:=k) (cs:=cs) (w:=w) (ops:=ops) (i:=i) (rest:=rest) (by simp[n]);simp only[n,Option.bind_none,Act.put]at q;exact .inl ⟨a,w,h,.one q⟩
 |some o=>
  simp only[n]at h;by_cases hw:Region.wanted o (yielded ops a.tmps)=true
  .simp only[hw,fA]at h;obtain h|⟨_,h⟩:=h
   case inr=>exact absurd h r
   simp only[Oper.wp,Oper.upon]at h;let p:=stepG_op (P:=P) (b:=b) (k:=k) (cs:=cs) (w:=w) (rest:=rest) n hw;let j:∀v,(b.at a (.inRegion ops (i::rest)::k)).finish v=b.at (a.put o.dst v) (.inRegion ops rest::k):=by
    intro v;rw[Frame.finish_at,n];rfl
   split at h
   .rename_i v g l;refine .inl ⟨_,g,h,.one (step_lone_go ?_)⟩;rw[p,<-j];simp[stepG.apply,l]
   .rename_i g l;refine .inl ⟨_,g,h,.one (step_lone_go ?_)⟩;rw[p,<-j];simp[stepG.apply,l]
   .rename_i d g l;refine .inl ⟨_,g,h,.one (step_lone_go ?_)⟩;have:({b.at a (.inRegion ops (i::rest)::k)with defers:=d::a.defers}:Frame).finish undef=
      b.at ({a with defers:=d::a.defers}.put o.dst undef) (.inRegion ops rest::k):=by
     have:=Frame.finish_at b {a with defers:=d::a.defers} ops i rest k undef;rw[n]at this;exact this
    rw[p];simp only[stepG.apply,Sem.runT_eq,l,GStep.bare_after];exact og (λs=>GStep.go {frame:=s,callers:=cs,status:=.running,dying:=none} g) this
   .rename_i f m g l;let⟨e,w'',s,hR,IJ,_,S7⟩:=h (b.at a (.inRegion ops (i::rest)::k)::cs);let c:step P (lone (b.at a (.inRegion ops (i::rest)::k)) cs w)=
      .next (lone (Frame.enter P f m .normal) (b.at a (.inRegion ops (i::rest)::k)::cs) g):=
     step_lone_go (by rw[p];simp[stepG.apply,l,Frame.at])
    cases e with
    |returned v=>
     refine .inl ⟨_,w'',hR,.head c (IJ.trans (.one ?_))⟩;rw[<-j];exact step_leave_returned S7
    |panicked chain=>
     refine .inr ⟨chain,w'',hR,.head c (IJ.trans (.one ?_))⟩;rw[<-Frame.raise_at];exact step_leave_panicked S7
    |outgrown=>exact absurd hR r
   .rename_i row m g l;let⟨v,w'',hR,IJ⟩:=h (b.at a (.inRegion ops (i::rest)::k)) cs;let c:step P (lone (b.at a (.inRegion ops (i::rest)::k)) cs w)=
      .next (lone (Frame.ofRow P row m .normal) (b.at a (.inRegion ops (i::rest)::k)::cs) g):=
     step_lone_go (by rw[p];simp[stepG.apply,l,Frame.at])
    refine .inl ⟨_,w'',hR,.head c ?_⟩;rw[<-j];exact IJ
   .rename_i v g l;refine .inr ⟨_,g,h,.one (step_lone_go ?_)⟩;rw[p,<-Frame.raise_at];simp[stepG.apply,l]
   .exact h.elim
  .simp only[hw,fx,gD]at h;let q:=step_op_skip (P:=P) (b:=b) (a:=a) (k:=k) (cs:=cs) (w:=w) (ops:=ops) (i:=i) (rest:=rest)
    (by simp[n];simpa using hw)
   simp only[n,Option.bind_some]at q;exact .inl ⟨_,w,h,.one q⟩
theorem kx.cons(s:Plain P){e Q i rest a w}(K)(u:∀a w m d,K a w->K a (re w m d))(t:∀c a w m d,Q (.panic c) a w->Q (.panic c) a (re w m d))(q:¬LetsOut Q)(h:∀m d,wpOp P e Q i K a (re w m d))
  (r:∀j l,K j l->kx P e Q rest j l):kx P e Q (i::rest) a w:=by
 intro b k o p;let f:aJ P (λg l=>(∃j,K j l/\g=G (b.at j (.inRegion e rest::k)) o)\/(∃chain,Q (.panic chain) a l/\g=G {b.at a (.inRegion e (i::rest)::k)with mode:=.panicking chain} o)) (G (b.at a (.inRegion e (i::rest)::k)) o) w:=by
  refine .of_steps s ?_ (pO p.items p.frames) λm d=>?_
  .rintro g w m d (⟨j,f,n⟩|⟨c,f,n⟩)
   .exact .inl ⟨j,u _ _ _ _ f,n⟩
   .exact .inr ⟨c,t _ _ _ _ _ f,n⟩
  .obtain⟨j,l,f,n⟩|⟨c,l,f,n⟩:=V4 (rest:=rest) q (h m d) b k o
   .exact⟨_,l,n,fq _ _,λ_=>.inl ⟨j,f,rfl⟩⟩
   .exact⟨_,l,n,fq _ _,λ_=>.inr ⟨c,f,rfl⟩⟩
 apply f.then
 rintro g l (⟨j,f,rfl⟩|⟨c,f,rfl⟩)
 .exact(r j l f b k o p).leads
 .exact .here ⟨.panic c,a,f,_,bP (it:=.inRegion e (i::rest)) trivial p.items,rfl⟩
theorem kx.call(t:Plain P){j Q i rest a w o f args R}(A:j[i]?=some o)(hw:Region.wanted o (yielded j a.tmps)=true)
  (D:∀l d,(execOp a.eval o).run P (re w l d)=.ok (.enter f args) (re w l d)) (h:dI P f args w R) (s:∀c m,R (.panicked c) m->∀l d,Q (.panic c) a (re m l d)) (u:∀m,¬R .outgrown m)
  (C:∀v m,R (.returned v) m->kx P j Q rest (a.put o.dst v) m):kx P j Q (i::rest) a w:=by
 intro b k r n;let q:∀v,(b.at a (.inRegion j (i::rest)::k)).finish v=b.at (a.put o.dst v) (.inRegion j rest::k):=by
  intro v;rw[Frame.finish_at,A];rfl
 let p:bK (b.at a (.inRegion j (i::rest)::k)):=jK (bP trivial n.items);refine aJ.step t (pO n.items n.frames) (λl d=>.one (step_lone_go (fr':=Frame.enter P f args .normal) (cs':=b.at a (.inRegion j (i::rest)::k)::r) ?_)) λ_=>?_
 .rw[stepG_op A hw];simp[stepG.apply,D,Frame.at]
 apply(h (b.at a (.inRegion j (i::rest)::k)::r) (lq p n.frames)).then
 rintro g m ⟨e,E,rfl,B,x,_,z⟩;let y:=sR B (lq p n.frames);cases e with
 |returned v=>
  refine(aJ.step t y (fr':=b.at (a.put o.dst v) (.inRegion j rest::k)) (cs':=r) (λl d=>.one ?_) λ_=>C v m x b k r n).leads;rw[<-q];exact step_leave_returned (p8 z l d)
 |panicked c=>
  refine(aJ.step t y (fr':={b.at a (.inRegion j (i::rest)::k)with mode:=.panicking c}) (cs':=r) (λl d=>.one ?_) λ_=>.here λl d=>⟨.panic c,a,s c m x l d,_,bP (it:=.inRegion j (i::rest)) trivial n.items,rfl⟩).leads;rw[<-Frame.raise_at];exact step_leave_panicked (p8 z l d)
 |outgrown=>exact absurd x (u m)
theorem gX.region(f:Plain P){id c Q a w}(h:kx P c Q (List.range c.size) a w):gX P (.region id c false) Q a w:=
 λb k e d=>aJ.move f (kL d.items d.frames) (λ_=>.one step_region) λ_=>h b k e d
theorem gX.Lk(n:Plain P){id c Q a w}(h:∀t,kx P c Q (Region.schedule (P.follows .mixedOrders) c t) a w):gX P (.region id c true) Q a w:=by
 intro b k f j;let i:aJ P (λg l=>(∃t,g=G (b.at a (.inRegion c (Region.schedule (P.follows .mixedOrders) c t)::k)) f)/\∃e d,l=re w e d) (G (b.at a (.code (.region id c true)::k)) f) w:=by
  refine .of_steps n ?_ (kL j.items j.frames) λe d=>⟨_,re w e (d+1),.one step_region_draw,fq _ _,λ_=>⟨⟨_,rfl⟩,e,d+1,rfl⟩⟩
  .rintro g l e d ⟨i,m,o,rfl⟩;exact⟨i,e,d,rfl⟩
 apply i.trans;rintro g l ⟨⟨t,rfl⟩,e,d,rfl⟩;exact(h t b k f j).other e d
theorem dI.I2(u:Plain P){f i c a w R}(t:∀e w q d,R e w->R e (re w q d))(p:P.funcs[f]?=some i)(z:i.body=some c)
  (h:gX P c (bodyPost P i R) {tmps:=a++Array.replicate (i.ntmps-a.size) undef,defers:=[]} w):dI P f a w R:=by
 intro y k;let b:Frame:={(default:Frame)with fn:=f,kind:=.normal};let j:Frame.enter P f a .normal=b.at {tmps:=a++Array.replicate (i.ntmps-a.size) undef,defers:=[]} [.code c]:=by
  simp[Frame.enter,Frame.at,p,z,b]
 rw[j];apply(h b [] y ⟨λ_ h=>(by cases h),k,λ_ _ _ x=>x.elim,λ_ _ _ x=>x.elim⟩).then
 rintro g B ⟨e,A,n,o⟩;cases e with
 |normal=>
  cases o;let⟨hd,v,hr,hv⟩:=n;refine(aJ.move u (sR (jK λ_ h=>by cases h) k) (λ_=>.one step_end) λr=>.here λq d=>⟨.returned v,_,rfl,r.ok.frame,t _ _ _ _ hv,rfl,rfl,hd,rfl,i,p,nL hr q d⟩).leads
 |ret=>
  obtain⟨m,s,rfl⟩:=o;let⟨hd,v,hr,hv⟩:=n;exact .here ⟨.returned v,_,rfl,s,hv,rfl,rfl,hd,rfl,i,p,hr⟩
 |panic chain=>
  obtain⟨m,s,rfl⟩:=o;let⟨hd,hv⟩:=n;exact .here ⟨.panicked chain,_,rfl,s,hv,rfl,rfl,hd,i,p⟩
 |exit id=>exact n.elim
 |goto l=>exact n.elim
 |outgrown=>exact o.elim
end Lf
end Go.Proofs.YtpbbmagjhkakgaaGreatDoor
