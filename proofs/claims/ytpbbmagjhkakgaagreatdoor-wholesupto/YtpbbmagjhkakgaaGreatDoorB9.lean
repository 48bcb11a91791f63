import Derived.Test.YtpbbmagjhkakgaaGreatDoorA2
import Derived.Test.YtpbbmagjhkakgaaGreatDoorB4
import Derived.Conc.CompanyMem
import Derived.Conc.CrowdComm
namespace Go.Proofs.YtpbbmagjhkakgaaGreatDoor
namespace Ev
open Go.Deep (BT)
abbrev nM:=Int×aB a_
def oU(t lo hi:Int)(p:aB nM->Bool):aB nM->Bool
 |[]=>false
 |e::es=>if t-e.1>hi then false else if t-e.1>=lo/\p (e::es)=true then true else oU t lo hi p es
def oN(t lo hi:Int)(p q:aB nM->Bool):aB nM->Bool
 |[]=>false
 |e::es=>if t-e.1>hi then false else if t-e.1>=lo/\q (e::es)=true then true else if p (e::es)=false then false else oN t lo hi p q es
def qH(t lo hi:Int)(p:aB nM->Bool):aB nM->Bool
 |[]=>false
 |e::es=>decide (lo<=t-e.1)&&decide (t-e.1<=hi)&&p (e::es)
def dR:BT dD->aB nM->Bool
 |.nil,_=>false
 |.node _ _ a l r,h=>match h with
  |[]=>false
  |e::uH=>
   if a.op=116 then true
   else if a.op=97 then e.2.any λx=>decide (x=a.name)
   else if a.op=172 then !dR l (e::uH)
   else if a.op=8743 then dR l (e::uH)&&dR r (e::uH)
   else if a.op=8744 then dR l (e::uH)||dR r (e::uH)
   else if a.op=89 then qH e.1 a.lo a.hi (dR l) uH
   else if a.op=79 then oU e.1 a.lo a.hi (dR l) (e::uH)
   else if a.op=72 then !oU e.1 a.lo a.hi (λh=> !dR l h) (e::uH)
   else oN e.1 a.lo a.hi (dR l) (dR r) (e::uH)
section
variable{b o:Nat}{a:dD}{l r:BT dD}(e:nM)(es:aB nM)
theorem L6(h:a.op=116):dR (.node b o a l r) (e::es)=true:=by simp[dR,h]
theorem L5(h:a.op=97):dR (.node b o a l r) (e::es)=e.2.any (λx=>decide (x=a.name)):=by simp[dR,h]
theorem PZ(h:a.op=172):dR (.node b o a l r) (e::es)= !dR l (e::es):=by simp[dR,h]
theorem PY(h:a.op=8743):dR (.node b o a l r) (e::es)=(dR l (e::es)&&dR r (e::es)):=by simp[dR,h]
theorem Y3(h:a.op=8744):dR (.node b o a l r) (e::es)=(dR l (e::es)||dR r (e::es)):=by simp[dR,h]
theorem qv(h:a.op=89):dR (.node b o a l r) (e::es)=qH e.1 a.lo a.hi (dR l) es:=by simp[dR,h]
theorem Ab(h:a.op=79):dR (.node b o a l r) (e::es)=oU e.1 a.lo a.hi (dR l) (e::es):=by simp[dR,h]
theorem OP(h:a.op=72):dR (.node b o a l r) (e::es)= !oU e.1 a.lo a.hi (λh=> !dR l h) (e::es):=by simp[dR,h]
theorem xe(h:a.op=83):dR (.node b o a l r) (e::es)=oN e.1 a.lo a.hi (dR l) (dR r) (e::es):=by simp[dR,h]
end
theorem wj{t lo hi:Int}{p q:aB nM->Bool}(a:∀e es,p (e::es)=q (e::es)):∀h,oU t lo hi p h=oU t lo hi q h
 |[]=>rfl
 |e::es=>by simp only[oU,a e es,wj a es]
theorem Ag{t lo hi:Int}{p q b c:aB nM->Bool}(a:∀e es,p (e::es)=b (e::es))(d:∀e es,q (e::es)=c (e::es)):∀h,oN t lo hi p q h=oN t lo hi b c h
 |[]=>rfl
 |e::es=>by simp only[oN,a e es,d e es,Ag a d es]
theorem FZ{t lo hi:Int}{p q:aB nM->Bool}(a:∀e es,p (e::es)=q (e::es)):∀h,qH t lo hi p h=qH t lo hi q h
 |[]=>rfl
 |e::es=>by simp only[qH,a e es]
theorem xd{x}(d:Good x)(e es):dR (eD x) (e::es)= !dR x (e::es):=by
 cases x with
 |nil=>exact d.elim
 |node b o a l r=>
  by_cases c:a.op=172
  .simp[eD,dR,c]
  .simp[eD,c,mk,dR]
theorem Aa:∀{x:BT dD},Good x->∀(e:nM)(es:aB nM),dR (aO x) (e::es)=dR x (e::es)
 |.nil,h=>h.elim
 |.node b o a l r,h=>by
  intro e es
  obtain⟨c,_⟩|⟨c,_⟩|⟨c,s,q,t,i,n⟩|⟨c,s,q,t,i,v⟩:=h
  .unfold aO;rw[bY (.inl c)]
  .unfold aO;rw[bY (.inr c)]
  .let g:=dK i
   let p:=dK n
   let f:=Aa i
   let k:=Aa n
   obtain c|c|c:=c
   .simp[aO,dR,c,mk,f,k]
   .let m:Good (mk 8743 ByteArray.empty 0 0 (eD (aO l)) (eD (aO r))):=.inr (.inr (.inl ⟨.inl rfl,rfl,aF,λ_=>⟨rfl,rfl⟩,iA g,iA p⟩))
    let d:aO (.node b o a l r)=eD (mk 8743 ByteArray.empty 0 0 (eD (aO l)) (eD (aO r))):=by simp[aO,c]
    rw[d,xd m]
    let j:dR (mk 8743 ByteArray.empty 0 0 (eD (aO l)) (eD (aO r))) (e::es)=(dR (eD (aO l)) (e::es)&&dR (eD (aO r)) (e::es)):=by simp[mk,dR]
    rw[j,xd g,xd p,f,k]
    simp[dR,c]
   .let d:aO (.node b o a l r)=mk a.op ByteArray.empty a.lo a.hi (aO l) (aO r):=by simp[aO,c]
    rw[d,xe _ _ c]
    exact(xe (a:=⟨a.op,ByteArray.empty,a.lo,a.hi⟩) _ _ c).trans (Ag f k _)
  .let g:=dK i
   let f:=Aa i
   obtain c|c|c|c:=c
   .let d:aO (.node b o a l r)=eD (aO l):=by simp[aO,c]
    rw[d,xd g,f]
    simp[dR,c]
   .let d:aO (.node b o a l r)=mk a.op ByteArray.empty a.lo a.hi (aO l) .nil:=by simp[aO,c]
    rw[d,qv _ _ c]
    exact(qv (a:=⟨a.op,ByteArray.empty,a.lo,a.hi⟩) _ _ c).trans (FZ f _)
   .let d:aO (.node b o a l r)=mk a.op ByteArray.empty a.lo a.hi (aO l) .nil:=by simp[aO,c]
    rw[d,Ab _ _ c]
    exact(Ab (a:=⟨a.op,ByteArray.empty,a.lo,a.hi⟩) _ _ c).trans (wj f _)
   .let m:Good (mk 79 ByteArray.empty a.lo a.hi (eD (aO l)) .nil):=.inr (.inr (.inr ⟨.inr (.inr (.inl rfl)),rfl,q,λh=>by simp[mi]at h,iA g,rfl⟩))
    let d:aO (.node b o a l r)=eD (mk 79 ByteArray.empty a.lo a.hi (eD (aO l)) .nil):=by simp[aO,c]
    rw[d,xd m]
    let j:dR (mk 79 ByteArray.empty a.lo a.hi (eD (aO l)) .nil) (e::es)=oU e.1 a.lo a.hi (dR (eD (aO l))) (e::es):=by simp[mk,dR]
    let u:dR (.node b o a l r) (e::es)= !oU e.1 a.lo a.hi (λh=> !dR l h) (e::es):=by simp[dR,c]
    rw[j,u]
    congr 1
    exact wj (λe es=>by rw[xd g,f]) _
theorem qq(b o)(a)(l r):bE (.node b o a l r)=a.hi+max (bE l) (bE r):=rfl
theorem eM:∀{x:BT dD},Good x\/x=.nil->0<=bE x
 |.nil,_=>by simp[bE]
 |.node b o a l r,h=>by
  rw[qq]
  obtain h|h:=h
  .obtain⟨_,_,_,e,rfl,rfl⟩|⟨_,_,_,e,rfl,rfl⟩|⟨_,_,d,_,c,f⟩|⟨_,_,d,_,c,rfl⟩:=h
   .simp[bE];omega
   .simp[bE];omega
   .have:=eM (.inl c);omega
   .have:=eM (.inl c);omega
  .cases h
def pR(K:aB Key):BT dD->Int->Prop
 |.nil,n=>n=0
 |.node _ _ a l r,n=>∃(i:Nat)(p q:Int),n=(i:Int)+1/\K[i]?=some ⟨a.op,a.name,a.lo,a.hi,p,q⟩/\pR K l p/\pR K r q/\p<=i/\q<=i
theorem pR.mono{K:aB Key}(M:aB Key):∀{x:BT dD}{n:Int},pR K x n->pR (K++M) x n
 |.nil,_,h=>h
 |.node _ _ _ _ _,_,⟨i,p,q,b,a,d,e,c⟩=>⟨i,p,q,b,by rw[uw (eY.1 a).1];exact a,d.mono M,e.mono M,c⟩
theorem pR.le{K:aB Key}:∀{x:BT dD}{n:Int},pR K x n->0<=n/\n<=K.length
 |.nil,n,h=>by have:n=0:=h;omega
 |.node _ _ _ _ _,_,⟨i,_,_,b,a,_⟩=>by have:=(eY.1 a).1;omega
theorem GH(K k):(∃M,(rL K k).2=K++M)/\∃i:Nat,(rL K k).1=(i)+1/\(rL K k).2[i]?=some k:=by
 unfold rL;cases h:rz K k with
 |none=>exact⟨⟨[k],rfl⟩,K.length,rfl,aF⟩
 |some i=>
  refine⟨⟨[],aF⟩,i,rfl,?_⟩;let⟨hi,h1,_⟩:=Sn.1 h;rw[fH hi];exact oB some (r8.1 h1).symm
theorem zU:∀(x:BT dD)(K:aB Key),∃M,(cO K x).2=K++M
 |.nil,K=>⟨[],by simp[cO]⟩
 |.node _ _ a l r,K=>by
  let⟨M1,h1⟩:=zU l K
  let⟨M2,h2⟩:=zU r (cO K l).2
  let⟨⟨M3,h3⟩,_⟩:=GH (cO (cO K l).2 r).2 ⟨a.op,a.name,a.lo,a.hi,(cO K l).1,(cO (cO K l).2 r).1⟩
  exact⟨M1++M2++M3,by rw[cO,h3,h2,h1];simp⟩
def xw(K:aB Key):Prop:=∀(i:Nat)(k:Key),K[i]?=some k->0<=k.l/\k.l<=(i:Int)/\0<=k.r/\k.r<=(i:Int)
theorem zT:∀(x:BT dD)(K:aB Key),xw K->xw (cO K x).2/\pR (cO K x).2 x (cO K x).1
 |.nil,K,h=>⟨h,rfl⟩
 |.node b o a l r,K,h=>by
  let⟨a1,n1⟩:=zT l K h
  let⟨a2,n2⟩:=zT r (cO K l).2 a1
  let⟨M2,g2⟩:=zU r (cO K l).2
  let⟨⟨M3,g3⟩,i,hi,hk⟩:=GH (cO (cO K l).2 r).2 ⟨a.op,a.name,a.lo,a.hi,(cO K l).1,(cO (cO K l).2 r).1⟩
  let e:cO K (.node b o a l r)=rL (cO (cO K l).2 r).2 ⟨a.op,a.name,a.lo,a.hi,(cO K l).1,(cO (cO K l).2 r).1⟩:=rfl
  rw[e]
  let n:pR (cO (cO K l).2 r).2 l (cO K l).1:=g2▸n1.mono M2
  let g:xw (rL (cO (cO K l).2 r).2 ⟨a.op,a.name,a.lo,a.hi,(cO K l).1,(cO (cO K l).2 r).1⟩).2:=by
   unfold rL;cases p:rz (cO (cO K l).2 r).2 ⟨a.op,a.name,a.lo,a.hi,(cO K l).1,(cO (cO K l).2 r).1⟩with
   |some j=>exact a2
   |none=>
    intro j k c;simp only at c;obtain d|m:=BI j (cO (cO K l).2 r).2.length
    .rw[uw d]at c;exact a2 j k c
    .rw[sK m]at c;let f:j-(cO (cO K l).2 r).2.length=0:=by
      have:=(eY.1 c).1;simp at this;omega
     rw[f]at c;simp at c;subst c;let q:=n.le;let s:=n2.le;simp only;omega
  refine⟨g,i,(cO K l).1,(cO (cO K l).2 r).1,hi,hk,by rw[g3];exact n.mono M3,by rw[g3];exact n2.mono M3,?_,?_⟩
  .exact(g i _ hk).2.1
  .exact(g i _ hk).2.2.2
structure Pe where
 number:Int
 time:Int
 atoms:aB a_
 so:aB Bool
def Pe.at(e:Pe)(j:Int):Bool:=e.so.getD j.toNat false
def Pe.nz(e:Pe):nM:=(e.time,e.atoms)
def wh(t lo hi j:Int):aB Pe->Bool
 |[]=>false
 |e::es=>if t-e.time>hi then false else if t-e.time>=lo/\e.at j=true then true else wh t lo hi j es
def qx(t lo hi j k:Int):aB Pe->Bool
 |[]=>false
 |e::es=>if t-e.time>hi then false else if t-e.time>=lo/\e.at k=true then true else if e.at j=false then false else qx t lo hi j k es
def beforeF(t lo hi j:Int):aB Pe->Bool
 |[]=>false
 |e::_=>decide (lo<=t-e.time)&&decide (t-e.time<=hi)&&e.at j
def nc(k:Key)(a:Pe)(b:aB Pe):Bool:=
 if k.op=116 then true
 else if k.op=97 then a.atoms.any λx=>decide (x=k.name)
 else if k.op=172 then !a.at k.l
 else if k.op=8743 then a.at k.l&&a.at k.r
 else if k.op=89 then beforeF a.time k.lo k.hi k.l b
 else if k.op=79 then wh a.time k.lo k.hi k.l (a::b)
 else qx a.time k.lo k.hi k.l k.r (a::b)
def Pe.add(e:Pe)(b:Bool):Pe:={e with so:=e.so++[b]}
def eG(uH:aB Pe):aB Key->Pe->Pe
 |[],e=>e
 |k::K,e=>eG uH K (e.add (nc k e uH))
def Pe.bare(e:Pe):Pe:={e with so:=[false]}
theorem yy(a:aB Pe)(k:Key):∀(K:aB Key)(e:Pe),eG a (K++[k]) e=(eG a K e).add (nc k (eG a K e) a)
 |[],_=>rfl
 |_::K,_=>yy a k K _
theorem iX(a:aB Pe):∀(K:aB Key)(e:Pe),(eG a K e).number=e.number/\(eG a K e).time=e.time/\(eG a K e).atoms=e.atoms/\(eG a K e).so.length=e.so.length+K.length/\∃m,(eG a K e).so=e.so++m
 |[],e=>⟨rfl,rfl,rfl,rfl,[],by simp[eG]⟩
 |k::K,e=>by
  let⟨h1,h2,h3,h4,m,h5⟩:=iX a K (e.add (nc k e a))
  refine⟨h1,h2,h3,?_,nc k e a::m,?_⟩
  .rw[eG,h4];simp[Pe.add];omega
  .rw[eG,h5];simp[Pe.add]
def pQ:BT dD->Prop
 |.nil=>True
 |.node _ _ a l r=>a.op≠8744/\a.op≠72/\pQ l/\pQ r
theorem pD{x}(h:pQ x):pQ (eD x):=by
 cases x with
 |nil=>exact h
 |node b o a l r=>
  show pQ (if a.op=172 then l else mk 172 ByteArray.empty 0 0 (BT.node b o a l r) .nil);by_cases c:a.op=172
  .rw[bY c];exact h.2.2.1
  .rw[bN c];exact⟨aG,aG,h,trivial⟩
theorem pV:∀{x:BT dD},Good x->pQ (aO x)
 |.nil,h=>h.elim
 |.node b o a l r,h=>by
  obtain⟨c,_,_,_,rfl,rfl⟩|⟨c,_,_,_,rfl,rfl⟩|⟨c,j,k,m,g,i⟩|⟨c,j,k,m,g,n⟩:=h
  .unfold aO;rw[bY (.inl c)];exact⟨aA,aA,trivial,trivial⟩
  .unfold aO;rw[bY (.inr c)];exact⟨aA,aA,trivial,trivial⟩
  .let e:=pV g
   let f:=pV i
   obtain c|c|c:=c
   .let d:aO (.node b o a l r)=mk a.op ByteArray.empty a.lo a.hi (aO l) (aO r):=by simp[aO,c]
    rw[d];exact⟨λh=>by have:a.op=8744:=h;omega,λh=>by have:a.op=72:=h;omega,e,f⟩
   .let d:aO (.node b o a l r)=eD (mk 8743 ByteArray.empty 0 0 (eD (aO l)) (eD (aO r))):=by simp[aO,c]
    rw[d];exact pD ⟨aG,aG,pD e,pD f⟩
   .let d:aO (.node b o a l r)=mk a.op ByteArray.empty a.lo a.hi (aO l) (aO r):=by simp[aO,c]
    rw[d];exact⟨λh=>by have:a.op=8744:=h;omega,λh=>by have:a.op=72:=h;omega,e,f⟩
  .let e:=pV g
   obtain c|c|c|c:=c
   .let d:aO (.node b o a l r)=eD (aO l):=by simp[aO,c]
    rw[d];exact pD e
   .let d:aO (.node b o a l r)=mk a.op ByteArray.empty a.lo a.hi (aO l) .nil:=by simp[aO,c]
    rw[d];exact⟨λh=>by have:a.op=8744:=h;omega,λh=>by have:a.op=72:=h;omega,e,trivial⟩
   .let d:aO (.node b o a l r)=mk a.op ByteArray.empty a.lo a.hi (aO l) .nil:=by simp[aO,c]
    rw[d];exact⟨λh=>by have:a.op=8744:=h;omega,λh=>by have:a.op=72:=h;omega,e,trivial⟩
   .let d:aO (.node b o a l r)=eD (mk 79 ByteArray.empty a.lo a.hi (eD (aO l)) .nil):=by simp[aO,c]
    rw[d];exact pD ⟨show(79:Int)≠8744 from aG,show(79:Int)≠72 from aG,pD e,trivial⟩
def kX(K:aB Key)(dropped:aB nM):aB Pe->Prop
 |[]=>True
 |e::es=>e.so.length=K.length+1/\(∀t n,Good t->pQ t->pR K t n->(∀d∈dropped,d.1<e.time-bE t)->e.at n=dR t (e.nz::(es.map Pe.nz++dropped)))/\kX K dropped es
theorem kX.keep{K:aB Key}{dropped:aB nM}:∀{es old:aB Pe},kX K dropped (es++old)->kX K (old.map Pe.nz++dropped) es
 |[],_,_=>trivial
 |e::es,old,⟨b,g,j⟩=>⟨b,λt n h f c i=>by rw[g t n h f c λd a=>i d (by simp[a])];simp,j.keep⟩
section
variable{K:aB Key}{dropped:aB nM}{es:aB Pe}
theorem Hm{t lo hi j:Int}{x:BT dD}(a:Good x)(f:pQ x)(c:pR K x j)(b:∀d∈dropped,d.1<t-(hi+bE x)):∀es,kX K dropped es->wh t lo hi j es=oU t lo hi (dR x) (es.map Pe.nz++dropped)
 |[],_=>by
  have:=eM (.inl a)
  cases dropped with
  |nil=>rfl
  |cons d m=>have:=b d (.head _);simp only[sR,jq,oU,wh];rw[bY aA]
 |e::es,⟨_,k,l⟩=>by
  let i:=Hm (lo:=lo) a f c b es l
  simp only[hY,lq,oU,wh,show e.nz.1=e.time from rfl]
  by_cases h:t-e.time>hi
  .rw[bY h,bY h]
  .rw[bN h,bN h,i,k x j a f c λd g=>by have:=b d g;omega]
theorem E4{t lo hi j k:Int}{x y:BT dD}(c:Good x)(n:Good y)(i:pQ x)(l:pQ y)(m:pR K x j)(f:pR K y k)(a:∀d∈dropped,d.1<t-(hi+max (bE x) (bE y))):∀es,kX K dropped es->qx t lo hi j k es=oN t lo hi (dR x) (dR y) (es.map Pe.nz++dropped)
 |[],_=>by
  have:=eM (.inl c)
  cases dropped with
  |nil=>rfl
  |cons d q=>have:=a d (.head _);simp only[sR,jq,oN,qx];rw[bY aA]
 |e::es,⟨_,g,p⟩=>by
  let o:=E4 (lo:=lo) c n i l m f a es p
  simp only[hY,lq,oN,qx,show e.nz.1=e.time from rfl]
  by_cases h:t-e.time>hi
  .rw[bY h,bY h]
  .rw[bN h,bN h,o,g x j c i m (λd b=>by have:=a d b;omega),g y k n l f λd b=>by have:=a d b;omega]
theorem Kq{t lo hi j:Int}{x:BT dD}(a:Good x)(g:pQ x)(f:pR K x j)(b:∀d∈dropped,d.1<t-(hi+bE x)):∀es,kX K dropped es->beforeF t lo hi j es=qH t lo hi (dR x) (es.map Pe.nz++dropped)
 |[],_=>by
  have:=eM (.inl a)
  cases dropped with
  |nil=>rfl
  |cons d l=>have:=b d (.head _);simp only[sR,jq,qH,beforeF];rw[show decide (t-d.1<=hi)=false from j_ aA];simp
 |e::es,⟨_,i,k⟩=>by
  simp only[hY,lq,qH,beforeF,show e.nz.1=e.time from rfl]
  by_cases h:t-e.time<=hi
  .rw[i x j a g f λd c=>by have:=b d c;omega]
  .rw[show decide (t-e.time<=hi)=false from j_ h];simp
theorem M7{e:Pe}{b n}(h:n.toNat<e.so.length):(e.add b).at n=e.at n:=by
 simp only[Pe.at,Pe.add,qB,uw h]
theorem M6{e:Pe}{b n}(h:n.toNat=e.so.length):(e.add b).at n=b:=by
 simp[Pe.at,Pe.add,h]
theorem U4{c now}(w:kX K dropped c){N:Nat}{k}(x:K[N]?=some k)
  (f:∀t n,Good t->pQ t->pR K t n->n<=N->(∀d∈dropped,d.1<now.time-bE t)->now.at n=dR t (now.nz::(c.map Pe.nz++dropped)))
  {t} (y:Good t) (E:pQ t) (D:pR K t ((N)+1)) (h:∀d∈dropped,d.1<now.time-bE t):nc k now c=dR t (now.nz::(c.map Pe.nz++dropped)):=by
 cases t with
 |nil=>exact y.elim
 |node b o a l r=>
  let⟨i,p,q,h1,h2,h3,h4,h5,h6⟩:=D;obtain rfl:i=N:=aA;rw[h2]at x;obtain rfl:=nD x;rw[qq]at h;let⟨c1,c2,cl,cr⟩:=E;let m:now.nz.1=now.time:=rfl;obtain⟨e,_⟩|⟨e,_⟩|⟨e,_,F,_,g,u⟩|⟨e,_,F,_,g,C⟩:=y
  .rw[L6 _ _ e];simp[nc,e]
  .rw[L5 _ _ e];simp[nc,e,Pe.nz]
  .let A:=eM (.inl g);let G:=eM (.inl u);let s:=f l p g cl h3 h5 (λd j=>by have:=h d j;omega);let z:=f r q u cr h4 h6 (λd j=>by have:=h d j;omega);obtain e|e|e:=e
   .rw[PY _ _ e,<-s,<-z];simp[nc,e]
   .exact absurd e c1
   .rw[xe _ _ e];let v:nc ⟨a.op,a.name,a.lo,a.hi,p,q⟩ now c=qx now.time a.lo a.hi p q (now::c):=by simp[nc,e]
    rw[v,m];simp only[qx,oN,m,E4 (t:=now.time) (lo:=a.lo) (hi:=a.hi) g u cl cr h3 h4 h c w,s,z]
  .let A:=eM (.inl g);subst C;let B:bE (.nil:BT dD)=0:=rfl;rw[B]at h;let s:=f l p g cl h3 h5 (λd j=>by have:=h d j;omega);let VA:∀d∈dropped,d.1<now.time-(a.hi+bE l):=λd j=>by have:=h d j;omega
   obtain e|e|e|e:=e
   .rw[PZ _ _ e,<-s];simp[nc,e]
   .rw[qv _ _ e,m,<-(Kq (t:=now.time) (lo:=a.lo) (hi:=a.hi) g cl h3 VA c w)];simp[nc,e]
   .rw[Ab _ _ e];let v:nc ⟨a.op,a.name,a.lo,a.hi,p,q⟩ now c=wh now.time a.lo a.hi p (now::c):=by simp[nc,e]
    rw[v,m];simp only[wh,oU,m,Hm (t:=now.time) (lo:=a.lo) (hi:=a.hi) g cl h3 VA c w,s]
   .exact absurd e c2
theorem Fy{c}(w:kX K dropped c)(now:Pe):kX K dropped (eG c K now.bare::c):=by
 have s:∀(N:Nat),N<=K.length->∀t n,Good t->pQ t->pR K t n->n<=N->(∀d∈dropped,d.1<now.time-bE t)->(eG c (K.take N) now.bare).at n=dR t (now.nz::(c.map Pe.nz++dropped)):=by
  intro N
  induction N with
  |zero=>
   intro _ t n h j f x g;cases t with
   |nil=>exact h.elim
   |node b o a l r=>obtain⟨i,_,_,A,_⟩:=f;omega
  |succ N v=>
   intro x t n h j f k g;have m:N<K.length:=aA;have y:K.take (N+1)=K.take N++[K[N]]:=by rw[List.take_append_getElem m]
   have⟨w1,w2,w3,w4,_⟩:=iX c (K.take N) now.bare;have u:(eG c (K.take N) now.bare).so.length=N+1:=by rw[w4,kV];simp[Pe.bare];omega
   have e:(eG c (K.take N) now.bare).nz=now.nz:=by unfold Pe.nz;rw[w2,w3];rfl
   rw[y,yy];have z:=f.le;by_cases p:n<=N
   .rw[M7 aA];exact v aA t n h j f p g
   .have q:n=(N:Int)+1:=by omega
    subst q;rw[M6 aA];have:=U4 (now:=eG c (K.take N) now.bare) w (List.getElem?_eq_getElem m) (λt n h j f k g=>by rw[e];exact v (by omega) t n h j f k (by rw[w2]at g;exact g)) h j f (by rw[w2];exact g);rw[this,e]
 have⟨w1,w2,w3,w4,_⟩:=iX c K now.bare;refine⟨by rw[w4];simp[Pe.bare];omega,λt n h j f g=>?_,w⟩;have:=s K.length aZ t n h j f f.le.2 (by rw[w2]at g;exact g);rw[MA]at this;have e:(eG c K now.bare).nz=now.nz:=by unfold Pe.nz;rw[w2,w3];rfl
 rw[this,e]
end
end Ev
namespace Ev
open Go
section
variable{P:Program}{ops:aU Oper}{Q:Exit->Act->aC->Prop}{md:Region.Mode}{S:aC->Prop}{fin:Nat}
def wJ(md:Region.Mode)(ops:aU Oper)(a:aU Bool):Prop:=∀(k:Nat)(o:Oper),ops[k]?=some o->a.getD k false=true->∀e∈o.after,Region.binds md e=true->a.getD e.on false=true
def I3(md:Region.Mode)(ops:aU Oper)(a:aU Bool):Bool:=(List.range ops.size).all λk=>match ops[k]? with
 |some o=> !a.getD k false||o.after.all λe=> !Region.binds md e||a.getD e.on false
 |none=>true
theorem I4{a}(h:I3 md ops a=true):wJ md ops a:=by
 intro k o c d e f g;let b:=yE.1 h k (Aq.2 ((jR.1 c).1));rw[c]at b;simp only[d,xv,Bool.false_or]at b;simpa[g]using(Array.all_eq_true'.1 b e f)
theorem wJ.set{a j}(h:wJ md ops a)(n:j∈Region.ready md ops a):wJ md ops (a.setIfInBounds j true):=by
 let⟨_,oj,TQ,Gj⟩:=mem_ready.1 n;let up:∀q,a.getD q false=true->(a.setIfInBounds j true).getD q false=true:=λq g=>by
  by_cases b:q=j
  .subst b;have:q<a.size:=by
    obtain d|d:=BI q a.size
    .exact d
    .simp[ML d]at g
   simp[this]
  .simp only[JY]at g⊢;rw[qF (lG b)];exact g
 intro k o i f e l m;by_cases c:k=j
 .subst c;rw[TQ]at i;cases i;exact up _ (Gj e l m)
 .refine up _ (h k o i ?_ e l m);simp only[JY]at f⊢;rw[qF (lG c)]at f;exact f
def wE(md:Region.Mode)(ops:aU Oper):Nat->Nat->Nat->Bool
 |0,_,_=>false
 |fuel+1,k,i=>match ops[k]? with
  |some o=>o.after.any λe=>Region.binds md e&&(e.on==i||wE md ops fuel e.on i)
  |none=>true
theorem Cq{a:aU Bool}{i:Nat}(n:wJ md ops a):∀(b k:Nat),wE md ops b k i=true->∀o,ops[k]?=some o->(∀e∈o.after,Region.binds md e=true->a.getD e.on false=true)->(∀q,a.getD q false=true->q<ops.size)->a.getD i false=true
 |0,_,h,_,_,_,_=>by cases h
 |b+1,k,h,o,p,c,m=>by
  unfold wE at h
  rw[p]at h
  let⟨e,he,f⟩:=Array.any_eq_true'.1 h
  simp only[sP,Bool.or_eq_true,wG]at f
  obtain⟨f,rfl|hw⟩:=f
  .exact c e he f
  .let l:=c e he f
   let d:=m _ l
   exact Cq n b e.on hw ops[e.on] (sL d) (λr g j=>n _ _ (sL d) l r g j) m
def cA(P:Program)(md:Region.Mode)(ops:aU Oper)(Q:Exit->Act->aC->Prop)(S:aC->Prop)(fin:Nat):Nat->aU Bool->Act->aC->Prop
 |0,listed,a,w=>Region.ready md ops listed=[]/\Q .normal a w
 |fuel+1,listed,a,w=>(Region.ready md ops listed=[]->Q .normal a w)/\
  ∀i∈Region.ready md ops listed,wpOp P ops Q i (λa' w'=>(i<fin->S w')/\cA P md ops Q S fin fuel (listed.setIfInBounds i true) a' w') a w
theorem cA.any:∀(c:Nat)(b:aU Bool)(a:Act)(w:aC),cA P md ops Q S fin c b a w->wpAny P md ops Q c b a w
 |0,_,_,_,h=>h
 |c+1,_,_,_,h=>⟨h.1,λi hi=>wpOp_mono (λd w' k=>cA.any c _ d w' k.2) (h.2 i hi)⟩
theorem cA.first{i u v}(hi:ops[i]?=some u)(p:∀(j:Nat)(o) D b,ops[j]?=some o->o.op≠.select D b)(A:∀k,fin<=k->wE md ops ops.size k i=true)
  (U:∀c a w,Q (.panic c) (a.put u.dst v) w->Q (.panic c) a w):∀f (d a) (w),d.size=ops.size->wJ md ops d->
   (∀j n,ops[j]?=some n->j≠i->d.getD j true=false->(∀e∈n.after,Region.binds md e=true->e.on≠i)->u.apart ops n=true)->
   i∈Region.ready md ops d->YieldsIf P ops S u v a->S w->cA P md ops Q S fin f (d.setIfInBounds i true) (a.put u.dst v) w->cA P md ops Q S fin (f+1) d a w:=by
 intro f
 induction f with
 |zero=>
  intro d a w _ _ _ r F x H;refine⟨λh=>(by rw[h]at r;cases r),λj B=>?_⟩;by_cases g:j=i
  .subst g;exact F.wpOp hi x ⟨λ_=>x,H⟩
  .have:=ready_mono B g;rw[H.1]at this;cases this
 |succ f X=>
  intro d a w I z m r F x H;refine⟨λh=>(by rw[h]at r;cases r),λj B=>?_⟩;by_cases g:j=i
  .subst g;exact F.wpOp hi x ⟨λ_=>x,H⟩
  .let⟨TL,n,TQ,Gj⟩:=mem_ready.1 B;let l:d.getD i false=true->False:=λs=>by
    let N:=(mem_ready.1 r).1;obtain t|t:=BI i d.size
    .simp[t]at N s;rw[N]at s;cases s
    .simp[ML t]at s
   let C:∀e∈n.after,Region.binds md e=true->e.on≠i:=λe R Y M=>by
    let s:=Gj e R Y;rw[M]at s;exact l s
   let L:j<fin:=by
    refine Nat.lt_of_not_le λG=>?_;refine l (Cq z _ _ (A j G) n TQ Gj λq T=>?_);obtain t|t:=BI q d.size
    .omega
    .simp[ML t]at T
   refine wpOp_mono (λV W E=>⟨E.2.1,X (d.setIfInBounds j true) V W (by simp[I]) (z.set B) (λk ok O J l K=>m k ok O J ?_ K) (ready_mono r (lG g)) E.1 (E.2.1 L) ?_⟩) (wpOp_putIf TQ (m j n TQ g TL C) (λD b=>p i u D b hi) (λD b=>p j n D b TQ) U F (H.2 j (ready_mono B g)))
   .by_cases y:j=k
    .subst y;exact TL
    .rw[getD_set_ne true y]at l;exact l
   .rw[Array.setIfInBounds_comm _ _ g];exact E.2.2
theorem cA.take(i){g v e b a w}(hi:ops[i]?=some g)(q:Region.noSelect ops=true)(u:Region.free md ops b i=true)(p:(Region.ready md ops b).contains i=true)
  (d:(((List.range ops.size).all λk=>decide (k<fin)||wE md ops ops.size k i)&&I3 md ops b&&(b.size==ops.size))=true) (r:∀c a w,Q (.panic c) (a.put g.dst v) w->Q (.panic c) a w)
  (hw:Region.wanted g (yielded ops a.tmps)=true) (t:∀w,S w->(execOp a.eval g).run P w=.ok (.value v) w) (n:S w) (h:cA P md ops Q S fin e (b.setIfInBounds i true) (a.put g.dst v) w):cA P md ops Q S fin (e+1) b a w:=by
 simp only[sP,wG]at d;let l:=(jR.1 hi).1;let f:∀k,fin<=k->wE md ops ops.size k i=true:=λk o=>by
  by_cases j:k<ops.size
  .have:=yE.1 d.1.1 k (Aq.2 j);simpa[Nat.not_lt.2 o]using this
  .obtain⟨m,s⟩:∃m,ops.size=m+1:=⟨ops.size-1,aA⟩;rw[s];unfold wE;rw[(ML aA)]
 exact cA.first hi (Region.noSelect_spec q) f r e b a w d.2 (I4 d.1.2) (Region.free_spec hi u) (by simpa using p) (.inl ⟨hw,t⟩) n h
theorem cA.one{i o c b a w}(e:Region.ready md ops b=[i])(g:ops[i]?=some o)(hw:Region.wanted o (yielded ops a.tmps)=true)
  (h:Oper.wp P o a w (λk w'=>(i<fin->S w')/\cA P md ops Q S fin c (b.setIfInBounds i true) k w') Q):cA P md ops Q S fin (c+1) b a w:=
 ⟨λf=>(by rw[e]at f;cases f),λj d=>by
  rw[e]at d;simp at d;subst d
  unfold wpOp
  simp only[g,hw,fB]
  exact .inl h⟩
theorem cA.op{i o c b a w}(f:Region.ready md ops b=[i])(e:ops[i]?=some o)(hw:Region.wanted o (yielded ops a.tmps)=true)
  (h:∀K,(∀d w',((i<fin->S w')/\cA P md ops Q S fin c (b.setIfInBounds i true) d w')->K d w')->Oper.wp P o a w K Q):cA P md ops Q S fin (c+1) b a w:=
 cA.one f e hw (h _ λ_ _ x=>x)
theorem cA.tk(i:Nat){oi:Oper}{v:aE}{fuel:Nat}{listed:aU Bool}{a:Act}{w:aC}(hS:S w)(h:cA P md ops Q S fin fuel (listed.setIfInBounds i true) (a.put oi.dst v) w)(hi:ops[i]?=some oi:=by rfl)(hs:Region.noSelect ops=true:=by decide+kernel)(hf:Region.free md ops listed i=true:=by decide+kernel)(hr:(Region.ready md ops listed).contains i=true:=by decide+kernel)
  (TH:(((List.range ops.size).all λk=>decide (k<fin)||wE md ops ops.size k i)&&I3 md ops listed&&(listed.size==ops.size))=true:=by decide+kernel)
  (hw:Region.wanted oi (yielded ops a.tmps)=true:=by rfl) (hy:∀w,S w->∀K:Result Next->bQ,K (.ok (.value v) w)->K ((execOp a.eval oi).run P w):=by
   intro w' hS K' hK'
   try simp only at hS
   go_simp;exact hK') (hQ:∀c a w,Q (.panic c) (a.put oi.dst v) w->Q (.panic c) a w:=by first|exact λ_ _ _ h=>h|exact λc a w h=>hQ c a _ _ w h):cA P md ops Q S fin (fuel+1) listed a w:=cA.take i hi hs hf hr TH hQ hw (λw h=>Go.Conc.run_eq_of (hy w h)) hS h
theorem cA.o(i:Nat){fuel:Nat}{listed:aU Bool}{a:Act}{w:aC}(h:wpOp P ops Q i (λe w'=>(i<fin->S w')/\cA P md ops Q S fin fuel (listed.setIfInBounds i true) e w') a w)(c:Region.ready md ops listed=[i]:=by decide+kernel):cA P md ops Q S fin (fuel+1) listed a w:=
 ⟨λd=>(by rw[c]at d;cases d),λj b=>by rw[c]at b;simp at b;subst b;exact h⟩
theorem cA.t(i j:Nat){fuel:Nat}{listed:aU Bool}{a:Act}{w:aC}(h:wpOp P ops Q i (λc w'=>(i<fin->S w')/\cA P md ops Q S fin fuel (listed.setIfInBounds i true) c w') a w)
  (k:wpOp P ops Q j (λc w'=>(j<fin->S w')/\cA P md ops Q S fin fuel (listed.setIfInBounds j true) c w') a w) (d:Region.ready md ops listed=[i,j]:=by decide+kernel):cA P md ops Q S fin (fuel+1) listed a w:=
 ⟨λe=>(by rw[d]at e;cases e),λq b=>by rw[d]at b;simp at b;rcases b with rfl|rfl<;>assumption⟩
theorem PM{i:Nat}{o:Oper}{K:Act->aC->bQ}{a:Act}{w w':aC}{v:aE}(h:K (a.put o.dst v) w')(b:ops[i]?=some o:=by rfl)(hw:Region.wanted o (yielded ops a.tmps)=true:=by rfl) (hy:∀K:Result Next->bQ,K (.ok (.value v) w')->K ((execOp a.eval o).run P w):=by
   intro K' hK';go_simp;exact hK'):wpOp P ops Q i K a w:=by
 unfold wpOp;simp only[b,hw,fB];unfold Oper.wp;rw[Go.Conc.run_eq_of hy];exact .inl h
theorem opk{i:Nat}{o:Oper}{K:Act->aC->bQ}{a:Act}{w w':aC}(h:K (a.put o.dst undef) w')(b:ops[i]?=some o:=by rfl)(hw:Region.wanted o (yielded ops a.tmps)=true:=by rfl) (hy:∀K:Result Next->bQ,K (.ok .skip w')->K ((execOp a.eval o).run P w):=by
   intro K' hK';go_simp;exact hK'):wpOp P ops Q i K a w:=by
 unfold wpOp;simp only[b,hw,fB];unfold Oper.wp;rw[hy (λr=>r=.ok .skip w') rfl];exact .inl h
theorem MO{i:Nat}{o:Oper}{f:FuncId}{fn:Func}{args:aU Operand}{ats:aU TypeId}{xs:aU aE}{R:Ending->aC->bQ}{K:Act->aC->bQ}{a:Act}{w:aC}(g:P.funcs[f]?=some fn)(j:Calls P f xs w R)(h:∀e b,R e b->∃v,e=.returned v/\K (a.put o.dst v) b)(c:ops[i]?=some o:=by rfl)(hw:Region.wanted o (yielded ops a.tmps)=true:=by rfl)
  (AA:o.op=.call {callee:=.value (.func f),args,argTypes:=ats}:=by rfl) (hx:args.map a.eval=xs:=by simp only[Dj,hY,sR];try rfl) (hn:(fn.name== "runtime.NumGoroutine")=false:=by decide) (hb:fn.body.isNone=false:=by rfl):wpOp P ops Q i K a w:=by
 unfold wpOp;simp only[c,hw,fB];unfold Oper.wp;rw[Go.Conc.run_call_body AA g hn hb,hx];refine .inl (j.mono λe b d=>?_);obtain⟨v,rfl,k⟩:=h e b d;exact k
theorem cA.done{b:aU Bool}{a:Act}{w:aC}(d:Region.ready md ops b=[])(h:Q .normal a w):∀c,cA P md ops Q S fin c b a w
 |0=>⟨d,h⟩
 |_+1=>⟨λ_=>h,λi hi=>by rw[d]at hi;cases hi⟩
theorem cA.begin{id a w}(b:P.follows .mixedOrders=true)(h:cA P .any ops Q S fin ops.size (Array.replicate ops.size false) a w.drew):(Code.region id ops true).wp P Q a w:=
 wp_region_any b (cA.any _ _ _ _ h)
theorem cA.weaken{d:Nat}:∀(c:Nat)(b:aU Bool)(a:Act)(w:aC),cA P md ops Q S fin c b a w->cA P md ops Q (λ_=>True) d c b a w
 |0,_,_,_,h=>h
 |c+1,_,_,_,h=>⟨h.1,λi hi=>wpOp_mono (λe f k=>⟨λ_=>trivial,cA.weaken c _ e f k.2⟩) (h.2 i hi)⟩
end
end Ev
namespace Lf
open Go Go.Conc
variable{P:Program}{main:Bool}{R:(Nat->Prop)->aC->aC->Prop}{D:(Nat->Prop)->aC->aC->aU Event->Prop}
def grow(S:Nat->Prop)(w a:aC):Nat->Prop:=λb=>S b\/(w.heap.size<=b/\b<a.heap.size)
theorem pG(S){w w'}(h:w'.heap.size=w.heap.size):grow S w w'=S:=by
 funext b;exact propext ⟨λa=>a.elim id λx=>absurd x.2 aA,.inl⟩
@[simp] theorem dC(S w):grow S w w=S:=pG S rfl
structure fX(R:(Nat->Prop)->aC->aC->Prop)(D:(Nat->Prop)->aC->aC->aU Event->Prop):Prop where
 trans:∀S a b c,R S a b->R S b c->R S a c
 idle:∀S w,D S w w #[]
 draw:∀S w,D S w {w with drawn:=w.drawn+1} #[]
inductive RT(P:Program)(main:Bool)(R:(Nat->Prop)->aC->aC->Prop)(D:(Nat->Prop)->aC->aC->aU Event->Prop)(Stop:(Nat->Prop)->bU->aC->Prop):(Nat->Prop)->bU->aC->Prop
 |stop {S:Nat->Prop} {g:bU} {w:aC}:(∀w₁,R S w w₁->Stop S g w₁)->RT P main R D Stop S g w
 |step {S:Nat->Prop} {g:bU} {w:aC} (f:aC->bU×aC×aU Event):g.status=.running->(∀w₁,R S w w₁->stepG P main g w₁=.go (f w₁).1 (f w₁).2.1 (f w₁).2.2/\D S w₁ (f w₁).2.1 (f w₁).2.2)->
   (∀w₁,R S w w₁->RT P main R D Stop (grow S w₁ (f w₁).2.1) (f w₁).1 (f w₁).2.1)->RT P main R D Stop S g w
theorem RT.one{Stop S g w}(k:g.status=.running)(h:∀a,R S w a->(stepG P main g a).goes λe w' f=>D S a w' f/\RT P main R D Stop (grow S a w') e w'):RT P main R D Stop S g w:=by
 let c:∀a,R S w a->∃x:bU×aC×aU Event,stepG P main g a=.go x.1 x.2.1 x.2.2/\D S a x.2.1 x.2.2/\RT P main R D Stop (grow S a x.2.1) x.1 x.2.1:=by
  intro a b;have:=h a b
  revert this
  cases i:stepG P main g a<;>simp only[GStep.goes,false_imp_iff];rename_i e w' f;exact λ⟨d,r⟩=>⟨(e,w',f),rfl,d,r⟩
 let Ws:∀a,∃x:bU×aC×aU Event,R S w a->stepG P main g a=.go x.1 x.2.1 x.2.2/\D S a x.2.1 x.2.2/\RT P main R D Stop (grow S a x.2.1) x.1 x.2.1:=by
  intro a;by_cases j:R S w a
  .let⟨x,i⟩:=c a j;exact⟨x,λ_=>i⟩
  .exact⟨(g,w,#[]),λh=>absurd h j⟩
 exact .step (λa=>Classical.choose (Ws a)) k (λa b=>⟨(FA (Ws a) b).1,(FA (Ws a) b).2.1⟩) λa b=>((FA (Ws a) b).2.2)
theorem RT.rely(T:fX R D){Stop S g w c}(h:RT P main R D Stop S g w)(d:R S w c):RT P main R D Stop S g c:=by
 cases h with
 |stop h=>exact .stop λb a=>h b (T.trans _ _ _ _ d a)
 |step f i h e=>exact .step f i (λb a=>h b (T.trans _ _ _ _ d a)) λb a=>e b (T.trans _ _ _ _ d a)
section
variable{Stop:(Nat->Prop)->bU->aC->Prop}{S:Nat->Prop}{b:Frame}{a:Act}{k:aB Item}{cs:aB Frame}{w:aC}
theorem RT.skip(T:fX R D)(h:RT P main R D Stop S (G (b.at a k) cs) w):RT P main R D Stop S (G (b.at a (.code .skip::k)) cs) w:=.one rfl λd c=>by rw[stepG_skip];rw[goes_go,dC];exact⟨T.idle _ _,h.rely T c⟩
theorem RT.seq(T:fX R D){x y}(h:RT P main R D Stop S (G (b.at a (.code x::.code y::k)) cs) w):RT P main R D Stop S (G (b.at a (.code (.seq x y)::k)) cs) w:=.one rfl λd c=>by rw[stepG_seq];rw[goes_go,dC];exact⟨T.idle _ _,h.rely T c⟩
theorem RT.cond(T:fX R D){c x y}(t)(f:a.eval c=.bool t)(h:RT P main R D Stop S (G (b.at a (.code (if t then x else y)::k)) cs) w):RT P main R D Stop S (G (b.at a (.code (.cond c x y)::k)) cs) w:=.one rfl λe d=>by rw[stepG_cond f];rw[goes_go,dC];exact⟨T.idle _ _,h.rely T d⟩
theorem RT.block(T:fX R D){id c}(h:RT P main R D Stop S (G (b.at a (.code c::.inBlock id::k)) cs) w):RT P main R D Stop S (G (b.at a (.code (.block id c)::k)) cs) w:=.one rfl λe d=>by rw[stepG_block];rw[goes_go,dC];exact⟨T.idle _ _,h.rely T d⟩
theorem RT.inBlock(T:fX R D){id}(h:RT P main R D Stop S (G (b.at a k) cs) w):RT P main R D Stop S (G (b.at a (.inBlock id::k)) cs) w:=.one rfl λd c=>by rw[stepG_inBlock];rw[goes_go,dC];exact⟨T.idle _ _,h.rely T c⟩
theorem RT.loop(T:fX R D){c}(h:RT P main R D Stop S (G (b.at a (.code c::.inLoop c::k)) cs) w):RT P main R D Stop S (G (b.at a (.code (.loop c)::k)) cs) w:=.one rfl λe d=>by rw[stepG_loop];rw[goes_go,dC];exact⟨T.idle _ _,h.rely T d⟩
theorem RT.inLoop(T:fX R D){c}(h:RT P main R D Stop S (G (b.at a (.code c::.inLoop c::k)) cs) w):RT P main R D Stop S (G (b.at a (.inLoop c::k)) cs) w:=.one rfl λe d=>by rw[stepG_inLoop];rw[goes_go,dC];exact⟨T.idle _ _,h.rely T d⟩
theorem RT.exit(T:fX R D){id d}(f:exitTo id k=some d)(h:RT P main R D Stop S (G (b.at a d) cs) w):RT P main R D Stop S (G (b.at a (.code (.exit id)::k)) cs) w:=.one rfl λe c=>by rw[stepG_exit f];rw[goes_go,dC];exact⟨T.idle _ _,h.rely T c⟩
theorem RT.ret(T:fX R D)(h:RT P main R D Stop S (G {b.at a (.code .ret::k)with mode:=.returning} cs) w):RT P main R D Stop S (G (b.at a (.code .ret::k)) cs) w:=.one rfl λd c=>by rw[stepG_ret'];rw[goes_go,dC];exact⟨T.idle _ _,h.rely T c⟩
theorem RT.ends(T:fX R D)(h:RT P main R D Stop S (G {b.at a []with mode:=.returning} cs) w):RT P main R D Stop S (G (b.at a []) cs) w:=.one rfl λd c=>by rw[stepG_end];rw[goes_go,dC];exact⟨T.idle _ _,h.rely T c⟩
theorem RT.region(T:fX R D){id c}(h:RT P main R D Stop S (G (b.at a (.inRegion c (List.range c.size)::k)) cs) w):RT P main R D Stop S (G (b.at a (.code (.region id c false)::k)) cs) w:=.one rfl λe d=>by rw[stepG_region];rw[goes_go,dC];exact⟨T.idle _ _,h.rely T d⟩
theorem RT.nil(T:fX R D){d}(h:RT P main R D Stop S (G (b.at a k) cs) w):RT P main R D Stop S (G (b.at a (.inRegion d []::k)) cs) w:=.one rfl λe c=>by rw[stepG_region_end];rw[goes_go,dC];exact⟨T.idle _ _,h.rely T c⟩
theorem RT.draw(T:fX R D){id d}(h:∀c,R S w c->∀t,RT P main R D Stop S (G (b.at a (.inRegion d (Region.schedule (P.follows .mixedOrders) d t)::k)) cs) {c with drawn:=c.drawn+1}):RT P main R D Stop S (G (b.at a (.code (.region id d true)::k)) cs) w:=.one rfl λc e=>by rw[stepG_region_draw];rw[goes_go,pG S (w:=c) (w':={c with drawn:=c.drawn+1}) rfl];exact⟨T.draw _ _,h c e _⟩
theorem RT.op{e i rest o}(l:e[i]?=some o)(hw:Region.wanted o (yielded e a.tmps)=true)(m:b.kind≠.early)
  (h:∀c,R S w c->∀K,(∀j w',D S c w' (listed P b.fn a o c)/\RT P main R D Stop (grow S c w') (G (b.at j (.inRegion e rest::k)) cs) w'->K j w')->uponK o a K ((execOp a.eval o).run P c)):
  RT P main R D Stop S (G (b.at a (.inRegion e (i::rest)::k)) cs) w:=by
 refine .one rfl λc f=>goes_oper l hw m ?_;have:=h c f _ λ_ _ x=>x
 revert this
 cases(execOp a.eval o).run P c with
 |ok x w'=>cases x<;>first|exact λ⟨d,g⟩=>⟨d,g⟩|exact id
 |halt _ _=>exact id
def lS(P:Program)(main:Bool)(R:(Nat->Prop)->aC->aC->Prop)(D:(Nat->Prop)->aC->aC->aU Event->Prop)(f:FuncId)(b:aU aE)(S:Nat->Prop)(w:aC)(a:aE->(Nat->Prop)->aC->Prop):Prop:=
 ∀(Stop:(Nat->Prop)->bU->aC->Prop)(c:Frame)(cs:aB Frame),(∀v d e,a v d e->RT P main R D Stop d (G (c.finish v) cs) e)->RT P main R D Stop S (G (Frame.enter P f b .normal) (c::cs)) w
theorem lS.mono{f d S w b a}(h:lS P main R D f d S w b)(i:∀v S w,b v S w->a v S w):lS P main R D f d S w a:=
 λStop c cs j=>h Stop c cs λv e g x=>j v e g (i v e g x)
theorem RT.call(T:fX R D){d i rest o f q args ats Post}(r:d[i]?=some o)(hw:Region.wanted o (yielded d a.tmps)=true)(y:b.kind≠.early)(j:o.op=.call {callee:=.value (.func f),args,argTypes:=ats})
  (s:P.funcs[f]?=some q) (e:(q.name== "runtime.NumGoroutine")=false) (t:q.body.isNone=false)
  (g:∀c,R S w c->lS P main R D f (args.map a.eval) S c Post) (h:∀v n p,Post v n p->RT P main R D Stop n (G (b.at (a.put o.dst v) (.inRegion d rest::k)) cs) p):
  RT P main R D Stop S (G (b.at a (.inRegion d (i::rest)::k)) cs) w:=by
 let l:∀v,(b.at a (.inRegion d (i::rest)::k)).finish v=b.at (a.put o.dst v) (.inRegion d rest::k):=λv=>by rw[Frame.finish_at,r];rfl
 refine .one rfl λc m=>?_;let u:listed P b.fn a o c=#[]:=by unfold listed;rw[events_call_body j s e t];exact seen_none P _
 rw[stepG_enter r hw y (run_call_body j s e t),u];refine⟨T.idle _ _,by rw[dC];exact g c m Stop _ cs λv n p x=>by rw[l];exact h v n p x⟩
theorem JI{e d c v}(h:b.kind=.normal)(f:a.defers=[])(i:P.funcs[b.fn]?=some e)(g:(results e a.tmps).run P w=.ok v w):
  stepG P main (G {b.at a d with mode:=.returning} (c::cs)) w=.go (G (c.finish v) cs) w (seen P b.fn ((results e a.tmps).events P w #[])):=by
 simp[G,stepG,unwind,doReturn,Frame.at,h,f,i,g,GStep.after]
theorem RT.leave(T:fX R D){g f c v}(k:b.kind=.normal)(j:a.defers=[])(l:P.funcs[b.fn]?=some g)(i:∀d,R S w d->(results g a.tmps).run P d=.ok v d/\D S d d (seen P b.fn ((results g a.tmps).events P d #[])))
  (h:RT P main R D Stop S (G (c.finish v) cs) w):RT P main R D Stop S (G {b.at a f with mode:=.returning} (c::cs)) w:=
 .one rfl λd e=>by rw[JI k j l (i d e).1];rw[goes_go,dC];exact⟨(i d e).2,h.rely T e⟩
end
end Lf
namespace Lf
open Go
def gm:Next->Prop
 |.value _|.skip|.enter .. |.round .. |.defer _|.recover|.spawn _|.comm .. |.coroswitch .. =>True
 |.row r _=>r= "runtime.print$piece"
 |_=>False
def Plain(P:Program):Prop:=∀(f:FuncId)(a:Func),P.funcs[f]?=some a->a.name≠ "runtime.NumGoroutine"/\(a.body.isNone=true->Extern.findNext a=none/\∀e,Extern.find a=some e->∀b,Fit P (λ_=>True) 0 (e b))
variable{P:Program}
theorem gM{s}(h:Fit P (λ_=>True) 0 s):Fit P gm 0 (do pure (.value (<-s)):Sem Next):=bV h λ_=>⟨rfl,trivial⟩
theorem Tp{s}(h:Fit P (λ_=>True) 0 s):Fit P gm 0 (do s;pure .skip:Sem Next):=bV h λ_=>⟨rfl,trivial⟩
theorem Tm{n}(h:gm n):Fit P gm 0 (pure n):=⟨rfl,h⟩
theorem Tl(d){a M}{f:Bool->Sem a}(c:∀b,Fit P M d (f b)):Fit P M d (Extern.PrintPieces.held>>=f):=by
 unfold Extern.PrintPieces.held;intro v;show Fit P M d (Sem.bind _ f);cases v<;>first|exact c _|exact .inr rfl
theorem KW(n b):Fit P (λ_=>True) 0 (writeFd n b):=by
 unfold writeFd;refine⟨⟨_,rfl,rfl⟩,λr=>?_⟩;cases r<;>first|exact .inl rfl|exact⟨rfl,trivial⟩
theorem GU(x y a):Fit P gm 0 (Extern.PrintPieces.piece x y a):=by
 unfold Extern.PrintPieces.piece;split
 .rename_i first _
  split
  .rename_i p _
   extract_lets last j1 j2 j3 j4 j5
   let e:Fit P gm 0 (j1 ()):=⟨rfl,trivial⟩;let c:Fit P gm 0 (j2 ()):=by
    refine bV (KW _ _) λ_=>eK ⟨rfl,rfl⟩ (eK ?_ e);exact e
   let d:=c;let f:Fit P gm 1 (j4 ()):=by
    show Fit P gm 1 (if(!last)=true then _ else _);split
    .exact d
    .exact d
   let g:Fit P gm 0 (j5 ()):=by
    show Fit P gm 0 (if first=true then _ else _);split
    .show Fit P gm 1 (Extern.PrintPieces.held>>=_);refine Tl 1 λb=>?_;split
     .exact .inr rfl
     .exact f
    .exact c
   exact eK (.inl rfl) g
  .exact aI P _
 .exact aI P _
theorem aaK{d c:Type}{l:aB d}:∀{f:(a:d)->a∈l->c->Sem (ForInStep c)}(_:∀a h b,Fit P (λ_=>True) 0 (f a h b))(b),Fit P (λ_=>True) 0 (forIn' l b f):=by
 induction l with
 |nil=>intro f _ b;rw[List.forIn'_nil];exact aP P _
 |cons a l g=>intro f e b;rw[List.forIn'_cons];refine bV (e _ _ _) λr=>?_;split<;>first|exact aP P _|exact g (λ_ _ _=>e _ _ _) _
theorem aaL{c}{l:Std.Legacy.Range}{f:(a:Nat)->a∈l->c->Sem (ForInStep c)}(d:∀a h b,Fit P (λ_=>True) 0 (f a h b))(_l:Std.Legacy.Range)(b):Fit P (λ_=>True) 0 (forIn' l b f):=by
 rw[Std.Legacy.Range.forIn'_eq_forIn'_range'];exact aaK (λ_ _ _=>d _ _ _) _
theorem I'(t v):Fit P (λ_=>True) 0 (Builtin.printOne t v):=by
 unfold Builtin.printOne;refine bV (cV P _) λi=>?_
 extract_lets j
 let a:Fit P (λ_=>True) 0 (j ()):=by
  simp-zeta only[j];cases v with
  |pointer r=>cases r<;>first|exact aP P _|exact bJ P _
  |map r=>cases r<;>first|exact aP P _|exact bJ P _
  |chan r=>cases r<;>first|exact aP P _|exact bJ P _
  |slice r _ _=>cases r<;>first|exact aP P _|exact bJ P _
  |_=>first|exact aP P _|exact bJ P _|exact aI P _
 split
 .exact eK (bV (bJ P _) λ_=>a) a
 .exact a
theorem Nv(a b c d):Fit P (λ_=>True) 0 (Builtin.pieces a b c d):=by
 unfold Builtin.pieces;refine bV (aaL (λi _ b=>?_) [0:0] _) λg=>(eK (aP P _) (aP P _))
 .extract_lets out' cst j
  let f:∀o e,Fit P (λ_=>True) 0 (j o e):=by
   intro o e;simp-zeta only[j];split
   .refine bV (I' _ _) λl=>bV (Zn (λ_ _=>aP P _) _ _) λ_=>aP P _
   .exact aI P _
  exact eK (f () _) (f () _)
theorem Da(a b c d):Fit P gm 0 (Builtin.printMarked a b c d):=by
 unfold Builtin.printMarked;refine bV (Nv _ _ _ _) λps=>?_;exact eK ⟨rfl,trivial⟩ (GU _ _ _)
theorem KS(a b c d e):Fit P gm 0 (builtin a b c d e):=by
 unfold builtin;cases a
 all_goals first
  |exact gM (xh P _ _ _)|exact gM (AV P _ _ _)|exact gM (xS P _ _ _)|exact gM (xU P _ _ _)
  |exact gM (vp P _ _ _)|exact gM (yZ P _ _ _)|exact gM (xi P _ _ _)|exact gM (y8 P _ _ _)
  |exact gM (rR P _ _ _)|exact gM (AX P _ _ _)|exact gM (AZ P _ _ _)|exact gM (uB P _)
  |exact Da _ _ _ _|exact gM (y_ P _ _ _)|exact Tm (n:=.recover) trivial|exact aI P _|exact gM (jF P _ _ _)
  |exact gM (rj P _ _ _)|exact gM (oG P _ _ _)|exact gM (qC P _ _ _)|exact gM (oh P _ _ _)
  |exact bV (cV P _) λ_=>⟨rfl,trivial⟩|exact bJ P _
theorem jK{a L}(e):Fit P L 0 (runtimePanic e:Sem a):=by
 unfold runtimePanic
 repeat' (first|(with_reducible exact mz P _)|(with_reducible exact aI P _)|(with_reducible exact bJ P _)|(with_reducible exact aP P _)|(with_reducible apply dX)|(with_reducible apply lZ)|(with_reducible apply kH)|(with_reducible apply jI)|(with_reducible apply cV)|(with_reducible apply bV)|(intro _)|split|(dsimp only))
theorem tK(h:Plain P)(f b):Fit P gm 0 (callFunc f b):=by
 unfold callFunc;show Fit P gm 0 (match P.funcs[f]? with|none=>_|some c=>_);cases g:P.funcs[f]? with
 |none=>exact aI P _
 |some c=>
  let⟨hn,hb⟩:=h f c g;let hn':(c.name== "runtime.NumGoroutine")=false:=by simpa using hn
  simp only[hn',gI,fA];by_cases a:c.body.isNone=true
  .let⟨h1,h2⟩:=hb a;simp only[a,fB,h1];refine bV (lY P aF aF) λ_=>?_;cases d:Extern.find c with
   |some e=>exact gM (h2 e d b)
   |none=>exact eK ⟨rfl,trivial⟩ (bJ P _)
  .simp only[a,fA,gI];exact⟨rfl,trivial⟩
theorem vH(d:Plain P)(a b c):Fit P gm 0 (callMethod a b c):=by
 unfold callMethod;split
 .exact bV (dX P) λ_=>bV (Nt P _ _ _ _) λ_=>tK d _ _
 .exact jK _
 .exact aI P _
theorem QO(a b):Fit P gm 0 (Instr.yield a b):=by
 unfold Instr.yield;refine bV (gL P _) λr=>?_
 extract_lets j
 exact eK (bV (aI P _) λ_=>⟨rfl,trivial⟩) ⟨rfl,trivial⟩
theorem tN(b:Plain P)(t a):Fit P gm 0 (invoke t a):=by
 unfold invoke;split
 .exact jK _
 .exact KS _ _ _ _ _
 .exact tK b _ _
 .split
  .exact vH b _ _ _
  .exact aI P _
 .split
  .refine bV (cS P _) λ_=>?_
   extract_lets j
   exact vH b _ _ _
  .exact aI P _
 .split
  .exact bV (Db P _ _ _ _) λ_=>tK b _ _
  .exact aI P _
 .exact QO _ _
 .exact aI P _
 .exact⟨rfl,trivial⟩
theorem Ns(d:Plain P)(c o):Fit P gm 0 (execOp c o):=by
 unfold execOp
 extract_lets v u
 have a:∀s,Fit P (λ_=>True) 0 s->Fit P gm 0 (v s):=λs h=>gM h;have b:∀s,Fit P (λ_=>True) 0 s->Fit P gm 0 (u s):=λs h=>Tp h
 clear_value v u
 split
 all_goals first
  |exact⟨rfl,trivial⟩
  |exact a _ (CZ P _ _ _)
  |exact a _ (Gb P _ _)
  |exact a _ (C1 P _ _)
  |exact a _ (vz P _ _ _)
  |exact a _ (A0 P _ _)
  |exact b _ (zq P _ _ _)
  |exact b _ (C7 P _)
  |exact a _ (C9 P _)
  |exact a _ (I8 P _ _)
  |exact a _ (KU P _ _ _)
  |exact a _ (zg P _ _)
  |exact a _ (rS P _ _)
  |exact a _ (xX P _ _ _)
  |exact a _ (zn P _ _)
  |exact a _ (xW P _ _)
  |exact a _ (xn P _ _ _)
  |exact a _ (zp P _ _ _ _ _)
  |exact a _ (zj P _ _ _)
  |exact a _ (C4 P _ _ _)
  |exact a _ (zl P _ _ _)
  |exact a _ (C5 P _ _ _)
  |exact a _ (A4 P _ _ _ _)
  |exact b _ (xo P _ _ _ _)
  |exact a _ (xY P _ _ _)
  |exact b _ (vC P _ _ _ _)
  |exact a _ (C6 P _ _)
  |exact a _ (Eb P _ _ _)
  |exact a _ (C2 P _)
  |exact a _ (vF P _ _ _ _)
  |exact a _ (zi P _ _)
  |exact a _ (uB P _)
  |exact a _ (bV (KV P _ _ _ _ _ _) λ_=>QM P _ _ _ _)
  |exact bV (tJ P _) λ_=>⟨rfl,trivial⟩
  |exact bV (qN P _ _ _) λ_=>tN d _ _
  |exact bV (qN P _ _ _) λ_=>⟨rfl,trivial⟩
  |skip
 .split
  .exact jK _
  .exact jK _
  .exact jK _
  .split
   .exact jK _
   .refine bV (dX P) λ_=>bV (I9 P _ _ _ _) λ_=>?_;exact eK (bV (bJ P _) λ_=>⟨rfl,trivial⟩) ⟨rfl,trivial⟩
   .exact⟨rfl,trivial⟩
  .exact⟨rfl,trivial⟩
 .refine bV (cS P _) λ_=>?_;split
  .exact bV (eH P _) λ_=>⟨rfl,trivial⟩
  .exact aI P _
 .refine bV (fAm (λ_=>bV (eH P _) λ_=>aP P _) _) λ_=>⟨rfl,trivial⟩
end Lf
namespace Lf
open Go Go.Conc
variable{P:Program}
def vL(d:Nat)(e:Event):Nat:=match e.loc with|.mark .disable=>d+1|.mark .enable=>d-1|_=>d
theorem ik(d a):deafBehind d a=a.foldl vL d:=rfl
theorem gP(d a e):deafBehind d (a.push e)=vL (deafBehind d a) e:=by
 rw[ik,ik,Array.foldl_push]
theorem pW(d b a):deafBehind d (b++a)=deafBehind (deafBehind d b) a:=by
 simp only[ik,Array.foldl_append]
theorem rN(d)(l:aB bC)(wr at_):deafBehind d (l.toArray.map λa=>(⟨.cell a,wr,at_⟩:Event))=d:=by
 rw[ik]
 induction l generalizing d with
 |nil=>simp
 |cons a l b=>have:=b d;simp at this⊢;exact this
def jx{a:Type}:Result a->Bool
 |.ok _ _=>true
 |.halt (.panic _) _|.halt .goexit _=>true
 |_=>false
theorem LV{b}{r:Result b}(h:jx r=true):UU r=true:=by
 cases r with
 |ok a w=>rfl
 |halt x w=>cases x<;>first|rfl|(simp[jx]at h)
theorem EG(w:aC)(a s b){c}:jx (.halt (w.noCell a s) b:Result c)=false:=by
 unfold World.noCell;split<;>rfl
theorem KM{p}{w:aC}{a b h}(c:w.farLoad p a b=.error h)(e){d}:jx (.halt h e:Result d)=false:=by
 unfold World.farLoad at c;split at c
 .split at c
  .cases c
  .cases c;rfl
 .cases c;exact EG _ _ _ _
theorem I6{p}{w:aC}{a v b h}(c:w.farStore p a v b=.error h)(e){d}:jx (.halt h e:Result d)=false:=by
 unfold World.farStore at c;split at c
 .split at c
  .cases c
  .cases c;rfl
 .cases c;exact EG _ _ _ _
theorem H6{A L}(s:Sem A):∀n (w j) (b),Fit P L n s->jx (s.runT P w j).1=true->deafBehind b j=n->deafBehind b (s.runT P w j).2=0:=by
 induction s with
 |pure a=>exact λn w j b f _ g=>g.trans f.1
 |load m a k i=>
  intro n w j b f d g;simp only[Sem.runT]at d⊢;cases hw:w.cell? a with
  |some v=>simp only[hw]at d⊢;exact i v n w _ b (f v) d (by rw[gP,g];rfl)
  |none=>
   simp only[hw]at d⊢;cases l:w.farLoad P a (m==.atomic)with
   |ok x=>obtain⟨v,t⟩:=x;simp only[l]at d⊢;exact i v n w _ b (f v) d (by rw[pW,g,rN])
   |error e=>simp only[l]at d;rw[KM l]at d;cases d
 |store m a v k i=>
  intro n w j b f d g;cases v with
  |agg x=>cases d
  |tuple x=>cases d
  |_=>
   simp only[Sem.runT]at d⊢;cases hw:w.cell? a with
   |some u=>
    simp only[hw]at d⊢;split at d
    .cases d
    .rename_i p;simp only[p,fA,gI];exact i n _ _ b f d (by rw[gP,g];rfl)
   |none=>
    simp only[hw]at d⊢;cases l:w.farStore P a _ (m==Mode.atomic)with
    |ok x=>obtain⟨B,t⟩:=x;simp only[l]at d⊢;exact i n B _ b f d (by rw[pW,g,rN])
    |error e=>simp only[l]at d;rw[I6 l]at d;cases d
 |new o k i=>exact λn w j b f d g=>i w.heap.size n _ j b (f _) d g
 |shape r k i=>exact λn w j b f d g=>i (w.shape? r) n w j b (f _) d g
 |freeze a c k i=>exact λn w j b f d g=>i n _ j b f d g
 |frozen a k i=>exact λn w j b f d g=>i (w.frozen? a) n w j b (f _) d g
 |getObj r k i=>
  intro n w j b f d g;simp only[Sem.runT]at d⊢;cases hw:w.heap[r]? with
  |none=>simp only[hw]at d;cases d
  |some o=>
   cases o with
   |cells c t z=>simp only[hw]at d;cases d
   |_=>simp only[hw]at d⊢;exact i _ n w _ b (f _) d (by rw[gP,g];rfl)
 |setObj r o k i=>
  intro n w j b f d g;simp only[Sem.runT]at d⊢;cases hw:w.heap[r]? with
  |none=>simp only[hw]at d;cases d
  |some x=>
   cases x with
   |cells c t z=>simp only[hw]at d;cases d
   |_=>simp only[hw]at d⊢;exact i n _ _ b f d (by rw[gP,g];rfl)
 |choose q k i=>
  intro n w j b f d g;simp only[Sem.runT]at d⊢;by_cases y:q.forced=true
  .simp only[y,fB]at d⊢;exact i 0 n w j b (f _) d g
  .simp only[y,fA,gI]at d⊢;exact i _ n _ j b (f _) d g
 |sys c k i=>exact λn w j b f d g=>i _ n _ _ b (f.2 _) d (by rw[gP,g];rfl)
 |program k i=>exact λn w j b f d g=>i P n w j b f d g
 |mark m k i=>
  intro n w j b f d g;apply i _ w _ b f d;rw[gP,g];cases m<;>rfl
 |halt h=>
  intro n w j b f d g;obtain f|f:=f
  .exact g.trans f
  .simp only[Sem.runT]at d;cases h<;>first|(simp[jx]at d;done)|(simp[Ends]at f;done)
theorem Bq{i L}(s):∀(n:Nat)(w f){a:i}{g},Fit P L n s->(s.runT P w f).1=.ok a g->L a:=by
 induction s with
 |pure a=>intro n w f b g d h;simp only[Sem.runT,Result.ok.injEq]at h;exact h.1▸d.2
 |load m a k e=>
  intro n w f b g d h;simp only[Sem.runT]at h;split at h
  .exact e _ n _ _ (d _) h
  .split at h
   .exact e _ n _ _ (d _) h
   .cases h
 |store m a v k e=>
  intro n w f b g d h;cases v with
  |agg x=>cases h
  |tuple x=>cases h
  |_=>
   simp only[Sem.runT]at h;split at h
   .split at h
    .cases h
    .exact e n _ _ d h
   .split at h
    .exact e n _ _ d h
    .cases h
 |new o k e=>intro n w f b g d h;exact e _ n _ _ (d _) h
 |shape r k e=>intro n w f b g d h;exact e _ n _ _ (d _) h
 |freeze a c k e=>intro n w f b g d h;exact e n _ _ d h
 |frozen a k e=>intro n w f b g d h;exact e _ n _ _ (d _) h
 |getObj r k e=>
  intro n w f b g d h;simp only[Sem.runT]at h;split at h
  .cases h
  .exact e _ n _ _ (d _) h
  .cases h
 |setObj r o k e=>
  intro n w f b g d h;simp only[Sem.runT]at h;split at h
  .cases h
  .exact e n _ _ d h
  .cases h
 |choose q k e=>
  intro n w f b g d h;simp only[Sem.runT]at h;split at h
  .exact e _ n _ _ (d _) h
  .exact e _ n _ _ (d _) h
 |sys c k e=>intro n w f b g d h;exact e _ n _ _ (d.2 _) h
 |program k e=>intro n w f b g d h;exact e _ n _ _ d h
 |mark m k e=>intro n w f b g d h;exact e _ _ _ d h
 |halt x=>intro n w f b g d h;cases h
def sV(a:aU Event):Prop:=∀e∈a,(e.loc=.mark .disable\/e.loc=.mark .enable)->e.sync=true
theorem sV.push{b e}(h:sV b)(c:(e.loc=.mark .disable\/e.loc=.mark .enable)->e.sync=true):sV (b.push e):=by
 intro x a;obtain a|rfl:=Array.mem_push.1 a
 .exact h x a
 .exact c
theorem sV.cells{c}(h:sV c)(l:aB bC)(wr at_):sV (c++l.toArray.map λa=>(⟨.cell a,wr,at_⟩:Event)):=by
 intro x b;obtain b|b:=CH.1 b
 .exact h x b
 .obtain⟨a,_,rfl⟩:=Array.mem_map.1 b;simp
theorem Cm{e}(s:Sem e):∀w (d),sV d->sV (s.runT P w d).2:=by
 induction s with
 |pure a=>exact λw d h=>h
 |load m a k b=>
  intro w d h;simp only[Sem.runT];split
  .exact b _ _ _ (h.push aF)
  .split
   .exact b _ _ _ (h.cells _ _ _)
   .exact h
 |store m a v k b=>
  intro w d h;cases v with
  |agg x=>exact h
  |tuple x=>exact h
  |_=>
   simp only[Sem.runT];split
   .split
    .exact h
    .exact b _ _ (h.push aF)
   .split
    .exact b _ _ (h.cells _ _ _)
    .exact h
 |new o k b=>exact λw d h=>b _ _ _ h
 |shape r k b=>exact λw d h=>b _ _ _ h
 |freeze a c k b=>exact λw d h=>b _ _ h
 |frozen a k b=>exact λw d h=>b _ _ _ h
 |getObj r k b=>
  intro w d h;simp only[Sem.runT];split
  .exact h
  .exact b _ _ _ (h.push aF)
  .exact h
 |setObj r o k b=>
  intro w d h;simp only[Sem.runT];split
  .exact h
  .exact b _ _ (h.push aF)
  .exact h
 |choose q k b=>
  intro w d h;simp only[Sem.runT];split<;>exact b _ _ _ h
 |sys c k b=>exact λw d h=>b _ _ _ (h.push aF)
 |program k b=>exact λw d h=>b _ _ _ h
 |mark m k b=>exact λw d h=>b _ _ (h.push aF)
 |halt x=>exact λw d h=>h
theorem H9(j){d}(h:sV d)(b):deafBehind b (seen P j d)=deafBehind b d:=by
 unfold seen;let⟨l⟩:=d;let g:∀(l:aB Event)(q:Bool)(kept:aU Event),(∀e∈l,(e.loc=.mark .disable\/e.loc=.mark .enable)->e.sync=true)->
   deafBehind b (l.foldl (λ(x:Bool×aU Event) e=>match x with|(q,kept)=>match e.loc with|.mark (.extern f)=>((P.funcs[f]?).any (·.norace),kept)|_=>(q,if q&& !e.sync then kept else kept.push e)) (q,kept)).2=l.foldl vL (deafBehind b kept):=by
  intro l
  induction l with
  |nil=>intro q kept _;rfl
  |cons e l n=>
   intro q kept k;simp only[CJ];let xB:=λx o=>k x (sM _ o);let c:=k e aF;split
   .rename_i f r;rw[n _ _ xB];congr 1;simp[vL,r]
   .rename_i p;rw[n _ _ xB];congr 1;split
    .rename_i m;let a:e.sync=false:=by simp at m;exact m.2
     unfold vL;split
     .rename_i i;rw[c (.inl i)]at a;cases a
     .rename_i i;rw[c (.inr i)]at a;cases a
     .rfl
    .rw[gP]
 have:=g l ((P.funcs[j]?).any (·.norace)) #[] λe c=>h e (by simpa using c);simp only[List.foldl_toArray]at this⊢;apply this.trans;rw[ik,ik];simp
end Lf
namespace Lf
open Go Go.Conc
variable{P:Program}
def cY:Item->Prop
 |.extern row _=>row= "runtime.print$piece"
 |.call .. =>False
 |_=>True
def bK(b:Frame):Prop:=∀a∈b.todo,cY a
def lowest(g:bU):Frame:=g.callers.getLast?.getD g.frame
structure oT(g:bU):Prop where
 frame:bK g.frame
 callers:∀fr∈g.callers,bK fr
 dying:∀d,g.dying=some d->d.calling=true->(lowest g).kind=.report
def Local(dying:Bool)(F:aC->GStep)(w:aC):Prop:=
 match F w with
 |.go g e f=>oT g/\(dying=true->g.dying≠none)/\(∀t,g.status≠.sleeping t)/\g.status≠.parked/\
   (g.dying=none->g.status=.running->g.offers=none/\deafBehind 0 f=0/\∃m,e=re e w.tape (w.drawn+m)/\∀a d,Alike w m a d->F (re w a d)=.go g (re e a (d+m)) f)
 |.comm g h b i e f=>oT g/\g.status=.running/\(dying=true->g.dying≠none)/\
   (g.dying=none->g.offers=none/\deafBehind 0 f=0/\∃m,e=re e w.tape (w.drawn+m)/\∀a d,Alike w m a d->F (re w a d)=.comm g h b i (re e a (d+m)) f)
 |.coroswitch g c x e f=>oT g/\g.status=.running/\(dying=true->g.dying≠none)/\
   (g.dying=none->g.offers=none/\deafBehind 0 f=0/\∃m,e=re e w.tape (w.drawn+m)/\∀a d,Alike w m a d->F (re w a d)=.coroswitch g c x (re e a (d+m)) f)
 |.spawn .. =>True
 |.ended .. =>True
 |_=>False
theorem fN{fr}(h:bK fr)(v):bK (fr.finish v):=by
 unfold Frame.finish;split
 all_goals rename_i b
 all_goals intro c a
 .simp only[gA]at a;obtain rfl|a:=a
  .exact trivial
  .exact h c (b▸sM _ a)
 .simp only[gA]at a;obtain rfl|a:=a
  .exact trivial
  .exact h c (b▸sM _ a)
 .exact h c (b▸sM _ a)
 .exact(h (.call _ _ _ _) (b▸Di):False).elim
 .exact h c (b▸sM _ a)
 .exact h c a
theorem m_{fr}(h:bK fr){fr'}(c:∀a∈fr'.todo,a∈fr.todo\/cY a):bK fr':=λa b=>(c a b).elim (h a) id
theorem iQ(f b k):bK (Frame.enter P f b k):=by
 intro c a;simp only[Frame.enter,sO]at a;subst a;exact trivial
theorem xE(l f t a b k):bK (Frame.round l f t a b k):=by
 intro d c;simp only[Frame.round,gA,gw,oP]at c;obtain rfl|rfl|rfl:=c<;>exact trivial
theorem Cb(b k):bK (Frame.ofRow P "runtime.print$piece" b k):=by
 intro c a;simp only[Frame.ofRow,sO]at a;subst a;rfl
theorem ib{fr}(h:bK fr){fr'}(a:fr'.todo=fr.todo):bK fr':=by unfold bK;rw[a];exact h
theorem iT{a}(h:bK a)(vs):bK (a.raise vs):=by unfold Frame.raise;split<;>exact ib h rfl
theorem iO(fr:Frame)(v):(fr.finish v).kind=fr.kind:=by unfold Frame.finish;split<;>rfl
theorem ma(a:Frame)(v):(a.raise v).kind=a.kind:=by unfold Frame.raise;split<;>rfl
theorem oT.top{g}(h:oT g){a}(e:bK a)(i:a.kind=g.frame.kind)(st off):oT {frame:=a,callers:=g.callers,status:=st,dying:=g.dying,offers:=off}:=by
 refine⟨e,h.callers,λd c f=>?_⟩;have:=h.dying d c f;unfold lowest at this⊢;cases b:g.callers.getLast? with
 |none=>rw[b]at this;simp only[Option.getD_none]at this⊢;rw[i];exact this
 |some x=>rw[b]at this;simp only[fD]at this⊢;exact this
theorem oT.push{g}(h:oT g){i a}(l:bK i)(f:bK a)(n:a.kind=g.frame.kind)(st):oT {frame:=i,callers:=a::g.callers,status:=st,dying:=g.dying}:=by
 refine⟨l,λx c=>?_,λd j m=>?_⟩
 .obtain rfl|c:=gA.1 c
  .exact f
  .exact h.callers x c
 .have:=h.dying d j m;unfold lowest at this⊢;cases b:g.callers.getLast? with
  |none=>
   let k:g.callers=[]:=by simpa using b
   rw[b]at this;simp only[k,List.getLast?_singleton,fD,Option.getD_none]at this⊢;rw[n];exact this
  |some x=>
   rw[b]at this;let e:(a::g.callers).getLast?=some x:=by
    rw[List.getLast?_cons];simp[b]
   simp only[e,fD];exact this
theorem oT.pop{g}(h:oT g){c rest}(f:g.callers=c::rest){b}(k:bK b)(l:b.kind=c.kind)(st):oT {frame:=b,callers:=rest,status:=st,dying:=g.dying}:=by
 refine⟨k,λx i=>h.callers x (f▸sM _ i),λd j a=>?_⟩;have:=h.dying d j a;unfold lowest at this⊢;rw[f,List.getLast?_cons]at this;cases e:rest.getLast? with
 |none=>simp only[e,Option.getD_none,fD]at this⊢;rw[l];exact this
 |some x=>simp only[e,fD]at this⊢;exact this
theorem oT.dead{g d}(f:g.dying=some d)(j:d.calling=false)(h:bK g.frame)(b:∀i∈g.callers,bK i):oT g:=
 ⟨h,b,λe c a=>by rw[f]at c;cases c;rw[j]at a;cases a⟩
def Made(dying:Bool){h:Type}(r:Result h)(K:Result h->GStep)(x:GStep):Prop:=match x with
   |.go g f e=>e=#[]/\oT g/\(dying=true->g.dying≠none)/\(∀t,g.status≠.sleeping t)/\g.status≠.parked/\
     (g.dying=none->g.status=.running->g.offers=none/\jx r=true/\∀a d,K (PX a d r)=.go g (re f a d) #[])
   |.comm g i b j f e=>e=#[]/\oT g/\g.status=.running/\(dying=true->g.dying≠none)/\
     (g.dying=none->g.offers=none/\jx r=true/\∀a d,K (PX a d r)=.comm g i b j (re f a d) #[])
   |.coroswitch g c x f e=>e=#[]/\oT g/\g.status=.running/\(dying=true->g.dying≠none)/\
     (g.dying=none->g.offers=none/\jx r=true/\∀a d,K (PX a d r)=.coroswitch g c x (re f a d) #[])
   |.spawn .. =>True
   |.ended .. =>True
   |_=>False
theorem qQ{dying F E w w' m}(t:F w=E w')(q:w'=re w' w.tape (w.drawn+m))(s:∀f d,Alike w m f d->F (re w f d)=E (re w' f (d+m)))(h:Local dying E w'):Local dying F w:=by
 have r:w'.tape=w.tape:=by rw[q];rfl
 have p:w'.drawn=w.drawn+m:=by rw[q];rfl
 have k:∀i e (X:aC->GStep),(e=re e w'.tape (w'.drawn+i)/\∀f d,Alike w' i f d->E (re w' f d)=X (re e f (d+i)))->
   ∃n,e=re e w.tape (w.drawn+n)/\∀f d,Alike w n f d->F (re w f d)=X (re e f (d+n)):=by
  rintro i e X ⟨a,b⟩;refine⟨m+i,by rw[r,p]at a;rw[<-qG];exact a,λf d o=>?_⟩;rw[s f d λj u=>o j aA,<-qG];refine b f (d+m) λj u=>?_;rw[r,p];have:=o (m+j) aA;rw[<-qG]at this;rw[this,<-qG]
 unfold Local at h⊢;rw[t];generalize E w'=x at h⊢;cases x with
 |go g e l=>
  have⟨a1,a2,a3,a4,a5⟩:=h;exact⟨a1,a2,a3,a4,λx y=>let⟨b1,b2,i,b3,b4⟩:=a5 x y;⟨b1,b2,k i e (λv=>.go g v l) ⟨b3,b4⟩⟩⟩
 |comm g z b A e l=>
  have⟨a1,a0,a2,a5⟩:=h;exact⟨a1,a0,a2,λx=>let⟨b1,b2,i,b3,b4⟩:=a5 x;⟨b1,b2,k i e (λv=>.comm g z b A v l) ⟨b3,b4⟩⟩⟩
 |coroswitch g c y e l=>
  have⟨a1,a0,a2,a5⟩:=h;exact⟨a1,a0,a2,λx=>let⟨b1,b2,i,b3,b4⟩:=a5 x;⟨b1,b2,k i e (λv=>.coroswitch g c y v l) ⟨b3,b4⟩⟩⟩
 |spawn=>exact trivial
 |ended=>exact trivial
 |_=>exact h.elim
theorem sf{M L s}(E:Fit P L 0 s)(dying D)(K:Result M->GStep)(w){F}
  (G:∀w,∃v,F w=GStep.after v (K (s.runT P w #[]).1)/\(jx (s.runT P w #[]).1=true->v=seen P D (s.runT P w #[]).2\/v=#[])/\
   ∀o,(s.runT P o #[]).2=(s.runT P w #[]).2->jx (s.runT P w #[]).1=true->jx (s.runT P o #[]).1=true->F o=GStep.after v (K (s.runT P o #[]).1))
  (O:Made dying (s.runT P w #[]).1 K (K (s.runT P w #[]).1)):
  Local dying F w:=by
 unfold Local;have⟨ev,hF1,hF2,ZW⟩:=G w;have l:=O;unfold Made at l;have i:jx (s.runT P w #[]).1=true->deafBehind 0 ev=0:=λh=>by
  obtain rfl|rfl:=hF2 h
  .rw[H9 D (Cm s w #[] λe H=>by simp at H)];exact H6 s 0 w #[] 0 E h rfl
  .rfl
 have j:=λh=>qu P s 0 w #[] E (LV h);rw[hF1];generalize Q:s.runT P w #[]=x at l i j ZW⊢;have⟨r,v⟩:=x;simp only at l i j ZW⊢;have n:∀f d,jx (PX f d r)=jx r:=λf d=>by cases r with|ok a w=>rfl|halt x w=>cases x<;>rfl
 generalize C:K r=k at l⊢;cases k with
 |go g o u=>
  obtain⟨rfl,z,t,N,J,B⟩:=l;refine⟨z,t,N,J,λA I=>?_⟩;have⟨h6,h7,h9⟩:=B A I;have⟨m,e1,e2⟩:=j h7;refine⟨h6,by simpa[GStep.after]using i h7,m,?_,λf d q=>?_⟩
  .have:=h9 w.tape (w.drawn+m);rw[<-e1,C]at this;simp only[GStep.go.injEq,wH,kz]at this;exact this
  .have hw:=e2 f d q;rw[ZW (re w f d) (by rw[hw]) h7 (by rw[hw];simp only[n];exact h7),hw];simp only[h9,GStep.after]
 |comm g R b S o u=>
  obtain⟨rfl,z,p,t,B⟩:=l;refine⟨z,p,t,λA=>?_⟩;have⟨h6,h7,h9⟩:=B A;have⟨m,e1,e2⟩:=j h7;refine⟨h6,by simpa[GStep.after]using i h7,m,?_,λf d q=>?_⟩
  .have:=h9 w.tape (w.drawn+m);rw[<-e1,C]at this;simp only[GStep.comm.injEq,wH,kz]at this;exact this
  .have hw:=e2 f d q;rw[ZW (re w f d) (by rw[hw]) h7 (by rw[hw];simp only[n];exact h7),hw];simp only[h9,GStep.after]
 |coroswitch g c y o u=>
  obtain⟨rfl,z,p,t,B⟩:=l;refine⟨z,p,t,λA=>?_⟩;have⟨h6,h7,h9⟩:=B A;have⟨m,e1,e2⟩:=j h7;refine⟨h6,by simpa[GStep.after]using i h7,m,?_,λf d q=>?_⟩
  .have:=h9 w.tape (w.drawn+m);rw[<-e1,C]at this;simp only[GStep.coroswitch.injEq,wH,kz]at this;exact this
  .have hw:=e2 f d q;rw[ZW (re w f d) (by rw[hw]) h7 (by rw[hw];simp only[n];exact h7),hw];simp only[h9,GStep.after]
 |spawn=>exact trivial
 |ended=>exact trivial
 |_=>exact l.elim
def made(P:Program)(fr:Frame)(callers:aB Frame)(dying:aR Dying):Result Next->GStep
 |.ok a w=>stepG.apply P false fr callers dying (.pure a) w
 |.halt h w=>stepG.apply P false fr callers dying (.halt h) w
end Lf
namespace Lf
open Go Go.Conc
variable{P:Program}
theorem iC(a):seen P a #[]=#[]:=by simp[seen]
theorem eU(x):GStep.after #[] x=x:=by cases x<;>simp[GStep.after]
theorem uZ(b callers dying s w){r es}(h:s.runT P w #[]=(r,es))(c:jx r=true):
  stepG.apply P true b callers dying s w=GStep.after (seen P b.fn (if b.kind==.early then#[]else es)) (made P b callers dying r):=by
 cases r with
 |ok a d=>
  simp only[made];unfold stepG.apply;simp only[h,fB,gI,fA,Sem.run,q9,iC,eU]
 |halt x d=>
  cases x<;>first|(simp[jx]at c;done)|skip
  all_goals
   simp only[made];unfold stepG.apply;simp only[h,fB,gI,fA,Sem.run,q9,iC,eU]
theorem zap{T:bQ}(k:T:=by first|(refine⟨seen P fr.fn (if fr.kind==.early then#[]else es),?_⟩;simp only[made];unfold stepG.apply;simp only[h,fB,gI,fA,Sem.run,q9,iC,eU];done)|(refine⟨#[],?_⟩;simp only[made];unfold stepG.apply;simp only[h,fB,gI,fA,Sem.run,q9,iC,eU];done)):T:=k
theorem Kj(fr callers dying s w){r es}(h:s.runT P w #[]=(r,es)):
  ∃b,stepG.apply P true fr callers dying s w=GStep.after b (made P fr callers dying r):=by
 cases r with
 |ok a c=>exact⟨_,uZ fr callers dying s w h rfl⟩
 |halt x c=>
  cases x with
  |unsupported u=>cases u<;>exact zap
  |_=>exact zap
theorem M5(a callers dying s w):
  ∃es,stepG.apply P true a callers dying s w=GStep.after es (made P a callers dying (s.runT P w #[]).1)/\(jx (s.runT P w #[]).1=true->es=seen P a.fn (s.runT P w #[]).2\/es=#[])/\
   ∀b,(s.runT P b #[]).2=(s.runT P w #[]).2->jx (s.runT P w #[]).1=true->jx (s.runT P b #[]).1=true->stepG.apply P true a callers dying s b=GStep.after es (made P a callers dying (s.runT P b #[]).1):=by
 by_cases c:jx (s.runT P w #[]).1=true
 .refine⟨_,uZ a callers dying s w rfl c,λ_=>?_,λb e _ f=>?_⟩
  .by_cases d:(a.kind==.early)=true
   .exact .inr (by simp only[d,fB,iC])
   .exact .inl (by simp only[d,fA,gI])
  .rw[<-e];exact uZ a callers dying s b rfl f
 .let⟨es',h⟩:=Kj a callers dying s w (r:=(s.runT P w #[]).1) (es:=(s.runT P w #[]).2) rfl;exact⟨es',h,λh=>absurd h c,λ_ _ h=>absurd h c⟩
theorem oT.here{fr callers st dying off}(h:oT ⟨fr,callers,st,dying,off⟩){fr'}(c:bK fr')(b:fr'.kind=fr.kind)(a):oT {frame:=fr',callers:=callers,status:=a,dying:=dying}:=
 h.top c b a none
theorem KC{a}(d:bK a)(l m b w dying){c r}(K:Result c->GStep):Made dying r K (dieOf a l m b w):=by
 unfold dieOf Made;exact⟨rfl,oT.dead rfl rfl d (λ_ h=>by cases h),(λ_ h=>by cases h),aF,aF,(λh=>by cases h)⟩
theorem vn{fr}(b:bK fr)(m w dying){a r}(K:Result a->GStep):Made dying r K (endThrow fr m w):=KC b _ _ _ _ _ _
theorem BP{a}(d:bK a)(callers b m w dying){c r}(K:Result c->GStep):Made dying r K (endFatal P a callers b m w):=by
 unfold endFatal;simp only;split
 .exact KC d _ _ _ _ _ _
 .exact trivial
 .exact trivial
def o8(b a:aB Frame):Prop:=a.map (λf=>(f.todo,f.kind))=b.map λf=>(f.todo,f.kind)
theorem nh:∀{callers:aB Frame}{d v}{b},tryRecover d callers=some (v,b)->o8 callers b:=by
 intro callers
 induction callers with
 |nil=>intro d v b h;unfold tryRecover at h;split at h<;>simp_all
 |cons c rest e=>
  intro d v b h;unfold tryRecover at h;split at h
  .rename_i a;cases a;split at h
   .cases h;simp[o8]
   .cases h
  .rename_i a;cases a;let⟨⟨v',XX⟩,h1,h2⟩:=nA.1 h;cases h2;have:=e h1;simp only[o8,hY]at this⊢;rw[this]
  .cases h
theorem yx:∀{callers:aB Frame}{l v}{a},tryRecoverLoop l callers=some (v,a)->o8 callers a:=by
 intro callers
 induction callers with
 |nil=>intro l v a h;simp[tryRecoverLoop]at h
 |cons c rest b=>
  intro l v a h;unfold tryRecoverLoop at h;let⟨⟨v',XX⟩,h1,h2⟩:=nA.1 h;cases h2;have:o8 rest XX:=by
   split at h1
   .exact b h1
   .split at h1
    .exact nh h1
    .exact b h1
   .exact b h1
  simp only[o8,hY]at this⊢;rw[this]
theorem oT.sim{g}(h:oT g){b}(l:o8 g.callers b):oT {g with callers:=b}:=by
 refine⟨h.frame,λi j=>?_,λd n m=>?_⟩
 .have:(i.todo,i.kind)∈g.callers.map (λf=>(f.todo,f.kind)):=by rw[<-l];exact iZ.2 ⟨i,j,rfl⟩
  let⟨f,hf,e⟩:=iZ.1 this;exact ib (h.callers f hf) (by simp only[oO]at e;exact e.1.symm)
 .let a:=h.dying d n m;let e:(b.map λf=>(f.todo,f.kind)).getLast?=(g.callers.map λf=>(f.todo,f.kind)).getLast?:=by rw[l]
  rw[List.getLast?_map,List.getLast?_map]at e;unfold lowest at a⊢;simp only;cases k:g.callers.getLast? with
  |none=>rw[k]at e a;cases c:b.getLast? with
   |none=>exact a
   |some x=>rw[c]at e;cases e
  |some y=>rw[k]at e a;cases c:b.getLast? with
   |none=>rw[c]at e;cases e
   |some x=>rw[c]at e;simp only[Iu,GD,oO]at e;simp only[fD]at a⊢;rw[e.2];exact a
theorem Sv{T:bQ}(h:T:=by intros;simp only[made,stepG.apply,gI,fA,Sem.run,q9,iC,eU]):T:=h
theorem Xj{T Q:bQ}(k:Q) (h:Q->T:=by
 intro hok;rw[e];exact⟨rfl,hok,vK _ rfl,by simp,by simp,λ_ _=>⟨rfl,rfl,λ_ _=>e _⟩⟩):T:=h k
theorem WB{fr}{callers}{dying}(i:oT ⟨fr,callers,.running,dying,none⟩)(r)(hL:∀a o,r=.ok a o->gm a)
  (B:∀g o,r≠.halt (.unsupported (.initOrder g)) o):Made dying.isSome r (made P fr callers dying) (made P fr callers dying r):=by
 have vK:∀g:bU,g.dying=dying->(dying.isSome=true->g.dying≠none):=λg h E=>by rw[h];intro F;rw[F]at E;cases E
 cases r with
 |ok n o=>
  have D:=hL n o rfl;cases n with
  |value v=>
   have e:∀w,made P fr callers dying (.ok (.value v) w)=.go {frame:=fr.finish v,callers,status:=.running,dying} w:=Sv;exact Xj (i.here (fN i.frame v) (iO _ _) .running)
  |skip=>
   have e:∀w,made P fr callers dying (.ok .skip w)=.go {frame:=fr.finish undef,callers,status:=.running,dying} w:=Sv;exact Xj (i.here (fN i.frame _) (iO _ _) .running)
  |enter f j=>
   have e:∃k,∀w,made P fr callers dying (.ok (.enter f j) w)=.go {frame:=Frame.enter P f j k,callers:=fr::callers,status:=.running,dying} w:=⟨_,λw=>by
    simp only[made,stepG.apply,gI,fA,Sem.run,q9,iC,eU];rfl⟩
   have⟨k,e⟩:=e;exact Xj (i.push (iQ _ _ _) i.frame rfl .running)
  |round l f t a b=>
   have e:∀w,made P fr callers dying (.ok (.round l f t a b) w)=.go {frame:=Frame.round l f t a b .normal,callers:=fr::callers,status:=.running,dying} w:=Sv;exact Xj (i.push (xE _ _ _ _ _ _) i.frame rfl .running)
  |defer d=>
   have e:∀w,made P fr callers dying (.ok (.defer d) w)=.go {frame:=({fr with defers:=d::fr.defers}:Frame).finish undef,callers,status:=.running,dying} w:=Sv;exact Xj (i.here (fr':=({fr with defers:=d::fr.defers}:Frame).finish undef) (fN (fr:={fr with defers:=d::fr.defers}) (ib (fr:=fr) i.frame rfl) _) (by rw[iO]) .running)
  |spawn d=>
   have e:(∃m,made P fr callers dying (.ok (.spawn d) o)=endThrow fr m o)\/∃g c,made P fr callers dying (.ok (.spawn d) o)=.spawn g c o:=by
    simp only[made,stepG.apply,gI,fA,Sem.run,q9,iC,eU]
    repeat' split
    all_goals first|exact .inl ⟨_,rfl⟩|exact .inr ⟨_,_,rfl⟩
   obtain⟨m,e⟩|⟨g,c,e⟩:=e
   .rw[e];exact vn i.frame m o _ _
   .rw[e];exact trivial
  |comm q b C=>
   have e:∀w,made P fr callers dying (.ok (.comm q b C) w)=.comm {frame:=fr,callers,status:=.running,dying} q b C w:=Sv;rw[e];exact⟨rfl,i,rfl,vK _ rfl,λ_=>⟨rfl,rfl,λ_ _=>e _⟩⟩
  |coroswitch c x=>
   have e:∀w,made P fr callers dying (.ok (.coroswitch c x) w)=.coroswitch {frame:=fr,callers,status:=.running,dying} c x w:=Sv;rw[e];exact⟨rfl,i,rfl,vK _ rfl,λ_=>⟨rfl,rfl,λ_ _=>e _⟩⟩
  |row row j=>
   obtain rfl:row= "runtime.print$piece":=D;by_cases y:∃ro A k,fr.todo=.extern ro A::k
   .have⟨ro,A,k,ht⟩:=y;have e:∀w,made P fr callers dying (.ok (.row "runtime.print$piece" j) w)=.go {frame:={fr with todo:=.extern "runtime.print$piece" j::k},callers,status:=.running,dying} w:=λw=>by
     simp only[made,stepG.apply,gI,fA,Sem.run,q9,iC,eU,ht]
    rw[e];refine⟨rfl,i.here (fr':={fr with todo:=.extern "runtime.print$piece" j::k}) (λz s=>?_) rfl _,vK _ rfl,aF,aF,λ_ _=>⟨rfl,rfl,λ_ _=>e _⟩⟩;obtain rfl|s:=gA.1 s
    .rfl
    .exact i.frame z (by show z∈fr.todo;rw[ht];exact sM _ s)
   .have e:∃k,∀w,made P fr callers dying (.ok (.row "runtime.print$piece" j) w)=.go {frame:=Frame.ofRow P "runtime.print$piece" j k,callers:=fr::callers,status:=.running,dying} w:=by
     refine⟨.normal,λw=>?_⟩;cases p:fr.todo with
     |nil=>simp only[made,stepG.apply,gI,fA,Sem.run,q9,iC,eU,p]
     |cons z k=>
      cases z with
      |extern ro A=>exact(y ⟨_,_,_,p⟩).elim
      |call a b c d=>exact(i.frame (.call a b c d) (by show _∈fr.todo;rw[p];exact Di):False).elim
      |_=>simp only[made,stepG.apply,gI,fA,Sem.run,q9,iC,eU,p]
    have⟨k,e⟩:=e;exact Xj (i.push (Cb _ _) i.frame rfl .running)
  |recover=>
   have e:(∃v q,o8 callers q/\∀w,made P fr callers dying (.ok .recover w)=.go {frame:=fr.finish v,callers:=q,status:=.running,dying} w):=by
    simp only[made,stepG.apply,gI,fA,Sem.run,q9,iC,eU];split
    .rename_i v q h;refine⟨v,q,?_,λ_=>rfl⟩;split at h
     .split at h
      .exact nh h
      .exact yx h
     .exact nh h
    .exact⟨_,callers,rfl,λ_=>rfl⟩
   have⟨v,q,hs,e⟩:=e;exact Xj ((i.here (fN i.frame v) (iO _ _) .running).sim hs)
  |_=>exact D.elim
 |halt x o=>
  cases x with
  |panic v=>
   have e:∀w,made P fr callers dying (.halt (.panic v) w)=.go {frame:=fr.raise [{v,recovered:=false}],callers,status:=.running,dying} w:=Sv;exact Xj (i.here (iT i.frame _) (ma _ _) .running)
  |goexit=>
   have e:∀w,made P fr callers dying (.halt .goexit w)=.go {frame:=fr.raise [goexitEntry],callers,status:=.running,dying} w:=Sv;exact Xj (i.here (iT i.frame _) (ma _ _) .running)
  |blocked=>
   have e:made P fr callers dying (.halt .blocked o)=.go {frame:=fr,callers,status:=.blocked,dying} o:=Sv;rw[e];exact⟨rfl,i.here i.frame rfl _,vK _ rfl,aF,aF,λ_ h=>by cases h⟩
  |waiting=>
   have e:made P fr callers dying (.halt .waiting o)=.go {frame:=fr,callers,status:=.waiting,dying} o:=Sv;rw[e];exact⟨rfl,i.here i.frame rfl _,vK _ rfl,aF,aF,λ_ h=>by cases h⟩
  |fatal m=>
   have e:made P fr callers dying (.halt (.fatal m) o)=endFatal P fr callers dying m o:=Sv;rw[e];exact BP i.frame callers dying m o _ _
  |throw m=>
   have e:made P fr callers dying (.halt (.throw m) o)=endThrow fr m o:=Sv;rw[e];exact vn i.frame m o _ _
  |unsupported u=>
   cases u with
   |initOrder g=>exact absurd rfl (B g o)
   |_=>
    simp only[made,stepG.apply,gI,fA,Sem.run,q9,iC,eU];exact trivial
  |_=>
   simp only[made,stepG.apply,gI,fA,Sem.run,q9,iC,eU];exact trivial
theorem oT.YX{c callers dying}(h:oT ⟨c,callers,.running,dying,none⟩){f}(i:bK f){l}(b:∀x∈l,bK x):oT {frame:=f,callers:=l++c::callers,status:=.running,dying:=dying}:=by
 refine⟨i,λx a=>?_,λd g e=>?_⟩
 .obtain a|a:=jc.1 a
  .exact b x a
  .obtain rfl|a:=gA.1 a
   .exact h.frame
   .exact h.callers x a
 .have:=h.dying d g e;unfold lowest at this⊢;simp only[List.getLast?_append,List.getLast?_cons]at this⊢;cases b:callers.getLast?<;>simp[b]at this⊢<;>exact this
theorem Nc(w b d n):∀l s,P.brought (re w b d) n l s=P.brought w n l s:=by
 induction n with
 |zero=>intro l s;unfold Program.brought;cases l<;>rfl
 |succ n a=>
  intro l s;cases l with
  |nil=>rfl
  |cons f l=>
   unfold Program.brought;simp only[a];rfl
theorem Tr(w b d n):∀f,P.found (re w b d) n f=P.found w n f:=by
 induction n with
 |zero=>intro f;rfl
 |succ n a=>
  intro f;unfold Program.found;simp only[a];rfl
theorem Lo{q callers dying}(O:oT ⟨q,callers,.running,dying,none⟩)(g w):Local dying.isSome (λw=>early P q callers dying g w) w:=by
 let vK:∀g:bU,g.dying=dying->(dying.isSome=true->g.dying≠none):=λg h S=>by rw[h];intro N;rw[N]at S;cases S
 let D:∀w a d,(re w a d).heap=w.heap:=λ_ _ _=>rfl;let J:∀w a d n l s,P.brought (re w a d) n l s=P.brought w n l s:=λw a d n l s=>Nc w a d n l s;let t:∀w a d n f,P.found (re w a d) n f=P.found w n f:=λw a d n f=>Tr w a d n f;let K:∀{F:aC->GStep}(x:bU)(f:aU Obj->aU Obj)(w:aC),oT x->x.dying=dying->x.status=.running->x.offers=none->(∀a d,F (re w a d)=.go x (re {w with heap:=f w.heap} a d))->Local dying.isSome F w:=by
  intro F x f w R T I U G;let N:=G w.tape w.drawn;rw[JA]at N;unfold Local;rw[N];exact⟨R,vK _ T,by rw[I];simp,by rw[I];simp,λ_ _=>⟨U,rfl,0,rfl,λa d _=>G a d⟩⟩
 let stop:∀{F:aC->GStep}(w:aC){o w' es},F w=.ended o w' es->Local dying.isSome F w:=by
  intro F w o w' es h;unfold Local;rw[h];trivial
 let b:∀{F:aC->GStep}(w:aC),(∀a d,F (re w a d)=match w.heap[g]? with|some (.pending c elem)=>.go {frame:=q,callers,status:=.running,dying} (re {w with heap:=w.heap.setIfInBounds g (.cells c elem)} a d)|_=>.ended (.stuck "early: the variable does not wait" (q.pos P)) (re w a d))->Local dying.isSome F w:=by
  intro F w G;cases hw:w.heap[g]? with
  |none=>exact stop w (by have:=G w.tape w.drawn;rw[hw]at this;exact this)
  |some o=>
   cases o with
   |pending c elem=>exact K _ (λh=>h.setIfInBounds g (.cells c elem)) w (O.here O.frame rfl _) rfl rfl rfl (λa d=>by rw[G,hw])
   |_=>exact stop w (by have:=G w.tape w.drawn;rw[hw]at this;exact this)
 let j:∀w a d (o:aR Nat),o.bind (re w a d).shape?=o.bind w.shape?:=λ_ _ _ _=>rfl;by_cases p:P.follows .staticDataAhead=true
 .cases r:P.stepOf g with
  |none=>exact stop (o:=.unsupported (.initOrder g) (q.pos P)) (w':=w) (es:=#[]) w (by simp[early,p,r])
  |some f=>
   let i:∀{F:aC->GStep}(w:aC),(∀a d,F (re w a d)=.go {frame:=Frame.enter P f #[] .early,callers:=(if(P.code? f).any P.plainData then(P.brought w (2*P.funcs.size+1) [f] []).drop 1 else[]).map (Frame.enter P · #[] .early)++q::callers,status:=.running,dying} (re w a d))->Local dying.isSome F w:=by
    intro F w G;refine K _ (λh=>h) w (O.YX (iQ _ _ _) λx R=>?_) rfl rfl rfl G;obtain⟨y,_,rfl⟩:=iZ.1 R;exact iQ _ _ _
   by_cases u:(P.code? f).any P.atRunTime=true
   .exact b w (λa d=>by simp only[early,p,r,u,D,xv,gI,fA,fB];rfl)
   by_cases z:(((P.code? f).bind λc=>(readies c).getLast?).bind w.shape?).isSome=true
   .exact b w (λa d=>by simp only[early,p,r,u,z,D,j,xv,gI,fA,fB];rfl)
   cases B:P.found w P.funcs.size f with
   |unknown=>exact stop (o:=.unsupported (.initOrder g) (q.pos P)) (w':=w) (es:=#[]) w (by simp only[early,p,r,u,z,B,xv,gI,fA])
   |notYet=>
    cases A:(q.kind==.early)with
    |true=>exact stop (o:=.unsupported (.initOrder g) (q.pos P)) (w':=w) (es:=#[]) w (by simp only[early,p,r,u,z,B,A,xv,gI,fA])
    |false=>exact b w (λa d=>by simp only[early,p,r,u,z,B,A,D,j,t,xv,gI,fA];rfl)
   |either=>
    cases A:(q.kind==.early)with
    |true=>exact i w (λa d=>by simp only[early,p,r,u,z,B,A,D,j,t,J,xv,gI,fA])
    |false=>
     by_cases H:(P.code? f).any P.plainData=true
     .exact i w (λa d=>by simp only[early,p,r,u,z,B,A,H,D,j,t,J,xv,gI,fA,fB])
     by_cases L:(P.code? f).any P.bareCopy=true
     .let C:∀w,(choose (.early g)).run P w=.ok ((Question.early g).cut (w.tape w.drawn (.early g))) {w with drawn:=w.drawn+1}:=λw=>by simp[choose,Sem.run,Question.forced]
      let al:∀a d,Alike w 1 a d->a d=w.tape w.drawn:=λa d h=>by have:=h 0 aA;simpa using this
      cases M:(Question.early g).cut (w.tape w.drawn (.early g))with
      |zero=>
       refine qQ (E:=λv=>match v.heap[g]? with|some (.pending c elem)=>.go {frame:=q,callers,status:=.running,dying} {v with heap:=v.heap.setIfInBounds g (.cells c elem)}|_=>.ended (.stuck "early: the variable does not wait" (q.pos P)) v) (w':={w with drawn:=w.drawn+1}) (m:=1) ?_ rfl (λa d Q=>?_) (b _ λa d=>?_)
       .simp only[early,p,r,u,z,B,A,H,L,C,M,xv,gI,fA];rfl
       .let e:(Question.early g).cut ((re w a d).tape (re w a d).drawn (.early g))=0:=by show(Question.early g).cut (a d (.early g))=0;rw[al a d Q];exact M
        simp only[early,p,r,u,z,B,A,H,L,D,j,t,C,e,xv,gI,fA];rfl
       .rfl
      |succ k=>
       refine qQ (E:=λv=>.go {frame:=Frame.enter P f #[] .early,callers:=(if(P.code? f).any P.plainData then(P.brought w (2*P.funcs.size+1) [f] []).drop 1 else[]).map (Frame.enter P · #[] .early)++q::callers,status:=.running,dying} v) (w':={w with drawn:=w.drawn+1}) (m:=1) ?_ rfl (λa d Q=>?_) (i _ λa d=>?_)
       .simp only[early,p,r,u,z,B,A,H,L,C,M,xv,gI,fA]
       .let e:(Question.early g).cut ((re w a d).tape (re w a d).drawn (.early g))=k+1:=by show(Question.early g).cut (a d (.early g))=k+1;rw[al a d Q];exact M
        simp only[early,p,r,u,z,B,A,H,L,D,j,t,C,e,xv,gI,fA];rfl
       .simp only[H,gI,fA]
     .exact b w (λa d=>by simp only[early,p,r,u,z,B,A,H,L,D,j,t,xv,Bool.not_false,gI,fA,fB];rfl)
 .exact b w (λa d=>by simp only[early,p,D,Bool.not_false,fB];rfl)
theorem qP{fr callers dying}(f:oT ⟨fr,callers,.running,dying,none⟩){s}(c:Fit P gm 0 s)(w):Local dying.isSome (λw=>stepG.apply P true fr callers dying s w) w:=by
 by_cases b:∃g w',(s.runT P w #[]).1=.halt (.unsupported (.initOrder g)) w'
 .let⟨g,w',hr⟩:=b;let⟨m,e1,e2⟩:=qu P s 0 w #[] c (by rw[hr];rfl);let ea:∀w w' e,s.runT P w #[]=(.halt (.unsupported (.initOrder g)) w',e)->stepG.apply P true fr callers dying s w=early P fr callers dying g w':=by
   intro w w' e h;unfold stepG.apply;simp only[h,fB,q9,iC,eU]
  refine qQ (E:=λw=>early P fr callers dying g w) (w':=w') (m:=m) (ea w w' _ (Prod.ext hr rfl)) ?_ (λi d j=>?_) (Lo f g w')
  .rw[hr]at e1;simp only[PX,Result.halt.injEq,wH]at e1;exact e1
  .have:=e2 i d j;rw[hr]at this;exact ea _ _ _ this
 .exact sf c _ fr.fn (made P fr callers dying) w (λw=>M5 fr callers dying s w) (WB f _ (λa w' h=>Bq s 0 w #[] c h) λg w' h=>b ⟨g,w',h⟩)
end Lf
namespace Lf
open Go Go.Conc
variable{P:Program}
theorem vK{dying}(g:bU)(h:g.dying=dying):(dying.isSome=true->g.dying≠none):=λa=>by rw[h];intro b;rw[b]at a;cases a
theorem se{dying:aR Dying}{F w}(x)(e:oT x)(g:dying.isSome=true->x.dying≠none)(i:∀t,x.status≠.sleeping t)(f:x.status≠.parked)(h:x.offers=none)(b:∀a d,F (re w a d)=.go x (re w a d)):Local dying.isSome F w:=by
 let c:=b w.tape w.drawn;rw[JA]at c;unfold Local;rw[c];exact⟨e,g,i,f,λ_ _=>⟨h,rfl,0,rfl,λa d _=>b a d⟩⟩
theorem gT{dying F w o w' es}(h:F w=.ended o w' es):Local dying F w:=by
 unfold Local;rw[h];trivial
theorem jd{dying h r}{K:Result h->GStep}{g b}(l:oT g)(c:dying=true->g.dying≠none)(k:∀t,g.status≠.sleeping t)(i:g.status≠.parked)(j:g.offers=none)(e:jx r=true)(f:∀a d,K (PX a d r)=.go g (re b a d)):Made dying r K (.go g b):=
 ⟨rfl,l,c,k,i,λ_ _=>⟨j,e,f⟩⟩
theorem vh{a callers dying}(i:oT ⟨a,callers,.running,dying,none⟩)(C:∀d,dying=some d->d.calling=true)(v){D r}{K:Result D->GStep}{w}(z:jx r=true)(E:∀p d,K (PX p d r)=doReturn P true a callers dying v (re w p d)):
  Made dying.isSome r K (doReturn P true a callers dying v w):=by
 have j:∀{x:bU},oT x->(dying.isSome=true->x.dying≠none)->x.status=.running->x.offers=none->(∀w,doReturn P true a callers dying v w=.go x w)->Made dying.isSome r K (doReturn P true a callers dying v w):=by
  intro x B y u A t;rw[t];exact jd B y (by rw[u];simp) (by rw[u];simp) A z (λp d=>by rw[E,t])
 cases callers with
 |cons c rest=>
  have b:=i.callers c Di;cases g:a.kind with
  |normal=>exact j (i.pop rfl (fN b v) (iO _ _) .running) (vK _ rfl) rfl rfl (λw=>by simp only[doReturn,g])
  |wrapped=>exact j (i.pop rfl (fN b v) (iO _ _) .running) (vK _ rfl) rfl rfl (λw=>by simp only[doReturn,g])
  |early=>exact j (i.pop rfl b rfl .running) (vK _ rfl) rfl rfl (λw=>by simp only[doReturn,g])
  |_=>
   have e:∃m:Frame,m.todo=c.todo/\m.kind=c.kind/\∀w,doReturn P true a (c::rest) dying v w=.go {frame:=m,callers:=rest,status:=.running,dying} w:=by
    simp only[doReturn,g];split
    .split
     .exact⟨{c with mode:=.returning},rfl,rfl,λ_=>rfl⟩
     .exact⟨{c with mode:=.panicking _},rfl,rfl,λ_=>rfl⟩
    .exact⟨c,rfl,rfl,λ_=>rfl⟩
   have⟨m,s,q,e3⟩:=e;exact j (i.pop rfl (ib b s) q .running) (vK _ rfl) rfl rfl e3
 |nil=>
  cases g:a.kind with
  |report=>
   have e:(∃l,l.calling=false/\∀w,doReturn P true a [] dying v w=.go {frame:=a,callers:=[],status:=.running,dying:=some l} w)\/∃o,doReturn P true a [] dying v w=.ended o w:=by
    simp only[doReturn,g];split
    .exact .inl ⟨_,rfl,λ_=>rfl⟩
    .exact .inr ⟨_,rfl⟩
    .rename_i h _;exact absurd rfl h
   obtain⟨l,s,q⟩|⟨o,e⟩:=e
   .exact j (x:={frame:=a,callers:=[],status:=.running,dying:=some l}) (oT.dead rfl s i.frame λ_ h=>by cases h) (λ_ h=>by cases h) rfl rfl q
   .rw[e];exact trivial
  |_=>
   have n:dying=none:=by
    cases k:dying with
    |none=>rfl
    |some d=>
     have:=i.dying d k (C d k);simp[lowest,g]at this
   subst n;have e:(∃f,∀w,doReturn P true a [] none v w=.go {frame:=Frame.enter P f #[] .normal,callers:=[],status:=.running,dying:=none} w)\/∃o,doReturn P true a [] none v w=.ended o w:=by
    simp only[doReturn,g,xv,gI,fA];split
    .exact .inl ⟨_,λ_=>rfl⟩
    .exact .inr ⟨_,rfl⟩
   obtain⟨f,e⟩|⟨o,e⟩:=e
   .exact j (x:={frame:=Frame.enter P f #[] .normal,callers:=[],status:=.running,dying:=none}) ⟨iQ _ _ _,(λ_ h=>by cases h),(λ_ h=>by cases h)⟩ (λh=>by cases h) rfl rfl e
   .rw[e];exact trivial
theorem Ck(fn b):Fit P (λ_=>True) 0 (results fn b):=by
 unfold results;refine bV (fAm (λx=>?_) _) λ_=>aP P _;cases x with
 |tmp t=>exact aP P _
 |cell a t=>exact bV (nQ P _) λ_=>jw P _ _
theorem jM(B:Plain P){fr callers dying}(g:oT ⟨fr,callers,.running,dying,none⟩)(d w):Local dying.isSome (λw=>callDeferred P fr callers dying d w) w:=by
 by_cases C:d.target=.nil/\∃c,fr.mode=.panicking c
 .have⟨k,c,j⟩:=C;have:∃o,callDeferred P fr callers dying d w=.ended o w:=by
   unfold callDeferred;rw[k,j];exact⟨_,rfl⟩
  have⟨o,e⟩:=this;exact gT e
 .have e:∃(z:Result Next->aU Event->aU Event)(K:Result Next->GStep),(∀w,callDeferred P fr callers dying d w=GStep.after (z ((invoke d.target d.args).runT P w #[]).1 ((invoke d.target d.args).runT P w #[]).2) (K ((invoke d.target d.args).runT P w #[]).1))/\
    (∀r p,jx r=true->z r p=seen P fr.fn p)/\∀r:Result Next,(∀a i,r=.ok a i->gm a)->Made dying.isSome r K (K r):=by
   refine⟨λr p=>seen P fr.fn (match r with|.halt .blocked _|.halt .waiting _=>#[]|_=>p),?K,?main,?bH,?rest⟩
   case main=>
    intro w;unfold callDeferred;refine(bN λh=>C ?_).trans ?_
    .cases k:d.target<;>rw[k]at h<;>first|(simp at h;done)|skip
     cases j:fr.mode<;>rw[j]at h<;>first|(simp at h;done)|skip
     exact⟨rfl,_,rfl⟩
    generalize(invoke d.target d.args).runT P w #[]=x;have⟨r,p⟩:=x;dsimp only;exact rfl
   case bH=>
    intro r p q;cases r with
    |ok a w=>rfl
    |halt x w=>cases x<;>first|rfl|(simp[jx]at q;done)
   case rest=>
    intro r hL;cases r with
    |ok n i=>
     have A:=hL n i rfl;cases n with
     |enter f s=>exact jd (g.push (iQ _ _ _) g.frame rfl _) (vK _ rfl) aF aF rfl rfl λ_ _=>rfl
     |round l f t a b=>exact jd (g.push (xE _ _ _ _ _ _) g.frame rfl _) (vK _ rfl) aF aF rfl rfl λ_ _=>rfl
     |row row s=>
      obtain rfl:row= "runtime.print$piece":=A;exact jd (g.push (Cb _ _) g.frame rfl _) (vK _ rfl) aF aF rfl rfl λ_ _=>rfl
     |recover=>
      have e:∃y,o8 callers y/\∀w,(match fr.mode,tryRecover fr callers with|.returning,some (_,callers)=>GStep.go {frame:=fr,callers,status:=.running,dying} w|_,_=>GStep.go {frame:=fr,callers,status:=.running,dying} w)=.go {frame:=fr,callers:=y,status:=.running,dying} w:=by
       split
       .rename_i h;exact⟨_,nh h,λ_=>rfl⟩
       .exact⟨callers,rfl,λ_=>rfl⟩
      have⟨y,k,j⟩:=e;exact Eq.mpr (oB (Made dying.isSome (Result.ok Next.recover i) _) (j i)) (jd ((g.here g.frame rfl .running).sim k) (vK _ rfl) aF aF rfl rfl λE d=>j (re i E d))
     |coroswitch c x=>
      cases x with
      |true=>exact⟨rfl,g,rfl,vK _ rfl,λ_=>⟨rfl,rfl,λ_ _=>rfl⟩⟩
      |false=>exact trivial
     |value v=>exact jd (g.here g.frame rfl _) (vK _ rfl) aF aF rfl rfl λ_ _=>rfl
     |skip=>exact jd (g.here g.frame rfl _) (vK _ rfl) aF aF rfl rfl λ_ _=>rfl
     |defer d=>exact jd (g.here g.frame rfl _) (vK _ rfl) aF aF rfl rfl λ_ _=>rfl
     |spawn d=>exact jd (g.here g.frame rfl _) (vK _ rfl) aF aF rfl rfl λ_ _=>rfl
     |comm a b c=>exact jd (g.here g.frame rfl _) (vK _ rfl) aF aF rfl rfl λ_ _=>rfl
     |_=>exact A.elim
    |halt x i=>
     cases x with
     |panic v=>exact jd (g.here (iT g.frame _) (ma _ _) _) (vK _ rfl) aF aF rfl rfl λ_ _=>rfl
     |goexit=>exact jd (g.here (iT g.frame _) (ma _ _) _) (vK _ rfl) aF aF rfl rfl λ_ _=>rfl
     |fatal m=>exact BP g.frame callers dying m i _ _
     |throw m=>exact vn g.frame m i _ _
     |blocked=>exact⟨rfl,g.here (fr':={fr with defers:=d::fr.defers}) (ib (fr:=fr) g.frame rfl) rfl _,vK _ rfl,aF,aF,λ_ h=>by cases h⟩
     |waiting=>exact⟨rfl,g.here (fr':={fr with defers:=d::fr.defers}) (ib (fr:=fr) g.frame rfl) rfl _,vK _ rfl,aF,aF,λ_ h=>by cases h⟩
     |_=>exact trivial
  have⟨z,K,k,j,h3⟩:=e;refine sf (tN B _ _) _ fr.fn K w (λw=>⟨_,k w,λq=>.inl (j _ _ q),λi D q u=>?_⟩) (h3 _ λa i h=>Bq _ 0 w #[] (tN B _ _) h);rw[k i,j _ _ q,j _ _ u,D]
end Lf
namespace Lf
open Go Go.Conc
variable{P:Program}
theorem tV{c L s}(b:Fit P L 0 s){dying fn w F}
  (h:∃K:Result c->GStep,(∀w,F w=GStep.after (seen P fn (s.runT P w #[]).2) (K (s.runT P w #[]).1))/\∀r,Made dying r K (K r)):Local dying F w:=by
 let⟨K,h1,h2⟩:=h;refine sf b _ fn K w (λw=>⟨_,h1 w,λ_=>.inl rfl,λd a _ _=>?_⟩) (h2 _);rw[h1 d,a]
theorem EA{a callers dying}(c:oT ⟨a,callers,.running,dying,none⟩)(e:∀d,dying=some d->d.calling=true)(v){F}(b:∀w,F w=doReturn P true a callers dying v w)(w):Local dying.isSome F w:=by
 refine sf (L:=λ_=>True) (s:=(pure ():Sem Unit)) (aP P ()) _ a.fn (λr=>match r with|.ok _ w=>doReturn P true a callers dying v w|.halt _ w=>.ended (.stuck "" "") w) w (λw=>⟨#[],?_,λ_=>.inr rfl,λf _ _ _=>?_⟩) (vh c e v rfl λ_ _=>rfl)
 .rw[b,eU];rfl
 .rw[b,eU];rfl
theorem Ez{dying F w e a d}(c:bK a)(b:d.calling=false)(h:F w=.go {frame:=a,callers:=[],status:=.running,dying:=some d} e):Local dying F w:=by
 unfold Local;rw[h];exact⟨oT.dead rfl b c (λ_ h=>by cases h),(λ_ h=>by cases h),aF,aF,(λh=>by cases h)⟩
theorem Jn(m:Plain P){fr callers dying}(i:oT ⟨fr,callers,.running,dying,none⟩)(q:∀d,dying=some d->d.calling=true)(w):Local dying.isSome (λw=>unwind P true fr callers dying w) w:=by
 cases g:fr.defers with
 |cons d k=>
  have Wb:oT ⟨{fr with defers:=k},callers,.running,dying,none⟩:=i.here (fr':={fr with defers:=k}) (ib (fr:=fr) i.frame rfl) rfl _;have⟨t,args⟩:=d;cases t with
  |collected block=>
   refine tV (P:=P) (s:=Instr.takeDeferred block) (tH P block) (fn:=fr.fn) ⟨?K,?main,?rest⟩
   case main=>
    intro w;unfold unwind;rw[g];dsimp only;generalize(Instr.takeDeferred block).runT P w #[]=x;have⟨r,es⟩:=x;dsimp only;exact rfl
   case rest=>
    intro r;cases r with
    |ok a w=>exact jd (i.here (fr':={fr with defers:=a++k}) (ib (fr:=fr) i.frame rfl) rfl _) (vK _ rfl) aF aF rfl rfl λ_ _=>rfl
    |halt x w=>exact trivial
  |fn a b=>
   have e:∀w,unwind P true fr callers dying w=callDeferred P {fr with defers:=k} callers dying ⟨.fn a b,args⟩ w:=λw=>by unfold unwind;rw[g]
   simp only[e];exact jM m Wb _ w
  |nil=>
   have e:∀w,unwind P true fr callers dying w=callDeferred P {fr with defers:=k} callers dying ⟨.nil,args⟩ w:=λw=>by unfold unwind;rw[g]
   simp only[e];exact jM m Wb _ w
  |builtin a b c d=>
   have e:∀w,unwind P true fr callers dying w=callDeferred P {fr with defers:=k} callers dying ⟨.builtin a b c d,args⟩ w:=λw=>by unfold unwind;rw[g]
   simp only[e];exact jM m Wb _ w
  |coroexit c=>
   have e:∀w,unwind P true fr callers dying w=callDeferred P {fr with defers:=k} callers dying ⟨.coroexit c,args⟩ w:=λw=>by unfold unwind;rw[g]
   simp only[e];exact jM m Wb _ w
 |nil=>
  cases j:fr.mode with
  |run=>exact gT (o:=.stuck "unwind: the frame is running" (fr.pos P)) (w':=w) (es:=#[]) (by unfold unwind;rw[g,j])
  |panicking chain=>
   by_cases f:fr.catches P=true
   .exact gT (o:=.unsupported (.noEntry "a panic or Goexit out of a method that fmt calls behind a cut's door") (fr.pos P)) (w':=w) (es:=#[]) (by unfold unwind;rw[g,j];simp only[f,fB])
   .cases callers with
    |cons c rest=>
     exact se _ (i.pop rfl (iT (i.callers c Di) chain) (ma _ _) .running) (vK _ rfl) aF aF rfl (λz d=>by unfold unwind;rw[g,j];simp only[f,fA,gI])
    |nil=>
     cases aaU:dying with
     |none=>
      subst aaU;by_cases l:(chain.head?.any (·.goexit))=true
      .exact se (dying:=none) {frame:=fr,callers:=[],status:=.finished,dying:=none} (i.here i.frame rfl _) (λh=>by cases h) aF aF rfl (λz d=>by unfold unwind;rw[g,j];simp only[f,l,fA,fB,gI])
      .have e:(∃d w',d.calling=false/\unwind P true fr [] none w=.go {frame:=fr,callers:=[],status:=.running,dying:=some d} w')\/∃o w',unwind P true fr [] none w=.ended o w':=by
        unfold unwind;rw[g,j];simp only[f,l,fA,gI];split
        .exact .inl ⟨_,_,rfl,rfl⟩
        .exact .inr ⟨_,_,rfl⟩
        .exact .inr ⟨_,_,rfl⟩
       obtain⟨d,w',p,y⟩|⟨o,w',h⟩:=e
       .exact Ez i.frame p y
       .exact gT h
     |some d=>
      have e:(∃n w',n.calling=false/\unwind P true fr [] (some d) w=.go {frame:=fr,callers:=[],status:=.running,dying:=some n} w')\/∃o w',unwind P true fr [] (some d) w=.ended o w':=by
       unfold unwind;rw[g,j];simp only[f,fA,gI];split
       .unfold endPrinting;dsimp only;split
        .exact .inl ⟨_,_,rfl,rfl⟩
        .exact .inr ⟨_,_,rfl⟩
       .exact .inr ⟨_,_,rfl⟩
      obtain⟨n,w',p,h⟩|⟨o,w',h⟩:=e
      .exact Ez i.frame p h
      .exact gT h
  |returning=>
   cases u:P.funcs[fr.fn]? with
   |none=>exact EA (P:=P) i q (fr.tmps.getD 0 undef) (λw=>by unfold unwind;rw[g,j];simp only[u]) w
   |some fn=>
    refine tV (P:=P) (s:=results fn fr.tmps) (Ck fn fr.tmps) (fn:=fr.fn) ⟨?K2,?aan,?aat⟩
    case aan=>
     intro w;unfold unwind;rw[g,j];simp only[u];generalize(results fn fr.tmps).runT P w #[]=x;have⟨r,es⟩:=x;dsimp only;exact rfl
    case aat=>
     intro r;cases r with
     |ok v w=>exact vh i q v rfl λ_ _=>rfl
     |halt x w=>cases x<;>exact trivial
end Lf
namespace Lf
open Go Go.Conc
variable{P:Program}
theorem Od:Extern.next "runtime.print$piece"=some (Extern.PrintPieces.piece #[] #[]):=by rfl
theorem NZ{u:Type}{L:u->bQ}{s:Sem u}(v:Fit P L 0 s){dying:Bool}{fn:FuncId}{w:aC}{F:aC->GStep}{E:u->aC->GStep}{H:Halt->aC->GStep}
  (q:∀w,F w=match s.runT P w #[]with|(r,es)=>GStep.after (seen P fn es) (match r with|.ok a w=>E a w|.halt x w=>H x w)) (B:∀a w,Local dying (E a) w) (A:∀x w,∃o,H x w=.ended o w):Local dying F w:=by
 cases k:(s.runT P w #[]).1 with
 |halt x w'=>
  have⟨o,ho⟩:=A x w';apply gT (o:=o) (w':=w') (es:=seen P fn (s.runT P w #[]).2);rw[q w];show GStep.after (seen P fn (s.runT P w #[]).2) (match(s.runT P w #[]).1 with|.ok a w=>E a w|.halt x w=>H x w)=_;rw[k];simp only[ho,GStep.after,Array.append_empty]
 |ok a w'=>
  have⟨m,e1,e2⟩:=qu P s 0 w #[] v (by rw[k];rfl);have l:deafBehind 0 (seen P fn (s.runT P w #[]).2)=0:=by
   rw[H9 fn (Cm s w #[] λe z=>by simp at z)];exact H6 s 0 w #[] 0 v (by rw[k];rfl) rfl
  generalize j:seen P fn (s.runT P w #[]).2=ev at l;have t:F w=GStep.after ev (E a w'):=by
   rw[q w,<-j];show GStep.after (seen P fn (s.runT P w #[]).2) (match(s.runT P w #[]).1 with|.ok a w=>E a w|.halt x w=>H x w)=_;rw[k]
  rw[k]at e1 e2;simp only[PX,Result.ok.injEq,wH]at e1;refine qQ (E:=λw=>GStep.after ev (E a w)) (w':=w') (m:=m) t e1 (λi d f=>?_) ?_
  .rw[q,e2 i d f];simp only[PX,j]
  .have h:=B a w';have Yz:∀es,deafBehind 0 es=0->deafBehind 0 (ev++es)=0:=λes h=>by rw[pW,l,h]
   unfold Local at h⊢;dsimp only;cases p:E a w' with
   |go g n es=>
    rw[p]at h;have⟨a1,a2,a3,a4,a5⟩:=h;exact⟨a1,a2,a3,a4,λx y=>let⟨b1,b2,m',b3,b4⟩:=a5 x y;⟨b1,Yz _ b2,m',b3,λi d f=>by rw[b4 i d f];rfl⟩⟩
   |comm g C b D n es=>
    rw[p]at h;have⟨a1,a0,a2,a5⟩:=h;exact⟨a1,a0,a2,λx=>let⟨b1,b2,m',b3,b4⟩:=a5 x;⟨b1,Yz _ b2,m',b3,λi d f=>by rw[b4 i d f];rfl⟩⟩
   |coroswitch g c y n es=>
    rw[p]at h;have⟨a1,a0,a2,a5⟩:=h;exact⟨a1,a0,a2,λx=>let⟨b1,b2,m',b3,b4⟩:=a5 x;⟨b1,Yz _ b2,m',b3,λi d f=>by rw[b4 i d f];rfl⟩⟩
   |spawn=>exact trivial
   |ended=>exact trivial
   |_=>rw[p]at h;exact h.elim
theorem Nq{id}:∀{k c:aB Item},exitTo id k=some c->∀x∈c,x∈k:=by
 intro k
 induction k with
 |nil=>intro c h;simp[exitTo]at h
 |cons a k e=>
  intro c h x d;unfold exitTo at h;split at h
  .rename_i b;cases b;split at h
   .cases h;exact sM _ d
   .exact sM _ (e h x d)
  .rename_i b;cases b;exact sM _ (e h x d)
  .cases h
theorem NA{id}:∀{k d:aB Item},gotoIn id k=some d->∀x∈d,x∈k\/cY x:=by
 intro k
 induction k with
 |nil=>intro d h;simp[gotoIn]at h
 |cons a k e=>
  intro d h x c;unfold gotoIn at h;split at h
  .rename_i b;cases b;split at h
   .cases h;obtain rfl|c:=gA.1 c
    .exact .inr trivial
    .exact .inl c
   .exact(e h x c).imp (sM _) λh=>h
  .rename_i b;cases b;exact(e h x c).imp (sM _) λh=>h
  .cases h
theorem zx{T:bQ}(h:T:=by intro w;simp only[stepG.exec,ht]):T:=h
theorem zy{T:bQ} (h:T:=by
 intro w;unfold stepG;cases hdd:dying with
 |none=>simp only[hm]
 |some d=>have:=hc d hdd;obtain⟨a,b,c,e,f,g,h⟩:=d;simp only at this;subst this;simp only[hm]):T:=h
theorem NY(R:Plain P){fr callers dying}(q:oT ⟨fr,callers,.running,dying,none⟩)(U:∀d,dying=some d->d.calling=true)(w):Local dying.isSome (λw=>stepG.exec P true true fr callers dying w) w:=by
 have D:∀(todo:aB Item),(∀M∈todo,M∈fr.todo\/cY M)->(∀w,stepG.exec P true true fr callers dying w=.go {frame:={fr with todo},callers,status:=.running,dying} w)->Local dying.isSome (λw=>stepG.exec P true true fr callers dying w) w:=by
  intro todo J I;exact se _ (q.here (fr':={fr with todo}) (m_ (fr:=fr) q.frame J) rfl .running) (vK _ rfl) aF aF rfl λQ d=>I _
 have leave:∀(g:aR Code),(fr.roundOf=none->(∀w,stepG.exec P true true fr callers dying w=.go {frame:={fr with mode:=.returning},callers,status:=.running,dying} w)\/∃o,stepG.exec P true true fr callers dying w=.ended o w)->
   (∀l,fr.roundOf=some l->∃K:Result aE->GStep,(∀w,stepG.exec P true true fr callers dying w=GStep.after (seen P fr.fn ((Instr.endRound l g).runT P w #[]).2) (K ((Instr.endRound l g).runT P w #[]).1))/\(∀v w,K (.ok v w)=doReturn P true fr callers dying v w)/\∀x w,∃o,K (.halt x w)=.ended o w)->
   Local dying.isSome (λw=>stepG.exec P true true fr callers dying w) w:=by
  intro g h V;cases p:fr.roundOf with
  |none=>
   obtain h|⟨o,h⟩:=h p
   .exact se _ (q.here (fr':={fr with mode:=.returning}) (ib (fr:=fr) q.frame rfl) rfl .running) (vK _ rfl) aF aF rfl λQ d=>h _
   .exact gT h
  |some l=>
   have⟨K,J,I,h3⟩:=V l p;refine tV (P:=P) (xV P l g) (fn:=fr.fn) ⟨K,J,λr=>?_⟩;cases r with
   |ok v w=>rw[I];exact vh q U v rfl λ_ _=>I _ _
   |halt x w=>obtain⟨o,h⟩:=h3 x w;rw[h];exact trivial
 have u:∀(g:aR Code)(l:Nat),fr.roundOf=some l->(∀w,stepG.exec P true true fr callers dying w=match(Instr.endRound l g).runT P w #[]with|(r,es)=>GStep.after (seen P fr.fn es) (match r with|.ok v w=>doReturn P true fr callers dying v w|.halt _ w=>.ended (.stuck "range over a function: no such loop" (fr.pos P)) w))->
   ∃K:Result aE->GStep,(∀w,stepG.exec P true true fr callers dying w=GStep.after (seen P fr.fn ((Instr.endRound l g).runT P w #[]).2) (K ((Instr.endRound l g).runT P w #[]).1))/\(∀v w,K (.ok v w)=doReturn P true fr callers dying v w)/\∀x w,∃o,K (.halt x w)=.ended o w:=by
  intro g l p h;exact⟨λr=>match r with|.ok v w=>doReturn P true fr callers dying v w|.halt _ w=>.ended (.stuck "range over a function: no such loop" (fr.pos P)) w,h,λ_ _=>rfl,λ_ _=>⟨_,rfl⟩⟩
 cases ht:fr.todo with
 |nil=>exact leave none (λp=>.inl λw=>by simp only[stepG.exec,ht,p,fB]) (λl p=>u none l p λw=>by simp only[stepG.exec,ht,p];rfl)
 |cons M k=>
  have sub:∀x∈k,x∈fr.todo:=λx m=>by rw[ht];exact sM _ m
  have C:∀x∈k,x∈fr.todo\/cY x:=λx m=>.inl (sub x m);have z:∀{a:Item},cY a->∀x∈a::k,x∈fr.todo\/cY x:=λ{a} N x m=>by
   obtain rfl|m:=gA.1 m
   .exact .inr N
   .exact .inl (sub x m)
  have B:∀{a b:Item},cY a->cY b->∀x∈a::b::k,x∈fr.todo\/cY x:=λ{a b} N W x m=>by
   obtain rfl|m:=gA.1 m
   .exact .inr N
   .exact z W x m
  cases M with
  |code c=>
   cases c with
   |skip=>exact D k C zx
   |label l=>exact D k C zx
   |seq a b=>exact D (.code a::.code b::k) (B trivial trivial) zx
   |block id b=>exact D (.code b::.inBlock id::k) (B trivial trivial) zx
   |loop b=>exact D (.code b::.inLoop b::k) (B trivial trivial) zx
   |scope b=>exact D (.code b::.inScope b::k) (B trivial trivial) zx
   |cond c a b=>
    cases F:fr.eval c with
    |bool t=>exact D (.code (if t then a else b)::k) (z trivial) (λw=>by simp only[stepG.exec,ht,F])
    |_=>exact gT (o:=.stuck "cond: bool expected" (fr.pos P)) (w':=w) (es:=#[]) (by simp only[stepG.exec,ht,F])
   |ret=>exact leave (some .ret) (λp=>.inl λw=>by simp only[stepG.exec,ht,p,fB]) (λl p=>u (some .ret) l p λw=>by simp only[stepG.exec,ht,p];rfl)
   |exit id=>
    cases F:exitTo id k with
    |some O=>exact D O (λx m=>.inl (sub x (Nq F x m))) (λw=>by simp only[stepG.exec,ht,F,Option.elim])
    |none=>exact leave (some (.exit id)) (λp=>.inr ⟨.stuck "exit, goto: no such block or label" (fr.pos P),by simp only[stepG.exec,ht,p,F,Option.elim,gI,fA]⟩) (λl p=>u (some (.exit id)) l p λw=>by simp only[stepG.exec,ht,p,F,Option.elim];rfl)
   |goto l=>
    cases F:gotoIn l k with
    |some O=>exact D O (λx m=>(NA F x m).imp (sub x) id) (λw=>by simp only[stepG.exec,ht,F,Option.elim])
    |none=>exact leave (some (.goto l)) (λp=>.inr ⟨.stuck "exit, goto: no such block or label" (fr.pos P),by simp only[stepG.exec,ht,p,F,Option.elim,gI,fA]⟩) (λT p=>u (some (.goto l)) T p λw=>by simp only[stepG.exec,ht,p,F,Option.elim];rfl)
   |refuse X=>exact gT (w':=w) (es:=#[]) (by simp only[stepG.exec,ht];rfl)
   |region id A draw=>
    cases draw with
    |false=>exact D (.inRegion A (List.range A.size)::k) (z trivial) (λw=>by simp only[stepG.exec,ht,Bool.not_false,fB])
    |true=>
     refine sf (L:=λ_=>True) (s:=choose (.order fr.fn id)) (dU P _) _ fr.fn (λr=>match r with|.ok t w=>.go {frame:={fr with todo:=.inRegion A (Region.schedule (P.follows .mixedOrders) A t)::k},callers,status:=.running,dying} w|.halt _ w=>.ended (.stuck "order" (fr.pos P)) w) w (λw=>⟨#[],?_,λ_=>.inr rfl,λw' _ _ _=>?_⟩) (jd (q.here (fr':={fr with todo:=.inRegion A _::k}) (m_ (fr:=fr) q.frame (z trivial)) rfl .running) (vK _ rfl) aF aF rfl rfl λ_ _=>rfl)
     .simp only[stepG.exec,ht,xv,gI,fA,eU];rfl
     .simp only[stepG.exec,ht,xv,gI,fA,eU];rfl
   |rangeFunc f ps a b=>
    refine NZ (P:=P) (s:=Instr.enterLoop fr.fn fr.tmps ps a b fr.roundOf) (xm P _ _ _ _ _ _) (fn:=fr.fn) (E:=λx w=>stepG.apply P true {fr with todo:=.inRangeFunc x.1::k,defers:=x.2++fr.defers} callers dying (do let d<-resolve ({fr with todo:=.inRangeFunc x.1::k,defers:=x.2++fr.defers}:Frame).eval {callee:=.value f,args:=#[.const (.func (.yield x.1) #[] #[])],argTypes:=#[]} 0;invoke d.target d.args) w) (H:=λ_ w=>.ended (.stuck "range over a function: no such loop" (fr.pos P)) w) (λw=>?_) (λx w=>?_) λ_ _=>⟨_,rfl⟩
    .simp only[stepG.exec,ht];generalize(Instr.enterLoop fr.fn fr.tmps ps a b fr.roundOf).runT P w #[]=x;have⟨r,es⟩:=x;cases r with
     |ok y w=>obtain⟨l,mk⟩:=y;rfl
     |halt y w=>rfl
    .refine qP (q.here (fr':={fr with todo:=.inRangeFunc x.1::k,defers:=x.2++fr.defers}) (m_ (fr:=fr) q.frame (z trivial)) rfl .running) (bV (qN P _ _ _) λ_=>tN R _ _) w
  |inBlock id=>exact D k C zx
  |inScope b=>exact D k C zx
  |inLoop b=>exact D (.code b::.inLoop b::k) (B trivial trivial) zx
  |inRangeFunc l=>exact gT (w':=w) (es:=#[]) (by simp only[stepG.exec,ht];rfl)
  |call a b c d=>exact(q.frame (.call a b c d) (by show _∈fr.todo;rw[ht];exact Di):False).elim
  |extern row G=>
   obtain rfl:row= "runtime.print$piece":=q.frame (.extern row G) (by show _∈fr.todo;rw[ht];exact Di);have e:∀w,stepG.exec P true true fr callers dying w=stepG.apply P true fr callers dying (Extern.PrintPieces.piece #[] #[] G) w:=λw=>by simp only[stepG.exec,ht,Od,Option.elim]
   simp only[e];exact qP q (GU _ _ _) w
  |beginRound=>
   have e:∃s,Fit P gm 0 s/\∀w,stepG.exec P true true fr callers dying w=stepG.apply P true fr callers dying s w:=by
    refine⟨_,?_,λw=>by simp only[stepG.exec,ht];rfl⟩;refine bV ?_ λ_=>⟨rfl,trivial⟩;cases fr.roundOf with
    |none=>exact aI P _
    |some l=>exact vw P l
   have⟨s,J,I⟩:=e;simp only[I];exact qP q J w
  |endRangeFunc l=>
   refine tV (P:=P) (s:=Instr.endLoop l) (zh P l) (fn:=fr.fn) ⟨?K,?main,?rest⟩
   case main=>
    intro w;simp only[stepG.exec,ht];generalize(Instr.endLoop l).runT P w #[]=x;have⟨r,es⟩:=x;dsimp only;exact rfl
   case rest=>
    intro r;cases r with
    |ok j w=>
     refine jd (q.here (fr':={fr with todo:=(j.map Item.code).toList++k}) (m_ (fr:=fr) q.frame λx m=>?_) rfl .running) (vK _ rfl) aF aF rfl rfl λ_ _=>rfl;obtain m|m:=jc.1 m
     .cases j with
      |none=>cases m
      |some c=>simp at m;subst m;exact .inr trivial
     .exact .inl (sub x m)
    |halt x w=>
     cases x with
     |panic v=>exact jd (q.here (iT q.frame _) (ma _ _) _) (vK _ rfl) aF aF rfl rfl λ_ _=>rfl
     |_=>exact trivial
  |inRegion A l=>
   cases l with
   |nil=>exact D k C zx
   |cons i l=>
    by_cases hw:(((A[i]?).map (Region.wanted · (yielded A fr.tmps))).getD false)=true
    .have e:∀w,stepG.exec P true true fr callers dying w=stepG.oper P true fr callers dying w:=λw=>by simp only[stepG.exec,ht,hw,fB]
     simp only[e];cases S:fr.oper? with
     |none=>exact gT (o:=.stuck "no operation here" (fr.pos P)) (w':=w) (es:=#[]) (by simp only[stepG.oper,S])
     |some o=>
      have e:∃s,Fit P gm 0 s/\∀w,stepG.oper P true fr callers dying w=stepG.apply P true fr callers dying s w:=by
       simp only[stepG.oper,S];split
       .exact⟨_,bV (qN P _ _ _) λ_=>bV (tG P _ _) λ_=>Tm (n:=.skip) trivial,λ_=>rfl⟩
       .exact⟨_,Ns R _ _,λ_=>rfl⟩
      have⟨s,J,I⟩:=e;simp only[I];exact qP q J w
    .exact se _ (q.here (fN q.frame undef) (iO _ _) .running) (vK _ rfl) aF aF rfl (λQ d=>by simp only[stepG.exec,ht,hw,fA,gI])
theorem Yh{fr}(q:bK fr){d}(b:d.calling=false)(w):(∃o j e,die P fr d w=.ended o j e)\/∃c st i j e,die P fr d w=.go {frame:=c,callers:=[],status:=st,dying:=some i} j e/\bK c/\(i.calling=true->c.kind=.report)/\(st=.running\/st=.blocked):=by
 have a:∀(i:Dying)(st:GoStatus)(j:aC)(e:aU Event),i.calling=false->(st=.running\/st=.blocked)->∃c g k m l,GStep.go {frame:=fr,callers:=[],status:=st,dying:=some i} j e=.go {frame:=c,callers:=[],status:=g,dying:=some k} m l/\bK c/\(k.calling=true->c.kind=.report)/\(g=.running\/g=.blocked):=
  λi st j e p n=>⟨_,_,_,_,_,rfl,q,λh=>(by rw[p]at h;cases h),n⟩
 unfold die;split
 .rename_i f _;unfold writeOn;split
  .exact .inl ⟨_,_,_,rfl⟩
  .dsimp only;split
   .exact .inr (a _ _ _ _ b (.inl rfl))
   .exact .inr (a _ _ _ _ b (.inr rfl))
   .exact .inl ⟨_,_,_,rfl⟩
   .exact .inl ⟨_,_,_,rfl⟩
 .split
  .split
   .exact .inr (a _ _ _ _ b (.inr rfl))
   .refine .inl ?_;unfold endWith;dsimp only;split
    .split<;>exact⟨_,_,_,rfl⟩
    .exact⟨_,_,_,rfl⟩
    .exact⟨_,_,_,rfl⟩
  .rename_i v mark rest _;dsimp only;split
   .exact .inr (a _ _ _ _ b (.inl rfl))
   .split
    .exact .inr (a _ _ _ _ b (.inl rfl))
    .exact .inl ⟨_,_,_,rfl⟩
   .rename_i t recv name _;generalize(invoke (.fn (.method name) #[]) #[.iface t recv]).runT P w #[]=x;have⟨r,e⟩:=x;dsimp only;split
    .exact .inr ⟨_,_,_,_,_,rfl,iQ _ _ _,λ_=>rfl,.inl rfl⟩
    .exact .inr (a _ _ _ _ b (.inl rfl))
    .exact .inl ⟨_,_,_,rfl⟩
    .unfold endPrinting;dsimp only;split
     .exact .inr (a _ _ _ _ rfl (.inl rfl))
     .exact .inl ⟨_,_,_,rfl⟩
    .exact .inl ⟨_,_,_,rfl⟩
   .exact .inl ⟨_,_,_,rfl⟩
theorem Lp(l:Plain P){g}(k:oT g)(w):Local g.dying.isSome (λw=>stepG P true g w) w:=by
 obtain⟨fr,callers,st,dying,off⟩:=g;let Wb:oT ⟨fr,callers,.running,dying,none⟩:=k.top k.frame rfl _ _;by_cases j:∃d,dying=some d/\d.calling=false
 .obtain⟨d,rfl,i⟩:=j;let e:∀w,stepG P true ⟨fr,callers,st,some d,off⟩ w=die P fr d w:=λw=>by
   unfold stepG;let⟨a,b,c,e,f,g,h⟩:=d;simp only at i;subst i;rfl
  simp only[e];obtain⟨o,u,q,h⟩|⟨s,r,v,u,q,h,t,n,m⟩:=Yh (P:=P) (fr:=fr) k.frame i w
  .exact gT h
  .unfold Local;dsimp only;rw[h];refine⟨⟨t,(λ_ h=>by cases h),λp j hc=>?_⟩,(λ_ h=>by cases h),?_,?_,(λh=>by cases h)⟩
   .cases j;exact n hc
   .obtain rfl|rfl:=m<;>simp
   .obtain rfl|rfl:=m<;>simp
 .let hc:∀d,dying=some d->d.calling=true:=λd h=>by
   cases i:d.calling with
   |true=>rfl
   |false=>exact absurd ⟨d,h,i⟩ j
  cases hm:fr.mode with
  |run=>
   let e:∀w,stepG P true ⟨fr,callers,st,dying,off⟩ w=stepG.exec P true true fr callers dying w:=zy;simp only[e];exact NY l Wb hc w
  |_=>
   let e:∀w,stepG P true ⟨fr,callers,st,dying,off⟩ w=unwind P true fr callers dying w:=zy;simp only[e];exact Jn l Wb hc w
end Lf
namespace Lf
open Go Go.Conc
variable{P:Program}
def NoP(a:aU bU):Prop:=∀r s,partners a r s=[]
theorem Fp{a}(h:NoP a)(w c):ways w a c=ways w #[] c:=by
 let b:∀r s,partners #[] r s=[]:=λr s=>by simp[partners]
 unfold ways;split
 .split<;>simp only[h _ _,b _ _]
 .rfl
def vR(a:aU bU)(rest:Rest):Stepped->Stepped
 |.next m=>.next {world:=m.world,gs:=a.setIfInBounds 0 (m.gs.getD 0 default),rest}
 |.ended o w=>.ended o w
theorem Jp:NoP #[ph]:=λr s=>by simp[partners,ph]
theorem qy{rest}(h:rest.timers=#[])(cases w):waitingAt rest cases w=some w:=by
 let a:timerAhead rest w.os.mono cases=false:=by
  have:=timerAhead_crowd #[] w none w.os.mono cases;unfold timerAhead at this⊢;rw[h];exact this
 unfold waitingAt;rw[a];rfl
def qt:Rest:={timers:=#[],alone:=none,slice:=none}
theorem Fq{w c x}(h:x∈ways w #[] c):∀a b,x≠.partner a b:=by
 let d:∀r s,partners #[] r s=[]:=λr s=>by simp[partners]
 intro a b e;subst e;unfold ways at h;split at h
 .split at h
  .simp only[d]at h;split at h<;>first|(simp at h;done)|(split at h<;>simp at h)
  .simp only[d]at h;split at h<;>first|(simp at h;done)|(split at h<;>simp at h)
  .cases h
 .cases h
theorem ET{w}{l:aB (Nat×CommCase×aB Way)}(f:∀x∈l,∀y∈x.2.2,∀a b,y≠.partner a b){k c y w'}
  (h:(do
   let a<-choose (.select l.length)
   let b<-choose (.extern "which waiting goroutine is the partner" (l.getD a (0,default,[])).2.2.length)
   pure ((l.getD a (0,default,[])).1,(l.getD a (0,default,[])).2.1,(l.getD a (0,default,[])).2.2.getD b .closed):Sem (Nat×CommCase×Way)).run P w=.ok (k,c,y) w'):∀a b,y≠.partner a b:=by
 refine Bq (P:=P) (L:=λx=>∀a b,x.2.2≠.partner a b) _ 0 w #[] ?_ ((Sem.runT_fst P _ w #[]).trans h);refine bV (dU P _) λa=>bV (dU P _) λb=>⟨rfl,?_⟩;intro x z;simp only[qB];cases g:l[a]? with
 |none=>simp
 |some e=>
  cases d:e.2.2[b]? with
  |none=>simp[d]
  |some u=>simp only[fD,d];exact f e (iF g) u (iF d) x z
theorem QE{e rest}(f:NoP e)(h:rest.timers=#[])(g cases a shape w):
  communicate P rest e 0 g cases a shape w=(vR e rest (communicate P qt #[ph] 0 g cases a shape w).1,(communicate P qt #[ph] 0 g cases a shape w).2):=by
 unfold communicate;simp only[Fp f,Fp Jp,f _ _,Jp _ _,qy h,qy (rest:=qt) rfl];split
 .rfl
 split
 .split
  .simp[vR]
  .simp[vR]
 .split
  .rfl
  .split
   .split
    .simp[vR]
    .rfl
   .simp[vR]
   .simp[vR]
   .simp[vR]
   .refine absurd rfl (ET ?_ ‹Sem.run P _ w=Result.ok _ _› _ _);intro x b y d;obtain⟨⟨c,k⟩,_,rfl⟩:=iZ.1 (Ix.1 b).1;exact Fq d
   .refine absurd rfl (ET ?_ ‹Sem.run P _ w=Result.ok _ _› _ _);intro x b y d;obtain⟨⟨c,k⟩,_,rfl⟩:=iZ.1 (Ix.1 b).1;exact Fq d
   .rfl
theorem Tn(l:aB (Nat×CommCase×aB Way)):Fit P (λ_=>True) 0 (do
   let a<-choose (.select l.length)
   let b<-choose (.extern "which waiting goroutine is the partner" (l.getD a (0,default,[])).2.2.length)
   pure ((l.getD a (0,default,[])).1,(l.getD a (0,default,[])).2.1,(l.getD a (0,default,[])).2.2.getD b .closed):Sem (Nat×CommCase×Way)):=
 bV (dU P _) λ_=>bV (dU P _) λ_=>aP P _
theorem Nf(g cases e shape w):
  (∃o w',(communicate P qt #[ph] 0 g cases e shape w).1=.ended o w')\/
  (communicate P qt #[ph] 0 g cases e shape w=(.next {world:=w,gs:=#[{g with status:=.blocked,offers:=some (cases,shape)}],rest:=qt},#[]))\/
  (∃(p:bU)(w':aC)(n:aU MemAct)(m:Nat),
   p.callers=g.callers/\p.dying=g.dying/\(p.status=.running\/p.status=g.status)/\(p.offers=none\/p.offers=g.offers)/\(∀a∈n,∀m,a≠.mark m)/\((∃v,p.frame=g.frame.finish v)\/∃v,p.frame=g.frame.raise v)/\
   w'=re w' w.tape (w.drawn+m)/\communicate P qt #[ph] 0 g cases e shape w=(.next {world:=w',gs:=#[p],rest:=qt},n.map λa=>{g:=0,fn:=g.frame.fn,pos:=g.frame.place,act:=a})/\
   ∀f d,Alike w m f d->communicate P qt #[ph] 0 g cases e shape (re w f d)=(.next {world:=re w' f (d+m),gs:=#[p],rest:=qt},n.map λa=>{g:=0,fn:=g.frame.fn,pos:=g.frame.place,act:=a})):=by
 have S:∀f d,(re w f d).heap=w.heap:=λ_ _=>rfl;have I:∀f d c,ways (re w f d) #[] c=ways w #[] c:=λ_ _ _=>rfl;unfold communicate;simp only[Fp Jp,Jp _ _,qy (rest:=qt) rfl,S,I];split
 .exact .inl ⟨_,_,rfl⟩
 rename_i K;split
 .split
  .exact .inr (.inl (by simp))
  .refine .inr (.inr ⟨g.finishComm P cases shape (-1) undef false,w,#[],0,rfl,rfl,.inl rfl,.inl rfl,(by simp),.inl ⟨_,rfl⟩,rfl,by simp,λf d _=>by simp⟩)
 .rename_i R;generalize Q:(List.filter (λx=> !x.2.snd.isEmpty) (List.map (λx=>(x.snd,x.fst,ways w #[] x.fst)) cases.zipIdx.toList))=l;have G:∀x∈l,∀y∈x.2.2,∀a b,y≠.partner a b:=by
   intro x L y T;rw[<-Q]at L;obtain⟨⟨c,k⟩,_,rfl⟩:=iZ.1 (Ix.1 L).1;exact Fq T
  have u:=λk c y w' h=>ET (P:=P) (w:=w) G (k:=k) (c:=c) (y:=y) (w':=w') h;have C:=qu P _ 0 w #[] (Tn (P:=P) l);simp only[Sem.runT_fst]at C;generalize U:(do
   let a<-choose (.select l.length);let b<-choose (.extern "which waiting goroutine is the partner" (l.getD a (0,default,[])).2.2.length)
   pure ((l.getD a (0,default,[])).1,(l.getD a (0,default,[])).2.1,(l.getD a (0,default,[])).2.2.getD b .closed):Sem (Nat×CommCase×Way))=pk at C u⊢
  cases H:pk.run P w with
  |halt x j=>exact .inl ⟨_,_,rfl⟩
  |ok x j=>
   obtain⟨k,c,B⟩:=x;have J:=u k c B j H;obtain⟨m,D,M⟩:=C (by rw[H];rfl);rw[H]at D M;simp only[PX,Result.ok.injEq,wH]at D;have F:∀f d,Alike w m f d->pk.run P (re w f d)=.ok (k,c,B) (re j f (d+m)):=λf d q=>by
    have:=oB Prod.fst (M f d q);rw[Sem.runT_fst]at this;exact this
   have z:∀w,(runtimePanic (.plain "send on closed channel"):Sem Unit).run P w=.halt (.panic (.iface P.rt.plainError (strVal "send on closed channel"))) w:=λw=>rfl;have E:∀f d,(re j f d).heap=j.heap:=λ_ _=>rfl;dsimp only;generalize A:Goroutine.again.match_3 (λ_=>Nat) c.chan (λr=>r) (λ_=>0)=t;cases B with
   |partner a b=>exact absurd rfl (J a b)
   |sendClosed=>
    refine .inr (.inr ⟨{g with frame:=g.frame.raise [{v:=.iface P.rt.plainError (strVal "send on closed channel"),recovered:=false}]},j,#[],m,rfl,rfl,.inr rfl,.inr rfl,by simp,.inr ⟨_,rfl⟩,D,by simp only[z];simp,λf d q=>by simp only[F f d q,z];simp⟩)
   |closed=>
    refine .inr (.inr ⟨g.finishComm P cases shape k c.zero false,j,#[.recvClosed t],m,rfl,rfl,.inl rfl,.inl rfl,by simp,.inl ⟨_,rfl⟩,D,by simp,λf d q=>by simp only[F f d q,A];simp⟩)
   |buffer=>
    cases O:j.heap[t]? with
    |none=>exact .inl ⟨_,_,rfl⟩
    |some o=>
     cases o with
     |chan cap s closed eE i tm=>
      cases N:c.send with
      |some v=>
       refine .inr (.inr ⟨g.finishComm P cases shape k undef false,{j with heap:=j.heap.setIfInBounds t (.chan cap (s.push v) closed (eE+1) i tm)},#[.send t eE,.sendDone t eE],m,rfl,rfl,.inl rfl,.inl rfl,by simp,.inl ⟨_,rfl⟩,by rw[D];rfl,by simp,λf d q=>by simp only[F f d q,E,A,O,N];simp[re]⟩)
      |none=>
       refine .inr (.inr ⟨g.finishComm P cases shape k (s.getD 0 undef) true,{j with heap:=j.heap.setIfInBounds t (.chan cap (s.extract 1 s.size) closed eE (i+1) tm)},#[.recv t i cap,.recvDone t i],m,rfl,rfl,.inl rfl,.inl rfl,by simp,.inl ⟨_,rfl⟩,by rw[D];rfl,by simp,λf d q=>by simp only[F f d q,E,A,O,N];simp[re]⟩)
     |_=>exact .inl ⟨_,_,rfl⟩
end Lf
namespace Lf
open Go Go.Conc
variable{P:Program}
structure gg(g:bU):Prop where
 ok:oT g
 status:g.status=.running
 dying:g.dying=none
 offers:g.offers=none
structure FU(g:bU):Prop where
 ok:oT g
 awake:∀t,g.status≠.sleeping t
 lost:g.dying≠none\/g.status≠.running
structure Alone(P:Program)(g:bU)(w:aC)(g':bU)(w':aC)(ops:aU MemOp):Prop where
 own:∀op∈ops,op.g=0
 hears:∀t,Deaf t 0=0->Deaf (t++ops) 0=0
 alike:∃m,w'=re w' w.tape (w.drawn+m)/\∀τ d,Alike w m τ d->stepT P (solo g (re w τ d))=(.next (solo g' (re w' τ (d+m))),ops)
 beside:∀(gs:aU bU)(sl:aR (Nat×Nat)),gs[0]?=some g->(∀i x,0<i->gs[i]?=some x->x.status=.running\/x.status=.finished)->
  ∃f:bU->bU,(∀x,(x.status=.running\/x.status=.finished)->f x=x)/\runT P (crowd gs w sl) 0=(.next (crowd ((gs.map f).setIfInBounds 0 g') w' sl),ops)
theorem Rb{b:aU bU}(h:∀i x,0<i->b[i]?=some x->x.status=.running\/x.status=.finished):NoP (b.setIfInBounds 0 ph):=by
 intro r s;refine partners_nil λj x a=>?_;obtain⟨_,rfl⟩|⟨c,a⟩:=getElem?_stand b 0 j x a
 .exact offersAt_ph r s
 .refine offersAt_of_not_blocked ?_ r s;obtain h|h:=h j x aA a<;>rw[h]<;>simp
theorem Qc(t fn pos)(b:aU MemAct)(h:∀a∈b,∀m,a≠.mark m):Deaf (t++b.map λa=>{g:=0,fn,pos,act:=a}) 0=Deaf t 0:=by
 let⟨l⟩:=b
 induction l generalizing t with
 |nil=>simp
 |cons a l o=>
  let d:=o (t++#[{g:=0,fn,pos,act:=a}]) λx k=>h x (by simp at k⊢;exact .inr k);let e:(t++(Array.map (λa=>({g:=0,fn,pos,act:=a}:MemOp)) ⟨a::l⟩))=t++#[{g:=0,fn,pos,act:=a}]++Array.map (λa=>({g:=0,fn,pos,act:=a}:MemOp)) ⟨l⟩:=by
   rw[Cx];simp
  rw[e,d];show Trace.deaf _ 0 _=Trace.deaf t 0 t.size;let f:=h a aF;rw[Array.size_append];let c:(t++#[({g:=0,fn,pos,act:=a}:MemOp)])[t.size]?=some {g:=0,fn,pos,act:=a}:=by rw[Array.getElem?_append_right aZ];simp
  let i:∀n,n<=t.size->Trace.deaf (t++#[({g:=0,fn,pos,act:=a}:MemOp)]) 0 n=Trace.deaf t 0 n:=by
   intro n
   induction n with
   |zero=>intro _;rfl
   |succ n j=>
    intro p;unfold Trace.deaf;rw[getElem?_append_old aA,j aA]
  rw[<-i t.size aZ];show Trace.deaf (t++#[_]) 0 (t.size+1)=_;rw[Trace.deaf];rw[c];split
  .rename_i d;simp only[GD,MemOp.mk.injEq]at d;exact absurd d.2.2.2 (f _)
  .rename_i d;simp only[GD,MemOp.mk.injEq]at d;exact absurd d.2.2.2 (f _)
  .rfl
theorem Bu(hP:Plain P){g}(hg:oT g)(Z:g.status=.running){w m' T}(h:stepT P (solo g w)=(.next m',T)):
  2<=m'.gs.size\/∃p D,m'=solo p D/\(FU p\/(g.dying=none/\(g.offers=none->gg p/\Alone P g w p D T))):=by
 rw[stepT_solo Z]at h;have B:=Lp hP hg w;unfold Local at B;dsimp only at B;cases r:stepG P true g w with
 |go p D I=>
  rw[r]at B;have⟨h1,h2,h3,h4,h5⟩:=B;rw[runT_solo_go r]at h;simp only[oO,Stepped.next.injEq]at h;obtain⟨rfl,rfl⟩:=h;refine .inr ⟨p,D,rfl,?_⟩;by_cases N:p.dying=none/\p.status=.running
  .have⟨h6,h7,m,h8,h9⟩:=h5 N.1 N.2;refine .inr ⟨?_,λF=>⟨⟨h1,N.2,N.1,h6⟩,⟨?_,?_,⟨m,h8,λC d M=>?_⟩,?_⟩⟩⟩
   .cases u:g.dying with
    |none=>rfl
    |some d=>exact absurd N.1 (h2 (by rw[u];rfl))
   .intro op l;obtain⟨e,_,rfl⟩:=Go.Conc.mem_ofEvents l;rfl
   .intro t S;rw[Deaf_own,S];exact h7
   .rw[stepT_solo Z,runT_solo_go (h9 C d M)]
   .intro n sl K V;refine⟨woken P g p D,λx r=>?_,runT_crowd_go K r⟩;unfold woken;split
    .exact again_running _ r
    .rfl
  .exact .inl ⟨h1,h3,by
    by_cases u:p.dying=none
    .exact .inr λe=>N ⟨u,e⟩
    .exact .inl u⟩
 |comm k X b O f I=>
  rw[r]at B;have⟨h1,h6',h2,h5⟩:=B;have U:(#[g]:aU bU).setIfInBounds 0 ph=#[ph]:=aF;have a7:runT P (solo g w) 0=((communicate P qt #[ph] 0 k X b O f).1,MemOp.ofEvents 0 g.frame.fn g.frame.place I++(communicate P qt #[ph] 0 k X b O f).2):=by
   rw[solo_eq_crowd,runT_crowd_comm (i:=0) (g:=g) rfl r,U];rfl
  rw[a7]at h;obtain⟨o,D,e⟩|e|⟨p,D,aa,m2,G,Y,e3,e4,e5,e6,e7,e8,e9⟩:=Nf (P:=P) k X b O f
  .rw[e]at h;cases h
  .rw[e]at h;cases h;exact .inr ⟨_,f,rfl,.inl ⟨h1.top h1.frame rfl _ _,aF,.inr aF⟩⟩
  .rw[e8]at h;cases h;have Z9:oT p:=by
    have H:bK p.frame/\p.frame.kind=k.frame.kind:=by
     obtain⟨v,e⟩|⟨v,e⟩:=e6
     .rw[e];exact⟨fN h1.frame v,iO _ _⟩
     .rw[e];exact⟨iT h1.frame v,ma _ _⟩
    have⟨f',c',s',d',o'⟩:=p;simp only at G Y H;subst G Y;exact h1.top H.1 H.2 _ _
   have R:=e3.elim id λx=>x.trans h6';refine .inr ⟨p,D,rfl,?_⟩;by_cases u:k.dying=none
   .have⟨h6,h7,m,h8,h9⟩:=h5 u;refine .inr ⟨?_,λF=>⟨⟨Z9,R,Y.trans u,e4.elim id λx=>x.trans h6⟩,⟨?_,?_,⟨m+m2,?_,λC d M=>?_⟩,?_⟩⟩⟩
    .cases J:g.dying with
     |none=>rfl
     |some d=>exact absurd u (h2 (by rw[J];rfl))
    .intro op l;obtain l|l:=CH.1 l
     .obtain⟨e,_,rfl⟩:=Go.Conc.mem_ofEvents l;rfl
     .obtain⟨a,_,rfl⟩:=Array.mem_map.1 l;rfl
    .intro t S;rw[<-Cx,Qc _ _ _ _ e5,Deaf_own,S];exact h7
    .have a1:f.tape=w.tape:=by rw[h8];rfl
     have a2:f.drawn=w.drawn+m:=by rw[h8];rfl
     rw[a1,a2]at e7;rw[<-qG];exact e7
    .have a1:f.tape=w.tape:=by rw[h8];rfl
     have a2:f.drawn=w.drawn+m:=by rw[h8];rfl
     have a6:runT P (solo g (re w C d)) 0=((communicate P qt #[ph] 0 k X b O (re f C (d+m))).1,MemOp.ofEvents 0 g.frame.fn g.frame.place I++(communicate P qt #[ph] 0 k X b O (re f C (d+m))).2):=by
      rw[solo_eq_crowd,runT_crowd_comm (i:=0) (g:=g) rfl (h9 C d λj E=>M j aA),U];rfl
     rw[stepT_solo Z,a6,e9 C (d+m) λj E=>by rw[a1,a2];have:=M (m+j) aA;rw[<-qG]at this;rw[this,<-qG],<-qG];rfl
    .intro n sl K V;refine⟨id,λ_ _=>rfl,?_⟩;rw[runT_crowd_comm (i:=0) K r,QE (Rb V) (rest:=(crowd n w sl).rest) rfl,e8];simp[vR,crowd]
   .exact .inl ⟨Z9,(by rw[R];simp),.inl (Y▸u)⟩
 |coroswitch k c x f I=>
  rw[r]at B;have⟨h1,h6',h2,h5⟩:=B;have A:∀(n:aU bU)(w f:aC)(sl:aR (Nat×Nat)),n[0]?=some g->stepG P true g w=.coroswitch k c x f I->runT P (crowd n w sl) 0=(match f.heap[c]? with
    |some (.coro (some h))=>.next (crowd ((n.setIfInBounds 0 (if x then{k with status:=.finished}else{k with frame:=k.frame.finish undef,status:=.parked})).modify h λo=>{o with status:=.running}) {f with heap:=f.heap.setIfInBounds c (.coro (if x then none else some 0))} sl)
    |some (.coro none)=>(match endThrow k.frame "coroswitch on exited coro" f with|.go g w _=>.next (crowd (n.setIfInBounds 0 g) w sl)|_=>.ended (.stuck "" "") f)
    |_=>.ended (.stuck "coroswitch: no coroutine" "") f,MemOp.ofEvents 0 g.frame.fn g.frame.place I):=by
   intro n w f sl K r;obtain⟨s,rfl⟩:=jR.1 K;show runT P {world:=w,gs:=n,rest:={timers:=#[],alone:=none,slice:=sl}} 0=_;unfold runT;simp only[(swapAt_of_lt s {(default:bU)with status:=.finished}),CI,r,GStep.es,set_setIfInBounds s,crowd];rfl
  rw[solo_eq_crowd,A #[g] w f none rfl r]at h;cases F:f.heap[c]? with
  |none=>rw[F]at h;cases h
  |some o=>
   cases o with
   |coro q=>
    cases q with
    |none=>
     rw[F]at h;simp only[endThrow,dieOf,oO,Stepped.next.injEq]at h;obtain⟨rfl,rfl⟩:=h;exact .inr ⟨_,f,rfl,.inl ⟨oT.dead rfl rfl h1.frame (λ_ h=>by cases h),aF,.inl aF⟩⟩
    |some q=>
     rw[F]at h;simp only[oO,Stepped.next.injEq]at h;obtain⟨rfl,rfl⟩:=h;generalize y:(if x then{k with status:=.finished}else{k with frame:=k.frame.finish undef,status:=.parked}:bU)=z;have L:∀st,oT {z with status:=st}:=λst=>by
      rw[<-y];cases x
      .exact h1.top (fN h1.frame undef) (iO _ _) st _
      .exact h1.top h1.frame rfl st _
     have W:z.dying=k.dying:=by rw[<-y];cases x<;>rfl
     have a8:z.offers=k.offers:=by rw[<-y];cases x<;>rfl
     have Q:z.status≠.running/\∀t,z.status≠.sleeping t:=by rw[<-y];cases x<;>simp
     by_cases V:q=0
     .subst V;have G:∀n:aU bU,(n.setIfInBounds 0 z).modify 0 (λo=>{o with status:=.running})=n.setIfInBounds 0 {z with status:=.running}:=λn=>by
       apply Array.ext_getElem?;intro j;rw[uy];by_cases E:0=j
       .subst E;by_cases s:0<n.size
        .rw[FI s,FI s];rfl
        .rw[ML (by simpa using Nat.le_of_not_lt s),ML (by simpa using Nat.le_of_not_lt s)];rfl
       .simp[qF E,E]
      rw[G];refine .inr ⟨{z with status:=.running},{f with heap:=f.heap.setIfInBounds c (.coro (if x then none else some 0))},by simp[solo,crowd],?_⟩;by_cases u:k.dying=none
      .have⟨h6,h7,m,h8,h9⟩:=h5 u;refine .inr ⟨?_,λ_=>⟨⟨L _,rfl,W.trans u,a8.trans h6⟩,⟨?_,?_,⟨m,by rw[h8];rfl,λC d M=>?_⟩,?_⟩⟩⟩
       .cases J:g.dying with
        |none=>rfl
        |some d=>exact absurd u (h2 (by rw[J];rfl))
       .intro op l;obtain⟨e,_,rfl⟩:=Go.Conc.mem_ofEvents l;rfl
       .intro t S;rw[Deaf_own,S];exact h7
       .rw[stepT_solo Z,solo_eq_crowd,A #[g] _ _ none rfl (h9 C d M)];have ho':(re f C (d+m)).heap[c]?=some (.coro (some 0)):=F;rw[ho'];simp only[y,G];simp[solo,crowd,re]
       .intro n sl K _;refine⟨id,λ_ _=>rfl,?_⟩;rw[A n w f sl K r,F];simp only[y,G,Array.map_id]
      .exact .inl ⟨L _,aF,.inl (by show z.dying≠none;rw[W];exact u)⟩
     .have G:((#[g]:aU bU).setIfInBounds 0 z).modify q (λo=>{o with status:=.running})=#[z]:=by
       apply Array.ext_getElem?;intro j;rw[uy];by_cases E:q=j
       .subst E;simp[V]
       .simp[E]
      rw[G];exact .inr ⟨z,_,rfl,.inl ⟨L z.status,Q.2,.inr Q.1⟩⟩
   |_=>rw[F]at h;cases h
 |spawn a b c d=>
  rw[runT_solo_spawn r]at h;cases h;exact .inl (by simp[duo])
 |ended o D I=>
  have:(runT P (solo g w) 0).1=.ended o D:=by rw[solo_eq_crowd,runT_many_ended (i:=0) (g:=g) rfl r]
  rw[h]at this;cases this
 |_=>rw[r]at B;exact B.elim
end Lf
namespace Lf
open Go Go.Conc
variable{P:Program}
theorem QW{g}(m:g.status≠.running)(e:∀t,g.status≠.sleeping t)(w):(∃a,stepT P (solo g w)=(.next (solo g w),a))\/∃o p a,stepT P (solo g w)=(.ended o p,a):=by
 let n:g.canRun w.os.mono=false:=by
  unfold Goroutine.canRun;split
  .rename_i h;exact absurd h m
  .rename_i h;exact absurd h (e _)
  .rfl
 let k:runnable #[g] w.os.mono=[]:=by simp[runnable_eq,Iy,n]
 let i:ahead (solo g w) false=none:=by
  unfold ahead solo;simp only[ju,jr];cases f:g.status with
  |sleeping t=>exact absurd f (e t)
  |_=>simp[f]
 let j:due (solo g w).rest.timers w.os.mono=[]:=by simp[due,solo]
 let d:runnable (solo g w).gs (solo g w).world.os.mono=[]:=k;let l:move P (solo g w)=askOn P (solo g w):=by simp[move,ask,solo]
 let VA:due (solo g w).rest.timers (solo g w).world.os.mono=[]:=j;let ha':ahead {world:=(solo g w).world,gs:=(solo g w).gs,rest:=(solo g w).rest} false=none:=i;let c:(solo g w).gs.any (λx=>x.status==.waiting)=(g.status==.waiting):=by simp[solo]
 rw[stepT,l];unfold askOn;simp only[d,VA,List.isEmpty_nil,fB,pure,Sem.run,jr,Ao,fA,ha',c];by_cases hw:(g.status==.waiting)=true
 .refine .inl ⟨#[],?_⟩;simp only[hw,fB]
 .refine .inr ?_;simp only[hw,fA,gI];split<;>rename_i b<;>split at b<;>cases b<;>exact⟨_,_,_,rfl⟩
theorem Q8(m:Plain P){g}(b:FU g){w c}(h:step P (solo g w)=.next c):2<=c.gs.size\/∃d f,c=solo d f/\FU d:=by
 by_cases i:g.status=.running
 .cases k:stepT P (solo g w)with
  |mk s a=>
   have:s=.next c:=by have:=h;rw[step,k]at this;exact this
   subst this;obtain l|⟨d,f,rfl,j|⟨j,_⟩⟩:=Bu m b.ok i k
   .exact .inl l
   .exact .inr ⟨d,f,rfl,j⟩
   .exact(b.lost.elim (λx=>x j) λx=>x i).elim
 .obtain⟨a,e⟩|⟨o,f,a,e⟩:=QW (P:=P) i b.awake w
  .rw[step,e]at h;cases h;exact .inr ⟨g,w,rfl,b⟩
  .rw[step,e]at h;cases h
theorem Bp{n m a}(h:runN P n m=.next a):m.gs.size<=a.gs.size:=by
 let c:=runNT_fst P n m #[];cases b:runNT P n m #[]with
 |mk s t=>
  rw[b]at c;have:s=.next a:=c.trans h
  subst this;exact runNT_size P n m a #[] t b
theorem Lq(f:Plain P):∀{n:Nat}{g w a}{d},FU g->runN P n (solo g w)=.next (solo a d)->FU a:=by
 intro n
 induction n with
 |zero=>intro g w a d b h;simp only[runN,Stepped.next.injEq]at h;have:=oB (λm:Machine=>m.gs[0]?) h;simp[solo]at this;exact this▸b
 |succ n i=>
  intro g w a d b h;simp only[runN]at h;cases c:step P (solo g w)with
  |ended o x=>rw[c]at h;cases h
  |next p=>
   rw[c]at h;obtain j|⟨k,l,rfl,e⟩:=Q8 f b c
   .have:=Bp h;simp[solo]at this;omega
   .exact i e h
theorem gg.Un{g}(h:gg g):¬FU g:=λx=>x.lost.elim (λy=>y h.dying) λy=>y h.status
theorem Ea(l:Plain P){n g w f k}(d:gg g)(e:gg f)(h:runN P (n+1) (solo g w)=.next (solo f k)):
  ∃b c a,stepT P (solo g w)=(.next (solo b c),a)/\gg b/\Alone P g w b c a/\runN P n (solo b c)=.next (solo f k):=by
 simp only[runN]at h;cases i:stepT P (solo g w)with
 |mk s a=>
  let m:step P (solo g w)=s:=by rw[step,i]
  rw[m]at h;cases s with
  |ended o x=>cases h
  |next r=>
   obtain q|⟨b,c,rfl,p|⟨_,j⟩⟩:=Bu l d.ok d.status i
   .have:=Bp h;simp[solo]at this;omega
   .exact absurd (Lq l p h) e.Un
   .exact⟨b,c,a,rfl,(j d.offers).1,(j d.offers).2,h⟩
end Lf
namespace Lf
open Go Go.Conc
variable{P:Program}
inductive Tree(P:Program)(K:bU->aC->Prop):bU->aC->Prop
 |stop {g:bU} {w:aC}:K g w->Tree P K g w
 |step {g:bU} {w:aC} (f:Tape->Nat->bU×aC×aU MemOp):gg g->(∀τ d,gg (f τ d).1/\Alone P g (re w τ d) (f τ d).1 (f τ d).2.1 (f τ d).2.2/\stepT P (solo g (re w τ d))=(.next (solo (f τ d).1 (f τ d).2.1),(f τ d).2.2))->
   (∀τ d,Tree P K (f τ d).1 (f τ d).2.1)->Tree P K g w
def MR(P:Program)(K:bU->aC->Prop)(g:bU)(w:aC):Prop:=∃n a b,runN P n (solo g w)=.next (solo a b)/\gg a/\K a b
theorem Ky(s:Plain P){K}(u:∀g w τ d,K g w->K g (re w τ d)):
  ∀(n:Nat){g e w l τ Xl}{a b},gg g->gg e->(∀j,Xl (b+j)=τ (a+j))->runN P n (solo g (re w τ a))=.next (solo e l)->K e l->MR P K g (re w Xl b):=by
 intro n
 induction n with
 |zero=>
  intro g e w l τ Xl a b p c q h f;simp only[runN,Stepped.next.injEq]at h;let o:=oB (λm:Machine=>m.gs[0]?) h;let i:=oB (λm:Machine=>m.world) h;simp[solo]at o i;subst o;refine⟨0,g,re w Xl b,rfl,p,?_⟩;rw[<-i]at f;exact u g (re w τ a) Xl b f
 |succ n t=>
  intro g e w l τ Xl a b p c q h f;let⟨g1,w1,ops,h1,h2,h3,h4⟩:=Ea s p c h;let⟨m,o,i⟩:=h3.alike;let r:=i Xl b λj _=>q j;rw[UR]at r;rw[o]at h4;let⟨k,g2,w2,h5,h6,h7⟩:=t (w:=w1) (τ:=τ) (Xl:=Xl) (a:=a+m) (b:=b+m) h2 c (λj=>by rw[qG,qG];exact q _) h4 f;exact⟨k+1,g2,w2,by simp only[runN,step,r];exact h5,h6,h7⟩
theorem Gr(hP:Plain P){K}(L:∀g w τ d,K g w->K g (re w τ d)){g w}(E:gg g)(h:∀τ d,MR P K g (re w τ d)):Tree P K g w:=by
 apply GB;intro Z;let S:bU×aC->bQ:=λs=>gg s.1/\(∀τ d,MR P K s.1 (re s.2 τ d))/\¬Tree P K s.1 s.2;let next:∀s:{s//S s},∃(s':{s//S s})(τ:Tape)(d m:Nat),∀e r,(∀j,j<m->e (r+j)=τ (d+j))->stepT P (solo s.1.1 (re s.1.2 e r))=(.next (solo s'.1.1 (re s'.1.2 e (r+m))),(stepT P (solo s.1.1 (re s.1.2 τ d))).2):=by
  rintro⟨⟨g,w⟩,E,W,R⟩;simp only at E W R;let I:¬K g w:=λU=>R (.stop U);let one:∀τ d,∃l t f,stepT P (solo g (re w τ d))=(.next (solo l t),f)/\gg l/\Alone P g (re w τ d) l t f:=by
   intro τ d;let⟨n,g',w',i,B,h3⟩:=W τ d;cases n with
   |zero=>
    simp only[runN,Stepped.next.injEq]at i;let M:=oB (λm:Machine=>m.gs[0]?) i;let C:=oB (λm:Machine=>m.world) i;simp[solo]at M C;subst M;rw[<-C]at h3;exact absurd (L g (re w τ d) w.tape w.drawn h3) I
   |succ n=>
    let⟨l,t,f,a,b,c,_⟩:=Ea hP E B i;exact⟨l,t,f,a,b,c⟩
  let a1:∃τ d l t f,stepT P (solo g (re w τ d))=(.next (solo l t),f)/\gg l/\Alone P g (re w τ d) l t f/\¬Tree P K l t:=by
   apply GB;intro F;let YS:∀x:Tape×Nat,∃y:bU×aC×aU MemOp,stepT P (solo g (re w x.1 x.2))=(.next (solo y.1 y.2.1),y.2.2)/\gg y.1/\Alone P g (re w x.1 x.2) y.1 y.2.1 y.2.2:=λx=>let⟨l,t,f,h⟩:=one x.1 x.2;⟨(l,t,f),h⟩;refine R (.step (λτ d=>Classical.choose (YS (τ,d))) E (λτ d=>?_) λτ d=>?_)
   .let⟨a,b,c⟩:=FA (YS (τ,d));exact⟨b,c,a⟩
   .let⟨a,b,c⟩:=FA (YS (τ,d));apply GB;intro Y;exact F ⟨τ,d,_,_,_,a,b,c,Y⟩
  let⟨τ,d,l,t,f,a,b,c,Y⟩:=a1;let⟨m,M,C⟩:=c.alike;let e1':=M;refine⟨⟨(l,t),b,λA V=>?_,Y⟩,τ,d,m,λe r B=>?_⟩
  ·
   let e:Tape:=λp=>if p<d+m then τ p else A (p-(d+m)+V)
   let hs:=C e d (λj hj=>by show(if d+j<d+m then τ (d+j)else _)=τ (d+j);rw[bY aA]);rw[UR]at hs;let⟨n,g',w',i,B,h3⟩:=W e d;cases n with
   |zero=>
    simp only[runN,Stepped.next.injEq]at i;let G:=oB (λm:Machine=>m.gs[0]?) i;let H:=oB (λm:Machine=>m.world) i;simp[solo]at G H;subst G;rw[<-H]at h3;exact absurd (L g (re w e d) w.tape w.drawn h3) I
   |succ n=>
    simp only[runN,step,hs]at i;refine Ky hP L n (τ:=e) (a:=d+m) b B (λj=>?_) i h3;show A (V+j)=(if d+m+j<d+m then τ (d+m+j)else A (d+m+j-(d+m)+V));rw[bN aA];congr 1;omega
  .have:=C e r B;rw[UR]at this;rw[this,a]
 let next':∀s:{s//S s},∃x:{s//S s}×Tape×Nat×Nat,∀e r,(∀j,j<x.2.2.2->e (r+j)=x.2.1 (x.2.2.1+j))->stepT P (solo s.1.1 (re s.1.2 e r))=(.next (solo x.1.1.1 (re x.1.1.2 e (r+x.2.2.2))),(stepT P (solo s.1.1 (re s.1.2 x.2.1 x.2.2.1))).2):=
  λs=>let⟨a,b,c,d,h⟩:=next s;⟨(a,b,c,d),h⟩
 let nx:{s//S s}->{s//S s}:=λs=>(Classical.choose (next' s)).1;let N:{s//S s}->Tape:=λs=>(Classical.choose (next' s)).2.1;let J:{s//S s}->Nat:=λs=>(Classical.choose (next' s)).2.2.1;let u:{s//S s}->Nat:=λs=>(Classical.choose (next' s)).2.2.2;let X:∀s e r,(∀j,j<u s->e (r+j)=N s (J s+j))->stepT P (solo s.1.1 (re s.1.2 e r))=(.next (solo (nx s).1.1 (re (nx s).1.2 e (r+u s))),(stepT P (solo s.1.1 (re s.1.2 (N s) (J s)))).2):=λs=>FA (next' s);let s0:{s//S s}:=⟨(g,w),E,h,Z⟩;let o:Nat->{s//S s}:=λn=>Nat.rec s0 (λ_ s=>nx s) n;let D:Nat->Nat:=λn=>Nat.rec 0 (λk a=>a+u (o k)) n;let Q:∀n,D (n+1)=D n+u (o n):=λ_=>rfl;let v:∀a b,a<=b->D a<=D b:=by
  intro a b O
  induction O with
  |refl=>exact aZ
  |step _ ih=>exact gH ih (by rw[Q];omega)
 haveI:∀p,Decidable (∃n,D n<=p/\p<D (n+1)):=λ_=>Classical.propDecidable _
 let q:Tape:=λp=>if z:∃n,D n<=p/\p<D (n+1)then N (o (Classical.choose z)) (J (o (Classical.choose z))+(p-D (Classical.choose z)))else λ_=>0
 let aa:∀n j,j<u (o n)->q (D n+j)=N (o n) (J (o n)+j):=by
  intro n j hj;let z:∃k,D k<=D n+j/\D n+j<D (k+1):=⟨n,aA,by rw[Q];omega⟩;let hc:=FA z;let U:Classical.choose z=n:=by
   obtain T|a8|a7:=Nat.lt_trichotomy (Classical.choose z) n
   .have:=v _ _ (show Classical.choose z+1<=n from T);omega
   .exact a8
   .let i:=v _ _ (show n+1<=Classical.choose z from a7);rw[Q]at i;omega
  show(if z:∃n',D n'<=D n+j/\D n+j<D (n'+1)then _ else _)=_;rw[dif_pos z,U];congr 1;omega
 let a6:∀n,runN P n (solo g (re w q 0))=.next (solo (o n).1.1 (re (o n).1.2 q (D n))):=by
  intro n
  induction n with
  |zero=>rfl
  |succ n ih=>
   rw[runN_add,ih];have:=X (o n) q (D n) λj hj=>aa n j hj;simp only[runN,step,this];rfl
 let⟨n,g',w',i,_,h3⟩:=h q 0;rw[a6 n]at i;simp only[Stepped.next.injEq]at i;let G:=oB (λm:Machine=>m.gs[0]?) i;let H:=oB (λm:Machine=>m.world) i;simp[solo]at G H;rw[<-G,<-H]at h3;exact(o n).2.2.2 (.stop (L _ (re (o n).1.2 q (D n)) (o n).1.2.tape (o n).1.2.drawn h3))
end Lf
namespace Lf
open Go Go.Conc
open Go.ConcN (sumTo upd sumTo_upd upd_ne upd_same)
variable{P:Program}
structure Fr(P:Program)(gs:aU bU)(t:Trace)(g:bU):Prop where
 zero:gs[0]?=some g
 leave:∃q,Leavers P t gs q
 abn:∃B,Past (λ_=>False) B t
def oQ(P:Program)(K:bU->aC->Prop)(g:bU)(w:aC):Prop:=
 ∀d sl t,Fr P d t g->∃N a c e b f,runNT P N (crowd d w sl) t=(.next (crowd a e b),f)/\Fr P a f c/\K c e
theorem RG{m c a t d b N M}(h:runNT P N m t=(.next c,d))(e:runNT P M c d=(.next a,b)):runNT P (N+M) m t=(.next a,b):=by
 rw[runNT_add,h];exact e
theorem oQ.here{K g w}(h:K g w):oQ P K g w:=λb sl t a=>⟨0,b,g,w,sl,t,rfl,a,h⟩
theorem oQ.trans{K L g w}(h:oQ P K g w)(d:∀a w',K a w'->oQ P L a w'):oQ P L g w:=by
 intro b sl t c;let⟨N,gs1,g1,w1,sl1,t1,h1,h2,h3⟩:=h b sl t c;let⟨M,gs2,g2,w2,sl2,t2,h4,h5,h6⟩:=d g1 w1 h3 gs1 sl1 t1 h2;exact⟨N+M,gs2,g2,w2,sl2,t2,RG h1 h4,h5,h6⟩
theorem oQ.mono{K L g w}(h:oQ P K g w)(c:∀a b,K a b->L a b):oQ P L g w:=h.trans λa b x=>.here (c a b x)
theorem WA(b:MemAct):∃B,b.low B:=by
 cases b with
 |access e=>
  let⟨loc,wr,sy⟩:=e;cases loc with
  |cell a=>exact⟨a.block+1,j7⟩
  |obj r=>exact⟨r+1,j7⟩
  |_=>exact⟨0,trivial⟩
 |mark m=>
  cases m with
  |acquire a=>exact⟨a.block+1,j7⟩
  |release a=>exact⟨a.block+1,j7⟩
  |releaseMerge a=>exact⟨a.block+1,j7⟩
  |read a=>exact⟨a.block+1,j7⟩
  |write a=>exact⟨a.block+1,j7⟩
  |_=>exact⟨0,trivial⟩
 |go _=>exact⟨0,trivial⟩
 |start=>exact⟨0,trivial⟩
 |send c _=>exact⟨c+1,j7⟩
 |sendDone c _=>exact⟨c+1,j7⟩
 |recv c _ _=>exact⟨c+1,j7⟩
 |recvDone c _=>exact⟨c+1,j7⟩
 |close c=>exact⟨c+1,j7⟩
 |recvClosed c=>exact⟨c+1,j7⟩
theorem zJ(c:aU MemOp)(B):∃d,B<=d/\∀op∈c,op.act.low d:=by
 let⟨l⟩:=c
 induction l with
 |nil=>exact⟨B,aZ,aF⟩
 |cons a l e=>
  let⟨B1,h1,h2⟩:=e;let⟨B2,h3⟩:=WA a.act;refine⟨max B1 B2,gH h1 (Nat.le_max_left _ _),λop b=>?_⟩;simp at b;obtain rfl|b:=b
  .exact MemAct.low_mono (Nat.le_max_right _ _) h3
  .exact MemAct.low_mono (Nat.le_max_left _ _) (h2 op (by simpa using b))
theorem Fr.own{l t g g'}(p:Fr P l t g){a:aU MemOp}{f}(e:∀op∈a,op.g=0)(m:Deaf t 0=0->Deaf (t++a) 0=0)(n:∀x,(x.status=.running\/x.status=.finished)->f x=x):
  Fr P ((l.map f).setIfInBounds 0 g') (t++a) g':=by
 let⟨h0,⟨q,hL⟩,⟨B,hB⟩⟩:=p;let d:=(jR.1 h0).1;let⟨B',zF,Sp⟩:=zJ a B;refine⟨by simp[d],⟨q,λj x b i=>?_,λj b=>?_⟩,⟨B',?_⟩⟩
 .let c:0≠j:=by omega
  rw[qF c,Dh]at i;obtain⟨y,o,rfl⟩:=nA.1 i;let k:=hL.old j y b o;rw[n y k.status,Deaf_other t aA a e];exact k
 .rw[Deaf_other t (g':=0) (by simp at b;omega) a e];exact hL.above j (by simpa using b)
 .refine(hB.mono zF).app0 e (λ_ _ _ _ h=>h.elim) ?_ Sp;rw[m hB.hears,hB.hears]
theorem O6{K g w}(h:Tree P K g w):oQ P K g w:=by
 induction h with
 |stop X=>exact .here X
 |@step g w f R Y _ Z=>
  let H:∀(M:Nat)(a:aU bU)(d0:Nat)(sl:aR (Nat×Nat))(t:Trace)(q:Nat->Nat),sumTo a.size q<=M->a[0]?=some g->Leavers P t a q->(∃B,Past (λ_=>False) B t)->
    ∃N c g' A b s,runNT P N (crowd a (w.at d0) sl) t=(.next (crowd c A b),s)/\Fr P c s g'/\K g' A:=by
   intro M
   induction M using Nat.strongRecOn with
   |_ M S=>
    intro a d0 sl t q hM n hL u;let Q:∀x∈a,awake x:=by
     intro x r;obtain⟨i,hi,rfl⟩:=Array.mem_iff_getElem.1 r;obtain rfl|l:=BG i
     .have:a[0]=g:=by simpa[sL hi]using n
      rw[this];exact awake_of (.inl R.status)
     .exact awake_of ((hL.old i _ l (sL hi)).status.elim .inl λx=>.inr (.inr x))
    let⟨i,x,d,b,hi,r,Ss⟩:=crowd_pick (P:=P) (w:=w.at d0) (sl:=sl) Q ⟨0,g,n,R.status⟩;let hw:(w.at d0).at d=re w w.tape d:=rfl;rw[hw]at Ss;obtain rfl|l:=BG i
    ·
     obtain rfl:x=g:=by rw[n]at hi;exact(nD hi).symm
     let⟨a1,a2,a3⟩:=Y w.tape d;let⟨fw,b1,b2⟩:=a2.beside a b n λj y v C=>(hL.old j y v C).status;let⟨N,c,g',A,Y6,s,c1,c2,c3⟩:=Z w.tape d _ b _ (Fr.own (P:=P) (g':=(f w.tape d).1) ⟨n,⟨q,hL⟩,u⟩ a2.own (a2.hears t) b1);exact⟨N+1,c,g',A,Y6,s,by simp only[runNT,Ss,b2];exact c1,c2,c3⟩
    ·
     let I:=hL.old i x l hi;let L:(i==0)=false:=bI;let D:=(jR.1 hi).1;cases p:q i with
     |zero=>rw[p]at I;rw[I.1]at r;cases r
     |succ k=>
      rw[p]at I;obtain⟨F,_⟩|⟨_,J,W,hm,G,U⟩:=I
      .rw[F]at r;cases r
      let T:((a.map (woken P x J (re w w.tape d))).setIfInBounds i J).size=a.size:=aF;let V:sumTo a.size (upd q i k)+(k+1)=sumTo a.size q+k:=by
       have:=sumTo_upd q k id D;simpa[p]using this
      let⟨B,u⟩:=u;let⟨N,c,g',A,Y6,s,c1,c2,c3⟩:=S (sumTo a.size (upd q i k)) aA ((a.map (woken P x J (re w w.tape d))).setIfInBounds i J) d b (t++MemOp.ofEvents i x.frame.fn x.frame.place W) (upd q i k) (T▸aZ)
       (by
        let O:i≠0:=aA;rw[qF O,Dh,n];simp[woken_running R.status])
       ⟨λj y v C=>by
        by_cases m:i=j
        .subst m;rw[FI (by simpa using D)]at C;obtain rfl:=nD C;rw[upd_same,Deaf_own];exact U
        .rw[qF m,Dh]at C;obtain⟨z,hz,rfl⟩:=nA.1 C;let E:=hL.old j z v hz;rw[woken_quitsD E,upd_ne q k (lG m),Deaf_other t m _ λop o=>by obtain⟨e,_,rfl⟩:=Go.Conc.mem_ofEvents o;rfl];exact E,λj v=>by
        rw[Deaf_other t (g':=i) (by simp at v;omega) _ λop o=>by obtain⟨e,_,rfl⟩:=Go.Conc.mem_ofEvents o;rfl];exact hL.above j (by simpa using v)⟩
       ⟨B,u.mute aA hm⟩
      exact⟨N+1,c,g',A,Y6,s,by simp only[runNT,Ss,(runT_crowd_go (P:=P) (w:=re w w.tape d) (sl:=b) (i:=i) hi (L▸G (re w w.tape d)))];exact c1,c2,c3⟩
  intro a sl t hf;let⟨n,⟨q,hL⟩,u⟩:=hf;exact H _ a w.drawn sl t q aZ n hL u
end Lf
namespace Lf
open Go Go.Conc
open Go.ConcN (sumTo upd sumTo_upd upd_ne upd_same)
variable{P:Program}
theorem kA(t){g}(u)(c:∀op∈u,op.g≠g):Deaf (t++u) g=Deaf t g:=by
 let b:∀(l:aB MemOp)(d:Nat),(∀op∈l,op.g≠g)->l.foldl (deafStep g) d=d:=by
  intro l
  induction l with
  |nil=>intro d _;rfl
  |cons y l f=>
   intro d h;let i:=h y aF;have:deafStep g d y=d:=by
    unfold deafStep;split<;>simp_all
   rw[CJ,this];exact f d λop a=>h op (by simp[a])
 let e:(t++u:Trace)=t++u.toList.toArray:=aF;rw[e,Deaf_append];exact b _ _ λop a=>c op (by simpa using a)
structure rI(P:Program)(skip:Nat->Prop)(t:Trace)(gs:aU bU)(q:Nat->Nat):Prop where
 old:∀i g,0<i->¬skip i->gs[i]?=some g->QuitsD P (q i) (Deaf t i) g
 above:∀j,gs.size<=j->Deaf t j=0
theorem rI.of{t a q}(h:Leavers P t a q)(skip):rI P skip t a q:=⟨λi g c _ b=>h.old i g c b,h.above⟩
theorem rI.all{t a q}(h:rI P (λ_=>False) t a q):Leavers P t a q:=⟨λi g c b=>h.old i g c (λx=>x) b,h.above⟩
theorem rI.JO{skip t u c b q}(h:rI P skip t c q)(n:b.size=c.size)(m:∀i x,0<i->¬skip i->b[i]?=some x->c[i]?=some x)(f:∀op∈u,(op.g=0\/skip op.g)/\op.g<c.size):rI P skip (t++u) b q:=by
 refine⟨λi x g d l=>?_,λj o=>?_⟩
 .rw[kA t u λop a e=>?_]
  .exact h.old i x g d (m i x g d l)
  .obtain k|k:=(f op a).1
   .omega
   .exact d (e▸k)
 .rw[kA t u λop a e=>?_]
  .exact h.above j aA
  .have:=(f op a).2;omega
theorem slip{skip c t q w sl i x}(hL:rI P skip t c q)(hi:c[i]?=some x)(C:x.status=.running)(p:0<i)(A:¬skip i):
  ∃(d:aU bU)(u:Trace)(J:Nat->Nat),runT P (crowd c w sl) i=(.next (crowd d w sl),u)/\d.size=c.size/\sumTo c.size J<sumTo c.size q/\rI P skip (t++u) d J/\
   (∀op∈u,op.g=i/\op.act.touch?=none/\∀B,op.act.low B)/\∀j y,(j=0\/skip j)->c[j]?=some y->(∀a O,woken P a O w y=y)->d[j]?=some y:=by
 let D:=hL.old i x p A hi;let E:(i==0)=false:=bI;let o:=(jR.1 hi).1;cases l:q i with
 |zero=>rw[l]at D;rw[D.1]at C;cases C
 |succ k=>
  rw[l]at D;obtain⟨s,_⟩|⟨_,L,I,N,v,H⟩:=D
  .rw[s]at C;cases C
  let g:∀op∈MemOp.ofEvents i x.frame.fn x.frame.place I,op.g=i:=λop b=>by obtain⟨e,_,rfl⟩:=Go.Conc.mem_ofEvents b;rfl
  refine⟨(c.map (woken P x L w)).setIfInBounds i L,MemOp.ofEvents i x.frame.fn x.frame.place I,upd q i k,runT_crowd_go (P:=P) (w:=w) (sl:=sl) (i:=i) hi (E▸v w),aF,?_,⟨λj y m G n=>?_,λj m=>?_⟩,λop b=>?_,λj y m n hw=>?_⟩
  .let M:sumTo c.size (upd q i k)+(k+1)=sumTo c.size q+k:=by
    have:=sumTo_upd q k id o;simpa[l]using this
   omega
  .by_cases f:i=j
   .subst f;rw[FI (by simpa using o)]at n;obtain rfl:=nD n;rw[upd_same,Deaf_own];exact H
   .rw[qF f,Dh]at n;obtain⟨z,Q,rfl⟩:=nA.1 n;let r:=hL.old j z m G Q;rw[woken_quitsD r,upd_ne q k (lG f),kA t _ λop b e=>f ((g op b).symm.trans e)];exact r
  .rw[kA t _ λop b e=>by have:=g op b;simp at m;omega];exact hL.above j (by simpa using m)
  .obtain⟨e,K,rfl⟩:=Go.Conc.mem_ofEvents b;exact⟨rfl,touch_mute (N e K),low_mute (N e K)⟩
  .let F:i≠j:=by
    rintro rfl;obtain h|h:=m
    .omega
    .exact A h
   rw[qF F,Dh,n];simp[hw]
def BK(C:Touch->Prop)(e:Event):Prop:=(∀x,(MemAct.ofEvent e).touch?=some x->x.loc.isMemory=true->C x)/\e.loc≠.mark .disable/\e.loc≠.mark .enable
structure MP(B:Nat)(S T:Nat->Prop)(w:aC):Prop where
 s:∀b,S b->B<=b/\b<w.heap.size
 t:∀b,T b->B<=b/\b<w.heap.size
 st:∀b,S b->¬T b
 low:B<=w.heap.size
theorem MP.same{B S T w a}(h:MP B S T w)(e:a.heap.size=w.heap.size):MP B S T a:=⟨λb x=>by rw[e];exact h.s b x,λb x=>by rw[e];exact h.t b x,h.st,by rw[e];exact h.low⟩
theorem MP.Pu{B S T w a}(h:MP B S T w)(e:w.heap.size<=a.heap.size):MP B (grow S w a) T a:=
 ⟨λb x=>by
  obtain x|x:=x
  .have:=h.s b x;omega
  .have:=h.low;omega,λb x=>by have:=h.t b x;omega,λb x y=>by
  obtain x|x:=x
  .exact h.st b x y
  .have:=h.t b y;omega,by have:=h.low;omega⟩
theorem MP.XB{B S T w a}(h:MP B S T w)(e:w.heap.size<=a.heap.size):MP B S (grow T w a) a:=
 ⟨λb x=>by have:=h.s b x;omega,λb x=>by
  obtain x|x:=x
  .have:=h.t b x;omega
  .have:=h.low;omega,λb x y=>by
  obtain y|y:=y
  .exact h.st b x y
  .have:=h.s b x;omega,by have:=h.low;omega⟩
structure AG(c B:Nat)(R0:(Nat->Prop)->aC->aC->Prop)(D0:(Nat->Prop)->aC->aC->aU Event->Prop)(RB:(Nat->Prop)->aC->aC->Prop)(DB:(Nat->Prop)->aC->aC->aU Event->Prop)(CA CB:(Nat->Prop)->Touch->Prop):Prop where
 t0:fX R0 D0
 tB:fX RB DB
 Cj:∀S w,R0 S w w
 HU:∀S w,RB S w w
 at0:∀S (w:aC) (d:Nat),R0 S w (w.at d)
 atB:∀S (w:aC) (d:Nat),RB S w (w.at d)
 Rp:∀S (w:aC) n buf cl s r tm,R0 S w (w.setChan c n buf cl s r tm)
 WN:∀S (w:aC) n buf cl s r tm,RB S w (w.setChan c n buf cl s r tm)
 d0:∀S T w w' es,MP B S T w->D0 S w w' es->RB T w w'/\w'.heap[c]?=w.heap[c]?/\(∀e∈es,BK (CA (grow S w w')) e)/\w.heap.size<=w'.heap.size
 dB:∀S T w w' es,MP B S T w->DB T w w' es->R0 S w w'/\w'.heap[c]?=w.heap[c]?/\(∀e∈es,BK (CB (grow T w w')) e)/\w.heap.size<=w'.heap.size
 mono:∀S S',(∀b,S b->S' b)->(∀a,CA S a->CA S' a)/\(∀a,CB S a->CB S' a)
 apart:∀S T w,MP B S T w->Dy (CA S) (CB T)
theorem Ei(S w a):∀b,S b->grow S w a b:=λ_ h=>.inl h
theorem jQ(w:aC)(c n a b s r tm):(w.setChan c n a b s r tm).heap.size=w.heap.size:=by simp[World.setChan]
section
theorem PS{C g fn pos c}(h:∀e∈c,BK C e):(∀op∈MemOp.ofEvents g fn pos c,op.g=g)/\(∀op∈MemOp.ofEvents g fn pos c,∀b,op.act.touch?=some b->b.loc.isMemory=true->C b)/\∀t,Deaf (t++MemOp.ofEvents g fn pos c) g=Deaf t g:=
 ⟨λop a=>by obtain⟨e,_,rfl⟩:=Go.Conc.mem_ofEvents a;rfl,λop a b i f=>by obtain⟨e,d,rfl⟩:=Go.Conc.mem_ofEvents a;exact(h e d).1 b i f,λt=>by rw[Deaf_own];exact deafBehind_still (λe d=>(h e d).2) _⟩
theorem TI.QK{i b B A C t}(c:b≠0)(j:Dy A C)(h:TI i b B A C t){fn pos f}(d:∀e∈f,BK A e):∃a,B<=a/\TI i b a A C (t++MemOp.ofEvents 0 fn pos f):=by
 let⟨h1,h2,h3⟩:=PS (g:=0) (fn:=fn) (pos:=pos) d;let⟨a,hb,hl⟩:=zJ (MemOp.ofEvents 0 fn pos f) B;exact⟨a,hb,(h.mono hb (λ_ x=>x) λ_ x=>x).app0 c j h1 h2 ((h3 t).trans h.hears) hl⟩
theorem TI.Yp{i a B A C t}(c:a≠0)(j:Dy A C)(h:TI i a B A C t){fn pos f}(d:∀e∈f,BK C e):∃b,B<=b/\TI i a b A C (t++MemOp.ofEvents a fn pos f):=by
 let⟨h1,h2,h3⟩:=PS (g:=a) (fn:=fn) (pos:=pos) d;let⟨b,hb,hl⟩:=zJ (MemOp.ofEvents a fn pos f) B;exact⟨b,hb,(h.mono hb (λ_ x=>x) λ_ x=>x).aaH c j h1 h2 (λx=>(h3 t).trans (h.vM x)) hl⟩
theorem TI.still{i b B A C t u}(h:TI i b B A C t)(m:∀op∈u,op.act.touch?=none)(j:∀op∈u,(op.g≠0\/(op.act≠.mark .disable/\op.act≠.mark .enable))/\(op.g≠b\/(op.act≠.mark .disable/\op.act≠.mark .enable)\/¬i)):∃c,B<=c/\TI i b c A C (t++u):=by
 have still:∀g,(∀op∈u,op.g≠g\/(op.act≠.mark .disable/\op.act≠.mark .enable))->Deaf (t++u) g=Deaf t g:=by
  intro g k;have f:∀(l:aB MemOp)(d:Nat),(∀op∈l,op.g≠g\/(op.act≠.mark .disable/\op.act≠.mark .enable))->l.foldl (deafStep g) d=d:=by
   intro l
   induction l with
   |nil=>intro d _;rfl
   |cons y l n=>
    intro d h;have o:=h y aF;have:deafStep g d y=d:=by
     unfold deafStep;split<;>simp_all
    rw[CJ,this];exact n d λop a=>h op (by simp[a])
  have e:(t++u:Trace)=t++u.toList.toArray:=aF;rw[e,Deaf_append];exact f _ _ λop a=>k op (by simpa using a)
 have⟨c,hb,hl⟩:=zJ u B;refine⟨c,hb,(h.mono hb (λ_ x=>x) λ_ x=>x).appMute m ((still 0 λop a=>(j op a).1).trans h.hears) (λx=>(still b λop a=>?_).trans (h.vM x)) hl⟩;obtain y|y|y:=(j op a).2
 .exact .inl y
 .exact .inr y
 .exact absurd x y
end
end Lf
namespace Lf
open Go Go.Conc
open Go.ConcN (sumTo upd sumTo_upd upd_ne upd_same)
variable{P:Program}
section
variable(P:Program)(c:Nat)(z:aE)(R0:(Nat->Prop)->aC->aC->Prop)(D0:(Nat->Prop)->aC->aC->aU Event->Prop)(RB:(Nat->Prop)->aC->aC->Prop)(DB:(Nat->Prop)->aC->aC->aU Event->Prop)(CA CB:(Nat->Prop)->Touch->Prop)(n:Nat)
def AtR(S:Nat->Prop)(g:bU)(w:aC):Prop:=∀a,R0 S w a->∃b,stepG P true g a=.comm g #[rcase c z] true (.recv true) a b/\∀e∈b,BK (CA S) e
inductive SA(K:bU->aC->Prop):aB aE->(Nat->Prop)->bU->aC->Prop
 |own {L:aB aE} {S:Nat->Prop} {g:bU} {w:aC} (f:aC->bU×aC×aU Event):g.status=.running->(∀w₁,R0 S w w₁->stepG P true g w₁=.go (f w₁).1 (f w₁).2.1 (f w₁).2.2/\D0 S w₁ (f w₁).2.1 (f w₁).2.2)->(∀w₁,R0 S w w₁->SA K L (grow S w₁ (f w₁).2.1) (f w₁).1 (f w₁).2.1)->SA K L S g w
 |recv {v:aE} {L:aB aE} {S:Nat->Prop} {g:bU} {w:aC}:g.status=.running->AtR P c z R0 CA S g w->(∀w₁,R0 S w w₁->SA K L S (Go.Conc.served g (recvd true v true)) w₁)->SA K (v::L) S g w
 |fin {S:Nat->Prop} {g:bU} {w:aC}:g.status=.running->AtR P c z R0 CA S g w->(∀w₁,R0 S w w₁->K (Go.Conc.served g (recvd true z false)) w₁)->SA K [] S g w
inductive SB:aB aE->(Nat->Prop)->bU->aC->Prop
 |own {L:aB aE} {T:Nat->Prop} {g:bU} {w:aC} (f:aC->bU×aC×aU Event):g.status=.running->(∀w₁,RB T w w₁->stepG P false g w₁=.go (f w₁).1 (f w₁).2.1 (f w₁).2.2/\DB T w₁ (f w₁).2.1 (f w₁).2.2)->(∀w₁,RB T w w₁->SB L (grow T w₁ (f w₁).2.1) (f w₁).1 (f w₁).2.1)->SB L T g w
 |send {v y:aE} {L:aB aE} {T:Nat->Prop} {g:bU} {w:aC}:g.status=.running->(∀w₁,RB T w w₁->∃es,stepG P false g w₁=.comm g #[scase c v y] true .send w₁ es/\∀e∈es,BK (CB T) e)->(∀w₁,RB T w w₁->SB L T (Go.Conc.served g undef) w₁)->SB (v::L) T g w
 |close {T:Nat->Prop} {g g':bU} {w:aC} {q:Nat}:g.status=.running->mayWake P g=true->(∀w₁ buf s r,RB T w w₁->w₁.heap[c]?=some (.chan n buf false s r false)->∃es:aU Event,stepG P false g w₁=.go g' (w₁.setChan c n buf true s r false) (es.push ⟨.obj c,true,true⟩)/\∀e∈es,BK (CB T) e)->QuitsD P q 0 g'->SB [] T g w
end
section
variable{c:Nat}{z:aE}{kN:Nat}{R0:(Nat->Prop)->aC->aC->Prop}{D0:(Nat->Prop)->aC->aC->aU Event->Prop}{RB:(Nat->Prop)->aC->aC->Prop}{DB:(Nat->Prop)->aC->aC->aU Event->Prop}{CA CB:(Nat->Prop)->Touch->Prop}{n:Nat}{K:bU->aC->Prop}
theorem SA.running{L S g w}(h:SA P c z R0 D0 CA K L S g w):g.status=.running:=by cases h<;>assumption
theorem SA.rely(H:AG c kN R0 D0 RB DB CA CB){L S g w w'}(h:SA P c z R0 D0 CA K L S g w)(d:R0 S w w'):SA P c z R0 D0 CA K L S g w':=by
 cases h with
 |own f j e i=>exact .own f j (λb a=>e b (H.t0.trans _ _ _ _ d a)) λb a=>i b (H.t0.trans _ _ _ _ d a)
 |recv j e i=>exact .recv j (λb a=>e b (H.t0.trans _ _ _ _ d a)) λb a=>i b (H.t0.trans _ _ _ _ d a)
 |fin j e i=>exact .fin j (λb a=>e b (H.t0.trans _ _ _ _ d a)) λb a=>i b (H.t0.trans _ _ _ _ d a)
structure lH(x g:bU):Prop where
 status:x.status=.running
 frame:x.frame=g.frame
 callers:x.callers=g.callers
 dying:x.dying=g.dying
theorem lH.step{x g}(h:lH x g)(a w):stepG P a x w=stepG P a g w:=stepG_same h.frame h.callers h.dying w
theorem lH.self{g}(h:g.status=.running):lH g g:=⟨h,rfl,rfl,rfl⟩
def mn(P:Program)(K:bU->aC->Prop)(m:Machine)(t:Trace):Prop:=∃N a c d b e,runNT P N m t=(.next (crowd a d b),e)/\Fr P a e c/\K c d
theorem mn.step{m a t}{u:Trace}(h:stepT P m=(.next a,u))(b:mn P K a (t++u)):mn P K m t:=by
 let⟨N,gs',g',w',sl',t',h1,h2⟩:=b;exact⟨N+1,gs',g',w',sl',t',by simp only[runNT,h];exact h1,h2⟩
theorem ot{gs:aU bU}{i r send}(h:∀j (g),j≠i->gs[j]?=some g->g.status≠.blocked):partners (gs.setIfInBounds i ph) r send=[]:=by
 refine partners_nil λj g c=>?_;obtain⟨_,rfl⟩|⟨b,a⟩:=getElem?_stand gs i j g c
 .exact offersAt_ph r send
 .exact offersAt_of_not_blocked (h j g b a) r send
theorem kT{w:aC}{c cap s r a j i d b g e tm f}(h:w.heap[c]?=some (.chan a b e j i f)):(w.setChan c cap d g s r tm).heap[c]?=some (.chan cap d g s r tm):=heap_put h
theorem Ib{a:aU aE}{v L}(b:v::L=a.toList):0<a.size/\a.getD 0 undef=v/\(a.extract 1 a.size).toList=L:=by
 have⟨l⟩:=a;simp only at b;subst b;simp[Array.getD_eq_getD_getElem?]
structure Sh(P:Program)(c kN:Nat)(R0:(Nat->Prop)->aC->aC->Prop)(CA CB:(Nat->Prop)->Touch->Prop)(n κ:Nat)(L:aB aE)(S:Nat->Prop)(g:bU)(w:aC)(T:Nat->Prop)(gs:aU bU)(x:bU)(Zb:aC)(t:Trace)(q:Nat->Nat)(buf:aU aE)(s r:Nat):Prop where
 J0:MP kN S T Zb
 r0:R0 S w Zb
 lk:lH x g
 zero:gs[0]?=some x
 lt:κ<gs.size
 leave:rI P (λ_=>False) t gs q
 trace:∃B,TI False κ B (CA S) (CB T) t
 shut:Shut κ c t
 chan:Zb.heap[c]?=some (.chan n buf true s r false)
 list:L=buf.toList
theorem Oc(H:AG c kN R0 D0 RB DB CA CB){W}(p:W≠0){L S g w}(hA:SA P c z R0 D0 CA K L S g w):
  ∀M T gs x b sl t q k s r,sumTo gs.size q<=M->Sh P c kN R0 CA CB n W L S g w T gs x b t q k s r->mn P K (crowd gs b sl) t:=by
 let core:∀{L S g w}(_:∀T gs x b sl t q k s r,Sh P c kN R0 CA CB n W L S g w T gs x b t q k s r->∃m' u,runT P (crowd gs b sl) 0=(.next m',u)/\mn P K m' (t++u)) M T gs x b sl t q k s r,sumTo gs.size q<=M->Sh P c kN R0 CA CB n W L S g w T gs x b t q k s r->mn P K (crowd gs b sl) t:=by
  intro L S g w mv M
  induction M using Nat.strongRecOn with
  |_ M a6=>
   intro T gs x b sl t q k s r hM ⟨m,C,D,A,Q,hL,⟨B,N⟩,I,F,G⟩;let Z:∀y∈gs,awake y:=by
    intro y hy;obtain⟨i,hi,rfl⟩:=Array.mem_iff_getElem.1 hy;obtain rfl|E:=BG i
    .have:gs[0]=x:=by simpa[sL hi]using A
     rw[this];exact awake_of (.inl D.status)
    .exact awake_of ((hL.old i _ E (λx=>x) (sL hi)).status.elim .inl λx=>.inr (.inr x))
   let⟨i,y,d,sl',hi,hy,Ss⟩:=crowd_pick (P:=P) (w:=b) (sl:=sl) Z ⟨0,x,A,D.status⟩;let hR':=H.t0.trans _ _ _ _ C (H.at0 _ b d);let ZV:MP kN S T (b.at d):=m.same rfl;obtain rfl|E:=BG i
   .let⟨m',u,e1,e2⟩:=mv T gs x (b.at d) sl' t q k s r ⟨ZV,hR',D,A,Q,hL,⟨B,N⟩,I,F,G⟩;exact mn.step (Ss.trans e1) e2
   .let⟨gs',u,q',e1,e2,e3,e4,e5,e6⟩:=slip (w:=b.at d) (sl:=sl') hL hi hy E λx=>x;let⟨B',_,Dc⟩:=N.still (λop h=>(e5 op h).2.1) λop h=>⟨.inl (by rw[(e5 op h).1];omega),.inr (.inr λx=>x)⟩;exact mn.step (Ss.trans e1) (a6 _ (fZ e3 hM) T gs' x _ sl' _ q' k s r (e2▸aZ) ⟨ZV,hR',D,e6 0 x (.inl rfl) A λa a'=>woken_running D.status,by rw[e2];exact Q,e4,⟨B',Dc⟩,I.app λop h _=>(e5 op h).2.1,F,G⟩)
 induction hA with
 |@own L S g w f hs R V ih=>
  refine core λT gs x b sl t q k s r ⟨m,C,D,A,Q,hL,⟨B,N⟩,I,F,G⟩=>?_;let⟨a1,a2⟩:=R _ C;let⟨b1,b2,b3,b4⟩:=H.d0 _ _ _ _ _ m a2;let l:=(jR.1 A).1;let⟨B',_,Dc⟩:=(N.mono (Zv B) (H.mono _ _ (Ei S b (f b).2.1)).1 λ_ x=>x).QK p (H.apart _ _ _ (m.Pu b4)) (fn:=x.frame.fn) (pos:=x.frame.place) b3;refine⟨_,_,runT_crowd_go (P:=P) (w:=b) (sl:=sl) (i:=0) A (show stepG P (0==0) x b=_ from((D.step (P:=P) true b).trans a1)),ih _ C _ T _ _ _ sl _ q k s r aZ ⟨m.Pu b4,H.Cj _ _,lH.self (V _ C).running,by simp[l],by simpa using Q,?_,⟨B',Dc⟩,?_,b2.trans F,G⟩⟩
  .refine hL.JO aF (λj v U _ J=>?_) (λop h=>by obtain⟨e,_,rfl⟩:=Go.Conc.mem_ofEvents h;exact⟨.inl rfl,l⟩);rw[qF aA,Dh]at J;obtain⟨z',hz,rfl⟩:=nA.1 J;rw[woken_quitsD (hL.old j z' U (λx=>x) hz)];exact hz
  .exact I.app λop h e=>by obtain⟨e',_,rfl⟩:=Go.Conc.mem_ofEvents h;exact absurd e.symm p
 |@recv v L S g w hs R V ih=>
  refine core λT gs x b sl t q k s r ⟨m,C,D,A,Q,hL,⟨B,N⟩,I,F,G⟩=>?_;let⟨es,a1,a2⟩:=R _ C;let⟨Jf,hhd,htl⟩:=Ib G;let l:=(jR.1 A).1;let o:=crowd_recv_buf (P:=P) (gs:=gs) (w:=b) (sl:=sl) (i:=0) A (show stepG P (0==0) x b=_ from((D.step (P:=P) true b).trans a1)) F Jf
   (ot λj X U O=>by have:=(hL.old j X aA (λx=>x) O).status;rcases this with e|e<;>rw[e]<;>simp)
  rw[finishComm_recv,hhd]at o;let⟨B',_,Dc⟩:=N.QK p (H.apart _ _ _ m) (fn:=x.frame.fn) (pos:=x.frame.place) a2;obtain⟨a7,_,Y⟩:=Dc.still (u:=#[{g:=0,fn:=g.frame.fn,pos:=g.frame.place,act:=.recv c r n},{g:=0,fn:=g.frame.fn,pos:=g.frame.place,act:=.recvDone c r}]) (λop h=>by simp at h;rcases h with rfl|rfl<;>rfl) (λop h=>by simp at h;rcases h with rfl|rfl<;>simp);refine⟨_,_,o,ih _ (H.t0.trans _ _ _ _ C (H.Rp S b n (k.extract 1 k.size) true s (r+1) false)) _ T _ _ _ sl _ q (k.extract 1 k.size) s (r+1) aZ ⟨m.same (jQ _ _ _ _ _ _ _ _),H.Cj _ _,lH.self rfl,by simp[l],by simpa using Q,?_,⟨a7,by rw[<-Cx];exact Y⟩,?_,kT F,htl.symm⟩⟩
  .refine hL.JO aF (λj v U _ J=>?_) λop h=>?_
   .rw[qF aA]at J;exact J
   .obtain h|h:=CH.1 h
    .obtain⟨e,_,rfl⟩:=Go.Conc.mem_ofEvents h;exact⟨.inl rfl,l⟩
    .simp at h;rcases h with rfl|rfl<;>exact⟨.inl rfl,l⟩
  .refine I.app λop h e=>?_;obtain h|h:=CH.1 h
   .obtain⟨e',_,rfl⟩:=Go.Conc.mem_ofEvents h;exact absurd e.symm p
   .simp at h;rcases h with rfl|rfl<;>rfl
 |@fin S g w hs R V=>
  refine core λT gs x b sl t q k s r ⟨m,C,D,A,Q,hL,⟨B,N⟩,I,F,G⟩=>?_;let⟨es,a1,a2⟩:=R _ C;obtain rfl:k=#[]:=by
   have:k.toList=[]:=G.symm;simpa using this
  let l:=(jR.1 A).1;let o:=crowd_recv_closed (P:=P) (gs:=gs) (w:=b) (sl:=sl) (i:=0) A (show stepG P (0==0) x b=_ from((D.step (P:=P) true b).trans a1)) F
   (ot λj X U O=>by have:=(hL.old j X aA (λx=>x) O).status;rcases this with e|e<;>rw[e]<;>simp)
  rw[finishComm_recv]at o;let⟨B',Zp,Dc⟩:=N.QK p (H.apart _ _ _ m) (fn:=x.frame.fn) (pos:=x.frame.place) a2;refine⟨_,_,o,0,_,_,_,sl,_,rfl,⟨by simp[l],⟨q,?_⟩,⟨_,by rw[<-Cx];exact((Dc.mono (Nat.le_max_left B' (c+1)) (λ_ x=>x) λ_ x=>x).join p (I.app λop h e=>by obtain⟨e',_,rfl⟩:=Go.Conc.mem_ofEvents h;exact absurd e.symm p) (y:={g:=0,fn:=g.frame.fn,pos:=g.frame.place,act:=.recvClosed c}) ⟨rfl,rfl⟩ (fZ (aaC c) (Nat.le_max_right _ _)))⟩⟩,V _ C⟩;refine(hL.JO aF (λj v U _ J=>?_) λop h=>?_).all
  .rw[qF aA]at J;exact J
  .obtain h|h:=CH.1 h
   .obtain⟨e,_,rfl⟩:=Go.Conc.mem_ofEvents h;exact⟨.inl rfl,l⟩
   .simp at h;rcases h with rfl;exact⟨.inl rfl,l⟩
end
end Lf
namespace Lf
open Go Go.Conc
variable{P:Program}
theorem ft(a b):¬FU (G a b):=λh=>h.lost.elim (λx=>x rfl) λx=>x rfl
theorem KP(l:Plain P){n g w f k}(d:gg g)(e:¬FU f)(h:runN P (n+1) (solo g w)=.next (solo f k)):
  ∃b c a,stepT P (solo g w)=(.next (solo b c),a)/\gg b/\Alone P g w b c a/\runN P n (solo b c)=.next (solo f k):=by
 simp only[runN]at h;cases i:stepT P (solo g w)with
 |mk s a=>
  let m:step P (solo g w)=s:=by rw[step,i]
  rw[m]at h;cases s with
  |ended o x=>cases h
  |next r=>
   obtain q|⟨b,c,rfl,p|⟨_,j⟩⟩:=Bu l d.ok d.status i
   .have:=Bp h;simp[solo]at this;omega
   .exact absurd (Lq l p h) e
   .exact⟨b,c,a,rfl,(j d.offers).1,(j d.offers).2,h⟩
theorem U0(e:Plain P):∀{n:Nat}{g w b}{d},gg g->¬FU b->runN P n (solo g w)=.next (solo b d)->gg b:=by
 intro n
 induction n with
 |zero=>intro g w b d c _ h;simp only[runN,Stepped.next.injEq]at h;have:=oB (λm:Machine=>m.gs[0]?) h;simp[solo]at this;exact this▸c
 |succ n f=>
  intro g w b d c a h;let⟨g1,w1,_,_,h2,_,h4⟩:=KP e c a h;exact f h2 a h4
theorem tq{b a}(d:bK b)(c:∀x∈a,bK x):gg (G b a):=⟨⟨d,c,λ_ h=>by cases h⟩,rfl,rfl,rfl⟩
theorem nV{b a w v}(h:(results b a).run P w=.ok v w)(c d):(results b a).run P (re w c d)=.ok v (re w c d):=by
 have e:=(Sem.runT_fst P _ w #[]).trans h;have⟨m,e1,e2⟩:=qu P (results b a) 0 w #[] (Ck (P:=P) b a) (by rw[e];rfl);rw[e]at e1 e2;simp only[PX,Result.ok.injEq,wH]at e1;have f:m=0:=by have:=oB World.drawn e1;simp[re]at this;omega
 subst f;have:=congrArg Prod.fst (e2 c d (λj g=>absurd g (Nat.not_lt_zero j)));rw[Sem.runT_fst]at this;simpa[PX]using this
theorem qk{b:Frame}{w e}(h:b.leaving P w e)(a d):b.leaving P (re w a d) e:=by
 cases e with
 |returned v=>obtain⟨k,c,j,f,g,i⟩:=h;exact⟨k,c,j,f,g,nV i a d⟩
 |panicked chain=>exact h
 |outgrown=>trivial
def aJ(P:Program)(K:bU->aC->Prop)(g:bU)(w:aC):Prop:=∀a d,oQ P K g (re w a d)
theorem aJ.leads{K g w}(h:aJ P K g w):oQ P K g w:=h w.tape w.drawn
theorem aJ.other{K g w}(h:aJ P K g w)(c d):aJ P K g (re w c d):=λa b=>h a b
theorem aJ.trans{K L g w}(h:aJ P K g w)(c:∀a w',K a w'->aJ P L a w'):aJ P L g w:=λb d=>(h b d).trans λa w' x=>(c a w' x).leads
theorem aJ.mono{K L g w}(h:aJ P K g w)(e:∀a b,K a b->L a b):aJ P L g w:=λc d=>(h c d).mono e
theorem aJ.of_steps(k:Plain P){K}(l:∀g w b d,K g w->K g (re w b d)){g w}(f:gg g)(h:∀b d,∃a c,Steps P (solo g (re w b d)) (solo a c)/\¬FU a/\(gg a->K a c)):aJ P K g w:=by
 intro e i;refine O6 (Gr k l f λb d=>?_);let⟨a,c,⟨n,hn⟩,h2,h3⟩:=h b d;let j:=U0 k f h2 hn;exact⟨n,a,c,hn,j,h3 j⟩
def cI(P:Program)(f:FuncId)(b:aU aE)(w:aC)(R:Ending->aC->Prop):Prop:=
 ∀c,(∀a∈c,bK a)->aJ P (λg d=>∃e a,g=G a c/\bK a/\R e d/\a.fn=f/\a.leaving P d e) (G (Frame.enter P f b .normal) c) w
theorem cI.mono{f a w R R'}(h:cI P f a w R)(i:∀e c,R e c->R' e c):cI P f a w R':=
 λg b=>(h g b).mono λ_ _ ⟨e,m,n,d,l,j,k⟩=>⟨e,m,n,d,i _ _ l,j,k⟩
theorem cI.EL(r:Plain P){f a w R}(q:∀e w b d,R e w->R e (re w b d))(o:∀w,¬R .outgrown w)(h:∀b d,Calls P f a (re w b d) R):cI P f a w R:=by
 intro j m;refine aJ.of_steps r ?_ (tq (iQ (P:=P) f a .normal) m) λb d=>?_
 .rintro g w b d ⟨e,i,l,k,p,n,t⟩;exact⟨e,i,l,k,q _ _ _ _ p,n,qk t b d⟩
 .let⟨e,w',i,l,k,p,n⟩:=h b d j;let s:Steps P (lone (Frame.enter P f a .normal) j (re w b d)) (lone i j w'):=by
   cases e with
   |returned v=>exact k
   |panicked c=>exact k
   |outgrown=>exact absurd l (o _)
  exact⟨G i j,w',s,ft i j,λu=>⟨e,i,rfl,u.ok.frame,l,p,n⟩⟩
end Lf
namespace Lf
open Go Go.Conc
variable{P:Program}
def At(b:Frame)(k:aB Item)(e:aB Frame)(g:bU):Exit->Act->Prop
 |.normal,a=>g=G (b.at a k) e
 |.exit id,a=>∃d,exitTo id k=some d/\g=G (b.at a d) e
 |.goto l,a=>∃d,gotoIn l k=some d/\g=G (b.at a d) e
 |.ret,a=>∃c,(∀f∈c,cY f)/\g=G {b.at a c with mode:=.returning} e
 |.panic chain,a=>∃c,(∀f∈c,cY f)/\g=G {b.at a c with mode:=.panicking chain} e
 |.outgrown,_=>False
structure AB(Q:Exit->Act->aC->Prop)(k:aB Item)(cs:aB Frame):Prop where
 items:∀it∈k,cY it
 frames:∀fr∈cs,bK fr
 KL:∀id a w,Q (.exit id) a w->∃k',exitTo id k=some k'
 gotos:∀l a w,Q (.goto l) a w->∃k',gotoIn l k=some k'
def eX(P:Program)(c:Code)(Q:Exit->Act->aC->Prop)(a:Act)(w:aC):Prop:=
 ∀(b:Frame)(k:aB Item)(d:aB Frame),AB Q k d->aJ P (λg h=>∃e f,Q e f h/\At b k d g e f) (G (b.at a (.code c::k)) d) w
theorem eX.mono{c Q g a w}(h:eX P c Q a w)(f:∀e a w,Q e a w->g e a w):eX P c g a w:=
 λb k i d=>(h b k i ⟨d.items,d.frames,λid a w x=>d.KL id a w (f _ _ _ x),λid a w x=>d.gotos id a w (f _ _ _ x)⟩).mono λ_ _ ⟨e,j,x,y⟩=>⟨e,j,f _ _ _ x,y⟩
theorem jP{b:Frame}{a k}(h:∀it∈k,cY it):bK (b.at a k):=h
theorem bP{it k}(b:cY it)(h:∀it∈k,cY it):∀x∈it::k,cY x:=λx a=>by
 obtain rfl|a:=gA.1 a
 .exact b
 .exact h x a
theorem kP{b:Frame}{a c k d}(h:∀e∈k,cY e)(g:∀f∈d,bK f):gg (G (b.at a (.code c::k)) d):=tq (jP (bP trivial h)) g
theorem aJ.move(m:Plain P){K f a b w}(j:gg (G f b))(h:∀w,Steps P (lone f b w) (lone a b w))(n:gg (G a b)->aJ P K (G a b) w):aJ P K (G f b) w:=by
 let k:aJ P (λg i=>g=G a b/\gg g/\∃c d,i=re w c d) (G f b) w:=by
  refine .of_steps m ?_ j λc d=>⟨G a b,re w c d,h _,ft _ _,λe=>⟨rfl,e,c,d,rfl⟩⟩;rintro g i c d ⟨rfl,e,l,o,rfl⟩;exact⟨rfl,e,c,d,rfl⟩
 apply k.trans;rintro g i ⟨rfl,e,c,d,rfl⟩;exact(n e).other c d
theorem eX.of_wp(u:Plain P){c Q a w}(v:∀e a w n d,Q e a w->Q e a (re w n d))(s:∀a w,¬Q .outgrown a w)(h:∀n d,c.wp P Q a (re w n d)):eX P c Q a w:=by
 intro b k x q;refine .of_steps u ?_ (kP q.items q.frames) λn d=>?_
 .rintro g w n d ⟨e,j,i,m⟩;exact⟨e,j,v _ _ _ _ _ i,m⟩
 .let⟨e,j,w',i,m⟩:=h n d b k x;cases e with
  |normal=>exact⟨_,w',m,ft _ _,λ_=>⟨.normal,j,i,rfl⟩⟩
  |exit id=>obtain⟨o,p⟩:=q.KL id j w' i;exact⟨_,w',m o p,ft _ _,λ_=>⟨.exit id,j,i,o,p,rfl⟩⟩
  |goto l=>obtain⟨o,p⟩:=q.gotos l j w' i;exact⟨_,w',m o p,ft _ _,λ_=>⟨.goto l,j,i,o,p,rfl⟩⟩
  |ret=>obtain⟨f,r⟩:=m;exact⟨_,w',r,ft _ _,λt=>⟨.ret,j,i,f,t.ok.frame,rfl⟩⟩
  |panic chain=>obtain⟨f,r⟩:=m;exact⟨_,w',r,ft _ _,λt=>⟨.panic chain,j,i,f,t.ok.frame,rfl⟩⟩
  |outgrown=>exact absurd i (s _ _)
theorem At.pass{b x k f g e a}(m:x.plain=true)(i:e≠.normal)(h:At b (x::k) f g e a):At b k f g e a:=by
 cases e with
 |normal=>exact absurd rfl i
 |exit id=>obtain⟨c,j,d⟩:=h;exact⟨c,by cases x<;>simp_all[exitTo,Item.plain],d⟩
 |goto l=>obtain⟨c,j,d⟩:=h;exact⟨c,by cases x<;>simp_all[gotoIn,Item.plain],d⟩
 |ret=>exact h
 |panic chain=>exact h
 |outgrown=>exact h
theorem AB.pass{Q c k e x}(b:AB Q k e)(i:x.plain=true)(d:cY x)(g:∀id a w,c (.exit id) a w->Q (.exit id) a w)(f:∀id a w,c (.goto id) a w->Q (.goto id) a w):AB c (x::k) e:=
 ⟨bP d b.items,b.frames,λid a w h=>by
  let⟨k',hk⟩:=b.KL id a w (g _ _ _ h);exact⟨k',by cases x<;>simp_all[exitTo,Item.plain]⟩,λid a w h=>by
  let⟨k',hk⟩:=b.gotos id a w (f _ _ _ h);exact⟨k',by cases x<;>simp_all[gotoIn,Item.plain]⟩⟩
theorem aJ.then{K L g w}(h:aJ P K g w)(c:∀a w',K a w'->oQ P L a w'):aJ P L g w:=λb d=>(h b d).trans c
theorem aJ.step(k:Plain P){K c fr' b cs' w}(f:gg (G c b))(h:∀τ d,Steps P (lone c b (re w τ d)) (lone fr' cs' (re w τ d)))(l:gg (G fr' cs')->aJ P K (G fr' cs') w):aJ P K (G c b) w:=by
 let i:aJ P (λg e=>g=G fr' cs'/\gg g/\∃τ d,e=re w τ d) (G c b) w:=by
  refine .of_steps k ?_ f λτ d=>⟨G fr' cs',re w τ d,h _ _,ft _ _,λa=>⟨rfl,a,τ,d,rfl⟩⟩;rintro g e τ d ⟨rfl,a,j,m,rfl⟩;exact⟨rfl,a,τ,d,rfl⟩
 apply i.trans;rintro g e ⟨rfl,a,τ,d,rfl⟩;exact(l a).other τ d
theorem aJ.here{K g w}(h:∀a d,K g (re w a d)):aJ P K g w:=λa d=>.here (h a d)
theorem eX.seq(l:Plain P){x y Q a w}(h:eX P x (Exit.then (eX P y Q) Q) a w):eX P (.seq x y) Q a w:=by
 intro b k i c;refine aJ.move l (kP c.items c.frames) (λ_=>.one step_seq) λ_=>?_;apply(h b (.code y::k) i (c.pass rfl trivial (λ_ _ _ x=>x) λ_ _ _ x=>x)).then
 rintro g m ⟨e,j,f,d⟩;cases e with
 |normal=>cases d;exact(f b k i c).leads
 |_=>exact .here ⟨_,j,f,At.pass (x:=.code y) rfl aF d⟩
theorem eX.seq'(b:Plain P){x y Q a w}(J)(h:eX P x (Exit.then J Q) a w)(c:∀a w,J a w->eX P y Q a w):eX P (.seq x y) Q a w:=
 .seq b (h.mono λe a w x=>by cases e<;>first|exact c _ _ x|exact x)
theorem eX.cond(g:Plain P){c x y t Q}{a:Act}{w}(f:a.eval c=.bool t)(h:eX P (if t then x else y) Q a w):eX P (.cond c x y) Q a w:=
 λb k e d=>aJ.move g (kP d.items d.frames) (λ_=>.one (step_cond f)) λ_=>h b k e d
theorem eX.block(s:Plain P){id c Q a w}(t:∀a w r d,Q .normal a w->Q .normal a (re w r d))(h:eX P c (Exit.inBlock id Q) a w):eX P (.block id c) Q a w:=by
 intro b k u j;refine aJ.move s (kP j.items j.frames) (λ_=>.one step_block) λ_=>?_;refine(h b (.inBlock id::k) u ⟨bP trivial j.items,j.frames,λf a w x=>?_,λl a w x=>?_⟩).then ?_
 .by_cases hid:f=id
  .exact⟨k,by simp[exitTo,hid]⟩
  .simp only[Exit.inBlock,hid,fA]at x;let⟨m,hk⟩:=j.KL f a w x;have:(id==f)=false:=by simp;exact λh=>hid h.symm
   exact⟨m,by simp[exitTo,this,hk]⟩
 .let⟨m,hk⟩:=j.gotos l a w x;exact⟨m,by simp[gotoIn,hk]⟩
 rintro g v ⟨e,p,i,o⟩;cases e with
 |normal=>
  cases o;exact(aJ.move s (tq (jP (bP (it:=.inBlock id) trivial j.items)) j.frames) (λ_=>.one step_inBlock) λ_=>.here λr d=>⟨.normal,p,t _ _ _ _ i,rfl⟩).leads
 |exit f=>
  let⟨m,n,q⟩:=o;by_cases hid:f=id
  .subst hid;simp only[Exit.inBlock,fB]at i;simp[exitTo]at n;subst n;exact .here ⟨.normal,p,i,q⟩
  .simp only[Exit.inBlock,hid,fA]at i;have:(id==f)=false:=by simp;exact λh=>hid h.symm
   simp[exitTo,this]at n;exact .here ⟨.exit f,p,i,m,n,q⟩
 |goto l=>obtain⟨m,n,q⟩:=o;simp[gotoIn]at n;exact .here ⟨.goto l,p,i,m,n,q⟩
 |ret=>exact .here ⟨.ret,p,i,o⟩
 |panic chain=>exact .here ⟨.panic chain,p,i,o⟩
 |outgrown=>exact o.elim
theorem eX.loop(r:Plain P){c Q a w}(I:Nat->Act->aC->bQ)(d)(i:I d a w)
  (h:∀n a w,I n a w->eX P c (Exit.then (λf w'=>∃m,m<n/\I m f w') Q) a w):eX P (.loop c) Q a w:=by
 intro b k p j;let o:∀n a w,I n a w->aJ P (λg w'=>∃e f,Q e f w'/\At b k p g e f) (G (b.at a (.code c::.inLoop c::k)) p) w:=by
  intro n
  induction n using Nat.strongRecOn with
  |_ n t=>
   intro a w s;apply(h n a w s b (.inLoop c::k) p (j.pass rfl trivial (λ_ _ _ x=>x) λ_ _ _ x=>x)).then
   rintro g w' ⟨e,f,l,q⟩;cases e with
   |normal=>
    cases q;let⟨m,hm,l⟩:=l;exact(aJ.move r (tq (jP (bP (it:=.inLoop c) trivial j.items)) j.frames) (λ_=>.one step_inLoop) λ_=>t m hm f w' l).leads
   |_=>exact .here ⟨_,f,l,At.pass (x:=.inLoop c) rfl aF q⟩
 exact aJ.move r (kP j.items j.frames) (λ_=>.one step_loop) λ_=>o d a w i
theorem eX.ret(f:Plain P){Q a w}(h:∀b d,Q .ret a (re w b d)):eX P .ret Q a w:=
 λ_ _ _ c=>aJ.move f (kP c.items c.frames) (λ_=>.one step_ret) λe=>.here λb d=>⟨.ret,a,h b d,_,e.ok.frame,rfl⟩
theorem eX.exit(e:Plain P){id Q a w}(h:∀b d,Q (.exit id) a (re w b d)):eX P (.exit id) Q a w:=λ_ _ _ c=>by
 let⟨k',hk⟩:=c.KL id a _ (h w.tape w.drawn)
 exact aJ.move e (kP c.items c.frames) (λ_=>.one (step_exit hk)) λ_=>.here λb d=>⟨.exit id,a,h b d,k',hk,rfl⟩
def iq(P:Program)(d:aU Oper)(Q:Exit->Act->aC->Prop)(l:aB Nat)(a:Act)(w:aC):Prop:=
 ∀(b:Frame)(k:aB Item)(c:aB Frame),AB Q k c->aJ P (λg h=>∃e f,Q e f h/\At b k c g e f) (G (b.at a (.inRegion d l::k)) c) w
theorem lC{c b}(d:bK c)(h:∀x∈b,bK x):∀x∈c::b,bK x:=λx a=>by
 obtain rfl|a:=gA.1 a
 .exact d
 .exact h x a
theorem pY{b:Frame}{a c l k d}(h:∀e∈k,cY e)(g:∀f∈d,bK f):gg (G (b.at a (.inRegion c l::k)) d):=tq (jP (bP trivial h)) g
theorem iq.nil(f:Plain P){c Q a w}(h:∀b d,Q .normal a (re w b d)):iq P c Q [] a w:=
 λ_ _ _ e=>aJ.move f (pY e.items e.frames) (λ_=>.one step_region_end) λ_=>.here λb d=>⟨.normal,a,h b d,rfl⟩
theorem WM{ops Q i rest K a w}(r:¬LetsOut Q)(h:wpOp P ops Q i K a w)(b:Frame)(k cs):
  (∃t g,K t g/\Steps P (lone (b.at a (.inRegion ops (i::rest)::k)) cs w) (lone (b.at t (.inRegion ops rest::k)) cs g))\/
  (∃chain g,Q (.panic chain) a g/\Steps P (lone (b.at a (.inRegion ops (i::rest)::k)) cs w) (lone {b.at a (.inRegion ops (i::rest)::k)with mode:=.panicking chain} cs g)):=by
 unfold wpOp at h;cases n:ops[i]? with
 |none=>
  simp only[n]at h;let q:=step_op_skip (P:=P) (b:=b) (a:=a) (k:=k) (cs:=cs) (w:=w) (ops:=ops) (i:=i) (rest:=rest) (by simp[n]);simp only[n,Option.bind_none,Act.put]at q;exact .inl ⟨a,w,h,.one q⟩
 |some o=>
  simp only[n]at h;by_cases hw:Region.wanted o (yielded ops a.tmps)=true
  .simp only[hw,fB]at h;obtain h|⟨_,h⟩:=h
   case inr=>exact absurd h r
   simp only[Oper.wp,Oper.upon]at h;let p:=stepG_op (P:=P) (b:=b) (k:=k) (cs:=cs) (w:=w) (rest:=rest) n hw;let j:∀v,(b.at a (.inRegion ops (i::rest)::k)).finish v=b.at (a.put o.dst v) (.inRegion ops rest::k):=by
    intro v;rw[Frame.finish_at,n];rfl
   split at h
   .rename_i v g l;refine .inl ⟨_,g,h,.one (step_lone_go ?_)⟩;rw[p,<-j];simp[stepG.apply,l]
   .rename_i g l;refine .inl ⟨_,g,h,.one (step_lone_go ?_)⟩;rw[p,<-j];simp[stepG.apply,l]
   .rename_i d g l;refine .inl ⟨_,g,h,.one (step_lone_go ?_)⟩;have:({b.at a (.inRegion ops (i::rest)::k)with defers:=d::a.defers}:Frame).finish undef=
      b.at ({a with defers:=d::a.defers}.put o.dst undef) (.inRegion ops rest::k):=by
     have:=Frame.finish_at b {a with defers:=d::a.defers} ops i rest k undef;rw[n]at this;exact this
    rw[p];simp only[stepG.apply,Sem.runT_eq,l,GStep.bare_after];exact oB (λs=>GStep.go {frame:=s,callers:=cs,status:=.running,dying:=none} g) this
   .rename_i f m g l;let⟨e,w'',s,hR,Je,_,TM⟩:=h (b.at a (.inRegion ops (i::rest)::k)::cs);let c:step P (lone (b.at a (.inRegion ops (i::rest)::k)) cs w)=
      .next (lone (Frame.enter P f m .normal) (b.at a (.inRegion ops (i::rest)::k)::cs) g):=
     step_lone_go (by rw[p];simp[stepG.apply,l,Frame.at])
    cases e with
    |returned v=>
     refine .inl ⟨_,w'',hR,.head c (Je.trans (.one ?_))⟩;rw[<-j];exact step_leave_returned TM
    |panicked chain=>
     refine .inr ⟨chain,w'',hR,.head c (Je.trans (.one ?_))⟩;rw[<-Frame.raise_at];exact step_leave_panicked TM
    |outgrown=>exact absurd hR r
   .rename_i row m g l;let⟨v,w'',hR,Je⟩:=h (b.at a (.inRegion ops (i::rest)::k)) cs;let c:step P (lone (b.at a (.inRegion ops (i::rest)::k)) cs w)=
      .next (lone (Frame.ofRow P row m .normal) (b.at a (.inRegion ops (i::rest)::k)::cs) g):=
     step_lone_go (by rw[p];simp[stepG.apply,l,Frame.at])
    refine .inl ⟨_,w'',hR,.head c ?_⟩;rw[<-j];exact Je
   .rename_i v g l;refine .inr ⟨_,g,h,.one (step_lone_go ?_)⟩;rw[p,<-Frame.raise_at];simp[stepG.apply,l]
   .exact h.elim
  .simp only[hw,fA,gI]at h;let q:=step_op_skip (P:=P) (b:=b) (a:=a) (k:=k) (cs:=cs) (w:=w) (ops:=ops) (i:=i) (rest:=rest)
    (by simp[n];simpa using hw)
   simp only[n,Option.bind_some]at q;exact .inl ⟨_,w,h,.one q⟩
theorem iq.cons(s:Plain P){e Q i rest a w}(K)(u:∀a w m d,K a w->K a (re w m d))(t:∀c a w m d,Q (.panic c) a w->Q (.panic c) a (re w m d))(q:¬LetsOut Q)(h:∀m d,wpOp P e Q i K a (re w m d))
  (r:∀j l,K j l->iq P e Q rest j l):iq P e Q (i::rest) a w:=by
 intro b k o p;let f:aJ P (λg l=>(∃j,K j l/\g=G (b.at j (.inRegion e rest::k)) o)\/(∃chain,Q (.panic chain) a l/\g=G {b.at a (.inRegion e (i::rest)::k)with mode:=.panicking chain} o)) (G (b.at a (.inRegion e (i::rest)::k)) o) w:=by
  refine .of_steps s ?_ (pY p.items p.frames) λm d=>?_
  .rintro g w m d (⟨j,f,n⟩|⟨c,f,n⟩)
   .exact .inl ⟨j,u _ _ _ _ f,n⟩
   .exact .inr ⟨c,t _ _ _ _ _ f,n⟩
  .obtain⟨j,l,f,n⟩|⟨c,l,f,n⟩:=WM (rest:=rest) q (h m d) b k o
   .exact⟨_,l,n,ft _ _,λ_=>.inl ⟨j,f,rfl⟩⟩
   .exact⟨_,l,n,ft _ _,λ_=>.inr ⟨c,f,rfl⟩⟩
 apply f.then
 rintro g l (⟨j,f,rfl⟩|⟨c,f,rfl⟩)
 .exact(r j l f b k o p).leads
 .exact .here ⟨.panic c,a,f,_,bP (it:=.inRegion e (i::rest)) trivial p.items,rfl⟩
theorem iq.call(t:Plain P){j Q i rest a w o f args R}(A:j[i]?=some o)(hw:Region.wanted o (yielded j a.tmps)=true)
  (D:∀l d,(execOp a.eval o).run P (re w l d)=.ok (.enter f args) (re w l d)) (h:cI P f args w R) (s:∀c m,R (.panicked c) m->∀l d,Q (.panic c) a (re m l d)) (u:∀m,¬R .outgrown m)
  (C:∀v m,R (.returned v) m->iq P j Q rest (a.put o.dst v) m):iq P j Q (i::rest) a w:=by
 intro b k r n;let q:∀v,(b.at a (.inRegion j (i::rest)::k)).finish v=b.at (a.put o.dst v) (.inRegion j rest::k):=by
  intro v;rw[Frame.finish_at,A];rfl
 let p:bK (b.at a (.inRegion j (i::rest)::k)):=jP (bP trivial n.items);refine aJ.step t (pY n.items n.frames) (λl d=>.one (step_lone_go (fr':=Frame.enter P f args .normal) (cs':=b.at a (.inRegion j (i::rest)::k)::r) ?_)) λ_=>?_
 .rw[stepG_op A hw];simp[stepG.apply,D,Frame.at]
 apply(h (b.at a (.inRegion j (i::rest)::k)::r) (lC p n.frames)).then
 rintro g m ⟨e,E,rfl,B,x,_,z⟩;let y:=tq B (lC p n.frames);cases e with
 |returned v=>
  refine(aJ.step t y (fr':=b.at (a.put o.dst v) (.inRegion j rest::k)) (cs':=r) (λl d=>.one ?_) λ_=>C v m x b k r n).leads;rw[<-q];exact step_leave_returned (qk z l d)
 |panicked c=>
  refine(aJ.step t y (fr':={b.at a (.inRegion j (i::rest)::k)with mode:=.panicking c}) (cs':=r) (λl d=>.one ?_) λ_=>.here λl d=>⟨.panic c,a,s c m x l d,_,bP (it:=.inRegion j (i::rest)) trivial n.items,rfl⟩).leads;rw[<-Frame.raise_at];exact step_leave_panicked (qk z l d)
 |outgrown=>exact absurd x (u m)
theorem eX.region(f:Plain P){id c Q a w}(h:iq P c Q (List.range c.size) a w):eX P (.region id c false) Q a w:=
 λb k e d=>aJ.move f (kP d.items d.frames) (λ_=>.one step_region) λ_=>h b k e d
theorem eX.LS(n:Plain P){id c Q a w}(h:∀t,iq P c Q (Region.schedule (P.follows .mixedOrders) c t) a w):eX P (.region id c true) Q a w:=by
 intro b k f j;let i:aJ P (λg l=>(∃t,g=G (b.at a (.inRegion c (Region.schedule (P.follows .mixedOrders) c t)::k)) f)/\∃e d,l=re w e d) (G (b.at a (.code (.region id c true)::k)) f) w:=by
  refine .of_steps n ?_ (kP j.items j.frames) λe d=>⟨_,re w e (d+1),.one step_region_draw,ft _ _,λ_=>⟨⟨_,rfl⟩,e,d+1,rfl⟩⟩
  .rintro g l e d ⟨i,m,o,rfl⟩;exact⟨i,e,d,rfl⟩
 apply i.trans;rintro g l ⟨⟨t,rfl⟩,e,d,rfl⟩;exact(h t b k f j).other e d
theorem cI.wX(u:Plain P){f i c a w R}(t:∀e w q d,R e w->R e (re w q d))(p:P.funcs[f]?=some i)(z:i.body=some c)
  (h:eX P c (bodyPost P i R) {tmps:=a++Array.replicate (i.ntmps-a.size) undef,defers:=[]} w):cI P f a w R:=by
 intro y k;let b:Frame:={(default:Frame)with fn:=f,kind:=.normal};let j:Frame.enter P f a .normal=b.at {tmps:=a++Array.replicate (i.ntmps-a.size) undef,defers:=[]} [.code c]:=by
  simp[Frame.enter,Frame.at,p,z,b]
 rw[j];apply(h b [] y ⟨λ_ h=>(by cases h),k,λ_ _ _ x=>x.elim,λ_ _ _ x=>x.elim⟩).then
 rintro g B ⟨e,A,n,o⟩;cases e with
 |normal=>
  cases o;let⟨hd,v,hr,hv⟩:=n;refine(aJ.move u (tq (jP λ_ h=>by cases h) k) (λ_=>.one step_end) λr=>.here λq d=>⟨.returned v,_,rfl,r.ok.frame,t _ _ _ _ hv,rfl,rfl,hd,rfl,i,p,nV hr q d⟩).leads
 |ret=>
  obtain⟨m,s,rfl⟩:=o;let⟨hd,v,hr,hv⟩:=n;exact .here ⟨.returned v,_,rfl,s,hv,rfl,rfl,hd,rfl,i,p,hr⟩
 |panic chain=>
  obtain⟨m,s,rfl⟩:=o;let⟨hd,hv⟩:=n;exact .here ⟨.panicked chain,_,rfl,s,hv,rfl,rfl,hd,i,p⟩
 |exit id=>exact n.elim
 |goto l=>exact n.elim
 |outgrown=>exact o.elim
end Lf
end Go.Proofs.YtpbbmagjhkakgaaGreatDoor
