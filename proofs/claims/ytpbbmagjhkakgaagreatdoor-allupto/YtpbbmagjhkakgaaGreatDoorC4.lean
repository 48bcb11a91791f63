import Derived.Test.YtpbbmagjhkakgaaGreatDoorC2
import Derived.Deep.CutRange
import Derived.Deep.Onto
namespace Go.Proofs.YtpbbmagjhkakgaaGreatDoor
set_option maxHeartbeats 8000000
set_option maxRecDepth 100000
section
open Go.Deep (BT)
def dC:aB (aB aV)->BT c_->aB (aB aV)
 |L,.nil=>L
 |L,.node b o a l r=>if bF (.node b o a l r)∈dC (dC L l) r then dC (dC L l) r else dC (dC L l) r++[bF (.node b o a l r)]
def zi(L:aB (aB aV)):BT c_->Int
 |.nil=>0
 |.node b o a l r=>match L.findIdx? (· ==bF (.node b o a l r))with|some i=>(i:Int)+1|none=>0
def Has(L:aB (aB aV)):BT c_->Prop
 |.nil=>True
 |.node b o a l r=>bF (.node b o a l r)∈L
def vt(L:aB (aB aV)):BT c_->Key
 |.nil=>⟨0,ByteArray.empty,0,0,0,0⟩
 |.node _ _ a l r=>⟨a.op,a.name,a.lo,a.hi,zi L l,zi L r⟩
def fZ(x:BT c_):Prop:=Good x/\mF x
def JC(x:BT c_):Prop:=x=.nil\/fZ x
def yu(L:aB (aB aV)):BT c_->Prop
 |.nil=>True
 |.node _ _ _ l r=>Has L l/\Has L r
theorem fZ.parts{b o a l r}(h:fZ (.node b o a l r)):JC l/\JC r/\b=0/\o=0:=by
 let⟨hg,hz⟩:=h;obtain⟨rfl,rfl,d,zr⟩:=hz;obtain⟨_,_,_,_,rfl,rfl⟩|⟨_,_,_,_,rfl,rfl⟩|⟨_,_,_,_,c,e⟩|⟨_,_,_,_,c,rfl⟩:=hg
 .exact⟨.inl rfl,.inl rfl,rfl,rfl⟩
 .exact⟨.inl rfl,.inl rfl,rfl,rfl⟩
 .exact⟨.inr ⟨c,d⟩,.inr ⟨e,zr⟩,rfl,rfl⟩
 .exact⟨.inr ⟨c,d⟩,.inl rfl,rfl,rfl⟩
theorem Ei{L b o a l r}(h:Has L (.node b o a l r)):∃i:Nat,zi L (.node b o a l r)=(i)+1/\L[i]?=some (bF (.node b o a l r)):=by
 simp only[zi];cases c:L.findIdx? (· ==bF (.node b o a l r))with
 |none=>
  rw[Pw]at c;have:=c _ h;simp at this
 |some i=>
  let⟨hi,h2,_⟩:=RF.1 c;refine⟨i,rfl,?_⟩;rw[fG hi];simpa using h2
theorem KX{L x y}(g:JC x)(m:JC y)(f:Has L x)(d:Has L y)(h:zi L x=zi L y):x=y:=by
 cases x with
 |nil=>
  cases y with
  |nil=>rfl
  |node b o a l r=>
   have⟨i,h1,_⟩:=Ei d;rw[h1]at h;have:zi L .nil=0:=rfl;omega
 |node b o a l r=>
  have⟨i,h1,h2⟩:=Ei f;cases y with
  |nil=>
   rw[h1]at h;have:zi L .nil=0:=rfl;omega
  |node p k q s n=>
   have⟨j,h3,h4⟩:=Ei d;have c:i=j:=aA;subst c;rw[h2]at h4;have fx':fZ (.node b o a l r):=by
    obtain e|e:=g
    .cases e
    .exact e
   have fy':fZ (.node p k q s n):=by
    obtain e|e:=m
    .cases e
    .exact e
   exact GL fx'.1 fy'.1 fx'.2 fy'.2 (oW h4)
theorem Tk{L x y}(e:fZ x)(g:fZ y)(f:yu L x)(i:yu L y)(h:vt L x=vt L y):x=y:=by
 cases x with
 |nil=>exact absurd e.1 id
 |node b o a l r=>
  cases y with
  |nil=>exact absurd g.1 id
  |node t q n u s=>
   obtain⟨p,m,rfl,rfl⟩:=e.parts;obtain⟨c,d,rfl,rfl⟩:=g.parts;simp only[vt,Key.mk.injEq]at h;have⟨e1,e2,e3,e4,e5,e6⟩:=h;have j:=KX p c f.1 i.1 e5;have k:=KX m d f.2 i.2 e6;subst j;subst k;cases a;cases n;simp only at e1 e2 e3 e4;subst e1;subst e2;subst e3;subst e4;rfl
structure Twin(K:aB Key)(L:aB (aB aV)):Prop where
 len:K.length=L.length
 each:∀i (h:i<L.length),∃x,L[i]=bF x/\fZ x/\yu L x/\K[i]?=some (vt L x)
theorem Twin.nil:Twin [] []:=⟨rfl,λi h=>absurd h (zX i)⟩
theorem Twin.find{K L}(h:Twin K L){x}(d:fZ x)(n:yu L x):q9 K (vt L x)=L.findIdx? (· ==bF x):=by
 let f:∀i (b:i<K.length) (c:i<L.length),BK (vt L x) K[i]=(L[i]==bF x):=by
  intro i b c;let⟨y,e1,fy,py,e2⟩:=h.each i c;rw[fG b]at e2;rw[(oW e2),e1];by_cases a:x=y
  .subst a;rw[rM.2 rfl];simp
  .let p:BK (vt L x) (vt L y)=false:=by
    cases q:BK (vt L x) (vt L y)with
    |true=>exact absurd (Tk d fy n py (rM.1 q)) a
    |false=>rfl
   let o:(bF y==bF x)=false:=by
    simp;exact λe=>a (GL d.1 fy.1 d.2 fy.2 e.symm)
   rw[p,o]
 unfold q9;cases m:L.findIdx? (· ==bF x)with
 |none=>
  rw[Pw]at m⊢;intro k b;obtain⟨i,hi,rfl⟩:=List.getElem_of_mem b;let c:i<L.length:=h.len▸hi;rw[f i hi c];exact m _ (w_ c)
 |some i=>
  let⟨hi,h2,h3⟩:=RF.1 m;let b:i<K.length:=h.len▸hi;refine RF.2 ⟨b,by rw[f i b hi];exact h2,λj r=>?_⟩;let g:j<L.length:=aA;let l:j<K.length:=aA;rw[f j l g];exact h3 j r
def Pre(L M:aB (aB aV)):Prop:=∃N,M=L++N
theorem Pre.refl(L):Pre L L:=⟨[],aE⟩
theorem Pre.trans{L M N}(h:Pre L M)(g:Pre M N):Pre L N:=by
 obtain⟨A,rfl⟩:=h;obtain⟨B,rfl⟩:=g;exact⟨A++B,aE⟩
theorem Has.pre{L M x}(h:Has L x)(g:Pre L M):Has M x:=by
 obtain⟨N,rfl⟩:=g;cases x with
 |nil=>trivial
 |node b o a l r=>exact List.mem_append_left _ h
theorem Ej{L M x}(h:Has L x)(g:Pre L M):zi M x=zi L x:=by
 obtain⟨N,rfl⟩:=g;cases x with
 |nil=>rfl
 |node b o a l r=>
  simp only[zi];rw[List.findIdx?_append];cases c:L.findIdx? (· ==bF (.node b o a l r))with
  |some i=>rfl
  |none=>
   exfalso
   rw[Pw]at c;have:=c _ (show bF (.node b o a l r)∈L from h);simp at this
def PF(L:aB (aB aV))(s:aB aV):aB (aB aV):=if s∈L then L else L++[s]
theorem R6(L s):Pre L (PF L s):=by
 unfold PF;split
 .exact Pre.refl L
 .exact⟨[s],rfl⟩
theorem Twin.add{K L}(h:Twin K L){b o a l r}(v:fZ (.node b o a l r))(p:yu L (.node b o a l r)):
  Twin (rv K (vt L (.node b o a l r))).2 (PF L (bF (.node b o a l r)))/\(rv K (vt L (.node b o a l r))).1=zi (PF L (bF (.node b o a l r))) (.node b o a l r)/\Has (PF L (bF (.node b o a l r))) (.node b o a l r):=by
 have q:=h.find v p;have n:∀M,zi M (.node b o a l r)=match M.findIdx? (· ==bF (.node b o a l r))with|some i=>(i:Int)+1|none=>0:=λ_=>rfl
 have m:∀M,Has M (.node b o a l r)=(bF (.node b o a l r)∈M):=λ_=>rfl;have c:∀M,Pre L M->yu M (.node b o a l r):=λM g=>⟨p.1.pre g,p.2.pre g⟩;have f:∀M,Pre L M->∀y,yu L y->vt M y=vt L y:=by
  intro M g y d;cases y with
  |nil=>rfl
  |node b o a l r=>simp only[vt];rw[Ej d.1 g,Ej d.2 g]
 have t:∀M,Pre L M->∀y,yu L y->yu M y:=by
  intro M g y d;cases y with
  |nil=>trivial
  |node b o a l r=>exact⟨d.1.pre g,d.2.pre g⟩
 rw[n,m];generalize w:(BT.node b o a l r:BT c_)=x at*;unfold rv PF;cases j:L.findIdx? (· ==bF x)with
 |some i=>
  rw[j]at q;rw[q];have⟨hi,h2,_⟩:=RF.1 j;have k:bF x∈L:=by
   have e:L[i]=bF x:=by simpa using h2
   rw[<-e];exact w_ hi
  rw[bY k,j];exact⟨h,rfl,k⟩
 |none=>
  rw[j]at q;rw[q];have k:¬bF x∈L:=by
   intro k;rw[Pw]at j;have:=j _ k;simp at this
  rw[bN k,List.findIdx?_append,j];have g:Pre L (L++[bF x]):=⟨_,rfl⟩;refine⟨⟨by simp[h.len],?_⟩,?_,aE⟩
  .intro i hi;by_cases s:i<L.length
   .have⟨y,e1,fy,d,e2⟩:=h.each i s;refine⟨y,?_,fy,t _ g y d,?_⟩
    .rw[List.getElem_append_left s];exact e1
    .rw[tZ (h.len▸s),f _ g y d];exact e2
   .have u:i=L.length:=by simp at hi;omega
    subst u;refine⟨x,aE,v,c _ g,?_⟩;rw[f _ g x p,sr (h.len▸aX),h.len];simp
  .simp[h.len]
theorem Bf:∀(x:BT c_)(L:aB (aB aV)),Pre L (dC L x)
 |.nil,L=>Pre.refl L
 |.node b o a l r,L=>((Bf l L).trans (Bf r _)).trans (R6 (dC (dC L l) r) (bF (.node b o a l r)))
theorem Twin.put:∀x,JC x->∀K (L),Twin K L->Twin (cM K x).2 (dC L x)/\(cM K x).1=zi (dC L x) x/\Has (dC L x) x:=by
 intro x
 induction x with
 |nil=>intro _ K L h;exact⟨h,rfl,trivial⟩
 |node b o a l r j i=>
  intro d K L h;let c:fZ (.node b o a l r):=by
   obtain e|e:=d
   .cases e
   .exact e
  let⟨fl,fr,_,_⟩:=c.parts;let⟨t1,n1,m1⟩:=j fl K L h;let⟨t2,n2,m2⟩:=i fr (cM K l).2 (dC L l) t1;let g:=Bf r (dC L l);let f:(⟨a.op,a.name,a.lo,a.hi,(cM K l).1,(cM (cM K l).2 r).1⟩:Key)=vt (dC (dC L l) r) (.node b o a l r):=by
   simp only[vt];rw[n1,n2,Ej m1 g]
  have:=t2.add c ⟨m1.pre g,m2⟩;rw[<-f]at this;exact this
theorem count_eq{K L}(h:Twin K L){x}(a:fZ x):Twin (cM K (aN x)).2 (dC L (aN x)):=(Twin.put (aN x) (.inr ⟨dK a.1,Rz a.2⟩) K L h).1
end
section
open Tryz Go.RowKit Go.Deep
def Xq(x:BT c_):Prop:=∀(v:aF)(B:Nat)(w:aC),bX B w x v->Good x->(bF x).length<=100000000->
 Calls prog 145 #[v] w λe a=>Below w.heap.size w a/\∃d,e=.returned (.string d)/\d.data.toList=bF x
def LU(a:c_):aB aV:=[91]++Lib.itoa a.lo++[44]++Lib.itoa a.hi++[93]
theorem tS{d:aZ}{l}(h:d.data.toList=l):d.size=l.length:=by rw[<-h,fP]
theorem KJ(v)(h:0<=v):Lib.itoa v=Lib.decDigits v.toNat:=C8 v h
theorem Fi{x}(h:x<=400000000):¬9223372036854775807<x:=aA
theorem zb{T:bQ}(h:T:=by repeat(with_reducible (first|exact bw|exact aT|refine L_ ?_|refine Below.al ?_ _|refine Below.tr ?_ bA|refine Below.tr ?_ bB|refine Below.tr ?_ b2))):T:=h
theorem GY(x):Xq x:=by
 induction x with
 |nil=>intro v B w _ u _;exact u.elim
 |node V o0 a l r E P=>
  intro v B w h u g;obtain⟨X,q,L,rfl,_,hX,_,R,hr,_⟩:=wH h u;obtain⟨res,S⟩:∃res,Hid (bF (.node V o0 a l r)=res):=⟨_,rfl⟩;have b:Hid (res=if a.op=116 then[116,114,117,101]else if a.op=97 then a.name.data.toList else if a.op=8743\/a.op=8744\/a.op=83 then[40]++bF l++[32]++uz a++[32]++bF r++[41]else uz a++bF l):=S.out.symm;rw[S.out]at g⊢;have D:(0<=a.lo/\a.lo<=1000000)/\0<=a.hi/\a.hi<=1000000:=by rcases u with⟨_,_,T,h4,_⟩|⟨_,_,T,h4,_⟩|⟨_,_,T,_⟩|⟨_,_,T,_⟩<;>omega
  obtain⟨y,C⟩:=D;replace u:Hid (Good (.node V o0 a l r)):=u;clear h S;obtain⟨⟨x0,x1,x2,x3,x4,x5⟩,_⟩:=hX.facts;have m:Hid (∀W,Bl w W->ru X W (eO a.op) a.name a.lo a.hi (.pointer q) (.pointer L)):=λW h=>h.aS hX;have G:Hid (∀W,Bl w W->W.cell? (Ad X 2)=some (Iv a.lo)/\W.cell? (Ad X 3)=some (Iv a.hi)/\Bl w W):=λW h=>by
   obtain⟨⟨_,_,y2,y3,_⟩,_⟩:=(m.out W h).facts;exact⟨y2,y3,h⟩
  have dA:Hid (∀W,Calls prog 182 #[Iv a.lo] W λe j=>Bl W j/\∃d,e=.returned (.string d)/\d.data.toList=Lib.itoa a.lo):=λW=>by
   have:=BX a.lo.toNat W aA
   rwa[show((a.lo.toNat:Nat):Int)=a.lo from aA,<-KJ _ y.1]at this
  have dB:Hid (∀W,Calls prog 182 #[Iv a.hi] W λe j=>Bl W j/\∃d,e=.returned (.string d)/\d.data.toList=Lib.itoa a.hi):=λW=>by
   have:=BX a.hi.toNat W aA
   rwa[show((a.hi.toNat:Nat):Int)=a.hi from aA,<-KJ _ C.1]at this
  have la:=y8 a.lo y.1 y.2;have lb:=y8 a.hi C.1 C.2;go_enter func145,ntmps145
  go_upto_region 1 with fail
  go_cut [3]from 4 (λv wx=>(∃d,v=.string d/\d.data.toList=LU a)/\Bl w wx)
  case first=>
   go_region_held3 (λj=>j.cell? ⟨X,2,none⟩=some (.int .i64 a.lo)/\j.cell? ⟨X,3,none⟩=some (.int .i64 a.hi)/\Below w.heap.size w j)
    (exact G.out _ zb)
    (first
     |(go_at_call_of 182 (Value.int IntKind.i64 a.lo);refine(dA.out _).mono ?_;rintro e wA ⟨bA,c,rfl,J⟩;have za:c.size<=7:=(by rw[tS J];exact la);have Q:=Fi (x:=1+c.size) aA;have Y:=Fi (x:=1+c.size+1) aA;(try have n3:=Fi (x:=1+c.size+1+f.size) aA);(try have n4:=Fi (x:=1+c.size+1+f.size+1) aA))
     |(go_at_call_of 182 (Value.int IntKind.i64 a.hi);refine(dB.out _).mono ?_;rintro e wB ⟨bB,f,rfl,D⟩;have ze:f.size<=7:=(by rw[tS D];exact lb);(try have n3:=Fi (x:=1+c.size+1+f.size) aA);(try have n4:=Fi (x:=1+c.size+1+f.size+1) aA)))
   all_goals go_wp2_with fail
   all_goals go_meet
   all_goals exact⟨⟨_,rfl,by simp[ByteArray.data_append,J,D,LU]⟩,zb⟩
  case rest=>
   obtain⟨⟨o,rfl,s⟩,bw⟩:=hcut;clear dA dB G;have I:=m.out _ bw;clear x0 x1 x2 x3 x4 x5;obtain⟨⟨x0,x1,x2,x3,x4,x5⟩,_⟩:=I.facts;have zw:o.size<=17:=by rw[tS s];simp[LU];omega
   have b:=b.out;rcases u.out with⟨i,_⟩|⟨i,_⟩|⟨i,_,_,_,O,gr⟩|⟨i,_,_,_,O,_⟩
   .rw[show eO a.op=116 by rw[i];rfl]at x0;rw[bY i]at b;subst b;go_wp2_with fail;go_ret;exact⟨bw,_,rfl,rfl⟩
   .rw[show eO a.op=97 by rw[i];rfl]at x0;rw[bN aA,bY i]at b;replace b:Hid (res=a.name.data.toList):=b;go_wp2_with fail;go_ret;exact⟨bw,_,rfl,b.out.symm⟩
   .rw[bN aA,bN aA,bY i]at b;have k:=g;rw[b]at k;simp only[kt,hY,jl]at k;replace b:Hid (res=[40]++bF l++[32]++uz a++[32]++bF r++[41]):=b;have hC:Hid (∀W,Bl w W->_):=λW F=>E (.pointer q) B W (R.below F) O aA;have hD:Hid (∀W,Bl w W->_):=λW F=>P (.pointer L) B W (hr.below F) gr aA;have A:Hid (∀W,Bl w W->W.cell? (Ad X 4)=some (.pointer q)/\W.cell? (Ad X 5)=some (.pointer L)/\Bl w W):=λW h=>by
     obtain⟨⟨_,_,_,_,N,y5⟩,_⟩:=(m.out W h).facts;exact⟨N,y5,h⟩
    clear g;rcases i with e|e|e<;>rw[e]at x0
    all_goals
     go_wp2_with fail
     go_region_held3 (λj=>j.cell? (Ad X 4)=some (.pointer q)/\j.cell? (Ad X 5)=some (.pointer L)/\Bl w j)
      (exact A.out _ zb)
      (first
       |(go_at_call_of 145 (Value.pointer q);refine(hC.out _ zb).mono ?_;rintro e wA ⟨bA,c,rfl,J⟩;have za:c.size<=100000000:=(by rw[tS J];omega);have n0:=Fi (x:=1+c.size) aA;have Q:=Fi (x:=1+c.size+5) aA;have Y:=Fi (x:=1+c.size+2) aA;have n3:=Fi (x:=1+c.size+2+o.size) aA;have n4:=Fi (x:=1+c.size+2+o.size+1) aA;(try have m0:=Fi (x:=1+c.size+5+f.size) aA);(try have m1:=Fi (x:=1+c.size+5+f.size+1) aA);(try have m2:=Fi (x:=1+c.size+2+o.size+1+f.size) aA);(try have m3:=Fi (x:=1+c.size+2+o.size+1+f.size+1) aA))
       |(go_at_call_of 145 (Value.pointer L);refine(hD.out _ zb).mono ?_;rintro e wB ⟨bB,f,rfl,D⟩;have ze:f.size<=100000000:=(by rw[tS D];omega);(try have m0:=Fi (x:=1+c.size+5+f.size) aA);(try have m1:=Fi (x:=1+c.size+5+f.size+1) aA);(try have m2:=Fi (x:=1+c.size+2+o.size+1+f.size) aA);(try have m3:=Fi (x:=1+c.size+2+o.size+1+f.size+1) aA)))
     all_goals go_wp2_with fail
     all_goals go_ret
     all_goals exact⟨zb,_,rfl,by rw[b.out,uz,e];simp[ByteArray.data_append,J,D,s,lY,dO,LU]⟩
   .rw[if_neg (by omega),if_neg (by omega),if_neg (by omega)]at b;have k:=g;rw[b]at k;simp only[kt]at k;rcases i with e|i
    .rw[e]at x0;replace b:Hid (res=[194,172]++bF l):=by show _=_;rw[b,uz,e];rfl
     have hC:=E (.pointer q) B _ (R.below bw) O aA;go_wp2_with fail;apply hC.mono;rintro e t ⟨b2,d,rfl,H⟩;have zd:d.size<=100000000:=by rw[tS H];omega
     have Q:=Fi (x:=2+d.size) aA;clear hC;go_wp2_with fail;go_ret;exact⟨bw.tr b2,_,rfl,by rw[b.out];simp[ByteArray.data_append,H]⟩
    obtain⟨K,hK,U,hE⟩:∃K:UInt8,(K.toNat=89\/K.toNat=79\/K.toNat=72)/\eO a.op=(K.toNat:Int)/\Hid (res=[K]++LU a++bF l):=by
     rcases i with e|e|e
     .exact⟨89,aG,by rw[e];rfl,by show _=_;rw[b,uz,e];simp[lY,dO,LU]⟩
     .exact⟨79,aG,by rw[e];rfl,by show _=_;rw[b,uz,e];simp[lY,dO,LU]⟩
     .exact⟨72,aG,by rw[e];rfl,by show _=_;rw[b,uz,e];simp[lY,dO,LU]⟩
    clear b;rw[U]at x0;have z:∀n:Int,(K.toNat:Int)≠n->((K.toNat:Int)==n)=false:=λ_ h=>by simpa using h
    have a1:=z 116 aA;have ag:=z 97 aA;have ah:=z 33 aA;have ai:=z 38 aA;have Z:=z 124 aA;have aj:=z 83 aA;have a6:=uM ((wc.alloc (.cells #[.int .u8 (K.toNat:Int)] 5)).drew) wc.heap.size (K.toNat:Int) K rfl (show(wc.alloc (.cells #[.int .u8 (K.toNat:Int)] 5)).cell? _=_ by rw[E_ _ _ _ _ rfl];rfl);have hC:Hid (∀W,Bl w W->_):=λW F=>E (.pointer q) B W (R.below F) O aA;have A:Hid (∀W,Bl w W->W.cell? (Ad X 0)=some (.int .u8 (K.toNat:Int))/\W.cell? (Ad X 4)=some (.pointer q)/\Bl w W):=λW h=>by
     obtain⟨⟨M,_,_,_,N,_⟩,_⟩:=(m.out W h).facts;rw[U]at M;exact⟨M,N,h⟩
    have Q:=Fi (x:=1+o.size) aA;have a8:X<wc.heap.size:=aL I;have ae:X≠wc.heap.size:=aA;clear hK i z;go_wp2_with fail
    go_region_with (first|(go_at_call_of 145 (Value.pointer q);refine(hC.out _ zb).mono ?_;rintro e t ⟨b2,d,rfl,H⟩;have zd:d.size<=100000000:=(by rw[tS H];omega);have Y:=Fi (x:=1+o.size+d.size) aA;have a7:=uM (t.alloc (.cells #[.int .u8 (K.toNat:Int)] 5)) t.heap.size (K.toNat:Int) K rfl (by rw[E_ _ _ _ _ rfl];rfl);have b3:=A.out t zb;obtain⟨M,N,b4⟩:=b3;have af:X<t.heap.size:=(eS M);have ad:X≠t.heap.size:=aA;(try have aa:=uM t wc.heap.size (K.toNat:Int) K rfl ((b2.cell (p:=(Ad wc.heap.size 0)) aE).trans (show(wc.alloc (.cells #[.int .u8 (K.toNat:Int)] 5)).cell? _=_ by rw[E_ _ _ _ _ rfl];rfl)))))
    all_goals
     as_aux_lemma=>
      go_wp2_with fail;go_ret;exact⟨zb,_,rfl,by rw[hE.out];simp[ByteArray.data_append,H,s]⟩
theorem nT:(prog.info? 9).map (λi=>(i.zero,i.size,i.bytes))=some (some (.string ⟨#[]⟩),1,16):=aM
def strs(L:aB (aB aV)):aB aF:=L.map λs=>.string ⟨s.toArray⟩
theorem LI(L):(strs L).length=L.length:=by simp[strs]
theorem UC(L):∀u∈strs L,u.oneCell'=true:=by
 intro u a;simp[strs]at a;obtain⟨s,_,rfl⟩:=a;rfl
theorem qI:∀{x:BT c_},Good x->(bF x).length<=40*cF x
 |.nil,h=>h.elim
 |.node b o a l r,h=>by
  let n:bF (.node b o a l r)=if a.op=116 then[116,114,117,101]
   else if a.op=97 then a.name.data.toList
   else if a.op=8743\/a.op=8744\/a.op=83 then[40]++bF l++[32]++uz a++[32]++bF r++[41]
   else uz a++bF l:=rfl
  let i:cF (.node b o a l r)=cF l+cF r+1:=rfl
  rw[n,i]
  obtain⟨c,_⟩|⟨c,⟨_,p,_⟩,_⟩|⟨c,f,e,j,d,m⟩|⟨c,f,e,j,d,_⟩:=h
  .rw[bY c];simp;omega
  .rw[bN aA,bY c,fP];omega
  .let g:=qI d
   let q:=qI m
   let k:=C9 a e
   rw[bN aA,bN aA,bY c]
   simp only[kt,hY,jl]
   omega
  .let g:=qI d
   let k:=C9 a e
   rw[bN aA,bN aA,bN aA]
   simp only[kt]
   omega
theorem j7:∀(x:BT c_)(L:aB (aB aV)),L.length<=(dC L x).length/\(dC L x).length<=L.length+cF x
 |.nil,L=>by simp[dC,cF]
 |.node b o a l r,L=>by
  let d:=j7 l L
  let c:=j7 r (dC L l)
  simp only[dC,cF]
  split
  .omega
  .simp;omega
theorem K3{w:aC}{base:Nat}{v:aF}{L:aB (aB aV)}(h:w.ownsRow base 9 1 v L.length (strs L)):∃b k,v=.slice b L.length k/\∀(j:Nat)(y:aB aV),L[j]?=some y->∃g,b=some (Ad g 0)/\w.cell? (Ad g j)=some (Value.string ⟨y.toArray⟩):=by
 by_cases i:L.length=0
 .obtain⟨_,⟨rfl,_⟩|⟨g,cap,l,rfl,_⟩⟩:=h
  .exact⟨none,0,by rw[i],λj y a=>by have:=(e_.1 a).1;omega⟩
  .exact⟨_,cap,rfl,λj y a=>by have:=(e_.1 a).1;omega⟩
 .obtain⟨g,cap,rfl,d,e,f,c⟩:=fO h aA;exact⟨_,cap,rfl,λj y a=>⟨g,rfl,by rw[h.cellAt j (by have:=(e_.1 a).1;omega)];simp[strs,a]⟩⟩
theorem Vk{a:Type}{l:aB a}{i y}(h:l[i]?=some y):l.drop i=y::l.drop (i+1):=by
 let⟨hi,e⟩:=e_.1 h;rw[oV hi,e]
def R4(x:BT c_):Prop:=∀(v c:aF)(B a:Nat)(L:aB (aB aV))(w:aC),bX B w x v->Good x->cF x<=100000->w.ownsRow a 9 1 c L.length (strs L)->a<=w.heap.size->L.length+cF x<=1000000000000->
 Calls prog 105 #[c,v] w λe d=>Bl w d/\∃b,e=.returned b/\d.ownsRow a 9 1 b (dC L x).length (strs (dC L x))
theorem fN{w c base size n e v xs}(h:w.ownsRow base e size v n xs)(k:Bl w c):c.ownsRow base e size v n xs:=by
 obtain⟨b,⟨rfl,d⟩|⟨g,cap,a,rfl,j,f,i⟩⟩:=h
 .exact⟨b,.inl ⟨rfl,d⟩⟩
 .exact⟨b,.inr ⟨g,cap,a,rfl,j,k.aS f,i⟩⟩
theorem xY(m o:Nat)(a:c_)(l r:BT c_)(P:aB (BT c_))(O:∀y,y∈P->R4 y/\Good y/\cF y<=100000)(au:(P.map cF).sum<=cF (.node m o a l r))(S:∀L,P.foldl dC L=dC (dC L l) r)(T V:aQ a_)(bd:T=none->V=none)
  (ae:P.length=(ml T++ml V).length) (X B BL:Nat) (vl:aF) (L:aB (aB aV)) (w:aC) (hX:ru X w (eO a.op) a.name a.lo a.hi (.pointer T) (.pointer V))
  (aq:∀(j:Nat)(y:BT c_),P[j]?=some y->∃p,(ml T++ml V)[j]?=some (Value.pointer p)/\bX B w y (Value.pointer p))
  (hx:bX B w (.node m o a l r) (Pt X)) (hg:Good (.node m o a l r)) (hn:cF (.node m o a l r)<=100000) (hL:w.ownsRow BL 9 1 vl L.length (strs L)) (bp:BL<=w.heap.size) (bh:L.length+cF (.node m o a l r)<=1000000000000):
  Calls prog 105 #[vl,Pt X] w λe w'=>Bl w w'/\∃v',e=.returned v'/\w'.ownsRow BL 9 1 v' (dC L (.node m o a l r)).length (strs (dC L (.node m o a l r))):=by
 have A:=EA X w _ _ _ _ T V hX bd;have bq:=qI hg;have J:Hid (dC L (.node m o a l r)=if bF (.node m o a l r)∈P.foldl dC L then P.foldl dC L else P.foldl dC L++[bF (.node m o a l r)]):=by show _=_;rw[S];rfl
 have bs:=j7 l L;have ai:=j7 r (dC L l);rw[<-S]at ai;have bl:cF (.node m o a l r)=cF l+cF r+1:=rfl;have aa:(P.foldl dC L).length<=1000000000000:=aA;generalize dC L (.node m o a l r)=res at*;generalize hs:bF (.node m o a l r)=C at*;have aj:Hid (∀W,Bl w W->Calls prog 145 #[Pt X] W λe w'=>Bl W w'/\∃d,e=.returned (.string d)/\d.data.toList=C):=λW J=>by
  have:=(GY (.node m o a l r)) (Pt X) B W (hx.below J) hg (by rw[hs];omega);rw[hs]at this;exact this
 generalize(BT.node m o a l r:BT c_)=x at*;generalize ax:ml T++ml V=vs at*;obtain⟨i0,hi,Z,a1,R⟩:=eB nT;go_enter func105,ntmps105;go_wp2_with fail;apply A.mono;rintro e w1 ⟨b1,v,rfl,G⟩;clear A;have b9:∃pv cap,v=.slice pv vs.length cap/\∀j y,vs[j]?=some y->∃g,pv=some (Ad g 0)/\g<w1.heap.size/\w1.cell? (Ad g j)=some y:=by
  by_cases h0:vs.length=0
  .obtain⟨_,⟨rfl,_⟩|⟨g,cap,bc,rfl,_⟩⟩:=G
   .exact⟨none,0,by rw[h0],λj y s=>by have:=(e_.1 s).1;omega⟩
   .exact⟨_,cap,rfl,λj y s=>by have:=(e_.1 s).1;omega⟩
  .obtain⟨g,cap,rfl,c8,ay,bm,c6⟩:=fO G aA;exact⟨_,cap,rfl,λj y s=>⟨g,rfl,ay,by rw[G.cellAt j (by have:=(e_.1 s).1;omega)];exact s⟩⟩
 obtain⟨pv,cap,rfl,H⟩:=b9;rw[<-ae];have bk:(P.length:Int)<=2:=by
  have:P.length<=2:=by rw[ae,<-ax];cases T<;>cases V<;>simp[ml]
  omega
 go_wp2;go_loopw [0,6] (λlv iv wr=>∃(i:Nat)(b:aB (aB aV)),iv=Iv i/\i<=P.length/\wr.ownsRow BL 9 1 lv b.length (strs b)/\Bl w1 wr/\b.length+((P.drop i).map cF).sum<=1000000000000/\Hid ((P.drop i).foldl dC b=P.foldl dC L)) (λ_ iv _=>P.length-(intOf iv).toNat)
 case atStart=>exact⟨0,L,rfl,cD,fN hL b1,aT,by rw[vU];omega,by rw[vU];rfl⟩
 case round=>
  obtain⟨i,b,rfl,br,F,D,M,hF⟩:=hrel;by_cases a7:i<P.length
  .have aw:decide ((i:Int)<(P.length:Int))=true:=by simp;omega
   obtain⟨y,Y⟩:∃y,P[i]?=some y:=⟨P[i],fG a7⟩;have ag:=Vk Y;have⟨p,hp,hpr⟩:=aq i y Y;obtain⟨g,rfl,U,ah⟩:=H i _ hp;have⟨wok,gy,ny⟩:=O y (iA Y);have bj:=(D.cell (p:=(Ad g i)) U).trans ah;have bn:=b1.size;have bu:=D.size;have bb:b.length+(cF y+((P.drop (i+1)).map cF).sum)<=1000000000000:=by rw[ag,gW,List.sum_cons]at M;exact M
   have b2:Hid ((P.drop (i+1)).foldl dC (dC b y)=P.foldl dC L):=by show _=_;rw[<-hF.out,ag];rfl
   have bf:=j7 y b;go_wp2_with fail;apply(wok (.pointer p) _ B BL b wr ((hpr.below b1).below D) gy ny F aA aA).mono;rintro e w3 ⟨b3,v3,rfl,c⟩;go_wp2_with fail
   try go_big_round
   exact⟨⟨i+1,dC b y,dU,a7,c,D.tr b3,aA,b2⟩,zm⟩
  .have aw:decide ((i:Int)<(P.length:Int))=false:=by simp;omega
   have a8:b=P.foldl dC L:=by rw[<-hF.out,t_ aA];rfl
   rw[<-a8]at J aa;have bW:=b1.tr D;have hC:=aj.out wr bW;clear hF H aq O aj a8 S ai;go_wp2_with fail;apply hC.mono;rintro e w3 ⟨b3,d,rfl,hd⟩;clear hC;have c:=fN F b3;have UT:d=⟨C.toArray⟩:=mg hd;obtain⟨pq,cq,rfl,Q⟩:=K3 c;have h:=bW.tr b3;go_wp2_with fail;go_loopw [8] (λiv wq=>∃i:Nat,iv=Iv i/\i<=b.length/\wq=w3/\Hid (∀j y,j<i->b[j]?=some y->y≠C)) (λiv _=>b.length-(intOf iv).toNat)
   case atStart=>exact⟨0,rfl,cD,rfl,λj y s=>absurd s (zX _)⟩
   case round=>
    obtain⟨i,rfl,bg,rfl,E⟩:=hrel;by_cases ak:i<b.length
    .have af:decide ((i:Int)<(b.length:Int))=true:=by simp;omega
     obtain⟨y,Y⟩:∃y,b[i]?=some y:=⟨b[i],fG ak⟩;obtain⟨g,rfl,ah⟩:=Q i y Y;by_cases I:y=C
     .have q1:(y==C)=true:=by simp[I]
      have HE:Hid (res=b):=by show _=_;rw[J.out,bY (I▸iA Y)]
      clear J E Q;go_wp2_with fail;go_ret;exact⟨h,_,rfl,by rw[HE.out];exact c⟩
     .have q1:(y==C)=false:=by simp[I]
      have an:Hid (∀j y,j<i+1->b[j]?=some y->y≠C):=λj z s hz=>by
       by_cases az:j<i
       .exact E.out j z az hz
       .have:j=i:=by omega
        subst this;rw[Y]at hz;injection hz with hz;rw[<-hz];exact I
      clear J E Q;go_wp2_with fail
      try go_big_round
      exact⟨⟨i+1,dU,ak,trivial,an⟩,zm⟩
    .have af:decide ((i:Int)<(b.length:Int))=false:=by simp;omega
     have K:¬C∈b:=by
      intro hm;obtain⟨j,s,b6⟩:=List.getElem_of_mem hm;exact E.out j b[j] aA (fG s) b6
     have HE:Hid (res=b++[C]):=by show _=_;rw[J.out,bN K]
     clear J E K;have ad:BL<=wr.heap.size:=by have:=h.size;omega
     have N:=Cr (base:=wr.heap.size) (e:=9) (size:=1) wr #[] 0 aX eP rfl;have ar:b.length<=1000000000000:=aa;obtain⟨bo,⟨a6,b8⟩|⟨g,cp,bc,a6,c1,ba,bx,bw,bt,c7⟩⟩:=id c
     .injection a6 with Z7 hn1 Y0;subst Z7;subst Y0;obtain rfl:=ur.1 b8;have z3:=h.size;go_wp2_with (at_builtin;refine js _ rfl _ _ 31 rfl wr.heap.size 9 i0 _ 1 16 underlying31 hi Z a1 R rfl aG _ _ _ rfl (N.alloc _) (Ad (wr.heap.size+1) 0) 1 1 [.string ⟨C.toArray⟩] rfl rfl (by have:=oY (wr.alloc (.cells #[] 9)) (.string ⟨C.toArray⟩) 9;simpa using this) xr eP aA bI ?_);intro v5 w5 n f _;have b5:Bl w w5:=((h.al _).al _).grown f bI (λk hk=>by have e:wr.heap.size=k:=(by injection hk);omega);go_wp2_with fail;go_ret;exact⟨b5,v5,rfl,by rw[HE.out];simpa[strs]using n.mono ad⟩
     .injection a6 with Z7 hn1 Y0;subst Z7;subst Y0;have U:=aL ba;have b7:∀(j:Nat)(u:aF),(strs b)[j]?=some u->(wr.alloc (.cells #[] 9)).cell? (((Ad g 0):a_).add j)=some u:=λj u s=>by
       have bz:j<b.length:=by have:=(e_.1 s).1;rwa[LI]at this
       have e1:((Ad g 0):a_).add j=(Ad g j):=by simp[Addr.add];omega
       rw[e1,sq _ _ (Ad g j) U,c.cellAt j aA];exact s
      go_wp2_with (at_builtin;refine js _ rfl _ _ 31 rfl wr.heap.size 9 i0 _ 1 16 underlying31 hi Z a1 R rfl aG _ _ _ rfl N (Ad g 0) b.length cq (strs b) rfl (by rw[LI];omega) b7 (UC b) eP aA aE ?_);intro v4 w4 q t _;have b4:=(h.al _).grown t (by have:=h.size;simp;omega) (λk hk=>by have e:wr.heap.size=k:=(by injection hk);have:=h.size;omega);have z4:=b4.size;have zz:wr.heap.size+1<=w4.heap.size:=by have:=t.size;simpa using this
      try simp only[fC,jW]at q
      go_wp2_with (at_builtin;refine js _ rfl _ _ 31 rfl wr.heap.size 9 i0 _ 1 16 underlying31 hi Z a1 R rfl aG _ _ _ rfl (q.alloc _) (Ad w4.heap.size 0) 1 1 [.string ⟨C.toArray⟩] rfl rfl (oY w4 _ _) xr eP aA bI ?_);intro v5 w5 n f _;go_wp2;go_ret;exact⟨(b4.al _).grown f bI (λk hk=>by have:=(q.lt k hk).1;have:=h.size;omega),v5,rfl,by rw[HE.out];simpa[strs]using n.mono ad⟩
theorem wC(n w):Calls prog 64 #[Iv n] w λe a=>e=.returned (Iv n)/\a=w:=by
 go_enter func64,ntmps64;go_wp2;go_ret;exact⟨rfl,rfl⟩
def oL(n:Nat):aB aV:=[35,UInt8.ofNat (n/65536%256),UInt8.ofNat (n/256%256),UInt8.ofNat (n%256)]
theorem EO(n:Nat)(w):Calls prog 73 #[Iv (n)] w λe g=>e=.returned (.string ⟨(oL n).toArray⟩)/\Bl w g:=by
 have a:=UO (P:=prog) (w.alloc (.cells #[.int .u8 35,.int .u8 ((n:Int)/65536%256),.int .u8 ((n:Int)/256%256),.int .u8 ((n:Int)%256)] 5)) 99 9 5 (Ad w.heap.size 0) 4 (oL n) underlying99 underlying5 underlying9 (λj f=>by
  have d:((Ad w.heap.size 0):a_).add j=(Ad w.heap.size j):=by simp[Addr.add];omega
  have b:∀k:Nat,(UInt8.ofNat (k%256)).toNat=k%256:=λk=>by rw[Hr];omega
  rw[d,World.cell?_alloc_mark]
  match j,f with
  |0,_=>rfl
  |1,_=>
   show some _=some (Value.int .u8 ((UInt8.ofNat (n/65536%256)).toNat:Int));rw[b];simp
  |2,_=>
   show some _=some (Value.int .u8 ((UInt8.ofNat (n/256%256)).toNat:Int));rw[b];simp
  |3,_=>
   show some _=some (Value.int .u8 ((UInt8.ofNat (n%256)).toNat:Int));rw[b];simp)
 have c:(convert 99 9 (Sl w.heap.size 4 4)).run prog (w.alloc (.cells #[.int .u8 35,.int .u8 ((n:Int)/65536%256),.int .u8 ((n:Int)/256%256),.int .u8 ((n:Int)%256)] 5))=.ok (.string ⟨(oL n).toArray⟩) (w.alloc (.cells #[.int .u8 35,.int .u8 ((n:Int)/65536%256),.int .u8 ((n:Int)/256%256),.int .u8 ((n:Int)%256)] 5)):=a;clear a;generalize oL n=t at*;go_enter func73,ntmps73;go_wp2_with fail;go_ret;exact⟨rfl,aT.al _⟩
def cI(L:aB aZ):aB aF:=L.map Value.string
def dE:aZ:=⟨#[115,112,97,114,101]⟩
theorem vZ(L):(cI L).length=L.length:=by simp[cI]
theorem Gf(L):∀u∈cI L,u.oneCell'=true:=by
 intro u a;simp[cI]at a;obtain⟨s,_,rfl⟩:=a;rfl
theorem ry(w:aC)(x y t):∀j u,[x,y][j]?=some u->(w.alloc (.cells #[x,y] t)).cell? (((Ad w.heap.size 0):a_).add j)=some u:=by
 intro j u a;have:((Ad w.heap.size 0):a_).add j=(Ad w.heap.size j):=by simp[Addr.add];omega
 rw[this];exact aD (aP w (.cells #[x,y] t (0,0)) _ rfl) (by simpa using a)
theorem Tu(L d h cap w)(x:L.length<=1000000000)(n:d<w.heap.size)(s:∀j,j<L.length->w.cell? (Ad d (h+j))=some (.string (L.getD j ByteArray.empty))):
  Calls prog 61 #[.slice (some (Ad d h)) L.length cap] w λe p=>Bl w p/\∃v,e=.returned v/\p.ownsRow w.heap.size 9 1 v (L.length+2) (cI (L++[dE,dE])):=by
 let⟨i0,hi,nk,nt,nH⟩:=eB nT;let l:∀(j:Nat)(u:aF),(cI L)[j]?=some u->(w.alloc (.cells #[] 9)).cell? (((Ad d h):a_).add j)=some u:=λj u m=>by
  let f:j<L.length:=by have:=(e_.1 m).1;rwa[vZ]at this
  let t:((Ad d h):a_).add j=(Ad d (h+j)):=by simp[Addr.add]
  rw[t,sq _ _ (Ad d (h+j)) n,s j f];simp[cI,f]at m;rw[<-m];simp[List.getD,f]
 unfold dE;go_enter func61,ntmps61;go_wp2_with (at_builtin;refine js _ rfl _ _ 31 rfl w.heap.size 9 i0 _ 1 16 underlying31 hi nk nt nH rfl aG _ _ _ rfl (Cr (base:=w.heap.size) (e:=9) (size:=1) w #[] 0 aX eP rfl) (Ad d h) L.length cap (cI L) rfl (by rw[vZ];omega) l (Gf L) eP aA aE ?_);intro y q a b _;let o:=((cC w.heap.size w).al _).grown b aE (λk i=>by have e:w.heap.size=k:=(by injection i);omega);let A:=o.size
 try simp only[fC,jW]at a
 go_wp2_with (at_builtin;refine js _ rfl _ _ 31 rfl w.heap.size 9 i0 _ 1 16 underlying31 hi nk nt nH rfl aG _ _ _ rfl (a.alloc _) (Ad q.heap.size 0) 2 2 [.string ⟨#[115,112,97,114,101]⟩,.string ⟨#[115,112,97,114,101]⟩] rfl rfl (ry q _ _ _) xr eP aA bI ?_);intro r z g c _;go_wp2;go_ret;exact⟨(o.al _).grown c bI λk i=>(a.lt k i).1,r,rfl,by simpa[cI]using g⟩
theorem Tv(w):
  Calls prog 61 #[.slice none 0 0] w λe c=>Bl w c/\∃v,e=.returned v/\c.ownsRow w.heap.size 9 1 v 2 (cI [dE,dE]):=by
 let⟨i0,hi,nk,nt,nH⟩:=eB nT;unfold dE;go_enter func61,ntmps61;go_wp2_with (at_builtin;refine js _ rfl _ _ 31 rfl w.heap.size 9 i0 _ 1 16 underlying31 hi nk nt nH rfl aG _ _ _ rfl ((Cr (base:=w.heap.size) (e:=9) (size:=1) w #[] 0 aX eP rfl).alloc _) (Ad (w.heap.size+1) 0) 2 2 [.string ⟨#[115,112,97,114,101]⟩,.string ⟨#[115,112,97,114,101]⟩] rfl rfl (by have:=ry (w.alloc (.cells #[] 9)) (.string ⟨#[115,112,97,114,101]⟩) (.string ⟨#[115,112,97,114,101]⟩) 9;simpa using this) xr eP aA bI ?_);intro d g b a _;go_wp2;go_ret;exact⟨(((cC w.heap.size w).al _).al _).grown a bI (λk f=>by have e:w.heap.size=k:=(by injection f);omega),d,rfl,by simpa[cI]using b⟩
theorem Qs(a cap w):
  Calls prog 61 #[.slice (some a) 0 cap] w λe l=>Bl w l/\∃v,e=.returned v/\l.ownsRow w.heap.size 9 1 v 2 (cI [dE,dE]):=by
 let⟨i0,hi,nk,nt,nH⟩:=eB nT;unfold dE;go_enter func61,ntmps61;go_wp2_with (at_builtin;refine js _ rfl _ _ 31 rfl w.heap.size 9 i0 _ 1 16 underlying31 hi nk nt nH rfl aG _ _ _ rfl (Cr (base:=w.heap.size) (e:=9) (size:=1) w #[] 0 aX eP rfl) a 0 cap [] rfl rfl (λj u o=>by simp at o) (λu m=>by cases m) eP aA aE ?_);intro q i b c _;let h:=((cC w.heap.size w).al _).grown c aE (λk g=>by have e:w.heap.size=k:=(by injection g);omega);let p:=h.size
 try simp only[fC,jW]at b
 go_wp2_with (at_builtin;refine js _ rfl _ _ 31 rfl w.heap.size 9 i0 _ 1 16 underlying31 hi nk nt nH rfl aG _ _ _ rfl (b.alloc _) (Ad i.heap.size 0) 2 2 [.string ⟨#[115,112,97,114,101]⟩,.string ⟨#[115,112,97,114,101]⟩] rfl rfl (ry i _ _ _) xr eP aA bI ?_);intro n r f d _;go_wp2;go_ret;exact⟨(h.al _).grown d bI λk g=>(b.lt k g).1,n,rfl,by simpa[cI]using f⟩
end
section
open Go.Deep (BT)
theorem Hl{op u t a b}(h:dS op u=some ((a,b),t)):(0<=a/\a<=b/\b<=1000000)/\(lY op=false->a=0/\b=0):=by
 by_cases hw:lY op=true
 .cases i:dF 91 u with
  |none=>rw[tX hw i]at h;cases h
  |some j=>
   rw[nP hw i]at h;cases c:ji j with
   |none=>rw[c]at h;cases h
   |some k=>
    let⟨a',t2⟩:=k;rw[c]at h;simp only at h;let p:=wD c;cases g:dF 44 t2 with
    |none=>rw[g]at h;cases h
    |some l=>
     rw[g]at h;simp only at h;cases d:ji l with
     |none=>rw[d]at h;cases h
     |some m=>
      let⟨b',t4⟩:=m;rw[d]at h;simp only at h;let o:=wD d;cases f:dF 93 t4 with
      |none=>rw[f]at h;cases h
      |some n=>
       rw[f]at h;simp only at h;split at h
       .cases h
       .simp at h;obtain⟨⟨rfl,rfl⟩,_⟩:=h;exact⟨aA,λe=>by rw[hw]at e;cases e⟩
 .unfold dS at h;rw[bN hw]at h;simp at h;obtain⟨⟨rfl,rfl⟩,_⟩:=h;exact⟨aA,λ_=>⟨rfl,rfl⟩⟩
theorem Ru{c r x}(i:aK (c.toNat:Int)=97)(h:oM (iz 97 (c::r))=some x):Good x/\bC x=1:=by
 have f:∀y,y∈iz 97 (c::r)->97<=y.toNat/\y.toNat<=122:=by
  intro y d;rw[(E0 _).1]at d;have:=yn.1 List.all_takeWhile y d;unfold pB at this;simp at this;exact this
 have a:1<=(iz 97 (c::r)).length:=by
  unfold iz;rw[Cd,i];simp
 generalize iz 97 (c::r)=w at*;unfold oM at h;split at h
 .injection h with h;subst h;exact⟨.inl ⟨rfl,rfl,rfl,rfl,rfl,rfl⟩,rfl⟩
 .rename_i g;split at h
  .cases h
  .rename_i j;injection h with h;subst h;refine⟨.inr (.inl ⟨rfl,⟨?_,?_,?_,?_⟩,rfl,rfl,rfl,rfl⟩),rfl⟩
   .show 1<=(ByteArray.mk w.toArray).size;rw[<-fP];simpa using a
   .show(ByteArray.mk w.toArray).size<=8;rw[<-fP];simp;omega
   .intro e;apply g;have:=og (λb:aZ=>b.data.toList) e;simpa[ET]using this
   .intro y d;exact f y (by simpa using d)
theorem Hb:∀(n:Nat)(u:aB aV)(x:BT c_)(t:aB aV),jS n u=some (x,t)->Good x/\bC x<=n
 |0,u,x,t,h=>by cases h
 |n+1,u,x,t,h=>by
  let v:=Hb n
  simp only[jS]at h
  cases j:cB u with
  |nil=>rw[j]at h;cases h
  |cons c r=>
   rw[j]at h
   simp only at h
   split at h
   .rename_i m
    cases hw:oM (iz 97 (c::r))with
    |none=>rw[hw]at h;cases h
    |some y=>
     rw[hw]at h
     simp at h
     obtain⟨rfl,_⟩:=h
     let⟨g,d⟩:=Ru m hw
     exact⟨g,aA⟩
   .split at h
    .unfold vK at h
     cases l:jS n r with
     |none=>rw[l]at h;cases h
     |some C=>
      let⟨x1,t1⟩:=C
      let⟨g1,d1⟩:=v r x1 t1 l
      rw[l]at h
      simp only at h
      cases w:cB t1 with
      |nil=>rw[w]at h;cases h
      |cons k B=>
       rw[w]at h
       simp only at h
       split at h
       .rename_i A
        cases i:dS (aK (k.toNat:Int)) B with
        |none=>rw[i]at h;cases h
        |some p=>
         let⟨⟨a,b⟩,t3⟩:=p
         let⟨w1,w2⟩:=Hl i
         rw[i]at h
         simp only at h
         cases f:jS n t3 with
         |none=>rw[f]at h;cases h
         |some o=>
          let⟨q,t4⟩:=o
          let⟨g4,d4⟩:=v t3 q t4 f
          rw[f]at h
          simp only at h
          cases z:dF 41 t4 with
          |none=>rw[z]at h;cases h
          |some D=>
           rw[z]at h
           simp at h
           obtain⟨rfl,_⟩:=h
           let s:aK (k.toNat:Int)=8743\/aK (k.toNat:Int)=8744\/aK (k.toNat:Int)=83:=by
            obtain e|e|e:=A<;>rw[e]
            .exact .inl aG
            .exact .inr (.inl aG)
            .exact .inr (.inr aG)
           refine⟨.inr (.inr (.inl ⟨s,rfl,w1,w2,g1,g4⟩)),?_⟩;show 1+max (bC x1) (bC q)<=n+1;omega
       .cases h
    .split at h
     .rename_i m;unfold singleR at h;cases i:dS (aK (c.toNat:Int)) r with
      |none=>rw[i]at h;cases h
      |some p=>
       let⟨⟨a,b⟩,t3⟩:=p;let⟨w1,w2⟩:=Hl i;rw[i]at h;simp only at h;cases f:jS n t3 with
       |none=>rw[f]at h;cases h
       |some o=>
        let⟨q,t4⟩:=o;let⟨g4,d4⟩:=v t3 q t4 f;rw[f]at h;simp at h;obtain⟨rfl,_⟩:=h;let s:aK (c.toNat:Int)=172\/aK (c.toNat:Int)=89\/aK (c.toNat:Int)=79\/aK (c.toNat:Int)=72:=by
         obtain e|e|e|e:=m<;>rw[e]
         .exact .inl aG
         .exact .inr (.inl aG)
         .exact .inr (.inr (.inl aG))
         .exact .inr (.inr (.inr aG))
        refine⟨.inr (.inr (.inr ⟨s,rfl,w1,w2,g4,rfl⟩)),?_⟩;show 1+max (bC q) 0<=n+1;omega
     .cases h
theorem PU(a:aB aV):(if a≠[]/\a.getLast?≠some 32 then a++[32]else a).length<=a.length+1:=by
 split
 .simp
 .omega
theorem Wl(s):∀f i (a u),a.length<=i->i<=s.size->ie s f i a=some u->u.length<=s.size:=by
 intro f
 induction f with
 |zero=>
  intro i a u h hi e;simp only[ie]at e;injection e with e;subst e;omega
 |succ f b=>
  intro i a u h hi e;simp only[ie]at e;split at e
  .rename_i d;split at e
   .rename_i c;exact b _ _ _ bI aA e
   .split at e
    .rename_i c;exact b _ _ _ bI aA e
    .split at e
     .rename_i c;exact b _ _ _ bI aA e
     .split at e
      .exact b _ _ _ (by have:=PU a;omega) aA e
      .split at e
       .exact b _ _ _ bI aA e
       .cases e
  .injection e with e;subst e;omega
end
section
open Go.RowKit Go.Deep
structure RN(base:Nat)(e:TypeId)(size:Nat)(l:aF)(n m:Nat)(xs news:aB aF)(w:aC)(v':aF)(w':aC):Prop where
 own:w'.ownsRow base e size v' (n+m) (xs++news)
 old:w'.ownsRow base e size l n xs
 grown:w.grownBy w' l.ownBlock
 at_:v'.ownBlock=l.ownBlock\/(v'.ownBlock=some w.heap.size/\∀k,k<w.heap.size->w'.heap[k]?=w.heap[k]?)
section
variable{P:Program}(w:aC)
theorem CU(base t I e i z size bytes)(M:P.underlying t=some (.slice e))(hi:P.info? e=some i)(U:i.zero=some z)
  (s:i.size=size) (Q:i.bytes=bytes) (L:z.cells.size=size)
  (v n xs) (b:w.ownsRow base e size v n xs)
  (a m c news) (A:news.length=m*size) (Y:0<m) (d:∀j u,news[j]?=some u->w.cell? (a.add j)=some u) (W:∀u∈news,u.oneCell'=true)
  (F:n+m<=maxLen) (h:(n+m)*bytes<=140737488355328) (r:base<=w.heap.size):
  ∃S T,(Builtin.append_ #[t,t] I #[v,.slice (some a) m c]).run P w=.ok S T/\RN base e size v n m xs news w S T:=by
 subst s;subst Q;have H:n+m<=9223372036854775807:=by simp only[maxLen]at F;omega
 have l:(xs++news).length=(n+m)*i.size:=by rw[kt,b.1,A,Nat.add_mul]
 have grown:∀(old:Nat),RN base e i.size v n m xs news w (Sl w.heap.size (n+m) (grownCap w (n+m) old e)) (w.drew.alloc (.cells (xs.toArray++news.toArray++Builtin.zeroCells z.cells (grownCap w (n+m) old e-(n+m))) e)):=by
  intro old;have O:=grownCap_ge w (n+m) old e;have q:grownCap w (n+m) old e<=maxLen:=grownCap_le_maxLen w (n+m) old e F;have y:∀k,k<w.heap.size->(w.drew.alloc (.cells (xs.toArray++news.toArray++Builtin.zeroCells z.cells (grownCap w (n+m) old e-(n+m))) e)).heap[k]?=w.heap[k]?:=λk x=>heap_alloc_old w.drew _ x;have K:w.grownBy (w.drew.alloc (.cells (xs.toArray++news.toArray++Builtin.zeroCells z.cells (grownCap w (n+m) old e-(n+m))) e)) none:=⟨rfl,rfl,rfl,aE,λk x _=>y k x⟩;refine⟨⟨l,.inr ⟨w.heap.size,_,_,rfl,r,heap_alloc_new w.drew _,O,q,?_,?_⟩⟩,b.kept K (by cases v.ownBlock<;>simp),⟨rfl,rfl,rfl,aE,λk x _=>y k x⟩,.inr ⟨rfl,y⟩⟩
  .simp only[Array.size_append,jn,size_zeroCells,L,b.1,A,<-Nat.add_mul];congr 1;omega
  .simp only[Array.toList_append,nc];rw[<-nc,<-l];exact List.take_left
 have OZ:=b;rcases b.2 with⟨rfl,rfl⟩|⟨g,cap,o,rfl,E,N,R,q,J,p⟩
 .have V:xs=[]:=List.eq_nil_of_length_eq_zero (by simpa using b.1);subst V;have C:=run_append_nil (P:=P) w t I e i z M hi U a m c news A d aA aA (by have X:=h;simp only[fC]at X;omega);have B:=grown 0;simp only[Nat.zero_add,Array.empty_append]at B⊢;exact⟨_,_,C,B⟩
 .by_cases f:n+m<=cap
  .have D:n*i.size+news.length<=o.size:=by rw[A,J,<-Nat.add_mul];exact L2 _ f
   have C:=run_append_room (P:=P) w t I e i M hi g n cap o N a m c news A d W f D;have G:(o.toList.take (n*i.size)++news++o.toList.drop (n*i.size+news.length)).toArray.size=cap*i.size:=by
    simp only[jn,kt,kR,nQ,yl];omega
   refine⟨_,_,C,⟨l,.inr ⟨g,cap,_,rfl,E,Ct w g o _ e _ N,f,q,G,?_⟩⟩,⟨b.1,.inr ⟨g,cap,_,rfl,E,Ct w g o _ e _ N,R,q,G,?_⟩⟩,⟨rfl,rfl,rfl,aE,λk _ x=>Ab w g k _ λe=>x (by simp[Value.ownBlock,e])⟩,.inl rfl⟩
   .rw[p,<-l];exact List.take_left
   .simp only[nc];rw[p,Fc (b.1▸aX),<-b.1,L0]
  .have holds:=b.cells (g:=g) rfl;have C:=run_append_grow (P:=P) w t I e i z M hi U (Ad g 0) n cap xs b.1 holds a m c news A d aA aA (growslice_fits aA h);exact⟨_,_,C,grown cap⟩
theorem lZ{l rest o a Q}(y:o.guard=none)(s x t)
  (I:o.op=.call {callee:=.builtin .append,args:=#[s,x],argTypes:=#[t,t]})
  (base e i z size bytes) (F:P.underlying t=some (.slice e)) (hi:P.info? e=some i) (M:i.zero=some z)
  (g:i.size=size) (B:i.bytes=bytes) (A:z.cells.size=size)
  (v n xs) (H:a.eval s=v) (k:w.ownsRow base e size v n xs)
  (r m c news) (E:a.eval x=.slice (some r) m c) (D:news.length=m*size) (J:0<m) (d:∀j u,news[j]?=some u->w.cell? (r.add j)=some u) (G:∀u∈news,u.oneCell'=true)
  (C:n+m<=maxLen) (b:(n+m)*bytes<=140737488355328) (f:base<=w.heap.size)
  (h:∀p q,RN base e size v n m xs news w p q->wpList P l Q rest (a.put o.dst p) q):
  wpList P l Q (o::rest) a w:=by
 refine wpList_plain y λK L=>?_;let⟨p,q,hr,h2⟩:=CU (P:=P) w base t o.type e i z size bytes F hi M g B A v n xs k r m c news D J d G C b f;unfold Oper.wp execOp;simp only[I,resolve,invoke,builtin,Sem.run_bind,Sem.run_pure,Result.andThen_ok,F9,gW,sD,H,E,hr];exact L _ _ (h p q h2)
end
end
end Go.Proofs.YtpbbmagjhkakgaaGreatDoor
