import Derived.Test.YtpbbmagjhkakgaaGreatDoorC4
import Derived.Deep.CutRange
import Derived.Deep.Onto
namespace Go.Proofs.YtpbbmagjhkakgaaGreatDoor
set_option maxHeartbeats 8000000
set_option maxRecDepth 100000
section
open Go.Deep (BT)
def dE:aB (aB aX)->BT dD->aB (aB aX)
 |L,.nil=>L
 |L,.node b o a l r=>if bF (.node b o a l r)∈dE (dE L l) r then dE (dE L l) r else dE (dE L l) r++[bF (.node b o a l r)]
def zL(L:aB (aB aX)):BT dD->Int
 |.nil=>0
 |.node b o a l r=>match L.findIdx? (· ==bF (.node b o a l r))with|some i=>(i:Int)+1|none=>0
def Has(L:aB (aB aX)):BT dD->Prop
 |.nil=>True
 |.node b o a l r=>bF (.node b o a l r)∈L
def vQ(L:aB (aB aX)):BT dD->Key
 |.nil=>⟨0,ByteArray.empty,0,0,0,0⟩
 |.node _ _ a l r=>⟨a.op,a.name,a.lo,a.hi,zL L l,zL L r⟩
def gg(x:BT dD):Prop:=Good x/\mO x
def J6(x:BT dD):Prop:=x=.nil\/gg x
def yJ(L:aB (aB aX)):BT dD->Prop
 |.nil=>True
 |.node _ _ _ l r=>Has L l/\Has L r
theorem gg.parts{b o a l r}(h:gg (.node b o a l r)):J6 l/\J6 r/\b=0/\o=0:=by
 let⟨hg,hz⟩:=h;obtain⟨rfl,rfl,d,zr⟩:=hz;obtain⟨_,_,_,_,rfl,rfl⟩|⟨_,_,_,_,rfl,rfl⟩|⟨_,_,_,_,c,e⟩|⟨_,_,_,_,c,rfl⟩:=hg
 .exact⟨.inl rfl,.inl rfl,rfl,rfl⟩
 .exact⟨.inl rfl,.inl rfl,rfl,rfl⟩
 .exact⟨.inr ⟨c,d⟩,.inr ⟨e,zr⟩,rfl,rfl⟩
 .exact⟨.inr ⟨c,d⟩,.inl rfl,rfl,rfl⟩
theorem EI{L b o a l r}(h:Has L (.node b o a l r)):∃i:Nat,zL L (.node b o a l r)=(i)+1/\L[i]?=some (bF (.node b o a l r)):=by
 simp only[zL];cases c:L.findIdx? (· ==bF (.node b o a l r))with
 |none=>
  rw[P']at c;have:=c _ h;simp at this
 |some i=>
  let⟨hi,h2,_⟩:=Sn.1 c;refine⟨i,rfl,?_⟩;rw[fH hi];simpa using h2
theorem Lv{L x y}(g:J6 x)(m:J6 y)(f:Has L x)(d:Has L y)(h:zL L x=zL L y):x=y:=by
 cases x with
 |nil=>
  cases y with
  |nil=>rfl
  |node b o a l r=>
   have⟨i,h1,_⟩:=EI d;rw[h1]at h;have:zL L .nil=0:=rfl;omega
 |node b o a l r=>
  have⟨i,h1,h2⟩:=EI f;cases y with
  |nil=>
   rw[h1]at h;have:zL L .nil=0:=rfl;omega
  |node p k q s n=>
   have⟨j,h3,h4⟩:=EI d;have c:i=j:=aA;subst c;rw[h2]at h4;have fx':gg (.node b o a l r):=by
    obtain e|e:=g
    .cases e
    .exact e
   have fy':gg (.node p k q s n):=by
    obtain e|e:=m
    .cases e
    .exact e
   exact Hy fx'.1 fy'.1 fx'.2 fy'.2 (nD h4)
theorem T6{L x y}(e:gg x)(g:gg y)(f:yJ L x)(i:yJ L y)(h:vQ L x=vQ L y):x=y:=by
 cases x with
 |nil=>exact absurd e.1 id
 |node b o a l r=>
  cases y with
  |nil=>exact absurd g.1 id
  |node t q n u s=>
   obtain⟨p,m,rfl,rfl⟩:=e.parts;obtain⟨c,d,rfl,rfl⟩:=g.parts;simp only[vQ,Key.mk.injEq]at h;have⟨e1,e2,e3,e4,e5,e6⟩:=h;have j:=Lv p c f.1 i.1 e5;have k:=Lv m d f.2 i.2 e6;subst j;subst k;cases a;cases n;simp only at e1 e2 e3 e4;subst e1;subst e2;subst e3;subst e4;rfl
structure Twin(K:aB Key)(L:aB (aB aX)):Prop where
 len:K.length=L.length
 each:∀i (h:i<L.length),∃x,L[i]=bF x/\gg x/\yJ L x/\K[i]?=some (vQ L x)
theorem Twin.nil:Twin [] []:=⟨rfl,λi h=>absurd h (Ao i)⟩
theorem Twin.find{K L}(h:Twin K L){x}(d:gg x)(n:yJ L x):rz K (vQ L x)=L.findIdx? (· ==bF x):=by
 let f:∀i (b:i<K.length) (c:i<L.length),B7 (vQ L x) K[i]=(L[i]==bF x):=by
  intro i b c;let⟨y,e1,fy,py,e2⟩:=h.each i c;rw[fH b]at e2;rw[(nD e2),e1];by_cases a:x=y
  .subst a;rw[r8.2 rfl];simp
  .let p:B7 (vQ L x) (vQ L y)=false:=by
    cases q:B7 (vQ L x) (vQ L y)with
    |true=>exact absurd (T6 d fy n py (r8.1 q)) a
    |false=>rfl
   let o:(bF y==bF x)=false:=by
    simp;exact λe=>a (Hy d.1 fy.1 d.2 fy.2 e.symm)
   rw[p,o]
 unfold rz;cases m:L.findIdx? (· ==bF x)with
 |none=>
  rw[P']at m⊢;intro k b;obtain⟨i,hi,rfl⟩:=List.getElem_of_mem b;let c:i<L.length:=h.len▸hi;rw[f i hi c];exact m _ (xu c)
 |some i=>
  let⟨hi,h2,h3⟩:=Sn.1 m;let b:i<K.length:=h.len▸hi;refine Sn.2 ⟨b,by rw[f i b hi];exact h2,λj r=>?_⟩;let g:j<L.length:=aA;let l:j<K.length:=aA;rw[f j l g];exact h3 j r
def Pre(L M:aB (aB aX)):Prop:=∃N,M=L++N
theorem Pre.refl(L):Pre L L:=⟨[],aF⟩
theorem Pre.trans{L M N}(h:Pre L M)(g:Pre M N):Pre L N:=by
 obtain⟨A,rfl⟩:=h;obtain⟨B,rfl⟩:=g;exact⟨A++B,aF⟩
theorem Has.pre{L M x}(h:Has L x)(g:Pre L M):Has M x:=by
 obtain⟨N,rfl⟩:=g;cases x with
 |nil=>trivial
 |node b o a l r=>exact List.mem_append_left _ h
theorem EJ{L M x}(h:Has L x)(g:Pre L M):zL M x=zL L x:=by
 obtain⟨N,rfl⟩:=g;cases x with
 |nil=>rfl
 |node b o a l r=>
  simp only[zL];rw[List.findIdx?_append];cases c:L.findIdx? (· ==bF (.node b o a l r))with
  |some i=>rfl
  |none=>
   exfalso
   rw[P']at c;have:=c _ (show bF (.node b o a l r)∈L from h);simp at this
def Qi(L:aB (aB aX))(s:aB aX):aB (aB aX):=if s∈L then L else L++[s]
theorem SP(L s):Pre L (Qi L s):=by
 unfold Qi;split
 .exact Pre.refl L
 .exact⟨[s],rfl⟩
theorem Twin.add{K L}(h:Twin K L){b o a l r}(v:gg (.node b o a l r))(p:yJ L (.node b o a l r)):
  Twin (rL K (vQ L (.node b o a l r))).2 (Qi L (bF (.node b o a l r)))/\(rL K (vQ L (.node b o a l r))).1=zL (Qi L (bF (.node b o a l r))) (.node b o a l r)/\Has (Qi L (bF (.node b o a l r))) (.node b o a l r):=by
 have q:=h.find v p;have n:∀M,zL M (.node b o a l r)=match M.findIdx? (· ==bF (.node b o a l r))with|some i=>(i:Int)+1|none=>0:=λ_=>rfl
 have m:∀M,Has M (.node b o a l r)=(bF (.node b o a l r)∈M):=λ_=>rfl;have c:∀M,Pre L M->yJ M (.node b o a l r):=λM g=>⟨p.1.pre g,p.2.pre g⟩;have f:∀M,Pre L M->∀y,yJ L y->vQ M y=vQ L y:=by
  intro M g y d;cases y with
  |nil=>rfl
  |node b o a l r=>simp only[vQ];rw[EJ d.1 g,EJ d.2 g]
 have t:∀M,Pre L M->∀y,yJ L y->yJ M y:=by
  intro M g y d;cases y with
  |nil=>trivial
  |node b o a l r=>exact⟨d.1.pre g,d.2.pre g⟩
 rw[n,m];generalize w:(BT.node b o a l r:BT dD)=x at*;unfold rL Qi;cases j:L.findIdx? (· ==bF x)with
 |some i=>
  rw[j]at q;rw[q];have⟨hi,h2,_⟩:=Sn.1 j;have k:bF x∈L:=by
   have e:L[i]=bF x:=by simpa using h2
   rw[<-e];exact xu hi
  rw[bY k,j];exact⟨h,rfl,k⟩
 |none=>
  rw[j]at q;rw[q];have k:¬bF x∈L:=by
   intro k;rw[P']at j;have:=j _ k;simp at this
  rw[bN k,List.findIdx?_append,j];have g:Pre L (L++[bF x]):=⟨_,rfl⟩;refine⟨⟨by simp[h.len],?_⟩,?_,aF⟩
  .intro i hi;by_cases s:i<L.length
   .have⟨y,e1,fy,d,e2⟩:=h.each i s;refine⟨y,?_,fy,t _ g y d,?_⟩
    .rw[List.getElem_append_left s];exact e1
    .rw[uw (h.len▸s),f _ g y d];exact e2
   .have u:i=L.length:=by simp at hi;omega
    subst u;refine⟨x,aF,v,c _ g,?_⟩;rw[f _ g x p,sK (h.len▸aZ),h.len];simp
  .simp[h.len]
theorem BA:∀(x:BT dD)(L:aB (aB aX)),Pre L (dE L x)
 |.nil,L=>Pre.refl L
 |.node b o a l r,L=>((BA l L).trans (BA r _)).trans (SP (dE (dE L l) r) (bF (.node b o a l r)))
theorem Twin.put:∀x,J6 x->∀K (L),Twin K L->Twin (cO K x).2 (dE L x)/\(cO K x).1=zL (dE L x) x/\Has (dE L x) x:=by
 intro x
 induction x with
 |nil=>intro _ K L h;exact⟨h,rfl,trivial⟩
 |node b o a l r j i=>
  intro d K L h;let c:gg (.node b o a l r):=by
   obtain e|e:=d
   .cases e
   .exact e
  let⟨fl,fr,_,_⟩:=c.parts;let⟨t1,n1,m1⟩:=j fl K L h;let⟨t2,n2,m2⟩:=i fr (cO K l).2 (dE L l) t1;let g:=BA r (dE L l);let f:(⟨a.op,a.name,a.lo,a.hi,(cO K l).1,(cO (cO K l).2 r).1⟩:Key)=vQ (dE (dE L l) r) (.node b o a l r):=by
   simp only[vQ];rw[n1,n2,EJ m1 g]
  have:=t2.add c ⟨m1.pre g,m2⟩;rw[<-f]at this;exact this
theorem count_eq{K L}(h:Twin K L){x}(a:gg x):Twin (cO K (aO x)).2 (dE L (aO x)):=(Twin.put (aO x) (.inr ⟨dK a.1,Si a.2⟩) K L h).1
end
section
open Tryz Go.RowKit Go.Deep
def X9(x:BT dD):Prop:=∀(v:aE)(B:Nat)(w:aC),bX B w x v->Good x->(bF x).length<=100000000->
 Calls prog 145 #[v] w λe a=>Below w.heap.size w a/\∃d,e=.returned (.string d)/\d.data.toList=bF x
def Mu(a:dD):aB aX:=[91]++Lib.itoa a.lo++[44]++Lib.itoa a.hi++[93]
theorem uk{d:a_}{l}(h:d.data.toList=l):d.size=l.length:=by rw[<-h,fT]
theorem Li(v)(h:0<=v):Lib.itoa v=Lib.decDigits v.toNat:=Dr v h
theorem FP{x}(h:x<=400000000):¬9223372036854775807<x:=aA
theorem zb{T:bQ}(h:T:=by repeat(with_reducible (first|exact bw|exact aV|refine MK ?_|refine Below.al ?_ _|refine Below.tr ?_ bA|refine Below.tr ?_ bB|refine Below.tr ?_ b2))):T:=h
theorem H5(x):X9 x:=by
 induction x with
 |nil=>intro v B w _ u _;exact u.elim
 |node V o0 a l r E P=>
  intro v B w h u g;obtain⟨X,q,L,rfl,_,hX,_,R,hr,_⟩:=xa h u;obtain⟨res,S⟩:∃res,Hid (bF (.node V o0 a l r)=res):=⟨_,rfl⟩;have b:Hid (res=if a.op=116 then[116,114,117,101]else if a.op=97 then a.name.data.toList else if a.op=8743\/a.op=8744\/a.op=83 then[40]++bF l++[32]++uR a++[32]++bF r++[41]else uR a++bF l):=S.out.symm;rw[S.out]at g⊢;have D:(0<=a.lo/\a.lo<=1000000)/\0<=a.hi/\a.hi<=1000000:=by rcases u with⟨_,_,T,h4,_⟩|⟨_,_,T,h4,_⟩|⟨_,_,T,_⟩|⟨_,_,T,_⟩<;>omega
  obtain⟨y,C⟩:=D;replace u:Hid (Good (.node V o0 a l r)):=u;clear h S;obtain⟨⟨x0,x1,x2,x3,x4,x5⟩,_⟩:=hX.facts;have m:Hid (∀W,Bl w W->rK X W (eO a.op) a.name a.lo a.hi (.pointer q) (.pointer L)):=λW h=>h.aT hX;have G:Hid (∀W,Bl w W->W.cell? (Ad X 2)=some (Iv a.lo)/\W.cell? (Ad X 3)=some (Iv a.hi)/\Bl w W):=λW h=>by
   obtain⟨⟨_,_,y2,y3,_⟩,_⟩:=(m.out W h).facts;exact⟨y2,y3,h⟩
  have dA:Hid (∀W,Calls prog 182 #[Iv a.lo] W λe j=>Bl W j/\∃d,e=.returned (.string d)/\d.data.toList=Lib.itoa a.lo):=λW=>by
   have:=Ch a.lo.toNat W aA
   rwa[show((a.lo.toNat:Nat):Int)=a.lo from aA,<-Li _ y.1]at this
  have dB:Hid (∀W,Calls prog 182 #[Iv a.hi] W λe j=>Bl W j/\∃d,e=.returned (.string d)/\d.data.toList=Lib.itoa a.hi):=λW=>by
   have:=Ch a.hi.toNat W aA
   rwa[show((a.hi.toNat:Nat):Int)=a.hi from aA,<-Li _ C.1]at this
  have la:=zG a.lo y.1 y.2;have lb:=zG a.hi C.1 C.2;go_enter func145,ntmps145
  go_upto_region 1 with fail
  go_cut [3]from 4 (λv wx=>(∃d,v=.string d/\d.data.toList=Mu a)/\Bl w wx)
  case first=>
   go_region_held3 (λj=>j.cell? ⟨X,2,none⟩=some (.int .i64 a.lo)/\j.cell? ⟨X,3,none⟩=some (.int .i64 a.hi)/\Below w.heap.size w j)
    (exact G.out _ zb)
    (first
     |(go_at_call_of 182 (Value.int IntKind.i64 a.lo);refine(dA.out _).mono ?_;rintro e wA ⟨bA,c,rfl,J⟩;have za:c.size<=7:=(by rw[uk J];exact la);have Q:=FP (x:=1+c.size) aA;have Y:=FP (x:=1+c.size+1) aA;(try have n3:=FP (x:=1+c.size+1+f.size) aA);(try have n4:=FP (x:=1+c.size+1+f.size+1) aA))
     |(go_at_call_of 182 (Value.int IntKind.i64 a.hi);refine(dB.out _).mono ?_;rintro e wB ⟨bB,f,rfl,D⟩;have ze:f.size<=7:=(by rw[uk D];exact lb);(try have n3:=FP (x:=1+c.size+1+f.size) aA);(try have n4:=FP (x:=1+c.size+1+f.size+1) aA)))
   all_goals go_wp2_with fail
   all_goals go_meet
   all_goals exact⟨⟨_,rfl,by simp[ByteArray.data_append,J,D,Mu]⟩,zb⟩
  case rest=>
   obtain⟨⟨o,rfl,s⟩,bw⟩:=hcut;clear dA dB G;have I:=m.out _ bw;clear x0 x1 x2 x3 x4 x5;obtain⟨⟨x0,x1,x2,x3,x4,x5⟩,_⟩:=I.facts;have zw:o.size<=17:=by rw[uk s];simp[Mu];omega
   have b:=b.out;rcases u.out with⟨i,_⟩|⟨i,_⟩|⟨i,_,_,_,O,gr⟩|⟨i,_,_,_,O,_⟩
   .rw[show eO a.op=116 by rw[i];rfl]at x0;rw[bY i]at b;subst b;go_wp2_with fail;go_ret;exact⟨bw,_,rfl,rfl⟩
   .rw[show eO a.op=97 by rw[i];rfl]at x0;rw[bN aA,bY i]at b;replace b:Hid (res=a.name.data.toList):=b;go_wp2_with fail;go_ret;exact⟨bw,_,rfl,b.out.symm⟩
   .rw[bN aA,bN aA,bY i]at b;have k:=g;rw[b]at k;simp only[ky,ic,jr]at k;replace b:Hid (res=[40]++bF l++[32]++uR a++[32]++bF r++[41]):=b;have hC:Hid (∀W,Bl w W->_):=λW F=>E (.pointer q) B W (R.below F) O aA;have hD:Hid (∀W,Bl w W->_):=λW F=>P (.pointer L) B W (hr.below F) gr aA;have A:Hid (∀W,Bl w W->W.cell? (Ad X 4)=some (.pointer q)/\W.cell? (Ad X 5)=some (.pointer L)/\Bl w W):=λW h=>by
     obtain⟨⟨_,_,_,_,N,y5⟩,_⟩:=(m.out W h).facts;exact⟨N,y5,h⟩
    clear g;rcases i with e|e|e<;>rw[e]at x0
    all_goals
     go_wp2_with fail
     go_region_held3 (λj=>j.cell? (Ad X 4)=some (.pointer q)/\j.cell? (Ad X 5)=some (.pointer L)/\Bl w j)
      (exact A.out _ zb)
      (first
       |(go_at_call_of 145 (Value.pointer q);refine(hC.out _ zb).mono ?_;rintro e wA ⟨bA,c,rfl,J⟩;have za:c.size<=100000000:=(by rw[uk J];omega);have n0:=FP (x:=1+c.size) aA;have Q:=FP (x:=1+c.size+5) aA;have Y:=FP (x:=1+c.size+2) aA;have n3:=FP (x:=1+c.size+2+o.size) aA;have n4:=FP (x:=1+c.size+2+o.size+1) aA;(try have m0:=FP (x:=1+c.size+5+f.size) aA);(try have m1:=FP (x:=1+c.size+5+f.size+1) aA);(try have m2:=FP (x:=1+c.size+2+o.size+1+f.size) aA);(try have m3:=FP (x:=1+c.size+2+o.size+1+f.size+1) aA))
       |(go_at_call_of 145 (Value.pointer L);refine(hD.out _ zb).mono ?_;rintro e wB ⟨bB,f,rfl,D⟩;have ze:f.size<=100000000:=(by rw[uk D];omega);(try have m0:=FP (x:=1+c.size+5+f.size) aA);(try have m1:=FP (x:=1+c.size+5+f.size+1) aA);(try have m2:=FP (x:=1+c.size+2+o.size+1+f.size) aA);(try have m3:=FP (x:=1+c.size+2+o.size+1+f.size+1) aA)))
     all_goals go_wp2_with fail
     all_goals go_ret
     all_goals exact⟨zb,_,rfl,by rw[b.out,uR,e];simp[ByteArray.data_append,J,D,s,mi,dO,Mu]⟩
   .rw[if_neg (by omega),if_neg (by omega),if_neg (by omega)]at b;have k:=g;rw[b]at k;simp only[ky]at k;rcases i with e|i
    .rw[e]at x0;replace b:Hid (res=[194,172]++bF l):=by show _=_;rw[b,uR,e];rfl
     have hC:=E (.pointer q) B _ (R.below bw) O aA;go_wp2_with fail;apply hC.mono;rintro e t ⟨b2,d,rfl,H⟩;have zd:d.size<=100000000:=by rw[uk H];omega
     have Q:=FP (x:=2+d.size) aA;clear hC;go_wp2_with fail;go_ret;exact⟨bw.tr b2,_,rfl,by rw[b.out];simp[ByteArray.data_append,H]⟩
    obtain⟨K,hK,U,hE⟩:∃K:UInt8,(K.toNat=89\/K.toNat=79\/K.toNat=72)/\eO a.op=(K.toNat:Int)/\Hid (res=[K]++Mu a++bF l):=by
     rcases i with e|e|e
     .exact⟨89,aG,by rw[e];rfl,by show _=_;rw[b,uR,e];simp[mi,dO,Mu]⟩
     .exact⟨79,aG,by rw[e];rfl,by show _=_;rw[b,uR,e];simp[mi,dO,Mu]⟩
     .exact⟨72,aG,by rw[e];rfl,by show _=_;rw[b,uR,e];simp[mi,dO,Mu]⟩
    clear b;rw[U]at x0;have z:∀n:Int,(K.toNat:Int)≠n->((K.toNat:Int)==n)=false:=λ_ h=>by simpa using h
    have a1:=z 116 aA;have ag:=z 97 aA;have ah:=z 33 aA;have ai:=z 38 aA;have Z:=z 124 aA;have aj:=z 83 aA;have a6:=ve ((wc.alloc (.cells #[.int .u8 (K.toNat:Int)] 5)).drew) wc.heap.size (K.toNat:Int) K rfl (show(wc.alloc (.cells #[.int .u8 (K.toNat:Int)] 5)).cell? _=_ by rw[FG _ _ _ _ rfl];rfl);have hC:Hid (∀W,Bl w W->_):=λW F=>E (.pointer q) B W (R.below F) O aA;have A:Hid (∀W,Bl w W->W.cell? (Ad X 0)=some (.int .u8 (K.toNat:Int))/\W.cell? (Ad X 4)=some (.pointer q)/\Bl w W):=λW h=>by
     obtain⟨⟨M,_,_,_,N,_⟩,_⟩:=(m.out W h).facts;rw[U]at M;exact⟨M,N,h⟩
    have Q:=FP (x:=1+o.size) aA;have a8:X<wc.heap.size:=aN I;have ae:X≠wc.heap.size:=aA;clear hK i z;go_wp2_with fail
    go_region_with (first|(go_at_call_of 145 (Value.pointer q);refine(hC.out _ zb).mono ?_;rintro e t ⟨b2,d,rfl,H⟩;have zd:d.size<=100000000:=(by rw[uk H];omega);have Y:=FP (x:=1+o.size+d.size) aA;have a7:=ve (t.alloc (.cells #[.int .u8 (K.toNat:Int)] 5)) t.heap.size (K.toNat:Int) K rfl (by rw[FG _ _ _ _ rfl];rfl);have b3:=A.out t zb;obtain⟨M,N,b4⟩:=b3;have af:X<t.heap.size:=(eS M);have ad:X≠t.heap.size:=aA;(try have aa:=ve t wc.heap.size (K.toNat:Int) K rfl ((b2.cell (p:=(Ad wc.heap.size 0)) aF).trans (show(wc.alloc (.cells #[.int .u8 (K.toNat:Int)] 5)).cell? _=_ by rw[FG _ _ _ _ rfl];rfl)))))
    all_goals
     as_aux_lemma=>
      go_wp2_with fail;go_ret;exact⟨zb,_,rfl,by rw[hE.out];simp[ByteArray.data_append,H,s]⟩
theorem n8:(prog.info? 9).map (λi=>(i.zero,i.size,i.bytes))=some (some (.string ⟨#[]⟩),1,16):=aL
def strs(L:aB (aB aX)):aB aE:=L.map λs=>.string ⟨s.toArray⟩
theorem Mb(L):(strs L).length=L.length:=by simp[strs]
theorem Vh(L):∀u∈strs L,u.oneCell'=true:=by
 intro u a;simp[strs]at a;obtain⟨s,_,rfl⟩:=a;rfl
theorem qU:∀{x:BT dD},Good x->(bF x).length<=40*cF x
 |.nil,h=>h.elim
 |.node b o a l r,h=>by
  let n:bF (.node b o a l r)=if a.op=116 then[116,114,117,101]
   else if a.op=97 then a.name.data.toList
   else if a.op=8743\/a.op=8744\/a.op=83 then[40]++bF l++[32]++uR a++[32]++bF r++[41]
   else uR a++bF l:=rfl
  let i:cF (.node b o a l r)=cF l+cF r+1:=rfl
  rw[n,i]
  obtain⟨c,_⟩|⟨c,⟨_,p,_⟩,_⟩|⟨c,f,e,j,d,m⟩|⟨c,f,e,j,d,_⟩:=h
  .rw[bY c];simp;omega
  .rw[bN aA,bY c,fT];omega
  .let g:=qU d
   let q:=qU m
   let k:=Ds a e
   rw[bN aA,bN aA,bY c]
   simp only[ky,ic,jr]
   omega
  .let g:=qU d
   let k:=Ds a e
   rw[bN aA,bN aA,bN aA]
   simp only[ky]
   omega
theorem ki:∀(x:BT dD)(L:aB (aB aX)),L.length<=(dE L x).length/\(dE L x).length<=L.length+cF x
 |.nil,L=>by simp[dE,cF]
 |.node b o a l r,L=>by
  let d:=ki l L
  let c:=ki r (dE L l)
  simp only[dE,cF]
  split
  .omega
  .simp;omega
theorem LC{w:aC}{base:Nat}{v:aE}{L:aB (aB aX)}(h:w.ownsRow base 9 1 v L.length (strs L)):∃b k,v=.slice b L.length k/\∀(j:Nat)(y:aB aX),L[j]?=some y->∃g,b=some (Ad g 0)/\w.cell? (Ad g j)=some (Value.string ⟨y.toArray⟩):=by
 by_cases i:L.length=0
 .obtain⟨_,⟨rfl,_⟩|⟨g,cap,l,rfl,_⟩⟩:=h
  .exact⟨none,0,by rw[i],λj y a=>by have:=(eY.1 a).1;omega⟩
  .exact⟨_,cap,rfl,λj y a=>by have:=(eY.1 a).1;omega⟩
 .obtain⟨g,cap,rfl,d,e,f,c⟩:=fS h aA;exact⟨_,cap,rfl,λj y a=>⟨g,rfl,by rw[h.cellAt j (by have:=(eY.1 a).1;omega)];simp[strs,a]⟩⟩
theorem V5{a:Type}{l:aB a}{i y}(h:l[i]?=some y):l.drop i=y::l.drop (i+1):=by
 let⟨hi,e⟩:=eY.1 h;rw[pw hi,e]
def SM(x:BT dD):Prop:=∀(v c:aE)(B a:Nat)(L:aB (aB aX))(w:aC),bX B w x v->Good x->cF x<=100000->w.ownsRow a 9 1 c L.length (strs L)->a<=w.heap.size->L.length+cF x<=1000000000000->
 Calls prog 105 #[c,v] w λe d=>Bl w d/\∃b,e=.returned b/\d.ownsRow a 9 1 b (dE L x).length (strs (dE L x))
theorem fQ{w c base size n e v xs}(h:w.ownsRow base e size v n xs)(k:Bl w c):c.ownsRow base e size v n xs:=by
 obtain⟨b,⟨rfl,d⟩|⟨g,cap,a,rfl,j,f,i⟩⟩:=h
 .exact⟨b,.inl ⟨rfl,d⟩⟩
 .exact⟨b,.inr ⟨g,cap,a,rfl,j,k.aT f,i⟩⟩
theorem yr(m o:Nat)(a:dD)(l r:BT dD)(P:aB (BT dD))(O:∀y,y∈P->SM y/\Good y/\cF y<=100000)(au:(P.map cF).sum<=cF (.node m o a l r))(S:∀L,P.foldl dE L=dE (dE L l) r)(T V:aR bC)(bd:T=none->V=none)
  (ae:P.length=(mD T++mD V).length) (X B BL:Nat) (vl:aE) (L:aB (aB aX)) (w:aC) (hX:rK X w (eO a.op) a.name a.lo a.hi (.pointer T) (.pointer V))
  (aq:∀(j:Nat)(y:BT dD),P[j]?=some y->∃p,(mD T++mD V)[j]?=some (Value.pointer p)/\bX B w y (Value.pointer p))
  (hx:bX B w (.node m o a l r) (Pt X)) (hg:Good (.node m o a l r)) (hn:cF (.node m o a l r)<=100000) (hL:w.ownsRow BL 9 1 vl L.length (strs L)) (bp:BL<=w.heap.size) (bh:L.length+cF (.node m o a l r)<=1000000000000):
  Calls prog 105 #[vl,Pt X] w λe w'=>Bl w w'/\∃v',e=.returned v'/\w'.ownsRow BL 9 1 v' (dE L (.node m o a l r)).length (strs (dE L (.node m o a l r))):=by
 have A:=E0 X w _ _ _ _ T V hX bd;have bq:=qU hg;have J:Hid (dE L (.node m o a l r)=if bF (.node m o a l r)∈P.foldl dE L then P.foldl dE L else P.foldl dE L++[bF (.node m o a l r)]):=by show _=_;rw[S];rfl
 have bs:=ki l L;have ai:=ki r (dE L l);rw[<-S]at ai;have bl:cF (.node m o a l r)=cF l+cF r+1:=rfl;have aa:(P.foldl dE L).length<=1000000000000:=aA;generalize dE L (.node m o a l r)=res at*;generalize hs:bF (.node m o a l r)=C at*;have aj:Hid (∀W,Bl w W->Calls prog 145 #[Pt X] W λe w'=>Bl W w'/\∃d,e=.returned (.string d)/\d.data.toList=C):=λW J=>by
  have:=(H5 (.node m o a l r)) (Pt X) B W (hx.below J) hg (by rw[hs];omega);rw[hs]at this;exact this
 generalize(BT.node m o a l r:BT dD)=x at*;generalize ax:mD T++mD V=vs at*;obtain⟨i0,hi,Z,a1,R⟩:=eB n8;go_enter func105,ntmps105;go_wp2_with fail;apply A.mono;rintro e w1 ⟨b1,v,rfl,G⟩;clear A;have b9:∃pv cap,v=.slice pv vs.length cap/\∀j y,vs[j]?=some y->∃g,pv=some (Ad g 0)/\g<w1.heap.size/\w1.cell? (Ad g j)=some y:=by
  by_cases h0:vs.length=0
  .obtain⟨_,⟨rfl,_⟩|⟨g,cap,bc,rfl,_⟩⟩:=G
   .exact⟨none,0,by rw[h0],λj y s=>by have:=(eY.1 s).1;omega⟩
   .exact⟨_,cap,rfl,λj y s=>by have:=(eY.1 s).1;omega⟩
  .obtain⟨g,cap,rfl,c8,ay,bm,c6⟩:=fS G aA;exact⟨_,cap,rfl,λj y s=>⟨g,rfl,ay,by rw[G.cellAt j (by have:=(eY.1 s).1;omega)];exact s⟩⟩
 obtain⟨pv,cap,rfl,H⟩:=b9;rw[<-ae];have bk:(P.length:Int)<=2:=by
  have:P.length<=2:=by rw[ae,<-ax];cases T<;>cases V<;>simp[mD]
  omega
 go_wp2;go_loopw [0,6] (λlv iv wr=>∃(i:Nat)(b:aB (aB aX)),iv=Iv i/\i<=P.length/\wr.ownsRow BL 9 1 lv b.length (strs b)/\Bl w1 wr/\b.length+((P.drop i).map cF).sum<=1000000000000/\Hid ((P.drop i).foldl dE b=P.foldl dE L)) (λ_ iv _=>P.length-(intOf iv).toNat)
 case atStart=>exact⟨0,L,rfl,cC,fQ hL b1,aV,by rw[wF];omega,by rw[wF];rfl⟩
 case round=>
  obtain⟨i,b,rfl,br,F,D,M,hF⟩:=hrel;by_cases a7:i<P.length
  .have aw:decide ((i:Int)<(P.length:Int))=true:=by simp;omega
   obtain⟨y,Y⟩:∃y,P[i]?=some y:=⟨P[i],fH a7⟩;have ag:=V5 Y;have⟨p,hp,hpr⟩:=aq i y Y;obtain⟨g,rfl,U,ah⟩:=H i _ hp;have⟨wok,gy,ny⟩:=O y (iF Y);have bj:=(D.cell (p:=(Ad g i)) U).trans ah;have bn:=b1.size;have bu:=D.size;have bb:b.length+(cF y+((P.drop (i+1)).map cF).sum)<=1000000000000:=by rw[ag,hY,List.sum_cons]at M;exact M
   have b2:Hid ((P.drop (i+1)).foldl dE (dE b y)=P.foldl dE L):=by show _=_;rw[<-hF.out,ag];rfl
   have bf:=ki y b;go_wp2_with fail;apply(wok (.pointer p) _ B BL b wr ((hpr.below b1).below D) gy ny F aA aA).mono;rintro e w3 ⟨b3,v3,rfl,c⟩;go_wp2_with fail
   try go_big_round
   exact⟨⟨i+1,dE b y,dV,a7,c,D.tr b3,aA,b2⟩,zm⟩
  .have aw:decide ((i:Int)<(P.length:Int))=false:=by simp;omega
   have a8:b=P.foldl dE L:=by rw[<-hF.out,ux aA];rfl
   rw[<-a8]at J aa;have bW:=b1.tr D;have hC:=aj.out wr bW;clear hF H aq O aj a8 S ai;go_wp2_with fail;apply hC.mono;rintro e w3 ⟨b3,d,rfl,hd⟩;clear hC;have c:=fQ F b3;have VA:d=⟨C.toArray⟩:=my hd;obtain⟨pq,cq,rfl,Q⟩:=LC c;have h:=bW.tr b3;go_wp2_with fail;go_loopw [8] (λiv wq=>∃i:Nat,iv=Iv i/\i<=b.length/\wq=w3/\Hid (∀j y,j<i->b[j]?=some y->y≠C)) (λiv _=>b.length-(intOf iv).toNat)
   case atStart=>exact⟨0,rfl,cC,rfl,λj y s=>absurd s (Ao _)⟩
   case round=>
    obtain⟨i,rfl,bg,rfl,E⟩:=hrel;by_cases ak:i<b.length
    .have af:decide ((i:Int)<(b.length:Int))=true:=by simp;omega
     obtain⟨y,Y⟩:∃y,b[i]?=some y:=⟨b[i],fH ak⟩;obtain⟨g,rfl,ah⟩:=Q i y Y;by_cases I:y=C
     .have q1:(y==C)=true:=by simp[I]
      have HE:Hid (res=b):=by show _=_;rw[J.out,bY (I▸iF Y)]
      clear J E Q;go_wp2_with fail;go_ret;exact⟨h,_,rfl,by rw[HE.out];exact c⟩
     .have q1:(y==C)=false:=by simp[I]
      have an:Hid (∀j y,j<i+1->b[j]?=some y->y≠C):=λj z s hz=>by
       by_cases az:j<i
       .exact E.out j z az hz
       .have:j=i:=by omega
        subst this;rw[Y]at hz;injection hz with hz;rw[<-hz];exact I
      clear J E Q;go_wp2_with fail
      try go_big_round
      exact⟨⟨i+1,dV,ak,trivial,an⟩,zm⟩
    .have af:decide ((i:Int)<(b.length:Int))=false:=by simp;omega
     have K:¬C∈b:=by
      intro hm;obtain⟨j,s,b6⟩:=List.getElem_of_mem hm;exact E.out j b[j] aA (fH s) b6
     have HE:Hid (res=b++[C]):=by show _=_;rw[J.out,bN K]
     clear J E K;have ad:BL<=wr.heap.size:=by have:=h.size;omega
     have N:=CQ (base:=wr.heap.size) (e:=9) (size:=1) wr #[] 0 aZ eP rfl;have ar:b.length<=1000000000000:=aa;obtain⟨bo,⟨a6,b8⟩|⟨g,cp,bc,a6,c1,ba,bx,bw,bt,c7⟩⟩:=id c
     .injection a6 with hp0 hn1 ZY;subst hp0;subst ZY;obtain rfl:=uJ.1 b8;have z3:=h.size;go_wp2_with (at_builtin;refine jz _ rfl _ _ 31 rfl wr.heap.size 9 i0 _ 1 16 underlying31 hi Z a1 R rfl aG _ _ _ rfl (N.alloc _) (Ad (wr.heap.size+1) 0) 1 1 [.string ⟨C.toArray⟩] rfl rfl (by have:=pA (wr.alloc (.cells #[] 9)) (.string ⟨C.toArray⟩) 9;simpa using this) xM eP aA bI ?_);intro v5 w5 n f _;have b5:Bl w w5:=((h.al _).al _).grown f bI (λk hk=>by have e:wr.heap.size=k:=(by injection hk);omega);go_wp2_with fail;go_ret;exact⟨b5,v5,rfl,by rw[HE.out];simpa[strs]using n.mono ad⟩
     .injection a6 with hp0 hn1 ZY;subst hp0;subst ZY;have U:=aN ba;have b7:∀(j:Nat)(u:aE),(strs b)[j]?=some u->(wr.alloc (.cells #[] 9)).cell? (((Ad g 0):bC).add j)=some u:=λj u s=>by
       have bz:j<b.length:=by have:=(eY.1 s).1;rwa[Mb]at this
       have e1:((Ad g 0):bC).add j=(Ad g j):=by simp[Addr.add];omega
       rw[e1,sJ _ _ (Ad g j) U,c.cellAt j aA];exact s
      go_wp2_with (at_builtin;refine jz _ rfl _ _ 31 rfl wr.heap.size 9 i0 _ 1 16 underlying31 hi Z a1 R rfl aG _ _ _ rfl N (Ad g 0) b.length cq (strs b) rfl (by rw[Mb];omega) b7 (Vh b) eP aA aF ?_);intro v4 w4 q t _;have b4:=(h.al _).grown t (by have:=h.size;simp;omega) (λk hk=>by have e:wr.heap.size=k:=(by injection hk);have:=h.size;omega);have z4:=b4.size;have zz:wr.heap.size+1<=w4.heap.size:=by have:=t.size;simpa using this
      try simp only[fE,jq]at q
      go_wp2_with (at_builtin;refine jz _ rfl _ _ 31 rfl wr.heap.size 9 i0 _ 1 16 underlying31 hi Z a1 R rfl aG _ _ _ rfl (q.alloc _) (Ad w4.heap.size 0) 1 1 [.string ⟨C.toArray⟩] rfl rfl (pA w4 _ _) xM eP aA bI ?_);intro v5 w5 n f _;go_wp2;go_ret;exact⟨(b4.al _).grown f bI (λk hk=>by have:=(q.lt k hk).1;have:=h.size;omega),v5,rfl,by rw[HE.out];simpa[strs]using n.mono ad⟩
theorem wV(n w):Calls prog 64 #[Iv n] w λe a=>e=.returned (Iv n)/\a=w:=by
 go_enter func64,ntmps64;go_wp2;go_ret;exact⟨rfl,rfl⟩
def oW(n:Nat):aB aX:=[35,UInt8.ofNat (n/65536%256),UInt8.ofNat (n/256%256),UInt8.ofNat (n%256)]
theorem Fc(n:Nat)(w):Calls prog 73 #[Iv (n)] w λe g=>e=.returned (.string ⟨(oW n).toArray⟩)/\Bl w g:=by
 have a:=Vt (P:=prog) (w.alloc (.cells #[.int .u8 35,.int .u8 ((n:Int)/65536%256),.int .u8 ((n:Int)/256%256),.int .u8 ((n:Int)%256)] 5)) 99 9 5 (Ad w.heap.size 0) 4 (oW n) underlying99 underlying5 underlying9 (λj f=>by
  have d:((Ad w.heap.size 0):bC).add j=(Ad w.heap.size j):=by simp[Addr.add];omega
  have b:∀k:Nat,(UInt8.ofNat (k%256)).toNat=k%256:=λk=>by rw[Im];omega
  rw[d,World.cell?_alloc_mark]
  match j,f with
  |0,_=>rfl
  |1,_=>
   show some _=some (Value.int .u8 ((UInt8.ofNat (n/65536%256)).toNat:Int));rw[b];simp
  |2,_=>
   show some _=some (Value.int .u8 ((UInt8.ofNat (n/256%256)).toNat:Int));rw[b];simp
  |3,_=>
   show some _=some (Value.int .u8 ((UInt8.ofNat (n%256)).toNat:Int));rw[b];simp)
 have c:(convert 99 9 (Sl w.heap.size 4 4)).run prog (w.alloc (.cells #[.int .u8 35,.int .u8 ((n:Int)/65536%256),.int .u8 ((n:Int)/256%256),.int .u8 ((n:Int)%256)] 5))=.ok (.string ⟨(oW n).toArray⟩) (w.alloc (.cells #[.int .u8 35,.int .u8 ((n:Int)/65536%256),.int .u8 ((n:Int)/256%256),.int .u8 ((n:Int)%256)] 5)):=a;clear a;generalize oW n=t at*;go_enter func73,ntmps73;go_wp2_with fail;go_ret;exact⟨rfl,aV.al _⟩
def cJ(L:aB a_):aB aE:=L.map Value.string
def dG:a_:=⟨#[115,112,97,114,101]⟩
theorem wL(L):(cJ L).length=L.length:=by simp[cJ]
theorem GL(L):∀u∈cJ L,u.oneCell'=true:=by
 intro u a;simp[cJ]at a;obtain⟨s,_,rfl⟩:=a;rfl
theorem rM(w:aC)(x y t):∀j u,[x,y][j]?=some u->(w.alloc (.cells #[x,y] t)).cell? (((Ad w.heap.size 0):bC).add j)=some u:=by
 intro j u a;have:((Ad w.heap.size 0):bC).add j=(Ad w.heap.size j):=by simp[Addr.add];omega
 rw[this];exact aD (aQ w (.cells #[x,y] t (0,0)) _ rfl) (by simpa using a)
theorem Ud(L d h cap w)(x:L.length<=1000000000)(n:d<w.heap.size)(s:∀j,j<L.length->w.cell? (Ad d (h+j))=some (.string (L.getD j ByteArray.empty))):
  Calls prog 61 #[.slice (some (Ad d h)) L.length cap] w λe p=>Bl w p/\∃v,e=.returned v/\p.ownsRow w.heap.size 9 1 v (L.length+2) (cJ (L++[dG,dG])):=by
 let⟨i0,hi,nI,nJ,nS⟩:=eB n8;let l:∀(j:Nat)(u:aE),(cJ L)[j]?=some u->(w.alloc (.cells #[] 9)).cell? (((Ad d h):bC).add j)=some u:=λj u m=>by
  let f:j<L.length:=by have:=(eY.1 m).1;rwa[wL]at this
  let t:((Ad d h):bC).add j=(Ad d (h+j)):=by simp[Addr.add]
  rw[t,sJ _ _ (Ad d (h+j)) n,s j f];simp[cJ,f]at m;rw[<-m];simp[List.getD,f]
 unfold dG;go_enter func61,ntmps61;go_wp2_with (at_builtin;refine jz _ rfl _ _ 31 rfl w.heap.size 9 i0 _ 1 16 underlying31 hi nI nJ nS rfl aG _ _ _ rfl (CQ (base:=w.heap.size) (e:=9) (size:=1) w #[] 0 aZ eP rfl) (Ad d h) L.length cap (cJ L) rfl (by rw[wL];omega) l (GL L) eP aA aF ?_);intro y q a b _;let o:=((cD w.heap.size w).al _).grown b aF (λk i=>by have e:w.heap.size=k:=(by injection i);omega);let A:=o.size
 try simp only[fE,jq]at a
 go_wp2_with (at_builtin;refine jz _ rfl _ _ 31 rfl w.heap.size 9 i0 _ 1 16 underlying31 hi nI nJ nS rfl aG _ _ _ rfl (a.alloc _) (Ad q.heap.size 0) 2 2 [.string ⟨#[115,112,97,114,101]⟩,.string ⟨#[115,112,97,114,101]⟩] rfl rfl (rM q _ _ _) xM eP aA bI ?_);intro r z g c _;go_wp2;go_ret;exact⟨(o.al _).grown c bI λk i=>(a.lt k i).1,r,rfl,by simpa[cJ]using g⟩
theorem Ue(w):
  Calls prog 61 #[.slice none 0 0] w λe c=>Bl w c/\∃v,e=.returned v/\c.ownsRow w.heap.size 9 1 v 2 (cJ [dG,dG]):=by
 let⟨i0,hi,nI,nJ,nS⟩:=eB n8;unfold dG;go_enter func61,ntmps61;go_wp2_with (at_builtin;refine jz _ rfl _ _ 31 rfl w.heap.size 9 i0 _ 1 16 underlying31 hi nI nJ nS rfl aG _ _ _ rfl ((CQ (base:=w.heap.size) (e:=9) (size:=1) w #[] 0 aZ eP rfl).alloc _) (Ad (w.heap.size+1) 0) 2 2 [.string ⟨#[115,112,97,114,101]⟩,.string ⟨#[115,112,97,114,101]⟩] rfl rfl (by have:=rM (w.alloc (.cells #[] 9)) (.string ⟨#[115,112,97,114,101]⟩) (.string ⟨#[115,112,97,114,101]⟩) 9;simpa using this) xM eP aA bI ?_);intro d g b a _;go_wp2;go_ret;exact⟨(((cD w.heap.size w).al _).al _).grown a bI (λk f=>by have e:w.heap.size=k:=(by injection f);omega),d,rfl,by simpa[cJ]using b⟩
theorem Q4(a cap w):
  Calls prog 61 #[.slice (some a) 0 cap] w λe l=>Bl w l/\∃v,e=.returned v/\l.ownsRow w.heap.size 9 1 v 2 (cJ [dG,dG]):=by
 let⟨i0,hi,nI,nJ,nS⟩:=eB n8;unfold dG;go_enter func61,ntmps61;go_wp2_with (at_builtin;refine jz _ rfl _ _ 31 rfl w.heap.size 9 i0 _ 1 16 underlying31 hi nI nJ nS rfl aG _ _ _ rfl (CQ (base:=w.heap.size) (e:=9) (size:=1) w #[] 0 aZ eP rfl) a 0 cap [] rfl rfl (λj u o=>by simp at o) (λu m=>by cases m) eP aA aF ?_);intro q i b c _;let h:=((cD w.heap.size w).al _).grown c aF (λk g=>by have e:w.heap.size=k:=(by injection g);omega);let p:=h.size
 try simp only[fE,jq]at b
 go_wp2_with (at_builtin;refine jz _ rfl _ _ 31 rfl w.heap.size 9 i0 _ 1 16 underlying31 hi nI nJ nS rfl aG _ _ _ rfl (b.alloc _) (Ad i.heap.size 0) 2 2 [.string ⟨#[115,112,97,114,101]⟩,.string ⟨#[115,112,97,114,101]⟩] rfl rfl (rM i _ _ _) xM eP aA bI ?_);intro n r f d _;go_wp2;go_ret;exact⟨(h.al _).grown d bI λk g=>(b.lt k g).1,n,rfl,by simpa[cJ]using f⟩
end
section
open Go.Deep (BT)
theorem Ii{op u t a b}(h:dT op u=some ((a,b),t)):(0<=a/\a<=b/\b<=1000000)/\(mi op=false->a=0/\b=0):=by
 by_cases hw:mi op=true
 .cases i:dH 91 u with
  |none=>rw[uu hw i]at h;cases h
  |some j=>
   rw[nY hw i]at h;cases c:jm j with
   |none=>rw[c]at h;cases h
   |some k=>
    let⟨a',t2⟩:=k;rw[c]at h;simp only at h;let p:=wW c;cases g:dH 44 t2 with
    |none=>rw[g]at h;cases h
    |some l=>
     rw[g]at h;simp only at h;cases d:jm l with
     |none=>rw[d]at h;cases h
     |some m=>
      let⟨b',t4⟩:=m;rw[d]at h;simp only at h;let o:=wW d;cases f:dH 93 t4 with
      |none=>rw[f]at h;cases h
      |some n=>
       rw[f]at h;simp only at h;split at h
       .cases h
       .simp at h;obtain⟨⟨rfl,rfl⟩,_⟩:=h;exact⟨aA,λe=>by rw[hw]at e;cases e⟩
 .unfold dT at h;rw[bN hw]at h;simp at h;obtain⟨⟨rfl,rfl⟩,_⟩:=h;exact⟨aA,λ_=>⟨rfl,rfl⟩⟩
theorem Sc{c r x}(i:aM (c.toNat:Int)=97)(h:oY (iD 97 (c::r))=some x):Good x/\bD x=1:=by
 have f:∀y,y∈iD 97 (c::r)->97<=y.toNat/\y.toNat<=122:=by
  intro y d;rw[(Fv _).1]at d;have:=yE.1 List.all_takeWhile y d;unfold pB at this;simp at this;exact this
 have a:1<=(iD 97 (c::r)).length:=by
  unfold iD;rw[Cw,i];simp
 generalize iD 97 (c::r)=w at*;unfold oY at h;split at h
 .injection h with h;subst h;exact⟨.inl ⟨rfl,rfl,rfl,rfl,rfl,rfl⟩,rfl⟩
 .rename_i g;split at h
  .cases h
  .rename_i j;injection h with h;subst h;refine⟨.inr (.inl ⟨rfl,⟨?_,?_,?_,?_⟩,rfl,rfl,rfl,rfl⟩),rfl⟩
   .show 1<=(ByteArray.mk w.toArray).size;rw[<-fT];simpa using a
   .show(ByteArray.mk w.toArray).size<=8;rw[<-fT];simp;omega
   .intro e;apply g;have:=oB (λb:a_=>b.data.toList) e;simpa[Fh]using this
   .intro y d;exact f y (by simpa using d)
theorem H_:∀(n:Nat)(u:aB aX)(x:BT dD)(t:aB aX),jY n u=some (x,t)->Good x/\bD x<=n
 |0,u,x,t,h=>by cases h
 |n+1,u,x,t,h=>by
  let v:=H_ n
  simp only[jY]at h
  cases j:cB u with
  |nil=>rw[j]at h;cases h
  |cons c r=>
   rw[j]at h
   simp only at h
   split at h
   .rename_i m
    cases hw:oY (iD 97 (c::r))with
    |none=>rw[hw]at h;cases h
    |some y=>
     rw[hw]at h
     simp at h
     obtain⟨rfl,_⟩:=h
     let⟨g,d⟩:=Sc m hw
     exact⟨g,aA⟩
   .split at h
    .unfold wk at h
     cases l:jY n r with
     |none=>rw[l]at h;cases h
     |some C=>
      let⟨x1,t1⟩:=C
      let⟨g1,d1⟩:=v r x1 t1 l
      rw[l]at h
      simp only at h
      cases w:cB t1 with
      |nil=>rw[w]at h;cases h
      |cons k B=>
       rw[w]at h
       simp only at h
       split at h
       .rename_i A
        cases i:dT (aM (k.toNat:Int)) B with
        |none=>rw[i]at h;cases h
        |some p=>
         let⟨⟨a,b⟩,t3⟩:=p
         let⟨w1,w2⟩:=Ii i
         rw[i]at h
         simp only at h
         cases f:jY n t3 with
         |none=>rw[f]at h;cases h
         |some o=>
          let⟨q,t4⟩:=o
          let⟨g4,d4⟩:=v t3 q t4 f
          rw[f]at h
          simp only at h
          cases z:dH 41 t4 with
          |none=>rw[z]at h;cases h
          |some D=>
           rw[z]at h
           simp at h
           obtain⟨rfl,_⟩:=h
           let s:aM (k.toNat:Int)=8743\/aM (k.toNat:Int)=8744\/aM (k.toNat:Int)=83:=by
            obtain e|e|e:=A<;>rw[e]
            .exact .inl aG
            .exact .inr (.inl aG)
            .exact .inr (.inr aG)
           refine⟨.inr (.inr (.inl ⟨s,rfl,w1,w2,g1,g4⟩)),?_⟩;show 1+max (bD x1) (bD q)<=n+1;omega
       .cases h
    .split at h
     .rename_i m;unfold singleR at h;cases i:dT (aM (c.toNat:Int)) r with
      |none=>rw[i]at h;cases h
      |some p=>
       let⟨⟨a,b⟩,t3⟩:=p;let⟨w1,w2⟩:=Ii i;rw[i]at h;simp only at h;cases f:jY n t3 with
       |none=>rw[f]at h;cases h
       |some o=>
        let⟨q,t4⟩:=o;let⟨g4,d4⟩:=v t3 q t4 f;rw[f]at h;simp at h;obtain⟨rfl,_⟩:=h;let s:aM (c.toNat:Int)=172\/aM (c.toNat:Int)=89\/aM (c.toNat:Int)=79\/aM (c.toNat:Int)=72:=by
         obtain e|e|e|e:=m<;>rw[e]
         .exact .inl aG
         .exact .inr (.inl aG)
         .exact .inr (.inr (.inl aG))
         .exact .inr (.inr (.inr aG))
        refine⟨.inr (.inr (.inr ⟨s,rfl,w1,w2,g4,rfl⟩)),?_⟩;show 1+max (bD q) 0<=n+1;omega
     .cases h
theorem Qu(a:aB aX):(if a≠[]/\a.getLast?≠some 32 then a++[32]else a).length<=a.length+1:=by
 split
 .simp
 .omega
theorem W8(s):∀f i (a u),a.length<=i->i<=s.size->im s f i a=some u->u.length<=s.size:=by
 intro f
 induction f with
 |zero=>
  intro i a u h hi e;simp only[im]at e;injection e with e;subst e;omega
 |succ f b=>
  intro i a u h hi e;simp only[im]at e;split at e
  .rename_i d;split at e
   .rename_i c;exact b _ _ _ bI aA e
   .split at e
    .rename_i c;exact b _ _ _ bI aA e
    .split at e
     .rename_i c;exact b _ _ _ bI aA e
     .split at e
      .exact b _ _ _ (by have:=Qu a;omega) aA e
      .split at e
       .exact b _ _ _ bI aA e
       .cases e
  .injection e with e;subst e;omega
end
section
open Go.RowKit Go.Deep
structure Sw(base:Nat)(e:TypeId)(size:Nat)(l:aE)(n m:Nat)(xs news:aB aE)(w:aC)(v':aE)(w':aC):Prop where
 own:w'.ownsRow base e size v' (n+m) (xs++news)
 old:w'.ownsRow base e size l n xs
 grown:w.grownBy w' l.ownBlock
 at_:v'.ownBlock=l.ownBlock\/(v'.ownBlock=some w.heap.size/\∀k,k<w.heap.size->w'.heap[k]?=w.heap[k]?)
section
variable{P:Program}(w:aC)
theorem Dd(base t I e i z size bytes)(M:P.underlying t=some (.slice e))(hi:P.info? e=some i)(U:i.zero=some z)
  (s:i.size=size) (Q:i.bytes=bytes) (L:z.cells.size=size)
  (v n xs) (b:w.ownsRow base e size v n xs)
  (a m c news) (A:news.length=m*size) (Y:0<m) (d:∀j u,news[j]?=some u->w.cell? (a.add j)=some u) (W:∀u∈news,u.oneCell'=true)
  (F:n+m<=maxLen) (h:(n+m)*bytes<=140737488355328) (r:base<=w.heap.size):
  ∃S T,(Builtin.append_ #[t,t] I #[v,.slice (some a) m c]).run P w=.ok S T/\Sw base e size v n m xs news w S T:=by
 subst s;subst Q;have H:n+m<=9223372036854775807:=by simp only[maxLen]at F;omega
 have l:(xs++news).length=(n+m)*i.size:=by rw[ky,b.1,A,Nat.add_mul]
 have grown:∀(old:Nat),Sw base e i.size v n m xs news w (Sl w.heap.size (n+m) (grownCap w (n+m) old e)) (w.drew.alloc (.cells (xs.toArray++news.toArray++Builtin.zeroCells z.cells (grownCap w (n+m) old e-(n+m))) e)):=by
  intro old;have O:=grownCap_ge w (n+m) old e;have q:grownCap w (n+m) old e<=maxLen:=grownCap_le_maxLen w (n+m) old e F;have y:∀k,k<w.heap.size->(w.drew.alloc (.cells (xs.toArray++news.toArray++Builtin.zeroCells z.cells (grownCap w (n+m) old e-(n+m))) e)).heap[k]?=w.heap[k]?:=λk x=>heap_alloc_old w.drew _ x;have K:w.grownBy (w.drew.alloc (.cells (xs.toArray++news.toArray++Builtin.zeroCells z.cells (grownCap w (n+m) old e-(n+m))) e)) none:=⟨rfl,rfl,rfl,aF,λk x _=>y k x⟩;refine⟨⟨l,.inr ⟨w.heap.size,_,_,rfl,r,heap_alloc_new w.drew _,O,q,?_,?_⟩⟩,b.kept K (by cases v.ownBlock<;>simp),⟨rfl,rfl,rfl,aF,λk x _=>y k x⟩,.inr ⟨rfl,y⟩⟩
  .simp only[Array.size_append,ju,size_zeroCells,L,b.1,A,<-Nat.add_mul];congr 1;omega
  .simp only[Array.toList_append,nC];rw[<-nC,<-l];exact List.take_left
 have PB:=b;rcases b.2 with⟨rfl,rfl⟩|⟨g,cap,o,rfl,E,N,R,q,J,p⟩
 .have V:xs=[]:=List.eq_nil_of_length_eq_zero (by simpa using b.1);subst V;have C:=run_append_nil (P:=P) w t I e i z M hi U a m c news A d aA aA (by have X:=h;simp only[fE]at X;omega);have B:=grown 0;simp only[Nat.zero_add,Array.empty_append]at B⊢;exact⟨_,_,C,B⟩
 .by_cases f:n+m<=cap
  .have D:n*i.size+news.length<=o.size:=by rw[A,J,<-Nat.add_mul];exact MC _ f
   have C:=run_append_room (P:=P) w t I e i M hi g n cap o N a m c news A d W f D;have G:(o.toList.take (n*i.size)++news++o.toList.drop (n*i.size+news.length)).toArray.size=cap*i.size:=by
    simp only[ju,ky,kV,nZ,yB];omega
   refine⟨_,_,C,⟨l,.inr ⟨g,cap,_,rfl,E,CR w g o _ e _ N,f,q,G,?_⟩⟩,⟨b.1,.inr ⟨g,cap,_,rfl,E,CR w g o _ e _ N,R,q,G,?_⟩⟩,⟨rfl,rfl,rfl,aF,λk _ x=>Au w g k _ λe=>x (by simp[Value.ownBlock,e])⟩,.inl rfl⟩
   .rw[p,<-l];exact List.take_left
   .simp only[nC];rw[p,FJ (b.1▸aZ),<-b.1,MA]
  .have holds:=b.cells (g:=g) rfl;have C:=run_append_grow (P:=P) w t I e i z M hi U (Ad g 0) n cap xs b.1 holds a m c news A d aA aA (growslice_fits aA h);exact⟨_,_,C,grown cap⟩
theorem mj{l rest o a Q}(y:o.guard=none)(s x t)
  (I:o.op=.call {callee:=.builtin .append,args:=#[s,x],argTypes:=#[t,t]})
  (base e i z size bytes) (F:P.underlying t=some (.slice e)) (hi:P.info? e=some i) (M:i.zero=some z)
  (g:i.size=size) (B:i.bytes=bytes) (A:z.cells.size=size)
  (v n xs) (H:a.eval s=v) (k:w.ownsRow base e size v n xs)
  (r m c news) (E:a.eval x=.slice (some r) m c) (D:news.length=m*size) (J:0<m) (d:∀j u,news[j]?=some u->w.cell? (r.add j)=some u) (G:∀u∈news,u.oneCell'=true)
  (C:n+m<=maxLen) (b:(n+m)*bytes<=140737488355328) (f:base<=w.heap.size)
  (h:∀p q,Sw base e size v n m xs news w p q->wpList P l Q rest (a.put o.dst p) q):
  wpList P l Q (o::rest) a w:=by
 refine wpList_plain y λK L=>?_;let⟨p,q,hr,h2⟩:=Dd (P:=P) w base t o.type e i z size bytes F hi M g B A v n xs k r m c news D J d G C b f;unfold Oper.wp execOp;simp only[I,resolve,invoke,builtin,Sem.run_bind,Sem.run_pure,Result.andThen_ok,Dj,hY,sR,H,E,hr];exact L _ _ (h p q h2)
end
end
end Go.Proofs.YtpbbmagjhkakgaaGreatDoor
