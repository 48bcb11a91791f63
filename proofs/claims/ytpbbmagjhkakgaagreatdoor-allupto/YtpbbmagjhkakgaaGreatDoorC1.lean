import Derived.Test.YtpbbmagjhkakgaaGreatDoorB4
import Derived.Test.YtpbbmagjhkakgaaGreatDoorB7
import Derived.RangeFuncNested
import Derived.RangeFuncBound
import Derived.Shelf.RegionOpen
import Derived.OwnWalkIn
import Derived.LoopNIn
import Derived.LoopIn
namespace Go.Proofs.YtpbbmagjhkakgaaGreatDoor
set_option maxHeartbeats 8000000
set_option maxRecDepth 100000
namespace Ev
open Tryz Go.RowKit Go.Deep Go.Maps Go.Shelf
structure iZ where
 number:Int
 time:Int
 ao:aQ a_
 al:Nat
 ac:Nat
 so:aQ a_
 sl:Nat
 sc:Nat
def iZ.av(e:iZ):aF:=.slice e.ao e.al e.ac
def iZ.sv(e:iZ):aF:=.slice e.so e.sl e.sc
def dD(e:iZ):aB aF:=[Iv e.number,Iv e.time,e.av,e.sv]
def iu(E:aB iZ):aB aF:=(E.map dD).flatten
def fJ(w:aC)(ev:aF)(E:aB iZ):Prop:=w.ownsRow 0 159 4 ev E.length (iu E)
theorem jh{c:Type}(f:c->aB aF)(n:Nat)(d:∀a,(f a).length=n):∀(L:aB c)(i k:Nat)(a:c)(v:aF),L[i]?=some a->(f a)[k]?=some v->(L.map f).flatten[i*n+k]?=some v
 |[],i,_,_,_,h,_=>by simp at h
 |x::L,0,k,a,v,h,b=>by
  simp at h;subst h
  simp only[gW,Cj,Nat.zero_mul,fC]
  rw[tZ ((e_.1 b).1)];exact b
 |x::L,i+1,k,a,v,h,b=>by
  simp at h
  simp only[gW,Cj]
  rw[sr (by rw[d,Nat.succ_mul];omega),d]
  have:(i+1)*n+k-n=i*n+k:=by rw[Nat.succ_mul];omega
  rw[this];exact jh f n d L i k a v h b
theorem eN{c:Type}(f:c->aB aF)(n:Nat)(b:∀a,(f a).length=n):∀(L:aB c),(L.map f).flatten.length=L.length*n
 |[]=>aE
 |x::L=>by simp only[gW,Cj,kt,b,eN f n b L,hY,Nat.succ_mul];omega
theorem d_{w:aC}{base size n e v xs}(h:w.ownsRow base e size v n xs){g cap}(b:v=Sl g n cap){j x}(a:xs[j]?=some x):w.cell? (Ad g j)=some x:=by
 obtain⟨q,⟨rfl,m⟩|⟨o,c,f,d,s,i,r,p,t,k⟩⟩:=h
 .cases b
 .rw[b]at d;cases d;let l:j<n*size:=by have:=(e_.1 a).1;omega
  rw[<-k,Bm,bY l]at a;exact aD i (Array.getElem?_toList▸a)
theorem fJ.cases{w ev E}(h:fJ w ev E):(ev=.slice none 0 0/\E=[])\/∃g cap,ev=Sl g E.length cap/\E.length<=cap/\cap<=maxLen/\g<w.heap.size:=by
 let c:=h.lt;obtain⟨j,⟨rfl,a⟩|⟨g,cap,e,rfl,i,f,d,b,_⟩⟩:=h
 .exact .inl ⟨rfl,ur.1 a⟩
 .exact .inr ⟨g,cap,rfl,d,b,(c g rfl).2⟩
theorem fJ.cell{w E g cap}(h:fJ w (Sl g E.length cap) E){i k e v}(b:E[i]?=some e)(a:(dD e)[k]?=some v):w.cell? (Ad g (i*4+k))=some v:=
 d_ h rfl (jh dD 4 (λ_=>rfl) E i k e v b a)
theorem fJ.below{w a ev E}(h:fJ w ev E)(b:Bl w a):fJ a ev E:=eF h λk c=>b.block k (h.lt k c).2
def nK(t:Int):aB iZ->Nat
 |[]=>0
 |e::E=>if e.time>=t then 0 else nK t E+1
theorem V2(t)(E:aB iZ)(i e)(h:E[i]?=some e):nK t (E.drop i)=if e.time>=t then 0 else nK t (E.drop (i+1))+1:=by
 obtain⟨hi,rfl⟩:=e_.1 h;rw[oV hi];rfl
theorem tI(t:Int):∀E:aB iZ,nK t E<=E.length
 |[]=>aX
 |e::E=>by have:=tI t E;simp only[nK];split<;>simp<;>omega
theorem fJ.form{w ev E}(h:fJ w ev E):∃ea cap,ev=.slice ea E.length cap/\E.length<=cap/\cap<=maxLen/\(E≠[]->∃g,ea=some (Ad g 0)/\g<w.heap.size):=by
 obtain⟨rfl,rfl⟩|⟨g,cap,rfl,c,a,b⟩:=h.cases
 .exact⟨none,0,rfl,aX,by simp[maxLen],λh=>absurd rfl h⟩
 .exact⟨_,cap,rfl,c,a,λ_=>⟨g,rfl,b⟩⟩
theorem I5(aW a D J ev N E time w)(hw:w.heap[aW]?=some (.cells #[Iv a,D,J,ev,N] 153 (0,0)))(B:fJ w ev E)(O:E.length<=1000000)(R:0<=time/\time<=1000000000000)(P:0<=a/\a<=1000000000):
  Calls prog 131 #[Pt aW,Iv time] w λe K=>e=.returned (Iv (nK (time-a) E))/\Bl w K:=by
 have j:=aL hw;have o:w.cell? (Ad aW 0)=some (Iv a):=aD hw rfl;have t:w.cell? (Ad aW 3)=some ev:=aD hw rfl;generalize f:nK (time-a) E=res;obtain⟨ea,cap,rfl,C,G,s⟩:=B.form;generalize q:E.length=n at*;go_enter func131,ntmps131;go_wp2_with fail;go_loopw [12] (λy wr=>∃i:Nat,y=Iv i/\i<=n/\Bl w wr/\Hid (i+nK (time-a) (E.drop i)=res)) (λy _=>n-(intOf y).toNat)
 case atStart=>exact⟨0,rfl,cD,aT,show _=_ by simpa using f⟩
 case round=>
  clear f;obtain⟨i,rfl,F,c,z⟩:=hrel;have I:wr.cell? (Ad aW 0)=some (Iv a):=c.cell (p:=(Ad aW 0)) j▸o;have H:wr.cell? (Ad aW 3)=some (.slice ea n cap):=c.cell (p:=(Ad aW 3)) j▸t;by_cases hi:i<n
  .have l:i<E.length:=by omega
   have b:E[i]?=some E[i]:=fG l;obtain⟨g,rfl,r⟩:=s (by intro h;rw[h]at l;simp at l);have OU:fJ w (Sl g E.length cap) E:=q▸B;have v:=V2 (time-a) E i _ b;generalize E[i]=x at*;have Q:wr.cell? (Ad g (i*4))=some (Iv x.number):=c.cell (p:=(Ad g (i*4))) r▸OU.cell (k:=0) b rfl;have T:wr.cell? (Ad g (i*4+1))=some (Iv x.time):=c.cell (p:=(Ad g (i*4+1))) r▸OU.cell (k:=1) b rfl;have U:wr.cell? (Ad g (i*4+2))=some (.slice x.ao x.al x.ac):=c.cell (p:=(Ad g (i*4+2))) r▸OU.cell (k:=2) b rfl;have S:wr.cell? (Ad g (i*4+3))=some (.slice x.so x.sl x.sc):=c.cell (p:=(Ad g (i*4+3))) r▸OU.cell (k:=3) b rfl;have m:Hid (res=i+if x.time>=time-a then 0 else nK (time-a) (E.drop (i+1))+1):=v▸z.out.symm;go_wp2_with fail;have d:Bl w (wr.alloc (.cells #[Iv x.number,Iv x.time,.slice x.ao x.al x.ac,.slice x.so x.sl x.sc] 159)):=c.al _;have M:(wr.alloc (.cells #[Iv x.number,Iv x.time,.slice x.ao x.al x.ac,.slice x.so x.sl x.sc] 159)).cell? (Ad aW 0)=some (Iv a):=d.cell (p:=(Ad aW 0)) j▸o;have L:(wr.alloc (.cells #[Iv x.number,Iv x.time,.slice x.ao x.al x.ac,.slice x.so x.sl x.sc] 159)).cell? (Ad wr.heap.size 1)=some (Iv x.time):=aD (aP _ _ _ rfl) rfl;generalize(wr.alloc (.cells #[Iv x.number,Iv x.time,.slice x.ao x.al x.ac,.slice x.so x.sl x.sc] 159))=V at d M L⊢
   go_region
   by_cases A:x.time>=time-a
   .go_wp2;go_ret;exact⟨by rw[m.out,bY A];rfl,by first|exact d|exact d.drew⟩
   .go_wp2
    try go_big_round
    exact⟨⟨i+1,dU,aA,by first|exact d|exact d.drew,show _=_ by rw[m.out,bN A];omega⟩,zm⟩
  .obtain rfl:i=n:=by omega
   have u:Hid (res=i):=by show _=_;rw[<-z.out,t_ aA];rfl
   go_wp2;go_ret;exact⟨by rw[u.out];rfl,c⟩
theorem M_(cW o)(n cap:Nat)(w)(h:w.heap[cW]?=some (.cells #[.slice o n cap] 177 (0,0))):
  Calls prog 127 #[Pt cW] w λe a=>e=.returned (.bool (decide ((n:Int)>=30)))/\a=w:=by
 let b:w.cell? (Ad cW 0)=some (.slice o n cap):=aD h rfl;go_enter func127,ntmps127;go_wp2;go_ret;exact⟨rfl,rfl⟩
theorem Ik(aW a room i ev l E time w)(hw:w.heap[aW]?=some (.cells #[Iv a,Iv room,i,ev,l] 153 (0,0)))(m:fJ w ev E)(t:E.length<=1000000)(z:0<=time/\time<=1000000000000)(y:0<=a/\a<=1000000000)
  (f:(E.length:Int)-nK (time-a) E+1<=room):
  Calls prog 128 #[Pt aW,Iv time] w λe b=>e=.returned .nilIface/\Bl w b:=by
 have A:∀b,Bl w b->Calls prog 131 #[Pt aW,Iv time] b λe g=>e=.returned (Iv (nK (time-a) E))/\Bl b g:=λb o=>I5 aW a (Iv room) i ev l E time b (o.aS hw) (m.below o) t z y;have q:=tI (time-a) E;generalize nK (time-a) E=k at*;obtain⟨ea,cap,rfl,p,v,s⟩:=m.form;generalize j:E.length=n at*;have x:w.cell? (Ad aW 1)=some (Iv room):=aD hw rfl;have u:w.cell? (Ad aW 3)=some (.slice ea n cap):=aD hw rfl;have d:Hid (∀b,Bl w b->b.cell? (Ad aW 1)=some (Iv room)/\b.cell? (Ad aW 3)=some (.slice ea n cap)):=λb h=>⟨aD (h.aS hw) rfl,aD (h.aS hw) rfl⟩;have B:=hid A;go_enter func128,ntmps128;go_wp2
 go_region_held (λb=>b.cell? (Ad aW 1)=some (Iv room)/\b.cell? (Ad aW 3)=some (.slice ea n cap))
  ((refine d.out _ ?_;first|exact aT.drew|exact(cC w.heap.size w).drew.trans c))
  ((go_at_call 131;refine(B.out _ ?_).mono ?_;exact aT.drew;rintro e r ⟨rfl,c⟩))
 all_goals(obtain⟨D,C⟩:=d.out r ((cC w.heap.size w).drew.trans c))
 all_goals go_wp2_with fail
 all_goals go_ret
 all_goals exact⟨rfl,(cC w.heap.size w).drew.trans c⟩
structure oh(s:aZ):Prop where
 low:1<=s.size
 high:s.size<=8
 full:(s.toList==[])=false
 other:(s.toList==[116,114,117,101])=false
 all:∀pos,pos<s.size->97<=((Utf8.decode s pos).1:Int)/\((Utf8.decode s pos).1:Int)<=122
theorem Gr(s)(g:oh s)(w):Calls prog 167 #[.string s] w λe i=>e=.returned (.bool true)/\Bl w i:=by
 have⟨hl,hh,he,ho,FV⟩:=g;go_enter func167,ntmps167;go_wp2;go_loopw [4] (λ_ wr=>∃pos:Nat,wr.heap[w.heap.size]?=some (.stringIter s pos)/\Bl w wr) (λ_ wr=>s.size-wr.iterPos w.heap.size)
 case atStart=>exact⟨0,World.iter_heap w s 0,aT.al (.stringIter s 0)⟩
 case round=>
  have⟨pos,hit,Z0⟩:=hrel;by_cases d:pos<s.size
  .have f:∀b,(Instr.next (Pt w.heap.size) true b).run prog wr=_:=λb=>Lib.run_next_any_at wr w.heap.size s pos b hit d;have h:=Bc s pos d;have a:=Lib.iterAt_heap wr w.heap.size s pos (pos+(Utf8.decode s pos).2) hit;have c:=Lib.below_iterAt Z0 (k:=w.heap.size) aX s (pos+(Utf8.decode s pos).2);have j:=FV pos d;go_wp2_with fail;generalize wr.iterAt w.heap.size s (pos+(Utf8.decode s pos).2)=W at*;go_roundw
   case rel=>exact⟨_,a,c⟩
   case measure=>rw[(Ac hit),Ac a];omega
  .have f:∀b,(Instr.next (Pt w.heap.size) true b).run prog wr=_:=λb=>Lib.run_next_end_at wr w.heap.size s pos b hit d;go_wp2;go_ret;exact⟨rfl,Z0⟩
def eQ(w:aC)(ao:aQ a_)(A:aB aZ):Prop:=A≠[]->∃b off,ao=some (Ad b off)/\b<w.heap.size/\∀j,j<A.length->w.cell? (Ad b (off+j))=some (.string (A.getD j ByteArray.empty))
theorem eQ.below{w d ao A}(h:eQ w ao A)(c:Bl w d):eQ d ao A:=λa=>by
 let⟨b,off,h1,h2,h3⟩:=h a
 exact⟨b,off,h1,fW h2 c.size,λj e=>by rw[c.cell (p:=(Ad b (off+j))) h2];exact h3 j e⟩
theorem yC(w ao A cap n x)(h:eQ w ao A)(a:n<=A.length)(i:A.length<=1000000):Calls prog 168 #[.slice ao n cap,.string x] w λe c=>e=.returned (.bool (Lib.containsS (A.take n) x))/\c=w:=by
 cases n with
 |zero=>exact(slices_Contains_string_empty ao cap x w).mono λe c ⟨f,d⟩=>⟨by rw[f];rfl,d⟩
 |succ n=>
  obtain⟨b,off,rfl,_,g⟩:=h (by intro e;rw[e]at a;simp at a);exact slices_Contains_string b off (n+1) cap A x w a aA g
attribute [local go_sem] Oper.semAt_some
def jy(n:Nat):Nat->aB {j:Nat//j<n}
 |0=>[]
 |k+1=>jy n k++(if h:k<n then[⟨n-1-k,by omega⟩]else[])
theorem qy{n k:Nat}(h:k<n):jy n (k+1)=jy n k++[⟨n-1-k,aA⟩]:=by simp[jy,h]
theorem DF{n:Nat}:∀k,k<=n->(jy n k).length=k
 |0,_=>rfl
 |k+1,h=>by rw[qy aA,kt,DF k aA];rfl
def ni(e:iZ):aF:=.agg #[Iv e.number,Iv e.time,.slice e.ao e.al e.ac,.slice e.so e.sl e.sc]
theorem Sn(F n)(N:F.fn 215)(D:F.round=none)(P:1<=n)(l z a g cap len)(f:Nat->iZ)(w:len<=1000000)(y:g<a)(A:z<a)(J G:aB {j:Nat//j<len}->aC->bQ)
  (I:∀pre x W,J pre W->pre.length<len->YieldAt F (n-1) prog l #[Iv (x.1:Int),ni (f x.1)] W λe m=>
   (e=.returned (.bool true)/\J (pre++[x]) m/\Below a W m)\/(e=.returned (.bool false)/\G (pre++[x]) m))
  (W) (E:W.cell? (Ad z 0)=some (Sl g len cap)) (L:len<=cap) (r:∀i k v,i<len->(dD (f i))[k]?=some v->W.cell? (Ad g (i*4+k))=some v) (M:J [] W):
  CallsIn F n prog 215 #[.func (.yield l) #[] #[],Pt z] W λe m=>(∃v,e=.returned v)/\
   ((∃K,K=jy len len/\J K m)\/(∃pre,(∃k,k<=len/\pre=jy len k)/\G pre m)):=by
 refine callsIn_of_wp func215 rfl N ?_ D;simp only[ntmps215,jn,hY,jl,Nat.reduceAdd,Nat.reduceSub,ye,yf,yi,yh,jW,mz]
 gi_wp2
 gi_loopw [3] (λi wr=>∃k:Nat,k<=len/\i=Iv ((len:Int)-1-k)/\J (jy len k) wr/\Below a W wr)
  (λi _=>((intOf i)+1).toNat)
 case atStart=>exact⟨0,Nat.zero_le _,by go_num,M,Below.refl _ _⟩
 case round=>
  obtain⟨k,H,rfl,d,b⟩:=hrel;have O:=(b.cell (p:=(Ad z 0)) A).trans E;by_cases c:k<len
  .have o:len-1-k<len:=by omega
   have t:=qy c;obtain⟨i,hi,h⟩:∃i:Nat,i=len-1-k/\((len:Int)-1-k=(i:Int)):=⟨_,rfl,aA⟩;have⟨fn,tmps,assign,body,hy,hR⟩:=I _ ⟨len-1-k,o⟩ wr d (by rw[DF k H];exact c);rw[<-t]at hR;simp only[<-hi]at hy;rw[<-hi]at o;have R:wr.cell? (Ad g (i*4))=some (Iv (f i).number):=(b.cell (p:=(Ad g (i*4))) y).trans (r i 0 _ o rfl);have T:wr.cell? (Ad g (i*4+1))=some (Iv (f i).time):=(b.cell (p:=(Ad g (i*4+1))) y).trans (r i 1 _ o rfl);have U:wr.cell? (Ad g (i*4+2))=some (.slice (f i).ao (f i).al (f i).ac):=(b.cell (p:=(Ad g (i*4+2))) y).trans (r i 2 _ o rfl);have S:wr.cell? (Ad g (i*4+3))=some (.slice (f i).so (f i).sl (f i).sc):=(b.cell (p:=(Ad g (i*4+3))) y).trans (r i 3 _ o rfl);dsimp only[ni]at hy;clear I r t;generalize f i=x at*;rw[h];have q:=hid h;have u:=hid c;clear hi h c H d
   gi_wp2
   apply hR.mono;rintro e Q (⟨rfl,C,B⟩|⟨rfl,s⟩)
   .gi_wp2
    go_roundw
    case rel=>exact⟨k+1,u.out,by have:=q.out;go_num,C,b.trans B⟩
    case measure=>have:=q.out;simp only[intOf];omega
   .gi_wp2
    apply Aa (results_none rfl _ _ _) rfl;exact⟨⟨_,rfl⟩,.inr ⟨_,⟨k+1,u.out,rfl⟩,s⟩⟩
  .obtain rfl:k=len:=by omega
   gi_wp2
   go_end0
   exact⟨⟨_,rfl⟩,.inl ⟨_,rfl,d⟩⟩
theorem JY(F n)(b:F.fn 207)(a:F.round=none)(o len cap w):
  CallsIn F n prog 207 #[.slice o len cap] w λe c=>e=.returned (.func (.func 215) #[] #[Pt w.heap.size])/\c=w.alloc (.cells #[.slice o len cap] 146):=by
 refine callsIn_of_wp func207 rfl b ?_ a;simp only[ntmps207,jn,hY,jl,Nat.reduceAdd,Nat.reduceSub,ye,yf,yi,yh,jW,mz]
 gi_wp2
 go_ret;exact⟨rfl,rfl⟩
theorem Mx(F n)(B:F.fn 215)(m:F.round=none)(s:1<=n)(c a g cap len)(f:Nat->iZ)(b:len<=1000000)(C:g<a)(h:c<a)(w)(e:a<=w.heap.size)
  (o:w.cell? (Ad c 0)=some (Sl g len cap)) (d:len<=cap) (y:∀i k v,i<len->(dD (f i))[k]?=some v->w.cell? (Ad g (i*4+k))=some v):
  SeqStopsK F n prog 215 #[Pt c] (λx:{j:Nat//j<len}=>#[Iv (x.1:Int),ni (f x.1)]) (Below a) (λz=>z=jy len len) (λpre=>∃k,k<=len/\pre=jy len k) len w:=λl J r W q _ _ u A=>
 Sn F n B m s l c a g cap len f b C h J r u W ((q.cell (p:=(Ad c 0)) (show c<_ from aA)).trans o) d (λi k v hi t=>(q.cell (p:=(Ad g (i*4+k))) (by show g<_;omega)).trans (y i k v hi t)) A
end Ev
namespace Ev
open Tryz Go.RowKit Go.Shelf
attribute [local go_sem] Oper.semAt_some
def nE(f:Pe->aQ Bool):aB Pe->Bool
 |[]=>false
 |e::es=>match f e with
  |some b=>b
  |none=>nE f es
theorem Bv{f:Pe->aQ Bool}:∀{L:aB Pe},(∀e∈L,f e=none)->nE f L=false
 |[],_=>rfl
 |e::b,h=>by simp only[nE,h e (.head _)];exact Bv λx a=>h x (.tail _ a)
theorem Bw{f:Pe->aQ Bool}{e:Pe}{b:Bool}(a:f e=some b)(M:aB Pe):∀{L:aB Pe},(∀e∈L,f e=none)->nE f (L++e::M)=b
 |[],_=>by simp[nE,a]
 |x::d,h=>by simp only[mz,nE,h x (.head _)];exact Bw a M λy c=>h y (.tail _ c)
def Vg(t lo hi j:Int)(e:Pe):aQ Bool:=if t-e.time>hi then some false else if t-e.time>=lo/\e.at j=true then some true else none
def Vh(t lo hi j k:Int)(e:Pe):aQ Bool:=if t-e.time>hi then some false else if t-e.time>=lo/\e.at k=true then some true else if e.at j=false then some false else none
theorem BS(t lo hi j:Int):∀L,vI t lo hi j L=nE (Vg t lo hi j) L
 |[]=>rfl
 |e::c=>by
  simp only[vI,nE,Vg,BS t lo hi j c]
  by_cases a:t-e.time>hi
  .simp[a]
  .by_cases b:t-e.time>=lo/\e.at j=true
   .simp[a,b]
   .simp[a,b]
theorem zM(t lo hi j k:Int):∀L,qk t lo hi j k L=nE (Vh t lo hi j k) L
 |[]=>rfl
 |e::d=>by
  simp only[qk,nE,Vh,zM t lo hi j k d]
  by_cases a:t-e.time>hi
  .simp[a]
  .by_cases b:t-e.time>=lo/\e.at k=true
   .simp[a,b]
   .by_cases c:e.at j=false
    .simp[a,b,c]
    .simp[a,b,c]
theorem DG(n:Nat):∀(d k:Nat),k+d<=n->∃M,jy n (k+d)=jy n k++M
 |0,k,_=>⟨[],aE⟩
 |d+1,k,h=>by
  let⟨M,hM⟩:=DG n d k aA
  exact⟨M++[⟨n-1-(k+d),aA⟩],by rw[<-qw,qy aA,hM];simp⟩
def eZ(E:Nat->Pe)(len:Nat):aB Pe:=(jy len len).map λx=>E x.1
structure gP(w:aC)(c:iZ)(e:Pe):Prop where
 number:c.number=e.number
 time:c.time=e.time
 low:-1000000000000<=e.time/\e.time<=1000000000000
 sl:c.sl=e.so.length
 EH:e.so.length<=1000000
 so:∃sb,c.so=some (Ad sb 0)/\sb<w.heap.size/\∀j b,e.so[j]?=some b->w.cell? (Ad sb j)=some (.bool b)
 al:c.al=e.atoms.length
 Dk:e.atoms.length<=1000000
 atoms:eQ w c.ao e.atoms
theorem gP.below{w d c e}(h:gP w c e)(a:Bl w d):gP d c e:=by
 let⟨sb,s1,s2,s3⟩:=h.so;exact{h with so:=⟨sb,s1,fW s2 a.size,λj b f=>by rw[a.cell (p:=(Ad sb j)) s2];exact s3 j b f⟩,atoms:=h.atoms.below a}
theorem gP.bit{w:aC}{e:Pe}{a}(d:∀j b,e.so[j]?=some b->w.cell? (Ad a j)=some (.bool b)){j}(c:j<e.so.length):w.cell? (Ad a j)=some (.bool (e.at (j))):=
 d _ _ (by rw[fG c];simp[Pe.at,c])
theorem D2{b}(B:Nat)(f t m):Own (λ(_:b)(W)=>W.heap[B]?=some (.cells f t m)):=λ_ W d row h c i=>by
 show d.heap[B]?=_
 let h':=h
 rw[c.block B (jM.1 h').1 λe=>by obtain⟨o,a,g⟩:=i B e.symm;rw[h']at a;cases a;cases g]
 exact h'
def KM{n:Nat}(f:Pe->aQ Bool)(E:Nat->Pe)(pre:aB {j:Nat//j<n}):Bool:=match pre.getLast? with
 |some x=>(f (E x.1)).getD false
 |none=>false
theorem D9{n}(f E)(pre:aB {j:Nat//j<n})(x:{j:Nat//j<n}){b}(h:f (E x.1)=some b):KM f E (pre++[x])=b:=by
 simp[KM,h]
def JH{n:Nat}(f:Pe->aQ Bool)(E:Nat->Pe)(pre:aB {j:Nat//j<n}):Prop:=∀x∈pre,f (E x.1)=none
def WE{n:Nat}(f:Pe->aQ Bool)(E:Nat->Pe)(c:Code)(pre:aB {j:Nat//j<n}):Prop:=c=.ret/\∃a x b,pre=a++[x]/\JH f E a/\f (E x.1)=some b
theorem JH.snoc{n f E}{pre:aB {j:Nat//j<n}}(h:JH f E pre){x:{j:Nat//j<n}}(b:f (E x.1)=none):JH f E (pre++[x]):=λz a=>by
 obtain a|a:=i_.1 a
 .exact h z a
 .simp at a;subst a;exact b
theorem FH{n}(f E){pre a:aB {j:Nat//j<n}}{x:{j:Nat//j<n}}{b k}(l:k<=n)(c:pre=jy n k)(d:pre=a++[x])(g:∀y∈a,f (E y.1)=none)(h:f (E x.1)=some b):nE f (eZ E n)=b:=by
 let⟨M,hM⟩:=DG n (n-k) k aA;let hM':jy n n=a++x::M:=by
  have:jy n n=jy n k++M:=by rw[<-hM];congr 1;omega
  rw[this,<-c,d];simp
 unfold eZ;rw[hM',l8,gW];exact Bw h _ (by intro e d;obtain⟨y,i,rfl⟩:=iX.1 d;exact g y i)
theorem FG{n}(f E)(h:∀y∈jy n n,f (E y.1)=none):nE f (eZ E n)=false:=
 Bv (by intro e a;obtain⟨y,b,rfl⟩:=iX.1 a;exact h y b)
abbrev XX(op:Int)(name:aZ)(lo hi:Int)(l r:Nat):Obj:=.cells #[.int .i32 op,.string name,Iv lo,Iv hi,Iv (l:Int),Iv (r:Int)] 226
abbrev ZF(w:aC)(o:Obj)(a:Int)(g m cap:Nat):aC:=(((w.alloc o).alloc (.cells #[.bool false] 4)).alloc (.cells #[Iv a] 3)).alloc (.cells #[Sl g (m+1) cap] 146)
theorem Pd(F)(n q u:Nat)(o)(a6:F.fn q)(R:F.fn 207)(H:F.fn 215)(G:F.round=none)(hn:6<=n)(op name lo hi)(l r:Nat)(g cap m)(C:Nat->iZ)(E w)(hm:m+1<=1000000)(hg:g<w.heap.size)(N:m+1<=cap)
  (hc:∀i k v,i<m+1->(dD (C i))[k]?=some v->w.cell? (Ad g (i*4+k))=some v) (Z:∀i,i<m+1->gP w (C i) (E i)) (a1:∀i,i<m+1->l<(E i).so.length) (hq:(q=194/\u=22/\o=Vg (E m).time lo hi l)\/(q=195/\u=29/\o=Vh (E m).time lo hi l r/\∀i,i<m+1->r<(E i).so.length)):
  CallsIn F n prog q #[.agg #[.int .i32 op,.string name,Iv lo,Iv hi,Iv (l),Iv (r)],Sl g (m+1) cap] w λe B=>e=.returned (.bool (nE o (eZ E (m+1))))/\Bl w B:=by
 have h1:1<=n:=aA;have q1:w.cell? (Ad g (m*4+1))=some (Iv (E m).time):=(Z m aA).time▸hc m 1 _ aA rfl;have aa:=(Z m aA).low;generalize ae:(E m).time=j at*;obtain⟨rfl,hu,hd⟩|⟨rfl,hu,hd,O⟩:=hq
 all_goals
  refine callsIn_of_wp_marks (by first|exact func194|exact func195) rfl a6 ?_ G;simp only[ntmps194,ntmps195,jn,hY,jl,Nat.reduceAdd,Nat.reduceSub,ye,yf,yi,yh,jW,mz]
  gi_wp2_with (gi_at_call 207;refine(JY F (n-1) R G _ _ _ _).mono ?_;rintro e w' ⟨rfl,rfl⟩)
  have A:Bl w (ZF w (XX op name lo hi l r) j g m cap):=((((cC _ w).alloc aX _).alloc aE _).alloc bI _).alloc bI _;have nB:(ZF w (XX op name lo hi l r) j g m cap).heap[w.heap.size]?=some (.cells #[.int .i32 op,.string name,Iv lo,Iv hi,Iv (l:Int),Iv (r:Int)] 226 (0,0)):=by
   rw[ib _ _ _ bI,ib _ _ _ bI,ib _ _ _ aE];exact aP _ _ _ rfl
  have bR:=((Boxed.new (w.alloc (XX op name lo hi l r)) 4 (.bool false)).alloc (.cells #[Iv j] 3)).alloc (.cells #[Sl g (m+1) cap] 146);have U:=(Boxed.new ((w.alloc (XX op name lo hi l r)).alloc (.cells #[.bool false] 4)) 3 (Iv j)).alloc (.cells #[Sl g (m+1) cap] 146);have S:=Boxed.new (((w.alloc (XX op name lo hi l r)).alloc (.cells #[.bool false] 4)).alloc (.cells #[Iv j] 3)) 146 (Sl g (m+1) cap);simp only[World.size_alloc]at bR U S;have I:(ZF w (XX op name lo hi l r) j g m cap).heap.size=w.heap.size+4:=aE;obtain⟨M,P⟩:∃M,ZF w (XX op name lo hi l r) j g m cap=M:=⟨_,rfl⟩;unfold ZF at A nB I P;rw[P]at A nB bR U S I⊢;refine wpIn_rangeFunc_ownH G h1 (gf:=215) (lb:=#[Pt (w.heap.size+1+1+1)]) rfl H (enters_of func215 (by kernel_rfl) rfl)
   (Mx F (n-1) H G (by omega) (w.heap.size+1+1+1) M.heap.size g cap (m+1) C hm (by omega) (by omega) M (Nat.le_refl _) S.cell N (λi k v hi hv=>(A.cell (p:=(Ad g (i*4+k))) hg).trans (hc i k v hi hv))) belowK_t (belowK_b (Nat.le_refl _)) (Below.refl _ _) (λ_=>rfl)
   (λpre W=>((JH o E pre/\Boxed W (w.heap.size+1) 4 (.bool false))/\(W.heap[w.heap.size]?=some (.cells #[.int .i32 op,.string name,Iv lo,Iv hi,Iv (l:Int),Iv (r:Int)] 226 (0,0))/\(Boxed W (w.heap.size+1+1) 3 (Iv j)/\Boxed W (w.heap.size+1+1+1) 146 (Sl g (m+1) cap))))/\Bl w W)
   (λc pre W=>(WE o E c pre/\Boxed W (w.heap.size+1) 4 (.bool (KM o E pre)))/\Bl w W)
   (OwnFrom.and (OwnFrom.and (OwnFrom.and (ownFrom_pure _ _) (Own.from (boxed_own _ _ _) _)) (OwnFrom.and (Own.from (D2 _ _ _ _) _) (OwnFrom.and (Own.from (boxed_own _ _ _) _) (Own.from (boxed_own _ _ _) _)))) (ownFrom_below aX aA))
   (λc=>OwnFrom.and (OwnFrom.and (ownFrom_pure _ _) (Own.from (boxed_own _ _ λpre=>Value.bool (KM o E pre)) _)) (ownFrom_below aX aA))
   ⟨⟨⟨λ_ h=>by simp at h,bR⟩,nB,U,S⟩,A⟩
   (λx a' W=>∃L,w.heap.size+1+1<L/\W.heap[L]?=some (.cells #[Iv (C x.1).number,Iv (C x.1).time,.slice (C x.1).ao (C x.1).al (C x.1).ac,.slice (C x.1).so (C x.1).sl (C x.1).sc] 159 (0,0))/\a'={tmps:=#[.agg #[.int .i32 op,.string name,Iv lo,Iv hi,Iv (l:Int),Iv (r:Int)],Sl g (m+1) cap,Pt w.heap.size,undef,Pt (w.heap.size+1),Pt (w.heap.size+1+1),undef,Pt L,undef,Sl g (m+1) cap,Sl g (m+1) cap,Iv ((m:Int)+1),Iv (m:Int),.pointer (some (Ad g (m*4))),.pointer (some (Ad g (m*4+1))),Iv j,Sl g (m+1) cap,.func (.func 215) #[] #[Pt (w.heap.size+1+1+1)],Iv (x.1:Int),ni (C x.1)]++Array.replicate u undef,defers:=[]})
   (λx a' _ X Y row hs hg hr=>by obtain⟨L,T,e2,e3⟩:=hs;exact⟨L,T,D2 L _ 159 (0,0) () X Y row e2 hg λr e=>(hr r e).2,e3⟩)
   ?assign ?body ?done ?stop
  case assign=>
   subst hu;rintro lp pre x W K ⟨⟨⟨J,a⟩,s,y,z⟩,f⟩ hK;have a8:=z.lt;simp only[ni]
   gi_wp2
   exact hK _ _ ((KeepsOthers.alloc _ _).from _) ((cC _ W).alloc aA _) ⟨⟨⟨J,a.alloc _⟩,(ib _ _ _ aA).trans s,y.alloc _,z.alloc _⟩,f.alloc f.size _⟩ ⟨W.heap.size,aA,aP _ _ _ rfl,by simp only[ni,ye,yf,yi,yh,jW,mz]⟩
  case body=>
   subst hu;rintro lp pre x a' W ah ⟨rr,aj⟩ ⟨⟨⟨J,a⟩,s,y,z⟩,f⟩ ⟨L,af,V,rfl⟩ ak;simp only[ye,yf,yi,yh,jW,mz];have t:=Z x.1 x.2;have⟨sb,s1,s2,s3⟩:=t.so;have a7:=a1 x.1 x.2;have bl:=(f.cell (p:=(Ad sb l)) s2).trans (gP.bit s3 a7)
   try have ai:=O x.1 x.2
   (try have br:W.cell? (Ad sb r)=some (.bool ((E x.1).at (r:Int))):=(f.cell (p:=(Ad sb r)) s2).trans (gP.bit s3 (O x.1 x.2)))
   have tE:=t.time;have tl:=t.low;have sE:=t.sl;have ag:=t.EH;rw[tE,s1,sE]at V;have cN:=y.cell;have cR:=a.cell;have fR:=a.frozen;have aq:=aD (i:=1) V rfl;have an:=aD (i:=3) V rfl;have k2:=aD (i:=2) s rfl;have k3:=aD (i:=3) s rfl;have k4:=aD (i:=4) s rfl;have k5:=aD (i:=5) s rfl;have d:=congrFun hd (E x.1);simp only[Vg,Vh]at d;have Hw:Hid (∀b B,o (E x.1)=some b->KeepsFrom M.heap.size W B->Boxed B (w.heap.size+1) 4 (.bool b)->Bl w B->KeepsFrom M.heap.size W B/\(WE o E .ret (pre++[x])/\Boxed B (w.heap.size+1) 4 (.bool (KM o E (pre++[x]))))/\Bl w B):=λb B hb h1 h2 h3=>⟨h1,⟨⟨rfl,pre,x,b,rfl,J,hb⟩,by rw[D9 _ _ _ _ hb];exact h2⟩,h3⟩;have Hg:=hid J;have Hv:=Hw;rw[I]at Hv;clear Z hc J tE s1 sE s3 V t nB A S U bR q1 hd;generalize(E x.1).time=t1 at*;generalize(E x.1).so.length=sl at*;generalize(E x.1).at (l:Int)=b1 at*
   try generalize(E x.1).at (r:Int)=b2 at d br
   by_cases d1:j-t1>hi
   case' neg=>by_cases d2:j-t1>=lo<;>cases b1<;>(try cases b2)
   all_goals
    first|simp[d1,d2]at d|simp[d1]at d
    replace d:Hid (o (E x.1)=_):=d
    gi_wp2
    first|exact Hw.out _ _ d.out ((KeepsOthers.setCell _ _ _).from _) (a.set _) (f.setCell (p:=(Ad (w.heap.size+1) 0)) aE _)|exact Hv.out _ _ d.out ((KeepsOthers.setCell _ _ _).from _) (a.set _) (f.setCell (p:=(Ad (w.heap.size+1) 0)) aE _)|exact⟨KeepsFrom.refl _ _,aT,⟨⟨Hg.out.snoc d.out,a⟩,s,y,z⟩,f⟩
  case done=>
   rintro D zs W hD rfl ⟨⟨⟨J,a⟩,s,y,z⟩,f⟩ hK;have cR:=a.cell;have fR:=a.frozen
   gi_wp2
   have hK':=(KeepsOthers.setCell W (Ad (w.heap.size+1) 0) (.bool false)).same D _ hK rfl;refine⟨aE,.inl ⟨_,_,rfl,run_takeDeferred hK',?_⟩⟩;refine⟨.bool false,?_,by rw[FG _ _ J],(f.setCell (p:=(Ad (w.heap.size+1) 0)) aE _).trans (belowK_b (w:=w) aX _ D _ _ aA hK' rfl rfl)⟩;simp[results,f194,f195,go_sem,(cell_kept (a.set (.bool false)).cell (grownBy_putObj' _ D (.deferred none)) λr e=>by cases e;exact⟨_,hK',rfl⟩)]
  case stop=>
   rintro D c pre W hD ⟨k,hk,Q⟩ ⟨⟨⟨rfl,ad,x,b,T,e2,e3⟩,a⟩,f⟩ hK;rw[T,D9 _ _ _ _ e3]at a
   gi_wp2
   refine⟨aE,.inl ⟨_,_,rfl,run_takeDeferred hK,?_⟩⟩;refine⟨.bool b,?_,by rw[FH _ _ hk Q T e2 e3],f.trans (belowK_b (w:=w) aX W D _ _ aA hK rfl rfl)⟩;simp[results,f194,f195,go_sem,(cell_kept a.cell (grownBy_putObj' _ D (.deferred none)) λr e=>by cases e;exact⟨_,hK,rfl⟩)]
end Ev
namespace Ev
open Tryz Go.RowKit Go.Deep
theorem sO(f:Nat->Pe)(n:Nat):∀k,k<=n->(jy n k).map (λx=>f x.1)=(List.range k).map λj=>f (n-1-j)
 |0,_=>rfl
 |k+1,h=>by rw[qy aA,l8,sO f n k aA,H2,l8];rfl
theorem xt(E m):eZ E (m+1)=E m::eZ E m:=by
 unfold eZ;rw[sO E _ _ aX,sO E _ _ aX,List.range_succ_eq_map,gW,Co];congr 1;apply E6;intro j a;simp at a;show E _=E _;congr 1;omega
theorem FD(A x):Lib.containsS A x=A.any (λy=>decide (y=x)):=by
 rw[Cn,Lib.containsS_iff];simp
theorem My(op name lo hi)(l r:Nat)(g cap m)(C:Nat->iZ)(E w)(V:m+1<=1000000)(M:g<w.heap.size)(G:m+1<=cap)
  (n:∀i k v,i<m+1->(dD (C i))[k]?=some v->w.cell? ⟨g,i*4+k,none⟩=some v) (A:∀i,i<m+1->gP w (C i) (E i)) (o:∀i,i<m+1->l<(E i).so.length):
  Calls prog 193 #[.agg #[.int .i32 op,.string name,.int .i64 lo,.int .i64 hi,.int .i64 (l),.int .i64 (r)],.slice (some ⟨g,0,none⟩) (m+1) cap] w λe Q=>e=.returned (.bool (beforeF (E m).time lo hi l (eZ E m)))/\Below w.heap.size w Q:=by
 cases m with
 |zero=>
  go_enter func193,ntmps193;go_wp2_with fail;go_ret;exact⟨rfl,aT.al _⟩
 |succ j=>
  have z:beforeF (E (j+1)).time lo hi l (eZ E (j+1))=(decide (lo<=(E (j+1)).time-(E j).time)&&decide ((E (j+1)).time-(E j).time<=hi)&&(E j).at (l:Int)):=by rw[xt];rfl
  rw[z];clear z;have u:=A (j+1) aA;have f:=A j aA;have H:=u.low;have x:=f.low;have y:=o j aA;obtain⟨b,I,O,B⟩:=f.so;have D:=gP.bit B y;have F:w.cell? ⟨g,(j+1)*4+1,none⟩=some (.int .i64 (E (j+1)).time):=u.time▸n (j+1) 1 _ aA rfl;have R:w.cell? ⟨g,j*4,none⟩=some (.int .i64 (C j).number):=n j 0 _ aA rfl;have P:w.cell? ⟨g,j*4+1,none⟩=some (.int .i64 (E j).time):=f.time▸n j 1 _ aA rfl;have N:w.cell? ⟨g,j*4+2,none⟩=some (.slice (C j).ao (C j).al (C j).ac):=n j 2 _ aA rfl;have S:w.cell? ⟨g,j*4+3,none⟩=some (.slice (some ⟨b,0,none⟩) (E j).so.length (C j).sc):=by rw[<-I,<-f.sl];exact n j 3 _ (by omega) rfl
  have L:=f.EH;clear A n o u f I B;generalize(E j).at (l:Int)=T at*;generalize(E j).so.length=sl at*;generalize(E (j+1)).time=s at*;generalize(E j).time=d at*;generalize C j=c at*;go_enter func193,ntmps193;go_wp2_with fail;have a:Below w.heap.size w ((w.alloc (.cells #[.int .i32 op,.string name,.int .i64 lo,.int .i64 hi,.int .i64 (l:Int),.int .i64 (r:Int)] 226)).alloc (.cells #[.int .i64 c.number,.int .i64 d,.slice c.ao c.al c.ac,.slice (some ⟨b,0,none⟩) sl c.sc] 159)):=(aT.al _).al _;have q:((w.alloc (.cells #[.int .i32 op,.string name,.int .i64 lo,.int .i64 hi,.int .i64 (l:Int),.int .i64 (r:Int)] 226)).alloc (.cells #[.int .i64 c.number,.int .i64 d,.slice c.ao c.al c.ac,.slice (some ⟨b,0,none⟩) sl c.sc] 159)).heap[w.heap.size]?=some (.cells #[.int .i32 op,.string name,.int .i64 lo,.int .i64 hi,.int .i64 (l:Int),.int .i64 (r:Int)] 226 (0,0)):=(ib _ _ _ aE).trans (aP _ _ _ rfl);have t:((w.alloc (.cells #[.int .i32 op,.string name,.int .i64 lo,.int .i64 hi,.int .i64 (l:Int),.int .i64 (r:Int)] 226)).alloc (.cells #[.int .i64 c.number,.int .i64 d,.slice c.ao c.al c.ac,.slice (some ⟨b,0,none⟩) sl c.sc] 159)).heap[w.heap.size+1]?=some (.cells #[.int .i64 c.number,.int .i64 d,.slice c.ao c.al c.ac,.slice (some ⟨b,0,none⟩) sl c.sc] 159 (0,0)):=aP _ _ _ aE;generalize((w.alloc (.cells #[.int .i32 op,.string name,.int .i64 lo,.int .i64 hi,.int .i64 (l:Int),.int .i64 (r:Int)] 226)).alloc (.cells #[.int .i64 c.number,.int .i64 d,.slice c.ao c.al c.ac,.slice (some ⟨b,0,none⟩) sl c.sc] 159))=Z at a q t⊢;have U:=(a.cell (p:=⟨g,(j+1)*4+1,none⟩) M).trans F;have z2:=(a.cell (p:=⟨b,l,none⟩) O).trans D;have W:=aD (i:=2) q rfl;have Y:=aD (i:=3) q rfl;have k4:=aD (i:=4) q rfl;have z:=aD (i:=1) t rfl;have X:=aD (i:=3) t rfl;clear F D R P N S q t
  go_region
  by_cases K:lo<=s-d
  .by_cases J:s-d<=hi
   .go_wp2;go_ret;exact⟨by simp[K,J],by first|exact a|exact a.drew⟩
   .go_wp2;go_ret;exact⟨by simp;intro h;omega,by first|exact a|exact a.drew⟩
  .go_wp2;go_ret;exact⟨by simp;intro h;omega,by first|exact a|exact a.drew⟩
def nw(op:Int):Prop:=op=116\/op=97\/op=172\/op=8743\/op=89\/op=79\/op=83
theorem zs0{T:bQ} (h:T:=by
 go_enter func169,ntmps169;go_wp2_with fail;go_ret;exact⟨rfl,U7⟩):T:=h
theorem zs1{T:bQ} (h:T:=by
 go_enter func169,ntmps169;go_wp2_with fail;refine(HX.out _ U7).m λw3 WT=>?_;go_wp2_with fail;go_ret;exact⟨rfl,U7.tr WT⟩):T:=h
theorem Uo(op name lo hi l r g cap m)(C:Nat->iZ)(E:Nat->Pe)(w)(H:nw op)(L:m+1<=1000000)(Q:g<w.heap.size)(h:m+1<=cap)
  (z:∀i k v,i<m+1->(dD (C i))[k]?=some v->w.cell? ⟨g,i*4+k,none⟩=some v) (M:∀i,i<m+1->gP w (C i) (E i)) (d:∀i,i<m+1->l<(E i).so.length) (j:∀i,i<m+1->r<(E i).so.length):
  Calls prog 169 #[.agg #[.int .i32 op,.string name,.int .i64 lo,.int .i64 hi,.int .i64 (l),.int .i64 (r)],.slice (some ⟨g,0,none⟩) (m+1) cap] w λe N=>e=.returned (.bool (mT ⟨op,name,lo,hi,l,r⟩ (E m) (eZ E m)))/\Below w.heap.size w N:=by
 have u:=M m aA;obtain⟨x,S,R,J⟩:=u.so;have W:w.cell? ⟨x,l,none⟩=some (.bool ((E m).at (l:Int))):=gP.bit J (d m aA);have br:w.cell? ⟨x,r,none⟩=some (.bool ((E m).at (r:Int))):=gP.bit J (j m aA);have U:=d m aA;have X:=j m aA;have p0:w.cell? ⟨g,m*4,none⟩=some (.int .i64 (C m).number):=z m 0 _ aA rfl;have p1:w.cell? ⟨g,m*4+1,none⟩=some (.int .i64 (C m).time):=z m 1 _ aA rfl;have p2:w.cell? ⟨g,m*4+2,none⟩=some (.slice (C m).ao (E m).atoms.length (C m).ac):=u.al▸z m 2 _ aA rfl;have p3:w.cell? ⟨g,m*4+3,none⟩=some (.slice (some ⟨x,0,none⟩) (E m).so.length (C m).sc):=by rw[<-S,<-u.sl];exact z m 3 _ (by omega) rfl
 have T:=u.EH;have O:=u.Dk;have tb:∀b,Below w.heap.size w b->(∀i k v,i<m+1->(dD (C i))[k]?=some v->b.cell? ⟨g,i*4+k,none⟩=some v)/\(∀i,i<m+1->gP b (C i) (E i))/\g<b.heap.size:=λb f=>⟨λi k v hi V=>(f.cell (p:=⟨g,i*4+k,none⟩) Q).trans (z i k v hi V),λi hi=>(M i hi).below f,fW Q f.size⟩;obtain⟨P,G⟩:∃P:FuncId->Bool->bQ,P=λF v=>∀b,Below w.heap.size w b->Calls prog F #[.agg #[.int .i32 op,.string name,.int .i64 lo,.int .i64 hi,.int .i64 (l:Int),.int .i64 (r:Int)],.slice (some ⟨g,0,none⟩) (m+1) cap] b λe N=>e=.returned (.bool v)/\Below b.heap.size b N:=⟨_,rfl⟩;have HB:Hid (P 193 (beforeF (E m).time lo hi l (eZ E m))):=G▸λb f=>by
  obtain⟨D,A,B⟩:=tb b f;exact My op name lo hi l r g cap m C E b L B h D A d
 have Y:Hid (P 194 (vI (E m).time lo hi l (E m::eZ E m))):=G▸λb f=>by
  obtain⟨D,A,B⟩:=tb b f;have:=(callsIn_wide (n:=6)).1 (Pd Fence.wide 6 194 22 _ trivial trivial trivial rfl aA op name lo hi l r g cap m C E b L B h D A d (.inl ⟨rfl,rfl,rfl⟩))
  rwa[xt,<-BS]at this
 have HS:Hid (P 195 (qk (E m).time lo hi l r (E m::eZ E m))):=G▸λb f=>by
  obtain⟨D,A,B⟩:=tb b f;have:=(callsIn_wide (n:=6)).1 (Pd Fence.wide 6 195 29 _ trivial trivial trivial rfl aA op name lo hi l r g cap m C E b L B h D A d (.inr ⟨rfl,rfl,rfl,j⟩))
  rwa[xt,<-zM]at this
 have HC:Hid (∀b,Below w.heap.size w b->Calls prog 168 #[.slice (C m).ao (E m).atoms.length (C m).ac,.string name] b λe K=>e=.returned (.bool ((E m).atoms.any λy=>decide (y=name)))/\K=b):=λb f=>by
  have:=yC b (C m).ao (E m).atoms (C m).ac (E m).atoms.length name (u.atoms.below f) aX O
  rwa[L0,FD]at this
 generalize a:mT ⟨op,name,lo,hi,l,r⟩ (E m) (eZ E m)=res;clear tb z M d j u S J;generalize s:vI (E m).time lo hi l (E m::eZ E m)=vO at*;generalize q:qk (E m).time lo hi l r (E m::eZ E m)=vS at*;generalize c:beforeF (E m).time lo hi l (eZ E m)=vB at*;generalize o:(E m).atoms.any (λy=>decide (y=name))=vA at*;generalize hL:(E m).at (l:Int)=I at*;generalize t:(E m).at (r:Int)=Z at*;generalize(E m).atoms.length=al at*;generalize(E m).so.length=sl at*;have U7:=((cC w.heap.size w).al (.cells #[.int .i32 op,.string name,.int .i64 lo,.int .i64 hi,.int .i64 (l:Int),.int .i64 (r:Int)] 226 (0,0))).al (.cells #[.int .i64 (C m).number,.int .i64 (C m).time,.slice (C m).ao al (C m).ac,.slice (some ⟨x,0,none⟩) sl (C m).sc] 159 (0,0));subst G;have z1:=(U7.cell (p:=⟨x,l,none⟩) R).trans W;have z2:=(U7.cell (p:=⟨x,r,none⟩) R).trans br;rcases H with rfl|rfl|rfl|rfl|rfl|rfl|rfl
 .have:res=true:=by rw[<-a];rfl
  subst this;clear s q c o hL t a;exact zs0
 .have:res=vA:=by rw[<-a,<-o];rfl
  subst this;clear s q c o hL t a;go_enter func169,ntmps169;go_wp2_with fail;apply(HC.out _ U7).mono;rintro e w3 ⟨rfl,rfl⟩;go_wp2_with fail;go_ret;exact⟨rfl,U7⟩
 .have:res= !I:=by rw[<-a,<-hL];rfl
  subst this;clear s q c o hL t a;exact zs0
 .have:res=(I&&Z):=by rw[<-a,<-hL,<-t];rfl
  subst this;clear s q c o hL t a;cases I<;>exact zs0
 .have:res=vB:=by rw[<-a,<-c];rfl
  subst this;clear s q c o hL t a;have HX:=HB;exact zs1
 .have:res=vO:=by rw[<-a,<-s];rfl
  subst this;clear s q c o hL t a;have HX:=Y;exact zs1
 .have:res=vS:=by rw[<-a,<-q];rfl
  subst this;clear s q c o hL t a;go_enter func169,ntmps169;go_wp2_with fail;refine(HS.out _ U7).m λw3 WT=>?_;go_wp2;go_ret;exact⟨rfl,U7.tr WT⟩
theorem wp_append_own{P o a w K Q}(s x t)(k:o.op=Op.call {callee:=Callee.builtin Builtin.append,args:=#[s,x],argTypes:=#[t,t]})
  (base e i z size bytes) (E:P.underlying t=some (.slice e)) (p:P.info? e=some i) (J:i.zero=some z) (C:i.size=size) (I:i.bytes=bytes) (A:z.cells.size=size) (M:0<size)
  (v n xs) (H:a.eval s=v) (d:w.ownsRow base e size v n xs) (h m c news) (B:a.eval x=.slice (some h) m c) (r:news.length=m*size) (F:∀j u,news[j]?=some u->w.cell? (h.add j)=some u) (l:∀u∈news,u.oneCell'=true)
  (y:n+m<=maxLen) (q:(n+m)*bytes<=140737488355328) (O:base<=w.heap.size)
  (N:∀b f,f.ownsRow base e size b (n+m) (xs++news)->w.grownBy f v.ownBlock->(b.ownBlock=v.ownBlock\/b.ownBlock=some w.heap.size)->K (a.put o.dst b) f):Oper.wp P o a w K Q:=by
 obtain⟨b,f,g,L,G,_,D⟩:=run_append_own_at (P:=P) w base t o.type e i z size bytes E p J C I A M v n xs d h m c news r F l y q O;unfold Oper.wp;simp[execOp,k,resolve,invoke,builtin,H,B,g,Result.andThen];exact N b f L G D
structure RQ(g:Nat)(c:iZ):Prop where
 so:∀a,c.so=some a->a.block≠g
 ao:∀a,c.ao=some a->a.block≠g
theorem gP.only{g w w' c e}(h:gP w c e)(n:RQ g c)(a:Only g w w'):gP w' c e:=by
 obtain⟨k,s1,o,p⟩:=h.so;let f:k≠g:=n.so _ s1;refine{h with so:=⟨k,s1,fW o a.size,λj b i=>?_⟩,atoms:=λd=>?_}
 .rw[fT (a.block k o f)];exact p j b i
 .obtain⟨b,off,m,l,q⟩:=h.atoms d;exact⟨b,off,m,fW l a.size,λj i=>by rw[fT (a.block b l (n.ao _ m))];exact q j i⟩
def ki(w:aC)(no:aQ a_)(K:aB Key):Prop:=K≠[]->∃a,no=some ⟨a,0,none⟩/\a<w.heap.size/\∀(i:Nat)(k:Key),K[i]?=some k->w.cell? ⟨a,i*6,none⟩=some (.int .i32 k.op)/\w.cell? ⟨a,i*6+1,none⟩=some (.string k.name)/\w.cell? ⟨a,i*6+2,none⟩=some (.int .i64 k.lo)/\w.cell? ⟨a,i*6+3,none⟩=some (.int .i64 k.hi)/\w.cell? ⟨a,i*6+4,none⟩=some (.int .i64 k.l)/\w.cell? ⟨a,i*6+5,none⟩=some (.int .i64 k.r)
theorem KC:(prog.info? 4).map (λi=>(i.zero,i.size,i.bytes))=some (some (.bool false),1,1):=aM
def yz(L:aB Bool):aB aF:=L.map Value.bool
structure uB(w:aC)(c:iZ)(e:Pe):Prop where
 number:c.number=e.number
 time:c.time=e.time
 low:-1000000000000<=e.time/\e.time<=1000000000000
 al:c.al=e.atoms.length
 Dk:e.atoms.length<=1000000
 atoms:eQ w c.ao e.atoms
theorem uB.only{g w w' c e}(h:uB w c e)(l:∀a,c.ao=some a->a.block≠g)(k:Only g w w'):uB w' c e:=
 ⟨h.number,h.time,h.low,h.al,h.Dk,λd=>by
  obtain⟨b,off,i,f,m⟩:=h.atoms d
  exact⟨b,off,i,fW f k.size,λj n=>by rw[fT (k.block b f (l _ i))];exact m j n⟩⟩
def iZ.gi(c:iZ)(a sl sc:Nat):iZ:={c with so:=some ⟨a,0,none⟩,sl:=sl,sc:=sc}
theorem PS{w:aC}{B a sc L}(h:w.ownsRow B 4 1 (Sl a L.length sc) L.length (yz L)):∀j b,L[j]?=some b->w.cell? (Ad a j)=some (.bool b):=λj b c=>
 d_ h rfl (by simp[yz,c])
theorem uB.with{w c e B a sc}(h:uB w c e){L}(hL:L.length<=1000000)(b:w.ownsRow B 4 1 (Sl a L.length sc) L.length (yz L)):gP w (c.gi a L.length sc) {e with so:=L}:=
 {number:=h.number,time:=h.time,low:=h.low,sl:=rfl,EH:=hL,so:=⟨a,rfl,(b.lt a rfl).2,PS b⟩,al:=h.al,Dk:=h.Dk,atoms:=h.atoms}
theorem dR{w:aC}{k i v a t m}(h:w.heap[k]?=some (.cells a t m)):(w.setCell (Ad k i) v).heap[k]?=some (.cells (a.setIfInBounds i v) t m):=by
 simp[World.setCell,ua,h,Array.setIfInBounds_def]
theorem uJ{E F m}(h:∀i,i<m->E i=F i):eZ E m=eZ F m:=by
 unfold eZ;exact E6 λx _=>h x.1 x.2
structure Ap(g m:Nat)(cg:aY aF)(w wr:aC)(e:Pe)(sb sc:Nat):Prop where
 row:wr.heap[g]?=some (.cells (cg.setIfInBounds (m*4+3) (.slice (some ⟨sb,0,none⟩) e.so.length sc)) 159 (0,0))
 own:wr.ownsRow (w.heap.size+1) 4 1 (.slice (some ⟨sb,0,none⟩) e.so.length sc) e.so.length (yz e.so)
 only:Only g w wr
 res:wr.heap[w.heap.size]?=some (.cells #[.int .i64 0,.int .i64 0,.slice none 0 0,.slice none 0 0] 159 (0,0))
theorem Ap.ne{g m d w wr e a sc}(h:Ap g m d w wr e a sc):a≠g:=by
 rintro rfl;obtain⟨j,⟨b,_⟩|⟨k,cap,i,c,_,f,_⟩⟩:=h.own
 .cases b
 .cases c;have:=h.row;rw[f]at this;cases this
theorem B_(no bZ K g cap m cg)(C:Nat->iZ)(E w)(hm:m+1<=1000000)(bj:m+1<=cap)(hK:K.length<=1000)(c7:K.length<=bZ)
  (hg:w.heap[g]?=some (.cells cg 159 (0,0))) (T:∀i k v,i<m+1->(dD (C i))[k]?=some v->cg[i*4+k]?=some v) (hN:ki w no K) (ar:∀a,no=some a->a.block≠g) (Ah:∀k∈K,nw k.op) (hA:xb K)
  (hE:∀i,i<m->gP w (C i) (E i)) (R:∀i,i<m->(E i).so.length=K.length+1) (O:∀i,i<m->RQ g (C i)) (hM:uB w (C m) (E m)) (W:∀a,(C m).ao=some a->a.block≠g):
  Calls prog 132 #[.slice no K.length bZ,.slice (some ⟨g,0,none⟩) (m+1) cap] w λe W'=>∃s sc aa,e=.returned (ni ((C m).gi s (K.length+1) sc))/\w.heap.size<=s/\Only g w W'/\
   W'.heap[g]?=some (.cells (cg.setIfInBounds (m*4+3) (.slice (some ⟨s,0,none⟩) (K.length+1) sc)) 159 (0,0))/\W'.heap[s]?=some (.cells aa 4 (0,0))/\gP W' ((C m).gi s (K.length+1) sc) (eG (eZ E m) K (E m).bare):=by
 have p3:w.cell? ⟨g,m*4+3,none⟩=some (.slice (C m).so (C m).sl (C m).sc):=aD hg (T m 3 _ aA rfl);have f3:w.frozen? ⟨g,m*4+3,none⟩=false:=cJ hg _;have bz:=aL hg;obtain⟨i0,hi,bc,au,b0⟩:=eB KC;have bo:∀w:aC,(Instr.makeSlice 157 (.int .i64 1) (.int .i64 (1+(K.length:Int)))).run prog w=.ok (.slice (some ⟨w.heap.size,0,none⟩) 1 (K.length+1)) (w.alloc (.cells (madeCells (Value.bool false).cells (K.length+1)) 4)):=λw=>by
  have:=run_makeSlice (P:=prog) w 157 4 i0 _ underlying157 hi bc .i64 .i64 1 (1+(K.length:Int)) aA aA (by rw[au];omega) (by rw[b0];omega) aA;rw[this,au];have e1:(1+(K.length:Int)).toNat=K.length+1:=aA;rw[e1];simp
 have ai:(E m).bare.so.length=1:=rfl;generalize hn:K.length=n at*;go_enter func132,ntmps132;go_wp2_with fail;generalize bb:((w.setCell _ _).alloc _).alloc _=bm;have ah:Ap g m cg w bm (eG (eZ E m) (K.take 0) (E m).bare) (w.heap.size+1) (n+1):=by
  subst bb;show Ap _ _ _ _ _ (E m).bare _ _;refine⟨?_,⟨rfl,.inr ⟨w.heap.size+1,n+1,_,rfl,aX,aP _ _ _ (by simp[World.setCell]),by simp[Pe.bare],eP,by simp[size_madeCells],?_⟩⟩,(((Only.refl g w).setCell (p:=⟨g,m*4+3,none⟩) (.inl rfl) _).alloc _).alloc _,?_⟩
  .rw[ib _ _ _ (by simp[World.setCell];omega),ib _ _ _ (by simp[World.setCell];omega)];exact dR hg
  .rw[toList_madeCells_one];rfl
  .rw[ib _ _ _ (by simp[World.setCell])];exact aP _ _ _ (by simp[World.setCell])
 clear bo p3 f3 bb;go_loopw [22] (λiv wr=>∃(j:Nat)(s sc:Nat),iv=.int .i64 j/\j<=n/\Ap g m cg w wr (eG (eZ E m) (K.take j) (E m).bare) s sc) (λiv _=>n-(intOf iv).toNat)
 case atStart=>exact⟨0,_,_,rfl,cD,ah⟩
 case round=>
  clear ah;obtain⟨j,s,sc,rfl,cb,u⟩:=hrel;obtain⟨w1,w2,w3,w4,_⟩:=iT (eZ E m) (K.take j) (E m).bare;have r:(eG (eZ E m) (K.take j) (E m).bare).so.length=j+1:=by rw[w4,kR,ai];omega
  have ae:(eG (eZ E m) (K.take j) (E m).bare)={E m with so:=(eG (eZ E m) (K.take j) (E m).bare).so}:=by
   have:∀a b:Pe,a.number=b.number->a.time=b.time->a.atoms=b.atoms->a={b with so:=a.so}:=λa b h1 h2 h3=>by cases a;cases b;simp at h1 h2 h3;simp[h1,h2,h3]
   exact this _ _ w1 w2 w3
  by_cases hj:j<n
  .have ad:j<K.length:=by omega
   have D:K[j]?=some K[j]:=fG ad;obtain⟨nb,rfl,bl,bh⟩:=hN (by intro h;rw[h]at ad;simp at ad);have b7:nb≠g:=ar _ rfl;have b4:=Ah _ (iA D);obtain⟨a1,a2,a3,a4⟩:=hA j _ D;obtain⟨c0,c1,c2,c3,c4,c5⟩:=bh j _ D;have Q:eG (eZ E m) (K.take (j+1)) (E m).bare=(eG (eZ E m) (K.take j) (E m).bare).add (mT K[j] (eG (eZ E m) (K.take j) (E m).bare) (eZ E m)):=by
    rw[<-List.take_append_getElem ad,yd]
   generalize K[j]=k at*;obtain⟨ln,bf⟩:∃ln:Nat,k.l=(ln:Int):=⟨k.l.toNat,aA⟩;obtain⟨rn,ba⟩:∃rn:Nat,k.r=(rn:Int):=⟨k.r.toNat,aA⟩;rw[bf]at c4 a2;rw[ba]at c5 a4;have af:k=⟨k.op,k.name,k.lo,k.hi,(ln:Int),(rn:Int)⟩:=by rw[<-bf,<-ba]
   generalize c6:eG (eZ E m) (K.take j) (E m).bare=N at*;have hO:∀b,b<w.heap.size->b≠g->wr.heap[b]?=w.heap[b]?:=u.only.block;have hd:∀i v,w.cell? ⟨nb,i,none⟩=some v->wr.cell? ⟨nb,i,none⟩=some v:=λi v h=>(fT (hO nb bl b7)).trans h;have d0:=hd _ _ c0;have d1:=hd _ _ c1;have d2:=hd _ _ c2;have d3:=hd _ _ c3;have d4:=hd _ _ c4;have d5:=hd _ _ c5;have HS:Hid (∀w',Below wr.heap.size wr w'->Calls prog 169 #[.agg #[.int .i32 k.op,.string k.name,.int .i64 k.lo,.int .i64 k.hi,.int .i64 (ln:Int),.int .i64 (rn:Int)],.slice (some ⟨g,0,none⟩) (m+1) cap] w' λe W'=>e=.returned (.bool (mT k N (eZ E m)))/\Below w'.heap.size w' W'):=λw' hb=>by
    have Te:=hb.aS u.row;have br:∀i q v,i<m+1->(dD (if i=m then(C m).gi s (j+1) sc else C i))[q]?=some v->w'.cell? ⟨g,i*4+q,none⟩=some v:=λi q v hi hv=>by
     apply aD Te;rw[r];by_cases y:i=m
     .subst y;rw[bY rfl]at hv;have h3:=T i 3 _ hi (show(dD (C i))[3]?=some _ from rfl);have U:i*4+3<cg.size:=(jM.1 h3).1;rcases q with _|_|_|_|q
      .rw[qv aA];exact T i 0 v hi hv
      .rw[qv aA];exact T i 1 v hi hv
      .rw[qv aA];exact T i 2 v hi hv
      .have hv':some (.slice (some ⟨s,0,none⟩) (j+1) sc)=some v:=hv;rw[Fb U];exact hv'
      .simp[dD]at hv
     .rw[bN y]at hv;have hq:q<4:=by have:=(e_.1 hv).1;simpa[dD]using this
      rw[qv aA];exact T i q v hi hv
    have bn:∀i,i<m+1->gP w' (if i=m then(C m).gi s (j+1) sc else C i) (if i=m then N else E i):=λi hi=>by
     by_cases y:i=m
     .rw[bY y,bY y];have h1:=(hM.only (g:=g) W (u.only.trans (Only.aR hb))).with (L:=N.so) (by rw[r];omega) (eF u.own λb H=>hb.block b (u.own.lt b H).2);rw[r,<-ae]at h1;exact h1
     .rw[bN y,bN y];exact(hE i aA).only (O i aA) (u.only.trans (Only.aR hb))
    have b5:∀(x:Nat),x<=j->∀i,i<m+1->x<(if i=m then N else E i).so.length:=λx hx i hi=>by
     by_cases y:i=m
     .rw[bY y,r];omega
     .rw[bN y,R i aA];omega
    have:=Uo k.op k.name k.lo k.hi ln rn g cap m (λi=>if i=m then(C m).gi s (j+1) sc else C i) (λi=>if i=m then N else E i) w' b4 hm (fW (aL u.row) hb.size) bj br bn (b5 ln aA) (b5 rn aA);rw[bY rfl,<-af,uJ (F:=E) (λi hi=>by rw[bN aA])]at this;exact this
   have bd:=u.ne;have c:=u.row;have d:=u.own;have l:=u.only;have t:=u.res;rw[r]at c d;have ag:=aL c;have U:m*4+3<cg.size:=(jM.1 (T m 3 _ aA rfl)).1;generalize bu:mT k N (eZ E m)=bit at*;have aq:Hid _:=Q;clear hE R O hM W hN ar Ah hA T u bh c0 c1 c2 c3 c4 c5 hd hO ae af Q;go_wp2_with fail;obtain⟨o,ho⟩:∃o:Obj,o=.cells #[.int .i32 k.op,.string k.name,.int .i64 k.lo,.int .i64 k.hi,.int .i64 (ln:Int),.int .i64 (rn:Int)] 226 (0,0):=⟨_,rfl⟩;generalize a8:wr.alloc _=M;have hX:M.heap[wr.heap.size]?=some o:=by rw[<-a8,ho];exact aP _ _ _ rfl
   have J:Below wr.heap.size wr M:=a8▸aT.al _;have bt:M.heap.size=wr.heap.size+1:=by rw[<-a8];simp
   clear a8;generalize bs:wr.heap.size=X at*;obtain⟨S,hS⟩:∃S:aC->bQ,S=λw'=>w'.cell? ⟨g,m*4+3,none⟩=some (.slice (some ⟨s,0,none⟩) (j+1) sc)/\w'.cell? ⟨X,0,none⟩=some (.int .i32 k.op)/\w'.cell? ⟨X,1,none⟩=some (.string k.name)/\w'.cell? ⟨X,2,none⟩=some (.int .i64 k.lo)/\w'.cell? ⟨X,3,none⟩=some (.int .i64 k.hi)/\w'.cell? ⟨X,4,none⟩=some (.int .i64 (ln:Int))/\w'.cell? ⟨X,5,none⟩=some (.int .i64 (rn:Int)):=⟨_,rfl⟩;have HR:=hid λw' (hr:w'.heap[g]?=_) (hx:w'.heap[X]?=some o)=>show S w' by
    subst hS ho;exact⟨aD (hr.trans c) (by rw[Fb U]),aD hx rfl,aD hx rfl,aD hx rfl,aD hx rfl,aD hx rfl,aD hx rfl⟩
   have aw:=hid λw' (hb:Below M.heap.size M w')=>HR.out w' ((hb.block g (by omega)).trans (J.block g ag)) (hb.aS hX);have G:=aw.out _ (Below.refl _ M).drew;apply cA.begin (S:=S) (fin:=12) aM;subst hS;simp only[jn,hY,jl,Nat.reduceAdd,fC];refine cA.tk 0 G ?_
   try walk_nrm
   refine cA.tk 1 G ?_
   try walk_nrm
   refine cA.tk 2 G ?_
   try walk_nrm
   refine cA.tk 3 G ?_
   try walk_nrm
   refine cA.tk 4 G ?_
   try walk_nrm
   refine cA.tk 5 G ?_
   try walk_nrm
   refine cA.tk 6 G ?_
   try walk_nrm
   refine cA.o 7 (Md func169 (HS.out M.drew J.drew) ?_);rintro e w1 ⟨rfl,z⟩;replace z:Below M.heap.size M w1:=(cC _ M).drew.trans z;refine⟨_,rfl,λ_=>aw.out _ z,?_⟩
   try walk_nrm
   refine cA.o 8 (O8 ⟨λ_=>aw.out _ (z.al _),?_⟩)
   try walk_nrm
   have an:(w1.alloc (.cells #[.bool bit] 4)).ownsRow (w.heap.size+1) 4 1 (.slice (some ⟨s,0,none⟩) (j+1) sc) (j+1) (yz N.so):=by
    have o1:=eF d (w':=M) λb H=>J.block b (by have:=(d.lt b H).2;omega);have o2:=eF o1 (w':=w1) λb H=>z.block b (o1.lt b H).2;exact o2.alloc _
   have bw:w.heap.size+1<=w1.heap.size:=by have:=(d.lt s rfl);have:=z.size;omega
   refine cA.one (i:=9) jU rfl (by rfl) (wp_append_own (.tmp 30) (.tmp 34) 157 rfl (w.heap.size+1) 4 i0 _ 1 1 underlying157 hi bc au b0 rfl aG (.slice (some ⟨s,0,none⟩) (j+1) sc) (j+1) (yz N.so) rfl an ⟨w1.heap.size,0,none⟩ 1 1 [.bool bit] rfl rfl (cell_one_new w1 _ 4) (by simp[Value.oneCell']) eP aA bI ?_);intro v' w2 B f bx;obtain⟨V,a7,rfl⟩:=ownsRow_succ B;have b2:X≠s:=by have:=(d.lt s rfl).2;omega
   have h1:=(z.al (.cells #[.bool bit] 4)).aS ((J.block g ag).trans c);have Z:=(f.block g (aL h1) (λe=>bd (by cases e;rfl))).trans h1;have h2:=(z.al (.cells #[.bool bit] 4)).aS hX;have Y:=HR.out w2 (Z.trans c.symm) ((f.block X (aL h2) λe=>b2 (by cases e;rfl)).trans h2);have b9:=(d.lt s rfl).1;have b3:Only g w w2:=by
    have o1:Only g w (w1.alloc (.cells #[.bool bit] 4)):=((l.trans (Only.aR (show Below wr.heap.size wr M from bs▸J))).trans (Only.aR z)).alloc _;exact⟨f.os.trans o1.os,f.tape.trans o1.tape,f.output.trans o1.output,Nat.le_trans o1.size f.size,λb hb aj=>(f.block b (Nat.lt_of_lt_of_le hb o1.size) (λe=>absurd (show b=s by simpa[Value.ownBlock]using e) (by omega))).trans (o1.block b hb aj)⟩
   have h1:=(z.al (.cells #[.bool bit] 4)).aS ((J.block _ (by have:=aL t;omega)).trans t);have ak:=(f.block _ (aL h1) λe=>absurd (show w.heap.size=s by simpa[Value.ownBlock]using e) aA).trans h1;have b1:V≠g:=by
    rintro rfl;obtain⟨_,⟨h2,_⟩|⟨g',b6,aa,e1,_,e2,_⟩⟩:=B
    .cases h2
    .cases e1;rw[Z]at e2;cases e2
   refine⟨λ_=>Y,?_⟩
   try walk_nrm
   refine cA.o 10 (O8 ⟨λ_=>Y,?_⟩)
   try walk_nrm
   refine cA.o 11 (O8 ⟨λ_=>Y,?_⟩)
   try walk_nrm
   refine cA.op (i:=12) jU rfl (by rfl) λK' hK'=>?_;unfold Oper.wp;have ca:=Y.1;have c8:w2.frozen? ⟨g,m*4+3,none⟩=false:=cJ Z _;go_simp;refine hK' _ _ ⟨λx=>absurd x aG,?_⟩;clear hK' K';refine cA.done jU ?_ _
   try walk_nrm
   have S3:Ap g m cg w (w2.setCell ⟨g,m*4+3,none⟩ (.slice (some ⟨V,0,none⟩) (j+1+1) a7)) (eG (eZ E m) (K.take (j+1)) (E m).bare) V a7:=by
    rw[aq.out];have ay:(N.add bit).so.length=j+1+1:=by simp[Pe.add,r]
    refine⟨?_,?_,b3.setCell (p:=⟨g,m*4+3,none⟩) (.inl rfl) _,?_⟩
    .rw[ay];have:=dR (i:=m*4+3) (v:=.slice (some ⟨V,0,none⟩) (j+1+1) a7) Z
     rwa[Array.setIfInBounds_setIfInBounds]at this
    .rw[ay];have e1:yz (N.add bit).so=yz N.so++[.bool bit]:=by simp[yz,Pe.add]
     rw[e1];exact eF B λb H=>mn _ _ _ _ (by cases H;exact λe=>b1 e)
    .rw[mn _ _ _ _ (by show w.heap.size≠g;omega)];exact ak
   go_wp2_with fail
   try go_big_round
   exact⟨⟨j+1,V,a7,dU,aA,S3⟩,zm⟩
  .obtain rfl:j=n:=by omega
   have ax:=(hM.only (g:=g) W u.only).with (L:=(eG (eZ E m) (K.take j) (E m).bare).so) (by rw[r];omega) u.own;rw[r,<-ae,rf aA]at ax;have c:=u.row;have d:=u.own;have l:=u.only;have t:=u.res;have bd:=u.ne;have b9:=(d.lt s rfl).1;rw[r]at c d;have h3:=T m 3 _ aA (show(dD (C m))[3]?=some _ from rfl);have U:m*4+3<cg.size:=(jM.1 h3).1;have hp:∀q v,q<3->(dD (C m))[q]?=some v->wr.cell? ⟨g,m*4+q,none⟩=some v:=λq v hq h=>aD c (by rw[Array.getElem?_setIfInBounds_ne (by omega)];exact T m q _ (by omega) h);have p0:wr.cell? ⟨g,m*4,none⟩=_:=hp 0 _ (by omega) rfl;have p1:=hp 1 _ aA rfl;have p2:=hp 2 (.slice (C m).ao (C m).al (C m).ac) aA rfl;clear hp;have p3:=aD c (by rw[Fb U]);obtain⟨r0,r1,r2,r3⟩:=ZR t;have fz:∀q,wr.frozen? ⟨w.heap.size,q,none⟩=false:=λq=>cJ t q;have HM:Hid (eQ w (C m).ao (E m).atoms):=hM.atoms;have bp:Hid (∀a,(C m).ao=some a->a.block≠g):=W;clear hE R O hM W hN ar Ah hA T u ae;go_wp2_with fail;have hR:=dR (i:=3) (v:=.slice (some ⟨s,0,none⟩) (j+1) sc) (dR (i:=2) (v:=.slice (C m).ao (C m).al (C m).ac) (dR (i:=1) (v:=.int .i64 (C m).time) (dR (i:=0) (v:=.int .i64 (C m).number) t)));simp only[Pv,Cg,Hz]at hR;generalize b8:(((wr.setCell _ _).setCell _ _).setCell _ _).setCell _ _=W4 at hR⊢;have A:∀b,b≠w.heap.size->W4.heap[b]?=wr.heap[b]?:=λb hb=>by
    rw[<-b8,mn _ _ _ _ hb,mn _ _ _ _ hb,mn _ _ _ _ hb,mn _ _ _ _ hb]
   have I:Only w.heap.size wr W4:=b8▸((((Only.refl _ wr).setCell (p:=⟨w.heap.size,0,none⟩) (.inl rfl) _).setCell (p:=⟨w.heap.size,1,none⟩) (.inl rfl) _).setCell (p:=⟨w.heap.size,2,none⟩) (.inl rfl) _).setCell (p:=⟨w.heap.size,3,none⟩) (.inl rfl) _;obtain⟨_,⟨h2,_⟩|⟨g',b6,aa,e1,_,e2,_⟩⟩:=d
   .cases h2
   cases e1;obtain⟨q0,q1,q2,q3⟩:=ZR hR;have az:g≠w.heap.size:=aA;refine⟨rfl,ni ((C m).gi s (j+1) sc),?_,s,sc,aa,rfl,aA,⟨I.os.trans l.os,I.tape.trans l.tape,I.output.trans l.output,gC l.size I.size,λb hb aj=>(A b aA).trans (l.block b hb aj)⟩,(A g az).trans c,(A s aA).trans e2,?_⟩
   .simp[results,f132,go_sem,loadVar,ni,iZ.gi,q0,q1,q2,q3]
   .obtain⟨a6,s1,s2,s3⟩:=ax.so;have bk:a6=s:=by have:some (⟨s,0,none⟩:a_)=some ⟨a6,0,none⟩:=s1;simp at this;exact this.symm
    subst bk;have bg:(eG (eZ E m) K (E m).bare).atoms=(E m).atoms:=(iT (eZ E m) K (E m).bare).2.2.1;refine{ax with so:=⟨a6,s1,fW s2 I.size,λq b hq=>?_⟩,atoms:=?_}
    .rw[fT (A a6 aA)];exact s3 q b hq
    .rw[bg];intro bq;obtain⟨b,off,h1,h2,h3⟩:=HM.out bq;refine⟨b,off,h1,fW h2 (gC l.size I.size),λq hq=>?_⟩;rw[fT (A b aA),fT (l.block b h2 (bp.out _ h1))];exact h3 q hq
end Ev
end Go.Proofs.YtpbbmagjhkakgaaGreatDoor
