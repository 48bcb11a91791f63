import Derived.Test.YtpbbmagjhkakgaaGreatDoorB2
namespace Go.Proofs.YtpbbmagjhkakgaaGreatDoor
set_option maxHeartbeats 4000000
set_option maxRecDepth 100000
open Tryz Go.RowKit Go.Deep
def pB(lo hi:Nat)(c:aV):Bool:=decide (lo<=c.toNat)&&decide (c.toNat<=hi)
def Uq(a:Nat)(w:aC):Nat:=match w.heap[a]? with
 |some (.cells b _ _)=>intOf (b.getD 1 undef)|>.toNat
 |_=>0
theorem Lv{b i w s a}(h:iD b w s i a):Uq b w=i:=by
 unfold Uq;unfold iD at h;rw[h];simp[intOf]
theorem lA(s i):At s i (s.data.toList.drop i):=rfl
theorem mI(s:aZ)(j k):(s.extract j k).data.toList=(s.data.toList.drop j).take (k-j):=by
 rw[ByteArray.data_extract,Array.toList_extract]
theorem G'(b i s f u)(lo hi:Nat)(w)(h:iD b w s i f)(I:s.size<=1000000)(q:i<=s.size)(H:At s i u):
  Calls prog 201 #[Pt b,.int .u8 (lo),.int .u8 (hi)] w λe D=>Only b w D/\∃k d,k<=s.size/\iD b D s k f/\e=.returned (.string d)/\d.data.toList=(cB u).takeWhile (pB lo hi)/\At s k ((cB u).dropWhile (pB lo hi)):=by
 have y:=A5 b i s f w h I;have l:=H.skip;have J:=EG q;generalize vQ s i=j at*;generalize cB u=v at*;go_enter func201,ntmps201;go_wp2_with fail;refine y.m λE ⟨K,C⟩=>?_;have G:E.cell? (Ad b 1)=some (Iv j):=aD C rfl;go_wp2;go_loopw [] (λwr=>∃(k:Nat)(z:aB aV),j<=k/\k<=s.size/\iD b wr s k f/\Only b w wr/\At s k z/\Hid (v.takeWhile (pB lo hi)=(v.take (k-j))++z.takeWhile (pB lo hi)/\v.dropWhile (pB lo hi)=z.dropWhile (pB lo hi))) (λwr=>s.size-Uq b wr)
 case atStart=>exact⟨j,v,aX,J,C,K,l,aE,rfl⟩
 case round=>
  have⟨k,z,Z3,hk,h2,RH,hz,hW⟩:=hrel;have N:wr.cell? (Ad b 0)=some (.string s):=aD h2 rfl;have G:wr.cell? (Ad b 1)=some (Iv k):=aD h2 rfl;have M:=cJ h2 1;cases z with
  |nil=>
   have B:=hz.nil;have m:decide (k<s.size)=false:=bI;have a:Hid ((s.extract j k).data.toList=v.takeWhile (pB lo hi)/\At s k (v.dropWhile (pB lo hi))):=by
    have⟨e1,e2⟩:=hW.out;refine⟨?_,by rw[e2];exact hz⟩;rw[mI,show s.data.toList.drop j=v from l,e1];simp
   go_wp2
   go_region
   go_wp2
   go_region
   go_wp2;go_ret;exact⟨RH.drew.drew,k,_,hk,h2,rfl,a.out⟩
  |cons c r=>
   have⟨B,hc,ht⟩:=hz.cons;have m:decide (k<s.size)=true:=bI;have F:=z_ c;by_cases n:lo<=c.toNat
   .have Vp:decide (lo<=c.toNat)=true:=by simp[n]
    by_cases t:c.toNat<=hi
    .have XI:decide (c.toNat<=hi)=true:=by simp[t]
     have g:pB lo hi c=true:=by unfold pB;rw[Vp,XI];rfl
     have o:v.drop (k-j)=c::r:=by
      rw[<-l,List.drop_drop,<-hz];congr 1;omega
     have A:Hid (v.takeWhile (pB lo hi)=(v.take (k+1-j))++r.takeWhile (pB lo hi)/\v.dropWhile (pB lo hi)=r.dropWhile (pB lo hi)):=by
      have⟨e1,e2⟩:=hW.out;refine⟨?_,?_⟩
      .rw[e1,Cd,g,bY rfl,show k+1-j=(k-j)+1 from aA,ym];have:v[k-j]?=some c:=by
        have:=og List.head? o;rw[List.head?_drop]at this;exact this
       rw[this];simp
      .rw[e2,L4,g,bY rfl]
     have L:(k:Int)+1<=9223372036854775807:=aA;go_wp2
     go_region
     go_wp2;go_roundw
     case rel=>exact⟨k+1,r,aA,B,A9 (show iD b wr.drew s k f from h2),RH.drew.setCell (p:=(Ad b 1)) (.inl rfl) _,ht,A⟩
     case measure=>exact Nat.lt_of_le_of_lt (Nat.le_of_eq (og (λx=>s.size-x) (Lv (i:=k+1) (A9 (show iD b wr.drew s k f from h2))))) (by rw[(Lv h2)];omega)
    .have XI:decide (c.toNat<=hi)=false:=by simp;omega
     have g:pB lo hi c=false:=by unfold pB;rw[Vp,XI];rfl
     have a:Hid ((s.extract j k).data.toList=v.takeWhile (pB lo hi)/\At s k (v.dropWhile (pB lo hi))):=by
      have⟨e1,e2⟩:=hW.out;refine⟨?_,by rw[e2,L4,g];exact hz⟩;rw[mI,show s.data.toList.drop j=v from l,e1,Cd,g];simp
     go_wp2
     go_region
     go_wp2
     go_region
     go_wp2;go_ret;exact⟨RH.drew.drew,k,_,hk,h2,rfl,a.out⟩
   .have Vp:decide (lo<=c.toNat)=false:=by simp;omega
    have g:pB lo hi c=false:=by unfold pB;rw[Vp];rfl
    have a:Hid ((s.extract j k).data.toList=v.takeWhile (pB lo hi)/\At s k (v.dropWhile (pB lo hi))):=by
     have⟨e1,e2⟩:=hW.out;refine⟨?_,by rw[e2,L4,g];exact hz⟩;rw[mI,show s.data.toList.drop j=v from l,e1,Cd,g];simp
    go_wp2
    go_region
    go_wp2
    go_region
    go_wp2;go_ret;exact⟨RH.drew.drew,k,_,hk,h2,rfl,a.out⟩
theorem Uw(n:Nat):(aK (n)==48)=(decide (48<=n)&&decide (n<=57)):=by
 rw[Cn];simp only[vV,sB,oX];unfold aK
 repeat' split
 all_goals omega
theorem Ux(n:Nat):(aK (n)==97)=(decide (97<=n)&&decide (n<=122)):=by
 rw[Cn];simp only[vV,sB,oX];unfold aK
 repeat' split
 all_goals omega
theorem TL(c):(aK (c.toNat:Int)==48)=pB 48 57 c:=Uw c.toNat
theorem TM(c):(aK (c.toNat:Int)==97)=pB 97 122 c:=Ux c.toNat
theorem LX(u):iz 48 u=u.takeWhile (pB 48 57)/\jR 48 u=u.dropWhile (pB 48 57):=by
 unfold iz jR;have:(λc:aV=>aK (c.toNat:Int)==48)=pB 48 57:=funext TL;rw[this];exact⟨rfl,rfl⟩
theorem E0(u):iz 97 u=u.takeWhile (pB 97 122)/\jR 97 u=u.dropWhile (pB 97 122):=by
 unfold iz jR;have:(λc:aV=>aK (c.toNat:Int)==97)=pB 97 122:=funext TM;rw[this];exact⟨rfl,rfl⟩
theorem Wp(l):∀a,(∀c,c∈l->48<=c.toNat/\c.toNat<=57)->kI a l<(a+1)*10^l.length:=by
 induction l with
 |nil=>
  intro a _;let e:kI a []=a:=rfl;rw[e,jl,Nat.pow_zero,Nat.mul_one];exact ZM a
 |cons c r f=>
  intro a h;let g:=h c aE;let e:kI a (c::r)=kI (10*a+(c.toNat-48)) r:=rfl;rw[e,hY,Nat.pow_succ,Nat.mul_comm (10^r.length) 10,<-Nat.mul_assoc];exact fW (f (10*a+(c.toNat-48)) λd b=>h d (by simp[b])) (L2 _ aA)
theorem Ow{l}(h:∀c,c∈l->48<=c.toNat/\c.toNat<=57)(a:l.length<=7):kI 0 l<10000000:=by
 have e:=Wp l 0 h;have b:10^l.length<=10^7:=Cc aA a;generalize kI 0 l=y at*;generalize 10^l.length=z at*;have d:(10:Nat)^7=10000000:=aG;omega
theorem IW{d:aZ}{l}(a:d.data.toList=l){i}(hi:i<l.length):∃h:i<d.size,d[i]'h=l[i]:=by
 subst a;exact⟨by rw[<-fP];exact hi,rfl⟩
theorem Nr(u):ji u=(vH ((cB u).takeWhile (pB 48 57))).map λv=>(v,(cB u).dropWhile (pB 48 57)):=by
 unfold ji;cases cB u with
 |nil=>rfl
 |cons c r=>
  simp only;rw[(LX _).1,(LX _).2];by_cases h:aK (c.toNat:Int)=48
  .rw[bY h]
  .rw[bN h];let a:pB 48 57 c=false:=by rw[<-TL];simp[h]
   rw[Cd,a];rfl
def NumEnd(s:aZ)(c:Nat)(b:Bool)(res:aQ (Int×aB aV))(e:Ending)(d:aC):Prop:=
 ∃j n a,j<=s.size/\iD c d s j a/\e=.returned (Iv n)/\((b=false/\a=false/\∃t,res=some (n,t)/\At s j t)\/(a=true/\(b=true\/res=none)/\0<=n/\n<=10000000))
theorem B4(j i s g u w)(h:iD j w s i g)(hs:s.size<=1000000)(hi:i<=s.size)(hu:At s i u):
  Calls prog 209 #[Pt j] w λe T=>Only j w T/\NumEnd s j g (ji u) e T:=by
 have hw:=G' j i s g u 48 57 w h hs hi hu;rw[Nr];have D:∀c,c∈(cB u).takeWhile (pB 48 57)->48<=c.toNat/\c.toNat<=57:=by
  intro c hc;have:=yn.1 List.all_takeWhile c hc;unfold pB at this;simp at this;exact this
 generalize(cB u).takeWhile (pB 48 57)=l at*;generalize(cB u).dropWhile (pB 48 57)=r at*;go_enter func209,ntmps209;go_wp2_with fail;apply hw.mono;rintro e R ⟨F,k,d,C,y,rfl,J,hr⟩;have a6:d.size=l.length:=by rw[<-J,fP]
 have c2:R.cell? (Ad j 2)=some (.bool g):=aD y rfl;have f2:=cJ y 2;by_cases S:l.length=0
 .have x:Hid (vH l=none):=by show _=_;unfold vH;rw[bY (.inl S)]
  have z0:d.size=0:=aA;go_wp2;go_ret;exact⟨F.setCell (p:=(Ad j 2)) (.inl rfl) _,k,0,true,C,mU y,rfl,.inr ⟨rfl,.inr (by rw[x.out];rfl),aA,aA⟩⟩
 .have⟨z0,nk⟩:=IW J (i:=0) aA;have n0:¬d.size=0:=aA;by_cases h7:7<l.length
  .have x:Hid (vH l=none):=by show _=_;unfold vH;rw[bY (.inr (.inl h7))]
   have z7:7<d.size:=aA;go_wp2;go_ret;exact⟨F.setCell (p:=(Ad j 2)) (.inl rfl) _,k,0,true,C,mU y,rfl,.inr ⟨rfl,.inr (by rw[x.out];rfl),aA,aA⟩⟩
  .have n7:¬7<d.size:=by omega
   have G:l.headD 0=l[0]'aA:=by
    cases l with
    |nil=>simp at S
    |cons a b=>rfl
   generalize a1:l[0]'aA=v at*;have A:(((v.toNat:Int)==48)=true/\1<l.length/\vH l=none)\/((((v.toNat:Int)==48)=false\/(((v.toNat:Int)==48)=true/\¬1<d.size))/\vH l=if 1000000<kI 0 l then none else some (kI 0 l:Int)):=by
    unfold vH;by_cases o:v=48
    .have f:((v.toNat:Int)==48)=true:=by rw[o];rfl
     by_cases B:1<l.length
     .exact .inl ⟨f,B,by rw[bY (.inr (.inr ⟨by rw[G];exact o,B⟩))]⟩
     .refine .inr ⟨.inr ⟨f,aA⟩,?_⟩;rw[bN (by rintro(e|e|⟨_,e⟩)<;>omega)]
    .have f:((v.toNat:Int)==48)=false:=by
      simp only[ri];intro e;exact o (sC.1 (by have:(48:aV).toNat=48:=rfl;omega))
     refine .inr ⟨.inl f,?_⟩;rw[bN];rintro(e|e|⟨e,_⟩)
     .omega
     .omega
     .exact o (G▸e)
   obtain⟨f,B,H⟩|⟨hq,H⟩:=A
   .have U:1<d.size:=by omega
    go_wp2;go_ret;exact⟨F.setCell (p:=(Ad j 2)) (.inl rfl) _,k,0,true,C,mU y,rfl,.inr ⟨rfl,.inr (by rw[H];rfl),aA,aA⟩⟩
   .have x:=hid H;have O:=Ow D aA;have l0:((l.length:Int)==0)=false:=by simp only[ri];omega
    have l7:decide (7<(l.length:Int))=false:=bI;have L:=hid λ(m:Nat)(z:aB aV)=>Pn z m;have hq':((v.toNat:Int)==48)=false\/(((v.toNat:Int)==48)=true/\decide (1<(l.length:Int))=false):=by
     obtain e|⟨e,U⟩:=hq
     .exact .inl e
     .exact .inr ⟨e,bI⟩
    obtain f|⟨f,U⟩:=hq'
    all_goals
     go_wp2;go_loopw [4,5] (λnv Q wr=>∃i n:Nat,nv=Iv n/\Q=Iv i/\i<=l.length/\wr=R/\Hid (kI n (l.drop i)=kI 0 l)) (λ_ Q _=>l.length-(intOf Q).toNat)
     case atStart=>exact⟨0,0,rfl,rfl,cD,rfl,rfl⟩
     case round=>
      obtain⟨i,n,rfl,rfl,Z,rfl,W⟩:=hrel;by_cases q:i<l.length
      .have⟨hz,hzc⟩:=IW J q;have Y:=D _ (w_ q);have E:kI (10*n+(l[i].toNat-48)) (l.drop (i+1))=kI 0 l:=by
        rw[<-W.out,oV q];rfl
       have M:=L.out (10*n+(l[i].toNat-48)) (l.drop (i+1));rw[E]at M;have N:=hid E;generalize X:l[i]=c at*;generalize kI 0 l=V at*;have I:decide ((i:Int)<(l.length:Int))=true:=bI;go_wp2
       try go_big_round
       exact⟨⟨i+1,10*n+(c.toNat-48),dU,dU,q,trivial,N⟩,zm⟩
      .have I:decide ((i:Int)<(l.length:Int))=false:=by simp;omega
       have P:kI 0 l=n:=by
        rw[<-W.out,t_ aA];rfl
       rw[P]at x O;by_cases t:1000000<n
       .have K:Hid (vH l=none):=by show _=_;rw[x.out,bY t]
        go_wp2;go_ret;exact⟨F.setCell (p:=(Ad j 2)) (.inl rfl) _,k,n,true,C,mU y,rfl,.inr ⟨rfl,.inr (by rw[K.out];rfl),aA,aA⟩⟩
       .have K:Hid (vH l=some (n:Int)):=by show _=_;rw[x.out,bN t]
        go_wp2;go_ret;refine⟨F,k,n,g,C,y,rfl,?_⟩;cases g with
        |false=>exact .inl ⟨rfl,rfl,r,by rw[K.out];rfl,hr⟩
        |true=>exact .inr ⟨rfl,.inl rfl,aA,aA⟩
def Xr(s:aZ)(f:Nat)(d:Bool)(res:aQ ((Int×Int)×aB aV))(e:Ending)(g:aC):Prop:=
 ∃j a b c,j<=s.size/\iD f g s j c/\e=.returned (.tuple #[Iv a,Iv b])/\((d=false/\c=false/\∃t,res=some ((a,b),t)/\At s j t)\/(c=true/\(d=true\/res=none)))
theorem tX{op u}(hw:lY op=true)(h:dF 91 u=none):dS op u=none:=by
 unfold dS;rw[hw,bY rfl,h]
theorem nP{op:Int}{u c:aB aV}(hw:lY op=true)(h:dF 91 u=some c):dS op u=match ji c with
   |none=>none
   |some (a,f)=>match dF 44 f with
    |none=>none
    |some g=>match ji g with
     |none=>none
     |some (b,d)=>match dF 93 d with
      |none=>none
      |some e=>if b<a then none else some ((a,b),e):=by
 unfold dS;rw[hw,bY rfl,h];rfl
theorem wD{u t n}(h:ji u=some (n,t)):0<=n/\n<=1000000:=by
 rw[Nr]at h;cases a:vH ((cB u).takeWhile (pB 48 57))with
 |none=>rw[a]at h;cases h
 |some v=>
  rw[a]at h;simp at h;obtain⟨rfl,_⟩:=h;unfold vH at a;split at a
  .cases a
  .split at a
   .cases a
   .injection a with a;omega
theorem B6(y i s f u op w)(h:iD y w s i f)(I:s.size<=1000000)(hi:i<=s.size)(hu:At s i u)(hw:lY op=true):
  Calls prog 199 #[Pt y] w λe Z=>Only y w Z/\Xr s y f (dS op u) e Z:=by
 go_enter func199,ntmps199;go_wp2_with fail;apply(rZ y i s f u 91 w h I hi hu aG).mono;rintro e w1 ⟨o1,rfl,S,B,T,h1,r1⟩;let k1:∃n,At s S n/\((f=false/\B=false/\dF 91 u=some n)\/(B=true/\(f=true\/dS op u=none))):=by
  obtain⟨j,c,t,k,q⟩|⟨j,c⟩:=r1
  .exact⟨t,q,.inl ⟨j,c,k⟩⟩
  .exact⟨_,lA s S,.inr ⟨j,c.imp id (tX hw)⟩⟩
 let⟨n,hu1,q1⟩:=k1;go_wp2_with fail;apply(B4 y S s B n w1 h1 I T hu1).mono;rintro e w2 ⟨o2,U,a,z,N,h2,rfl,r2⟩;let k2:∃C,At s U C/\0<=a/\a<=10000000/\((f=false/\z=false/\∃n,dF 91 u=some n/\ji n=some (a,C))\/(z=true/\(f=true\/dS op u=none))):=by
  obtain⟨j,c,t,k,q⟩|⟨j,c,k,q⟩:=r2
  .let⟨s1,s2⟩:=wD k;obtain⟨d,g,l⟩|⟨d,g⟩:=q1
   .exact⟨t,q,s1,aA,.inl ⟨d,c,n,l,k⟩⟩
   .rw[j]at d;cases d
  .refine⟨_,lA s U,k,q,.inr ⟨j,?_⟩⟩;obtain⟨d,g,l⟩|⟨d,g⟩:=q1
   .obtain c|c:=c
    .rw[g]at c;cases c
    .right;rw[nP hw l,c]
   .exact g
 let⟨C,hu2,sa1,sa2,q2⟩:=k2;go_wp2_with fail;apply(rZ y U s z C 44 w2 h2 I N hu2 aG).mono;rintro e w3 ⟨o3,rfl,X,v,R,h3,r3⟩;let k3:∃D,At s X D/\((f=false/\v=false/\∃n C,dF 91 u=some n/\ji n=some (a,C)/\dF 44 C=some D)\/(v=true/\(f=true\/dS op u=none))):=by
  obtain⟨j,c,t,k,q⟩|⟨j,c⟩:=r3
  .obtain⟨d,g,E,l,A⟩|⟨d,g⟩:=q2
   .exact⟨t,q,.inl ⟨d,c,E,C,l,A,k⟩⟩
   .rw[j]at d;cases d
  .refine⟨_,lA s X,.inr ⟨j,?_⟩⟩;obtain⟨d,g,E,l,A⟩|⟨d,g⟩:=q2
   .obtain c|c:=c
    .rw[g]at c;cases c
    .right;rw[nP hw l,A];simp only;rw[c]
   .exact g
 let⟨D,hu3,q3⟩:=k3;go_wp2_with fail;apply(B4 y X s v D w3 h3 I R hu3).mono;rintro e w4 ⟨o4,O,b,r,P,h4,rfl,r4⟩;let k4:∃K,At s O K/\0<=b/\b<=10000000/\((f=false/\r=false/\∃n C D,dF 91 u=some n/\ji n=some (a,C)/\dF 44 C=some D/\ji D=some (b,K))\/(r=true/\(f=true\/dS op u=none))):=by
  obtain⟨j,c,t,k,q⟩|⟨j,c,k,q⟩:=r4
  .let⟨s1,s2⟩:=wD k;obtain⟨d,g,E,J,l,A,F⟩|⟨d,g⟩:=q3
   .exact⟨t,q,s1,aA,.inl ⟨d,c,E,J,D,l,A,F,k⟩⟩
   .rw[j]at d;cases d
  .refine⟨_,lA s O,k,q,.inr ⟨j,?_⟩⟩;obtain⟨d,g,E,J,l,A,F⟩|⟨d,g⟩:=q3
   .obtain c|c:=c
    .rw[g]at c;cases c
    .right;rw[nP hw l,A];simp only;rw[F];simp only;rw[c]
   .exact g
 let⟨K,hu4,sb1,sb2,q4⟩:=k4;go_wp2_with fail;apply(rZ y O s r K 93 w4 h4 I P hu4 aG).mono;rintro e w5 ⟨o5,rfl,Q,m,H,L,r5⟩;let Y:Hid ((f=false/\m=false/\∃G,dS op u=(if b<a then none else some ((a,b),G))/\At s Q G)\/(m=true/\(f=true\/dS op u=none))):=by
  obtain⟨j,c,t,k,q⟩|⟨j,c⟩:=r5
  .obtain⟨d,g,E,J,v3,l,A,F,W⟩|⟨d,g⟩:=q4
   .exact .inl ⟨d,c,t,by rw[nP hw l,A];simp only;rw[F];simp only;rw[W];simp only;rw[k],q⟩
   .rw[j]at d;cases d
  .refine .inr ⟨j,?_⟩;obtain⟨d,g,E,J,v3,l,A,F,W⟩|⟨d,g⟩:=q4
   .obtain c|c:=c
    .rw[g]at c;cases c
    .right;rw[nP hw l,A];simp only;rw[F];simp only;rw[W];simp only;rw[c]
   .exact g
 let c2:w5.cell? (Ad y 2)=some (.bool m):=aD L rfl;let f2:=cJ L 2;let o:=(((o1.trans o2).trans o3).trans o4).trans o5;by_cases M:b<a
 .let V:decide (a>b)=true:=by simp;omega
  go_wp2;go_ret2;refine⟨o.setCell (p:=(Ad y 2)) (.inl rfl) _,Q,a,b,true,H,mU L,rfl,.inr ⟨rfl,?_⟩⟩;obtain⟨x1,_,G,x2,_⟩|⟨_,x⟩:=Y.out
  .right;rw[x2,bY M]
  .exact x
 .let V:decide (a>b)=false:=by simp;omega
  go_wp2;go_ret2;refine⟨o,Q,a,b,m,H,L,rfl,?_⟩;obtain⟨x1,x3,G,x2,x4⟩|⟨x3,x⟩:=Y.out
  .exact .inl ⟨x1,x3,G,by rw[x2,bN aA],x4⟩
  .exact .inr ⟨x3,x⟩
theorem sf(u):(cB u).length<=u.length:=by
 cases u with
 |nil=>exact aX
 |cons c r=>
  by_cases h:c=32
  .let e:cB (c::r)=r:=bY h;rw[e];simp
  .let e:cB (c::r)=c::r:=bN h;rw[e];exact aX
theorem Wm(c r)(h:c≠32):cB (c::r)=c::r:=bN h
theorem sP{c u t}(h:dF c u=some t):t.length<u.length:=by
 let b:=sf u;cases a:cB u with
 |nil=>rw[DM a]at h;cases h
 |cons d r=>
  rw[uR a]at h;rw[a]at b;split at h
  .injection h with h;subst h;simp at b;omega
  .cases h
theorem O6{u t n}(h:ji u=some (n,t)):t.length<=u.length:=by
 rw[Nr]at h;cases a:vH ((cB u).takeWhile (pB 48 57))with
 |none=>rw[a]at h;cases h
 |some v=>
  rw[a]at h;simp at h;rw[<-h.2];exact gC (List.dropWhile_sublist _).length_le (sf u)
theorem tW{op u t ab}(h:dS op u=some (ab,t)):t.length<=u.length:=by
 by_cases hw:lY op=true
 .cases g:dF 91 u with
  |none=>rw[tX hw g]at h;cases h
  |some i=>
   rw[nP hw g]at h;let m:=sP g;cases c:ji i with
   |none=>rw[c]at h;cases h
   |some j=>
    let⟨a,t2⟩:=j;rw[c]at h;simp only at h;let r:=O6 c;cases f:dF 44 t2 with
    |none=>rw[f]at h;cases h
    |some k=>
     rw[f]at h;simp only at h;let q:=sP f;cases d:ji k with
     |none=>rw[d]at h;cases h
     |some l=>
      let⟨b,t4⟩:=l;rw[d]at h;simp only at h;let o:=O6 d;cases e:dF 93 t4 with
      |none=>rw[e]at h;cases h
      |some n=>
       rw[e]at h;simp only at h;let p:=sP e;split at h
       .cases h
       .simp at h;rw[<-h.2];omega
 .unfold dS at h;rw[bN hw]at h;simp at h;rw[<-h.2];exact aX
def eO(op:Int):Int:=if op=172 then 33 else if op=8743 then 38 else if op=8744 then 124 else op
def bX(B:Nat)(w:aC):BT c_->aF->Prop
 |.nil,v=>v=.pointer none
 |.node _ _ a l r,v=>∃b vl vr,v=(Pt b)/\B<=b/\w.heap[b]?=some (.cells #[.int .u8 (eO a.op),.string a.name,Iv a.lo,Iv a.hi,vl,vr] 252 (0,0))/\bX B w l vl/\bX B w r vr
theorem bX.heap{B:Nat}{w w':aC}(a:∀k o,B<=k->w.heap[k]?=some o->w'.heap[k]?=some o):∀{x:BT c_}{v:aF},bX B w x v->bX B w' x v
 |.nil,_,h=>h
 |.node _ _ _ l r,_,⟨b,i,j,e,c,g,d,f⟩=>⟨b,i,j,e,c,a b _ c g,bX.heap a (x:=l) d,bX.heap a (x:=r) f⟩
theorem bX.only{B s w w' x v}(h:bX B w x v)(a:Only s w w')(c:s<B):bX B w' x v:=
 bX.heap (λk o d b=>a.heap b aA) h
theorem bX.below{B w a x v}(h:bX B w x v)(b:Bl w a):bX B a x v:=
 bX.heap (λ_ _ _ c=>Below.aS b c) h
theorem bX.low{B B':Nat}{w:aC}(a:B'<=B):∀{x:BT c_}{v:aF},bX B w x v->bX B' w x v
 |.nil,_,h=>h
 |.node _ _ _ l r,_,⟨b,i,j,e,g,f,c,d⟩=>⟨b,i,j,e,gC a g,f,bX.low a (x:=l) c,bX.low a (x:=r) d⟩
theorem bX.lW{B w x v}(h:bX B w x v){p}(b:p.block<B)(u):bX B (w.setCell p u) x v:=
 bX.heap (λk o c a=>by rw[mn _ _ _ _ aA];exact a) h
theorem tN{B w x v}(h:bX B w x v):∃a,v=Value.pointer a:=by
 cases x with
 |nil=>exact⟨_,h⟩
 |node _ _ _ _ _=>obtain⟨b,_,_,c,_⟩:=h;exact⟨_,c⟩
def ru(X:Nat)(w:aC)(k:Int)(nm:aZ)(a b:Int)(p q:aF):Prop:=w.heap[X]?=some (.cells #[.int .u8 k,.string nm,Iv a,Iv b,p,q] 252 (0,0))
theorem ru.k{X w k a b nm p q}(h:ru X w k nm a b p q)(c):ru X (w.setCell (Ad X 0) (.int .u8 c)) c nm a b p q:=by
 unfold ru at*;simp[World.setCell,ua,h]
theorem ru.nm{X w k a b nm p q}(h:ru X w k nm a b p q)(c):ru X (w.setCell (Ad X 1) (.string c)) k c a b p q:=by
 unfold ru at*;simp[World.setCell,ua,h]
theorem ru.ab{X w k a b nm p q}(h:ru X w k nm a b p q)(d c):ru X ((w.setCell (Ad X 2) (Iv d)).setCell (Ad X 3) (Iv c)) k nm d c p q:=by
 unfold ru at*;simp[World.setCell,ua,h]
theorem ru.p{X w k a b nm p q}(h:ru X w k nm a b p q)(c):ru X (w.setCell (Ad X 4) c) k nm a b c q:=by
 unfold ru at*;simp[World.setCell,ua,h]
theorem ru.q{X w k a b nm p q}(h:ru X w k nm a b p q)(c):ru X (w.setCell (Ad X 5) c) k nm a b p c:=by
 unfold ru at*;simp[World.setCell,ua,h]
theorem ru.only{X s w w' k a b nm p q}(h:ru X w k nm a b p q)(c:Only s w w')(d:X≠s):ru X w' k nm a b p q:=c.heap h d
theorem ru.facts{X w k a b nm p q}(h:ru X w k nm a b p q):(w.cell? (Ad X 0)=some (.int .u8 k)/\w.cell? (Ad X 1)=some (.string nm)/\w.cell? (Ad X 2)=some (Iv a)/\w.cell? (Ad X 3)=some (Iv b)/\w.cell? (Ad X 4)=some p/\w.cell? (Ad X 5)=some q)
  /\(w.frozen? (Ad X 0)=false/\w.frozen? (Ad X 1)=false/\w.frozen? (Ad X 2)=false/\w.frozen? (Ad X 3)=false/\w.frozen? (Ad X 4)=false/\w.frozen? (Ad X 5)=false):=
 ⟨⟨aD h rfl,aD h rfl,aD h rfl,aD h rfl,aD h rfl,aD h rfl⟩,⟨cJ h 0,cJ h 1,cJ h 2,cJ h 3,cJ h 4,cJ h 5⟩⟩
theorem A0{B X w op lo hi k nm l r a b}(h:ru X w k nm lo hi a b)(f:k=eO op)(e:B<=X)(c:bX B w l a)(d:bX B w r b):bX B w (mk op nm lo hi l r) (Pt X):=by
 subst f;exact⟨X,a,b,rfl,e,h,c,d⟩
theorem iD.lt{b i w s a}(h:iD b w s i a):b<w.heap.size:=aL h
theorem iD.alloc{b i w s a}(h:iD b w s i a)(o):iD b (w.alloc o) s i a:=by
 unfold iD at*;rw[ib _ _ _ (aL h)];exact h
theorem iD.zL{b i w s a}(h:iD b w s i a){p}(c:p.block≠b)(u):iD b (w.setCell p u) s i a:=by
 unfold iD at*;rw[mn _ _ _ _ λe=>c e.symm];exact h
def Ia(s:aZ)(d B:Nat)(b:Bool)(res:aQ (BT c_×aB aV))(e:Ending)(c:aC):Prop:=
 ∃j p a,j<=s.size/\iD d c s j a/\e=.returned (.pointer p)/\((b=false/\a=false/\∃x t,res=some (x,t)/\At s j t/\bX B c x (.pointer p))\/(a=true/\(b=true\/res=none)))
theorem QX(a i s u res w)(h:iD a w s i true)(n:s.size<=1000000)(hi:i<=s.size)(k:At s i u):
  Calls prog 179 #[Pt a] w λe f=>Only a w f/\Ia s a w.heap.size true res e f:=by
 let b:=jY a i s true u w h n hi k;let m:iH true (cB u)=0:=by cases cB u<;>rfl
 rw[m]at b;go_enter func179,ntmps179;go_wp2_with fail;apply b.mono;rintro e d ⟨q,rfl,j,o,r,c⟩;let c2:d.cell? (Ad a 2)=some (.bool true):=aD c rfl;let t:=cJ c 2;let g:=c.lt;let l:a≠d.heap.size:=aA;go_wp2;go_ret;exact⟨(q.setCell (p:=(Ad a 2)) (.inl rfl) _).alloc _,j,_,true,o,(mU c).alloc _,rfl,.inr ⟨rfl,.inl rfl⟩⟩
theorem QY(a i s u res w)(h:iD a w s i false)(q:s.size<=1000000)(hi:i<=s.size)(m:At s i u)(k:cB u=[])(b:res=none):
  Calls prog 179 #[Pt a] w λe g=>Only a w g/\Ia s a w.heap.size false res e g:=by
 let c:=jY a i s false u w h q hi m;let o:iH false (cB u)=0:=by rw[k];rfl
 rw[o]at c;go_enter func179,ntmps179;go_wp2_with fail;apply c.mono;rintro e f ⟨t,rfl,j,r,v,d⟩;let c2:f.cell? (Ad a 2)=some (.bool false):=aD d rfl;let x:=cJ d 2;let l:=d.lt;let n:a≠f.heap.size:=aA;go_wp2;go_ret;exact⟨(t.setCell (p:=(Ad a 2)) (.inl rfl) _).alloc _,j,_,true,r,(mU d).alloc _,rfl,.inr ⟨rfl,.inr b⟩⟩
def Yq(n:Nat)(f:aB aV->aQ (BT c_×aB aV)):Prop:=
 ∀(a i:Nat)(s:aZ)(u:aB aV)(w:aC),iD a w s i false->s.size<=1000000->i<=s.size->At s i u->u.length<n->
  Calls prog 179 #[Pt a] w λe b=>Only a w b/\Ia s a w.heap.size false (f u) e b
theorem Yq.any{n f}(j:Yq n f)(b i s a u w)(h:iD b w s i a)(d:s.size<=1000000)(hi:i<=s.size)(c:At s i u)(g:a=false->u.length<n):
  Calls prog 179 #[Pt b] w λe w'=>Only b w w'/\Ia s b w.heap.size a (f u) e w':=by
 cases a with
 |true=>exact QX b i s u _ w h d hi c
 |false=>exact j b i s u w h d hi c (g rfl)
abbrev VX(w:aC)(a j:Nat)(k:Int):aC:=(w.setCell (Ad a 1) (Iv ((j+1:Nat):Int))).alloc (.cells #[.int .u8 k,.string ⟨#[]⟩,Iv 0,Iv 0,.pointer none,.pointer none] 252 (0,0))
theorem Yk{w a b j s}(k)(c:iD b a s j false)(d:Only b w a):(a.cell? (Ad b 1)=some (Iv j)/\a.cell? (Ad b 2)=some (.bool false)/\a.frozen? (Ad b 1)=false)/\(b<a.heap.size/\w.heap.size<=a.heap.size/\b≠a.heap.size/\a.heap.size≠b)/\iD b (VX a b j k) s (j+1) false/\ru a.heap.size (VX a b j k) k ⟨#[]⟩ 0 0 (.pointer none) (.pointer none)/\Only b w (VX a b j k)/\(VX a b j k).heap.size=a.heap.size+1:=
 let e:=c.lt
 ⟨⟨aD c rfl,aD c rfl,cJ c 1⟩,⟨e,d.size,aA,aA⟩,(A9 (j:=j+1) c).alloc _,aP _ _ _ (by simp[World.setCell]),(d.setCell (p:=(Ad b 1)) (.inl rfl) _).alloc _,by simp[World.setCell]⟩
theorem QZ(n f)(J:Yq n f)(b i s u c r w)(h:iD b w s i false)(y:s.size<=1000000)(hi:i<=s.size)(D:At s i u)(k:cB u=c::r)(O:c.toNat=33)(C:r.length<n):
  Calls prog 179 #[Pt b] w λe z=>Only b w z/\Ia s b w.heap.size false (singleR f 172 r) e z:=by
 have l:=jY b i s false u w h y hi D;have E:iH false (cB u)=33:=by rw[k];show(c.toNat:Int)=33;omega
 rw[E,k]at l;have q:Hid (singleR f 172 r=match f r with|none=>none|some (p,t2)=>some (mk 172 ByteArray.empty 0 0 p .nil,t2)):=rfl;generalize singleR f 172 r=res at*;go_enter func179,ntmps179;go_wp2_with fail;apply l.mono;rintro e B ⟨L,rfl,j,P,A,G⟩;have⟨hl,Y1,ht⟩:=A.cons;have⟨⟨c1,c2,f1⟩,⟨M6,z0,hne,AU⟩,h2,hX,o,KB⟩:=Yk 33 G L;go_wp2_with fail;apply(J b (j+1) s r _ h2 y hl ht C).mono;rintro e Q ⟨v,M,p,d,m,I,rfl,H⟩;have g:=hX.only v aA;have⟨⟨x0,x1,x2,x3,x4,x5⟩,⟨y0,y1,y2,y3,y4,y5⟩⟩:=g.facts;have o:=o.trans v;go_wp2;go_ret;refine⟨o.setCell (p:=(Ad B.heap.size 4)) (.inr z0) _,M,_,d,m,I.zL AU _,rfl,?_⟩;obtain⟨_,a,x,t,F,N,a5⟩|⟨K,a⟩:=H
 .refine .inl ⟨rfl,a,mk 172 ByteArray.empty 0 0 x .nil,t,by rw[q.out,F],N,?_⟩;exact A0 (g.p (.pointer p)) rfl aA ((bX.lW a5 (by simp[World.setCell]) _).low (by simp[World.setCell];omega)) rfl
 .refine .inr ⟨K,.inr ?_⟩;obtain a|a:=a
  .cases a
  .rw[q.out,a]
theorem A4(k)(S:k=89\/k=79\/k=72)(n f)(ih:Yq n f)(o i s u c r w)(h:iD o w s i false)(J:s.size<=1000000)(hi:i<=s.size)(T:At s i u)(C:cB u=c::r)(Z:(c.toNat:Int)=k)(hn:r.length<n):
  Calls prog 179 #[Pt o] w λe Q=>Only o w Q/\Ia s o w.heap.size false (singleR f k r) e Q:=by
 have D:=jY o i s false u w h J hi T;obtain⟨q,B⟩:∃q:Int,Hid (k=q):=⟨_,rfl⟩;have V:iH false (cB u)=k:=C▸Z;rw[V,C]at D;have H:Hid (singleR f k r=match dS k r with|none=>none|some ((a,b),t1)=>match f t1 with|none=>none|some (p,t2)=>some (mk k ByteArray.empty a b p .nil,t2)):=rfl;generalize singleR f k r=res at*;obtain rfl|rfl|rfl:=S
 all_goals
  go_enter func179,ntmps179;go_wp2_with fail;apply D.mono;rintro e v ⟨ho,rfl,j,hj,R,Y⟩;have⟨hl,Y1,ht⟩:=R.cons;have X:=Yk q Y ho;rw[<-B.out]at X;have⟨⟨c1,c2,f1⟩,⟨M6,z0,hne,AU⟩,h2,hX,oo,KB⟩:=X;have O:=B6 o (j+1) s false r q _ h2 J hl ht (by rw[<-B.out];rfl);rw[<-B.out]at O;go_wp2_with fail;apply O.mono;rintro e w2 ⟨I,N,a,b,g,F,h3,rfl,r2⟩;have A:=hX.only I aA;have U:=I.size;rw[KB]at U;have o3:=((oo.trans I).setCell (p:=(Ad v.heap.size 2)) (.inr z0) (Iv a)).setCell (p:=(Ad v.heap.size 3)) (.inr z0) (Iv b);have⟨⟨x0,x1,x2,x3,x4,x5⟩,⟨y0,y1,y2,y3,y4,y5⟩⟩:=A.facts;have k2:∃E,At s N E/\((g=false/\dS q r=some ((a,b),E))\/(g=true/\dS q r=none)):=by
   rw[<-B.out];obtain⟨_,d,t,G,L⟩|⟨M,d|d⟩:=r2
   .exact⟨t,L,.inl ⟨d,G⟩⟩
   .cases d
   .exact⟨_,lA s N,.inr ⟨M,d⟩⟩
  have⟨E,hu2,q2⟩:=k2;rw[<-B.out]at q2;have hC:=ih.any o N s g E _ ((h3.zL (p:=(Ad v.heap.size 2)) AU (Iv a)).zL (p:=(Ad v.heap.size 3)) AU (Iv b)) J F hu2 (λW=>by
   obtain⟨_,l⟩|⟨m,_⟩:=q2
   .have:=tW l;omega
   .rw[W]at m;cases m)
  go_wp2_with fail;apply hC.mono;rintro e w3 ⟨P,j3,p,y,K,h5,rfl,r3⟩;have z:=(A.ab a b).only P aA;have⟨⟨v0,v1,v2,v3,v4,v5⟩,⟨t0,t1,t2,t3,t4,t5⟩⟩:=z.facts;go_wp2;go_ret;refine⟨(o3.trans P).setCell (p:=(Ad v.heap.size 4)) (.inr z0) _,j3,_,y,K,h5.zL AU _,rfl,?_⟩;obtain⟨e1,d,x,t,G,L,a5⟩|⟨M,d⟩:=r3
  .obtain⟨_,l⟩|⟨m,_⟩:=q2
   .refine .inl ⟨rfl,d,_,t,by rw[H.out,l];simp only;rw[G],L,?_⟩;exact A0 (z.p (.pointer p)) rfl z0 ((bX.lW a5 (by simp[World.setCell];omega) _).low (by simp[World.setCell];omega)) rfl
   .rw[e1]at m;cases m
  .refine .inr ⟨M,.inr ?_⟩;obtain⟨m,l⟩|⟨_,l⟩:=q2
   .obtain d|d:=d
    .rw[m]at d;cases d
    .rw[H.out,l];simp only;rw[d]
   .rw[H.out,l]
theorem ru.aaJ{X w k a b nm p q}(h:ru X w k nm a b p q){ad}(c:ad.block≠X)(u):ru X (w.setCell ad u) k nm a b p q:=by
 unfold ru at*;rw[mn _ _ _ _ λe=>c e.symm];exact h
theorem TP{f:aB aV->aQ (BT c_×aB aV)}{r e d:aB aV}{x1:BT c_}{k:aV}(i:f r=some (x1,e))(l:cB e=k::d)(c:k=38\/k=124\/k=83):vK f r=match dS (aK (k.toNat:Int)) d with
    |none=>none
    |some ((a,b),j)=>match f j with
     |none=>none
     |some (q,g)=>match dF 41 g with
      |none=>none
      |some h=>some (mk (aK (k.toNat:Int)) ByteArray.empty a b x1 q,h):=by
 unfold vK;rw[i];simp only;rw[l];simp only;rw[bY c];rfl
theorem kQ{c}{n:Nat}(h:c.toNat=n)(a:n<256):c=UInt8.ofNat n:=by
 rw[<-sC,h,Hr];omega
theorem N2(n f)(ih:Yq n f)(v i s u c r w)(h:iD v w s i false)(V:s.size<=1000000)(hi:i<=s.size)(hu:At s i u)(an:cB u=c::r)(hc:c.toNat=40)(hn:r.length<n)(C:∀x t k m,f r=some (x,t)->cB t=k::m->m.length<n):
  Calls prog 179 #[Pt v] w λe w'=>Only v w w'/\Ia s v w.heap.size false (vK f r) e w':=by
 have aj:=jY v i s false u w h V hi hu;have hv:iH false (cB u)=40:=by rw[an];show(c.toNat:Int)=40;omega
 rw[hv,an]at aj;obtain⟨res,HR⟩:∃res,Hid (vK f r=res):=⟨_,rfl⟩;rw[HR.out];replace C:Hid (∀x t k m,f r=some (x,t)->cB t=k::m->m.length<n):=C;go_enter func179,ntmps179;go_wp2_with fail;apply aj.mono;rintro e l ⟨ho,rfl,j,hj,ha,h1⟩;have⟨hl,Y1,ht⟩:=ha.cons;have⟨⟨c1,c2,f1⟩,⟨b0,z0,hne,AU⟩,h2,hX,oo,KB⟩:=Yk 40 h1 ho;have hC:=ih v (j+1) s r _ h2 V hl ht hn;go_wp2_with fail;apply hC.mono;rintro e w2 ⟨o2,j2,p,g,ag,h3,rfl,r2⟩;have R:=hX.only o2 aA;have z2:=o2.size;rw[KB]at z2;have P:=R.p (.pointer p);have h4:=h3.zL (p:=(Ad l.heap.size 4)) AU (.pointer p);have o3:=(oo.trans o2).setCell (p:=(Ad l.heap.size 4)) (.inr z0) (.pointer p);have⟨⟨x0,S,x2,x3,x4,x5⟩,⟨y0,y1,y2,y3,y4,y5⟩⟩:=R.facts;have K2:(∃B,At s j2 B/\((iH g (cB B)!=38)=true/\(iH g (cB B)!=124)=true/\(iH g (cB B)!=83)=true)/\0<=iH g (cB B)/\iH g (cB B)<256/\Hid (res=none))\/∃x1 t1 k m,Hid (f r=some (x1,t1))/\Hid (cB t1=k::m)/\(k=38\/k=124\/k=83)/\At s j2 t1/\g=false/\bX (l.heap.size+1) w2 x1 (.pointer p):=by
  have hz:∀B,g=true\/cB B=[]->iH g (cB B)=0:=by
   rintro B (e|e)
   .subst e;cases cB B<;>rfl
   .rw[e];rfl
  have L:=HR.out;unfold vK at L;obtain⟨_,d,x,t,F,D,a5⟩|⟨E,d⟩:=r2
  .rw[F]at L;simp only at L;cases H:cB t with
   |nil=>
    have:=hz t (.inr H);rw[H]at L;exact .inl ⟨t,D,by rw[this];decide,by rw[this];decide,by rw[this];decide,L.symm⟩
   |cons k m=>
    by_cases M:k=38\/k=124\/k=83
    .exact .inr ⟨x,t,k,m,F,H,M,D,d,by rw[KB]at a5;exact a5⟩
    .have b0:=z_ k;subst d;have e:iH false (k::m)=(k.toNat:Int):=rfl;rw[H]at L;simp only at L;rw[bN M]at L;refine .inl ⟨t,D,?_⟩;rw[H,e];simp only[bne_iff_ne];have e1:k.toNat≠38/\k.toNat≠124/\k.toNat≠83:=⟨λe=>M (.inl (kQ (n:=38) e aG)),λe=>M (.inr (.inl (kQ (n:=124) e aG))),λe=>M (.inr (.inr (kQ (n:=83) e aG)))⟩;exact⟨aA,aA,aA,L.symm⟩
  .obtain d|d:=d
   .cases d
   .rw[d]at L;exact .inl ⟨_,lA s j2,by rw[hz _ (.inl E)];decide,by rw[hz _ (.inl E)];decide,by rw[hz _ (.inl E)];decide,L.symm⟩
 obtain⟨B,Y,⟨q1,q2,q3⟩,lo,bc,HN⟩|⟨x1,t1,k,m,hf,M,Z,Y,rfl,a8⟩:=K2
 .have y:=jY v j2 s g B _ h4 V ag Y;generalize iH g (cB B)=lv at*;clear r2 h3 R;go_wp2_with fail;apply y.mono;rintro e w3 ⟨o4,rfl,U,af,aq,h5⟩;have Q:=P.only o4 aA;obtain⟨⟨v0,v1,v2,v3,v4,v5⟩,⟨t0,t1,m,t3,t4,t5⟩⟩:=Q.facts;have d2:w3.cell? (Ad v 2)=some (.bool g):=aD h5 rfl;have g2:w3.frozen? (Ad v 2)=false:=cJ h5 2;clear y h4 P x0 S x2 x3 x4 x5 y0 y1 y2 y3 y4 y5;go_wp2_with fail;go_ret;refine⟨((o3.trans o4).setCell (p:=(Ad l.heap.size 0)) (.inr z0) _).setCell (p:=(Ad v 2)) (.inl rfl) _,U,_,true,af,mU (h5.zL (p:=(Ad l.heap.size 0)) AU _),rfl,.inr ⟨rfl,.inr HN.out⟩⟩
 .have y:=jY v j2 s false t1 _ h4 V ag Y;have aw:=C.out x1 t1 k m hf.out M.out;have K:=TP hf.out M.out Z;rw[M.out,show iH false (k::m)=(k.toNat:Int)from rfl]at y;have ay:(k.toNat:Int)=38\/(k.toNat:Int)=124\/(k.toNat:Int)=83:=by
   rcases Z with rfl|rfl|rfl<;>decide
  obtain⟨q',O⟩:∃q',Hid ((k.toNat:Int)=q'):=⟨_,rfl⟩;rw[HR.out,O.out]at K;replace K:Hid (res=match dS (aK q') m with|none=>none|some ((a,b),t3)=>match f t3 with|none=>none|some (q,t4)=>match dF 41 t4 with|none=>none|some t5=>some (mk (aK q') ByteArray.empty a b x1 q,t5)):=K;generalize(k.toNat:Int)=q at*;clear r2 h3 R Z C hf M HR;go_wp2_with fail;apply y.mono;rintro e w3 ⟨o4,rfl,U,af,aq,h5⟩;obtain⟨ak,_,ar⟩:=aq.cons;have Q:=P.only o4 aA;have aa:=(a8.lW (p:=(Ad l.heap.size 4)) jV (.pointer p)).only o4 aA;have z4:=o4.size;simp only[Cq]at z4;obtain⟨⟨v0,v1,v2,v3,v4,v5⟩,⟨az,bb,b7,b5,b6,au⟩⟩:=Q.facts;have d1:w3.cell? (Ad v 1)=some (Iv U):=aD h5 rfl;have g1:w3.frozen? (Ad v 1)=false:=cJ h5 1;have ai:=(Q.k q).aaJ (ad:=(Ad v 1)) hne (Iv ((U+1:Nat):Int));have h6:=A9 (j:=U+1) (h5.zL (p:=(Ad l.heap.size 0)) AU (.int .u8 q));have ae:=(aa.lW (p:=(Ad l.heap.size 0)) jV (.int .u8 q)).lW (p:=(Ad v 1)) (show v<_ from aA) (Iv ((U+1:Nat):Int));have o5:=((o3.trans o4).setCell (p:=(Ad l.heap.size 0)) (.inr z0) (.int .u8 q)).setCell (p:=(Ad v 1)) (.inl rfl) (Iv ((U+1:Nat):Int));clear y h4 P a8 aa x0 S x2 x3 x4 x5 y0 y1 y2 y3 y4 y5;rcases ay with rfl|rfl|rfl
  rotate_left 2
  .rw[show aK q'=83 by rw[<-O.out];rfl]at K;have hW:=B6 v (U+1) s false m 83 _ h6 V ak ar rfl;go_wp2_with fail;apply hW.mono;rintro e w4 ⟨o6,j4,a,b,G,b8,h7,rfl,r4⟩;have ah:=ai.only o6 aA;have z6:=o6.size;simp only[Cq]at z6;have b9:=((ae.only o6 aA).lW (p:=(Ad l.heap.size 2)) jV (Iv a)).lW (p:=(Ad l.heap.size 3)) jV (Iv b);have h8:=(h7.zL (p:=(Ad l.heap.size 2)) AU (Iv a)).zL (p:=(Ad l.heap.size 3)) AU (Iv b);have o7:=((o5.trans o6).setCell (p:=(Ad l.heap.size 2)) (.inr z0) (Iv a)).setCell (p:=(Ad l.heap.size 3)) (.inr z0) (Iv b);obtain⟨⟨x0,S,x2,x3,x4,x5⟩,⟨y0,y1,y2,y3,y4,y5⟩⟩:=ah.facts;have k4:∃X,At s j4 X/\((G=false/\dS 83 m=some ((a,b),X))\/(G=true/\dS 83 m=none)):=by
    rcases r4 with⟨_,d,t,F,D⟩|⟨E,d|d⟩
    .exact⟨t,D,.inl ⟨d,F⟩⟩
    .cases d
    .exact⟨_,lA s j4,.inr ⟨E,d⟩⟩
   obtain⟨X,ba,q4⟩:=k4;have hC:=ih.any v j4 s G X _ h8 V b8 ba (λhb=>by
    rcases q4 with⟨_,A⟩|⟨z,_⟩
    .have:=tW A;omega
    .rw[hb]at z;cases z)
   go_wp2_with fail;apply hC.mono;rintro e w5 ⟨N,j5,q,o,a7,h9,rfl,r5⟩;have J:=(ah.ab a b).only N aA;have z8:=N.size;simp only[Cq]at z8;have⟨⟨v0,v1,v2,v3,v4,v5⟩,⟨az,bb,b7,b5,b6,au⟩⟩:=J.facts;have k5:∃T,At s j5 T/\((o=false/\∃X x2,dS 83 m=some ((a,b),X)/\f X=some (x2,T)/\bX (l.heap.size+1) (w5.setCell (Ad l.heap.size 5) (.pointer q)) x2 (.pointer q))\/(o=true/\res=none)):=by
    obtain⟨e1,d,x,t,F,D,a5⟩|⟨E,d⟩:=r5
    .obtain⟨_,A⟩|⟨z,_⟩:=q4
     .exact⟨t,D,.inl ⟨d,X,x,A,F,((bX.lW a5 (by simp only[Cq];omega) _).low (by simp only[Cq];omega))⟩⟩
     .rw[e1]at z;cases z
    .refine⟨_,lA s j5,.inr ⟨E,?_⟩⟩;obtain⟨z,A⟩|⟨_,A⟩:=q4
     .obtain d|d:=d
      .rw[z]at d;cases d
      .rw[K.out,A];simp only;rw[d]
     .rw[K.out,A]
   have⟨T,hu5,q5⟩:=k5;go_wp2_with fail;apply(rZ v j5 s o T 41 _ (h9.zL (p:=(Ad l.heap.size 5)) AU (.pointer q)) V a7 hu5 aG).mono;rintro e w6 ⟨W,rfl,j6,I,a6,hA,r6⟩;go_wp2;go_ret;refine⟨((o7.trans N).setCell (p:=(Ad l.heap.size 5)) (.inr z0) (.pointer q)).trans W,j6,_,I,a6,hA,rfl,?_⟩;obtain⟨e1,d,t,F,D⟩|⟨E,d⟩:=r6
   .obtain⟨_,ax,x2,A,b3,b4⟩|⟨z,_⟩:=q5
    .refine .inl ⟨rfl,d,mk 83 ByteArray.empty a b x1 x2,t,by rw[K.out,A];simp only;rw[b3];simp only;rw[F],D,?_⟩;exact A0 ((J.q (.pointer q)).only W aA) rfl z0 ((((b9.only N aA).lW (p:=(Ad l.heap.size 5)) jV (.pointer q)).only W aA).low aA) ((b4.only W aA).low aA)
    .rw[e1]at z;cases z
   .refine .inr ⟨E,.inr ?_⟩;obtain⟨z,ax,x2,A,b3,b4⟩|⟨_,A⟩:=q5
    .obtain d|d:=d
     .rw[z]at d;cases d
     .rw[K.out,A];simp only;rw[b3];simp only;rw[d]
    .exact A
  all_goals
   have HW:Hid (dS (aK q') m=some ((0,0),m)):=by
    show _=_;rw[<-O.out];rfl
   have hC:=ih v (U+1) s m _ h6 V ak ar aw;go_wp2_with fail;apply hC.mono;rintro e w5 ⟨N,j5,q,o,a7,h9,rfl,r5⟩;have J:=ai.only N aA;have z8:=N.size;simp only[Cq]at z8;have⟨⟨x0,S,x2,x3,x4,x5⟩,⟨y0,y1,y2,y3,y4,y5⟩⟩:=J.facts;have k5:∃T,At s j5 T/\((o=false/\∃x2,f m=some (x2,T)/\bX (l.heap.size+1) (w5.setCell (Ad l.heap.size 5) (.pointer q)) x2 (.pointer q))\/(o=true/\res=none)):=by
    obtain⟨e1,d,x,t,F,D,a5⟩|⟨E,d|d⟩:=r5
    .exact⟨t,D,.inl ⟨d,x,F,((bX.lW a5 (by simp only[Cq];omega) _).low (by simp only[Cq];omega))⟩⟩
    .cases d
    .exact⟨_,lA s j5,.inr ⟨E,by rw[K.out,HW.out];simp only;rw[d]⟩⟩
   have⟨T,hu5,q5⟩:=k5;go_wp2_with fail;apply(rZ v j5 s o T 41 _ (h9.zL (p:=(Ad l.heap.size 5)) AU (.pointer q)) V a7 hu5 aG).mono;rintro e w6 ⟨W,rfl,j6,I,a6,hA,r6⟩;go_wp2;go_ret;refine⟨((o5.trans N).setCell (p:=(Ad l.heap.size 5)) (.inr z0) (.pointer q)).trans W,j6,_,I,a6,hA,rfl,?_⟩;obtain⟨e1,d,t,F,D⟩|⟨E,d⟩:=r6
   .obtain⟨_,x2,b3,b4⟩|⟨z,_⟩:=q5
    .refine .inl ⟨rfl,d,_,t,by rw[K.out,HW.out];simp only;rw[b3];simp only;rw[F],D,?_⟩;exact A0 ((J.q (.pointer q)).only W aA) (by rw[<-O.out];rfl) z0 ((((ae.only N aA).lW (p:=(Ad l.heap.size 5)) jV (.pointer q)).only W aA).low aA) ((b4.only W aA).low aA)
    .rw[e1]at z;cases z
   .refine .inr ⟨E,.inr ?_⟩;obtain⟨z,x2,b3,b4⟩|⟨_,A⟩:=q5
    .obtain d|d:=d
     .rw[z]at d;cases d
     .rw[K.out,HW.out];simp only;rw[b3];simp only;rw[d]
    .exact A
theorem Lt(a i s u c r res w)(h:iD a w s i false)(D:s.size<=1000000)(hi:i<=s.size)(A:At s i u)(d:cB u=c::r)(b:res=none)
  (N:¬(c.toNat=33\/c.toNat=89\/c.toNat=79\/c.toNat=72\/c.toNat=40)) (m:¬(97<=c.toNat/\c.toNat<=122)):
  Calls prog 179 #[Pt a] w λe o=>Only a w o/\Ia s a w.heap.size false res e o:=by
 have f:=jY a i s false u w h D hi A;have C:iH false (cB u)=(c.toNat:Int):=by rw[d];rfl
 rw[C,d]at f;have v:=z_ c;have y:((c.toNat:Int)==33)=false:=by simp only[ri];omega
 have q:((c.toNat:Int)==89)=false:=by simp only[ri];omega
 have H:((c.toNat:Int)==79)=false:=by simp only[ri];omega
 have z:((c.toNat:Int)==72)=false:=by simp only[ri];omega
 have E:((c.toNat:Int)==40)=false:=by simp only[ri];omega
 have K:((c.toNat:Int)==0)=true\/(((c.toNat:Int)==0)=false/\(decide (97<=(c.toNat:Int))=false\/(decide (97<=(c.toNat:Int))=true/\decide ((c.toNat:Int)<=122)=false))):=by
  by_cases F:c.toNat=0
  .exact .inl (by rw[F];rfl)
  .refine .inr ⟨by simp only[ri];omega,?_⟩;by_cases t:97<=c.toNat
   .exact .inr ⟨bI,bI⟩
   .exact .inl bI
 generalize(c.toNat:Int)=O at*;obtain J|⟨J,k|⟨k,n⟩⟩:=K
 all_goals
  go_enter func179,ntmps179;go_wp2_with fail;apply f.mono;rintro e l ⟨I,rfl,j,G,L,g⟩;have c2:l.cell? (Ad a 2)=some (.bool false):=aD g rfl;have M:=cJ g 2;have x:=g.lt;have B:a≠l.heap.size:=aA;go_wp2;go_ret;exact⟨(I.setCell (p:=(Ad a 2)) (.inl rfl) _).alloc _,j,_,true,G,(mU g).alloc _,rfl,.inr ⟨rfl,.inr b⟩⟩
theorem N3(b i s u c r w)(h:iD b w s i false)(S:s.size<=1000000)(hi:i<=s.size)(hu:At s i u)(z:cB u=c::r)(m:97<=c.toNat/\c.toNat<=122):
  Calls prog 179 #[Pt b] w λe U=>Only b w U/\Ia s b w.heap.size false ((oM (iz 97 (c::r))).map λx=>(x,jR 97 (c::r))) e U:=by
 have n:=jY b i s false u w h S hi hu;have hv:iH false (cB u)=(c.toNat:Int):=by rw[z];rfl
 rw[hv,z]at n;have D:=z_ c;have M:c≠32:=by intro e;subst e;exact absurd m.1 aG
 have A:=Wm c r M;rw[(E0 _).1,(E0 _).2];have q0:((c.toNat:Int)==0)=false:=by simp only[ri];omega
 have a7:((c.toNat:Int)==33)=false:=by simp only[ri];omega
 have Z:((c.toNat:Int)==89)=false:=by simp only[ri];omega
 have af:((c.toNat:Int)==79)=false:=by simp only[ri];omega
 have a8:((c.toNat:Int)==72)=false:=by simp only[ri];omega
 have ad:((c.toNat:Int)==40)=false:=by simp only[ri];omega
 have a1:decide (97<=(c.toNat:Int))=true:=bI;have O:decide ((c.toNat:Int)<=122)=true:=bI;clear m D;generalize hL:(c::r).takeWhile (pB 97 122)=l;generalize R:(c::r).dropWhile (pB 97 122)=t;go_enter func179,ntmps179;go_wp2_with fail;apply n.mono;rintro e f ⟨V,rfl,j,hj,Y,I⟩;have c2:f.cell? (Ad b 2)=some (.bool false):=aD I rfl;have a6:=I.lt;have aa:b≠f.heap.size:=aA;have g:f.heap.size≠b:=aA;have B:=V.size;clear n;have N:=I.alloc (.cells #[.int .u8 97,.string ⟨#[]⟩,Iv 0,Iv 0,.pointer none,.pointer none] 252 (0,0));have Q:ru f.heap.size (f.alloc (.cells #[.int .u8 97,.string ⟨#[]⟩,Iv 0,Iv 0,.pointer none,.pointer none] 252 (0,0))) 97 ⟨#[]⟩ 0 0 (.pointer none) (.pointer none):=aP _ _ _ rfl;have oo:=V.alloc (.cells #[.int .u8 97,.string ⟨#[]⟩,Iv 0,Iv 0,.pointer none,.pointer none] 252 (0,0));have E:=G' b j s false (c::r) 97 122 _ N S hj Y;rw[A,hL,R]at E;clear hL R;go_wp2_with fail;apply E.mono;rintro e X ⟨W,k,d,F,L,rfl,C,P⟩;have y:=Q.only W aA;have o:=y.nm d;have G:=L.zL (p:=(Ad f.heap.size 1)) g (.string d);have K:=(oo.trans W).setCell (p:=(Ad f.heap.size 1)) (.inr B) (.string d);obtain⟨⟨x0,x1,x2,x3,x4,x5⟩,⟨y0,y1,y2,y3,y4,y5⟩⟩:=y.facts;have e2:X.cell? (Ad b 2)=some (.bool false):=aD L rfl;have g2:X.frozen? (Ad b 2)=false:=cJ L 2;have ae:d.size=l.length:=by rw[<-C,fP]
 clear E N Q;by_cases q:l=[116,114,117,101]
 .have J:(d.toList==[116,114,117,101])=true:=by rw[Lib.toList_data,C,q];rfl
  have a:Hid (oM l=some (mk 116 ByteArray.empty 0 0 .nil .nil)):=by show _=_;unfold oM;rw[bY q]
  have H:=(o.k 116).nm ⟨#[]⟩;go_wp2_with fail;go_ret;refine⟨(K.setCell (p:=(Ad f.heap.size 0)) (.inr B) _).setCell (p:=(Ad f.heap.size 1)) (.inr B) _,k,_,false,F,(G.zL (p:=(Ad f.heap.size 0)) g _).zL (p:=(Ad f.heap.size 1)) g _,rfl,.inl ⟨rfl,rfl,_,t,by rw[a.out];rfl,P,?_⟩⟩;exact A0 H rfl B rfl rfl
 .have J:(d.toList==[116,114,117,101])=false:=by
   rw[Lib.toList_data,C,ri];exact q
  by_cases T:8<l.length
  .have a:Hid (oM l=none):=by show _=_;unfold oM;rw[bN q,bY T]
   have z8:decide (8<(l.length:Int))=true:=bI;go_wp2_with fail;go_ret;exact⟨K.setCell (p:=(Ad b 2)) (.inl rfl) _,k,_,true,F,mU G,rfl,.inr ⟨rfl,.inr (by rw[a.out];rfl)⟩⟩
  .have v:d=⟨l.toArray⟩:=mg C;have a:Hid (oM l=some (mk 97 d 0 0 .nil .nil)):=by show _=_;unfold oM;rw[bN q,bN T,<-v]
   have z8:decide (8<(l.length:Int))=false:=bI;clear v;go_wp2_with fail;go_ret;refine⟨K,k,_,false,F,G,rfl,.inl ⟨rfl,rfl,_,t,by rw[a.out];rfl,P,?_⟩⟩;exact A0 o rfl B rfl rfl
theorem Lz:∀(n:Nat)(u:aB aV)(x:BT c_)(t:aB aV),jS n u=some (x,t)->t.length<=u.length
 |0,u,x,t,h=>by cases h
 |n+1,u,x,t,h=>by
  let o:=Lz n
  let e:=sf u
  simp only[jS]at h
  cases g:cB u with
  |nil=>rw[g]at h;cases h
  |cons c r=>
   rw[g]at h e
   simp only at h
   let C:r.length<=u.length:=by simp at e;omega
   split at h
   .cases hw:oM (iz 97 (c::r))with
    |none=>rw[hw]at h;cases h
    |some y=>
     rw[hw]at h
     simp at h
     rw[<-h.2]
     exact gC (List.dropWhile_sublist _).length_le e
   .split at h
    .unfold vK at h
     cases i:jS n r with
     |none=>rw[i]at h;cases h
     |some z=>
      let⟨x1,t1⟩:=z
      let D:=o r x1 t1 i
      let s:=sf t1
      rw[i]at h
      simp only at h
      cases p:cB t1 with
      |nil=>rw[p]at h;cases h
      |cons k v=>
       rw[p]at h s
       simp only at h
       simp at s
       split at h
       .cases f:dS (aK (k.toNat:Int)) v with
        |none=>rw[f]at h;cases h
        |some l=>
         let⟨⟨a,b⟩,t3⟩:=l
         let w:=tW f
         rw[f]at h
         simp only at h
         cases d:jS n t3 with
         |none=>rw[d]at h;cases h
         |some j=>
          let⟨q,t4⟩:=j
          let A:=o t3 q t4 d
          rw[d]at h
          simp only at h
          cases m:dF 41 t4 with
          |none=>rw[m]at h;cases h
          |some E=>
           let B:=sP m
           rw[m]at h
           simp at h
           rw[<-h.2]
           omega
       .cases h
    .split at h
     .unfold singleR at h
      cases f:dS (aK (c.toNat:Int)) r with
      |none=>rw[f]at h;cases h
      |some l=>
       let⟨⟨a,b⟩,t3⟩:=l
       let w:=tW f
       rw[f]at h
       simp only at h
       cases d:jS n t3 with
       |none=>rw[d]at h;cases h
       |some j=>
        let⟨q,t4⟩:=j
        let A:=o t3 q t4 d
        rw[d]at h
        simp at h
        rw[<-h.2]
        omega
     .cases h
theorem GX:∀n,Yq n (jS n)
 |0=>λm i s u w h o hi l B=>absurd B (zX _)
 |n+1=>by
  let z:=GX n
  intro m i s u w h o hi l B
  let y:=sf u
  cases a:cB u with
  |nil=>exact QY m i s u _ w h o hi l a (by simp only[jS];rw[a])
  |cons c r=>
   rw[a]at y
   let v:r.length<n:=by simp at y;omega
   let F:jS (n+1) u=if aK (c.toNat:Int)=97 then(oM (iz 97 (c::r))).map λx=>(x,jR 97 (c::r))
    else if c=40 then vK (jS n) r
    else if c=33\/c=89\/c=79\/c=72 then singleR (jS n) (aK (c.toNat:Int)) r
    else none:=by simp only[jS];rw[a]
   rw[F]
   let p:=TM c
   by_cases b:97<=c.toNat/\c.toNat<=122
   .have:aK (c.toNat:Int)=97:=by
     let t:(aK (c.toNat:Int)==97)=true:=by rw[p];unfold pB;simp[b]
     simpa using t
    rw[bY this];exact N3 m i s u c r w h o hi l a b
   .let A:¬aK (c.toNat:Int)=97:=by
     intro e;let t:pB 97 122 c=true:=by rw[<-p,e];rfl
     unfold pB at t;simp at t;exact b t
    rw[bN A];by_cases q:c.toNat=40
    .let G:c=40:=kQ (n:=40) q aG;rw[bY G];refine N2 n _ z m i s u c r w h o hi l a q v λx1 D k I H E=>?_;let J:=Lz n r x1 D H;let C:=sf D;rw[E]at C;simp at C;omega
    .rw[bN λe=>q (by rw[e];rfl)];by_cases d:c.toNat=33
     .rw[bY (.inl (kQ (n:=33) d aG)),show aK (c.toNat:Int)=172 by rw[d];decide];exact QZ n _ z m i s u c r w h o hi l a d v
     .by_cases g:c.toNat=89
      .rw[bY (.inr (.inl (kQ (n:=89) g aG))),show aK (c.toNat:Int)=89 by rw[g];decide];exact A4 89 aE n _ z m i s u c r w h o hi l a (by rw[g];rfl) v
      .by_cases j:c.toNat=79
       .rw[bY (.inr (.inr (.inl (kQ (n:=79) j aG)))),show aK (c.toNat:Int)=79 by rw[j];decide];exact A4 79 aE n _ z m i s u c r w h o hi l a (by rw[j];rfl) v
       .by_cases f:c.toNat=72
        .rw[bY (.inr (.inr (.inr (kQ (n:=72) f aG)))),show aK (c.toNat:Int)=72 by rw[f];decide];exact A4 72 aE n _ z m i s u c r w h o hi l a (by rw[f];rfl) v
        .rw[bN (by rintro(e|e|e|e)<;>(rw[e]at d g j f;first|exact d rfl|exact g rfl|exact j rfl|exact f rfl))];exact Lt m i s u c r none w h o hi l a rfl aA b
end Go.Proofs.YtpbbmagjhkakgaaGreatDoor
