import Derived.Test.YtpbbmagjhkakgaaGreatDoorB4
namespace Go.Proofs.YtpbbmagjhkakgaaGreatDoor
set_option maxHeartbeats 4000000
set_option maxRecDepth 100000
open Tryz Go.RowKit Go.Deep
def pB(lo hi:Nat)(c:aX):Bool:=decide (lo<=c.toNat)&&decide (c.toNat<=hi)
def U5(a:Nat)(w:aC):Nat:=match w.heap[a]? with
 |some (.cells b _ _)=>intOf (b.getD 1 undef)|>.toNat
 |_=>0
theorem L4{b i w s a}(h:iI b w s i a):U5 b w=i:=by
 unfold U5;unfold iI at h;rw[h];simp[intOf]
theorem lJ(s i):At s i (s.data.toList.drop i):=rfl
theorem mS(s:a_)(j k):(s.extract j k).data.toList=(s.data.toList.drop j).take (k-j):=by
 rw[ByteArray.data_extract,Array.toList_extract]
theorem H8(b i s f u)(lo hi:Nat)(w)(h:iI b w s i f)(I:s.size<=1000000)(q:i<=s.size)(H:At s i u):
  Calls prog 201 #[Pt b,.int .u8 (lo),.int .u8 (hi)] w λe D=>Only b w D/\∃k d,k<=s.size/\iI b D s k f/\e=.returned (.string d)/\d.data.toList=(cB u).takeWhile (pB lo hi)/\At s k ((cB u).dropWhile (pB lo hi)):=by
 have y:=Bo b i s f w h I;have l:=H.skip;have J:=E6 q;generalize wz s i=j at*;generalize cB u=v at*;go_enter func201,ntmps201;go_wp2_with fail;refine y.m λE ⟨K,C⟩=>?_;have G:E.cell? (Ad b 1)=some (Iv j):=aD C rfl;go_wp2;go_loopw [] (λwr=>∃(k:Nat)(z:aB aX),j<=k/\k<=s.size/\iI b wr s k f/\Only b w wr/\At s k z/\Hid (v.takeWhile (pB lo hi)=(v.take (k-j))++z.takeWhile (pB lo hi)/\v.dropWhile (pB lo hi)=z.dropWhile (pB lo hi))) (λwr=>s.size-U5 b wr)
 case atStart=>exact⟨j,v,aZ,J,C,K,l,aF,rfl⟩
 case round=>
  have⟨k,z,hjk,hk,h2,Sq,hz,hW⟩:=hrel;have N:wr.cell? (Ad b 0)=some (.string s):=aD h2 rfl;have G:wr.cell? (Ad b 1)=some (Iv k):=aD h2 rfl;have M:=cK h2 1;cases z with
  |nil=>
   have B:=hz.nil;have m:decide (k<s.size)=false:=bI;have a:Hid ((s.extract j k).data.toList=v.takeWhile (pB lo hi)/\At s k (v.dropWhile (pB lo hi))):=by
    have⟨e1,e2⟩:=hW.out;refine⟨?_,by rw[e2];exact hz⟩;rw[mS,show s.data.toList.drop j=v from l,e1];simp
   go_wp2
   go_region
   go_wp2
   go_region
   go_wp2;go_ret;exact⟨Sq.drew.drew,k,_,hk,h2,rfl,a.out⟩
  |cons c r=>
   have⟨B,hc,ht⟩:=hz.cons;have m:decide (k<s.size)=true:=bI;have F:=Ar c;by_cases n:lo<=c.toNat
   .have V_:decide (lo<=c.toNat)=true:=by simp[n]
    by_cases t:c.toNat<=hi
    .have Yw:decide (c.toNat<=hi)=true:=by simp[t]
     have g:pB lo hi c=true:=by unfold pB;rw[V_,Yw];rfl
     have o:v.drop (k-j)=c::r:=by
      rw[<-l,List.drop_drop,<-hz];congr 1;omega
     have A:Hid (v.takeWhile (pB lo hi)=(v.take (k+1-j))++r.takeWhile (pB lo hi)/\v.dropWhile (pB lo hi)=r.dropWhile (pB lo hi)):=by
      have⟨e1,e2⟩:=hW.out;refine⟨?_,?_⟩
      .rw[e1,Cw,g,bY rfl,show k+1-j=(k-j)+1 from aA,yD];have:v[k-j]?=some c:=by
        have:=oB List.head? o;rw[List.head?_drop]at this;exact this
       rw[this];simp
      .rw[e2,ME,g,bY rfl]
     have L:(k:Int)+1<=9223372036854775807:=aA;go_wp2
     go_region
     go_wp2;go_roundw
     case rel=>exact⟨k+1,r,aA,B,Bs (show iI b wr.drew s k f from h2),Sq.drew.setCell (p:=(Ad b 1)) (.inl rfl) _,ht,A⟩
     case measure=>exact Nat.lt_of_le_of_lt (Nat.le_of_eq (oB (λx=>s.size-x) (L4 (i:=k+1) (Bs (show iI b wr.drew s k f from h2))))) (by rw[(L4 h2)];omega)
    .have Yw:decide (c.toNat<=hi)=false:=by simp;omega
     have g:pB lo hi c=false:=by unfold pB;rw[V_,Yw];rfl
     have a:Hid ((s.extract j k).data.toList=v.takeWhile (pB lo hi)/\At s k (v.dropWhile (pB lo hi))):=by
      have⟨e1,e2⟩:=hW.out;refine⟨?_,by rw[e2,ME,g];exact hz⟩;rw[mS,show s.data.toList.drop j=v from l,e1,Cw,g];simp
     go_wp2
     go_region
     go_wp2
     go_region
     go_wp2;go_ret;exact⟨Sq.drew.drew,k,_,hk,h2,rfl,a.out⟩
   .have V_:decide (lo<=c.toNat)=false:=by simp;omega
    have g:pB lo hi c=false:=by unfold pB;rw[V_];rfl
    have a:Hid ((s.extract j k).data.toList=v.takeWhile (pB lo hi)/\At s k (v.dropWhile (pB lo hi))):=by
     have⟨e1,e2⟩:=hW.out;refine⟨?_,by rw[e2,ME,g];exact hz⟩;rw[mS,show s.data.toList.drop j=v from l,e1,Cw,g];simp
    go_wp2
    go_region
    go_wp2
    go_region
    go_wp2;go_ret;exact⟨Sq.drew.drew,k,_,hk,h2,rfl,a.out⟩
theorem Va(n:Nat):(aM (n)==48)=(decide (48<=n)&&decide (n<=57)):=by
 rw[CK];simp only[wG,sP,pz];unfold aM
 repeat' split
 all_goals omega
theorem Vb(n:Nat):(aM (n)==97)=(decide (97<=n)&&decide (n<=122)):=by
 rw[CK];simp only[wG,sP,pz];unfold aM
 repeat' split
 all_goals omega
theorem Ut(c):(aM (c.toNat:Int)==48)=pB 48 57 c:=Va c.toNat
theorem Uu(c):(aM (c.toNat:Int)==97)=pB 97 122 c:=Vb c.toNat
theorem Mx(u):iD 48 u=u.takeWhile (pB 48 57)/\jX 48 u=u.dropWhile (pB 48 57):=by
 unfold iD jX;have:(λc:aX=>aM (c.toNat:Int)==48)=pB 48 57:=funext Ut;rw[this];exact⟨rfl,rfl⟩
theorem Fv(u):iD 97 u=u.takeWhile (pB 97 122)/\jX 97 u=u.dropWhile (pB 97 122):=by
 unfold iD jX;have:(λc:aX=>aM (c.toNat:Int)==97)=pB 97 122:=funext Uu;rw[this];exact⟨rfl,rfl⟩
theorem Xb(l):∀a,(∀c,c∈l->48<=c.toNat/\c.toNat<=57)->kM a l<(a+1)*10^l.length:=by
 induction l with
 |nil=>
  intro a _;let e:kM a []=a:=rfl;rw[e,jr,Nat.pow_zero,Nat.mul_one];exact aaC a
 |cons c r f=>
  intro a h;let g:=h c aF;let e:kM a (c::r)=kM (10*a+(c.toNat-48)) r:=rfl;rw[e,ic,Nat.pow_succ,Nat.mul_comm (10^r.length) 10,<-Nat.mul_assoc];exact fZ (f (10*a+(c.toNat-48)) λd b=>h d (by simp[b])) (MC _ aA)
theorem O8{l}(h:∀c,c∈l->48<=c.toNat/\c.toNat<=57)(a:l.length<=7):kM 0 l<10000000:=by
 have e:=Xb l 0 h;have b:10^l.length<=10^7:=Cv aA a;generalize kM 0 l=y at*;generalize 10^l.length=z at*;have d:(10:Nat)^7=10000000:=aG;omega
theorem Jm{d:a_}{l}(a:d.data.toList=l){i}(hi:i<l.length):∃h:i<d.size,d[i]'h=l[i]:=by
 subst a;exact⟨by rw[<-fT];exact hi,rfl⟩
theorem N2(u):jm u=(v_ ((cB u).takeWhile (pB 48 57))).map λv=>(v,(cB u).dropWhile (pB 48 57)):=by
 unfold jm;cases cB u with
 |nil=>rfl
 |cons c r=>
  simp only;rw[(Mx _).1,(Mx _).2];by_cases h:aM (c.toNat:Int)=48
  .rw[bY h]
  .rw[bN h];let a:pB 48 57 c=false:=by rw[<-Ut];simp[h]
   rw[Cw,a];rfl
def NumEnd(s:a_)(c:Nat)(b:Bool)(res:aR (Int×aB aX))(e:Ending)(d:aC):Prop:=
 ∃j n a,j<=s.size/\iI c d s j a/\e=.returned (Iv n)/\((b=false/\a=false/\∃t,res=some (n,t)/\At s j t)\/(a=true/\(b=true\/res=none)/\0<=n/\n<=10000000))
theorem Cl(j i s g u w)(h:iI j w s i g)(hs:s.size<=1000000)(hi:i<=s.size)(hu:At s i u):
  Calls prog 209 #[Pt j] w λe T=>Only j w T/\NumEnd s j g (jm u) e T:=by
 have hw:=H8 j i s g u 48 57 w h hs hi hu;rw[N2];have D:∀c,c∈(cB u).takeWhile (pB 48 57)->48<=c.toNat/\c.toNat<=57:=by
  intro c hc;have:=yE.1 List.all_takeWhile c hc;unfold pB at this;simp at this;exact this
 generalize(cB u).takeWhile (pB 48 57)=l at*;generalize(cB u).dropWhile (pB 48 57)=r at*;go_enter func209,ntmps209;go_wp2_with fail;apply hw.mono;rintro e R ⟨F,k,d,C,y,rfl,J,hr⟩;have a6:d.size=l.length:=by rw[<-J,fT]
 have c2:R.cell? (Ad j 2)=some (.bool g):=aD y rfl;have f2:=cK y 2;by_cases S:l.length=0
 .have x:Hid (v_ l=none):=by show _=_;unfold v_;rw[bY (.inl S)]
  have z0:d.size=0:=aA;go_wp2;go_ret;exact⟨F.setCell (p:=(Ad j 2)) (.inl rfl) _,k,0,true,C,ng y,rfl,.inr ⟨rfl,.inr (by rw[x.out];rfl),aA,aA⟩⟩
 .have⟨z0,nI⟩:=Jm J (i:=0) aA;have n0:¬d.size=0:=aA;by_cases h7:7<l.length
  .have x:Hid (v_ l=none):=by show _=_;unfold v_;rw[bY (.inr (.inl h7))]
   have z7:7<d.size:=aA;go_wp2;go_ret;exact⟨F.setCell (p:=(Ad j 2)) (.inl rfl) _,k,0,true,C,ng y,rfl,.inr ⟨rfl,.inr (by rw[x.out];rfl),aA,aA⟩⟩
  .have n7:¬7<d.size:=by omega
   have G:l.headD 0=l[0]'aA:=by
    cases l with
    |nil=>simp at S
    |cons a b=>rfl
   generalize a1:l[0]'aA=v at*;have A:(((v.toNat:Int)==48)=true/\1<l.length/\v_ l=none)\/((((v.toNat:Int)==48)=false\/(((v.toNat:Int)==48)=true/\¬1<d.size))/\v_ l=if 1000000<kM 0 l then none else some (kM 0 l:Int)):=by
    unfold v_;by_cases o:v=48
    .have f:((v.toNat:Int)==48)=true:=by rw[o];rfl
     by_cases B:1<l.length
     .exact .inl ⟨f,B,by rw[bY (.inr (.inr ⟨by rw[G];exact o,B⟩))]⟩
     .refine .inr ⟨.inr ⟨f,aA⟩,?_⟩;rw[bN (by rintro(e|e|⟨_,e⟩)<;>omega)]
    .have f:((v.toNat:Int)==48)=false:=by
      simp only[rG];intro e;exact o (sQ.1 (by have:(48:aX).toNat=48:=rfl;omega))
     refine .inr ⟨.inl f,?_⟩;rw[bN];rintro(e|e|⟨e,_⟩)
     .omega
     .omega
     .exact o (G▸e)
   obtain⟨f,B,H⟩|⟨hq,H⟩:=A
   .have U:1<d.size:=by omega
    go_wp2;go_ret;exact⟨F.setCell (p:=(Ad j 2)) (.inl rfl) _,k,0,true,C,ng y,rfl,.inr ⟨rfl,.inr (by rw[H];rfl),aA,aA⟩⟩
   .have x:=hid H;have O:=O8 D aA;have l0:((l.length:Int)==0)=false:=by simp only[rG];omega
    have l7:decide (7<(l.length:Int))=false:=bI;have L:=hid λ(m:Nat)(z:aB aX)=>P4 z m;have hq':((v.toNat:Int)==48)=false\/(((v.toNat:Int)==48)=true/\decide (1<(l.length:Int))=false):=by
     obtain e|⟨e,U⟩:=hq
     .exact .inl e
     .exact .inr ⟨e,bI⟩
    obtain f|⟨f,U⟩:=hq'
    all_goals
     go_wp2;go_loopw [4,5] (λnv Q wr=>∃i n:Nat,nv=Iv n/\Q=Iv i/\i<=l.length/\wr=R/\Hid (kM n (l.drop i)=kM 0 l)) (λ_ Q _=>l.length-(intOf Q).toNat)
     case atStart=>exact⟨0,0,rfl,rfl,cC,rfl,rfl⟩
     case round=>
      obtain⟨i,n,rfl,rfl,Z,rfl,W⟩:=hrel;by_cases q:i<l.length
      .have⟨hz,hzc⟩:=Jm J q;have Y:=D _ (xu q);have E:kM (10*n+(l[i].toNat-48)) (l.drop (i+1))=kM 0 l:=by
        rw[<-W.out,pw q];rfl
       have M:=L.out (10*n+(l[i].toNat-48)) (l.drop (i+1));rw[E]at M;have N:=hid E;generalize X:l[i]=c at*;generalize kM 0 l=V at*;have I:decide ((i:Int)<(l.length:Int))=true:=bI;go_wp2
       try go_big_round
       exact⟨⟨i+1,10*n+(c.toNat-48),dV,dV,q,trivial,N⟩,zm⟩
      .have I:decide ((i:Int)<(l.length:Int))=false:=by simp;omega
       have P:kM 0 l=n:=by
        rw[<-W.out,ux aA];rfl
       rw[P]at x O;by_cases t:1000000<n
       .have K:Hid (v_ l=none):=by show _=_;rw[x.out,bY t]
        go_wp2;go_ret;exact⟨F.setCell (p:=(Ad j 2)) (.inl rfl) _,k,n,true,C,ng y,rfl,.inr ⟨rfl,.inr (by rw[K.out];rfl),aA,aA⟩⟩
       .have K:Hid (v_ l=some (n:Int)):=by show _=_;rw[x.out,bN t]
        go_wp2;go_ret;refine⟨F,k,n,g,C,y,rfl,?_⟩;cases g with
        |false=>exact .inl ⟨rfl,rfl,r,by rw[K.out];rfl,hr⟩
        |true=>exact .inr ⟨rfl,.inl rfl,aA,aA⟩
def X'(s:a_)(f:Nat)(d:Bool)(res:aR ((Int×Int)×aB aX))(e:Ending)(g:aC):Prop:=
 ∃j a b c,j<=s.size/\iI f g s j c/\e=.returned (.tuple #[Iv a,Iv b])/\((d=false/\c=false/\∃t,res=some ((a,b),t)/\At s j t)\/(c=true/\(d=true\/res=none)))
theorem uu{op u}(hw:mi op=true)(h:dH 91 u=none):dT op u=none:=by
 unfold dT;rw[hw,bY rfl,h]
theorem nY{op:Int}{u c:aB aX}(hw:mi op=true)(h:dH 91 u=some c):dT op u=match jm c with
   |none=>none
   |some (a,f)=>match dH 44 f with
    |none=>none
    |some g=>match jm g with
     |none=>none
     |some (b,d)=>match dH 93 d with
      |none=>none
      |some e=>if b<a then none else some ((a,b),e):=by
 unfold dT;rw[hw,bY rfl,h];rfl
theorem wW{u t n}(h:jm u=some (n,t)):0<=n/\n<=1000000:=by
 rw[N2]at h;cases a:v_ ((cB u).takeWhile (pB 48 57))with
 |none=>rw[a]at h;cases h
 |some v=>
  rw[a]at h;simp at h;obtain⟨rfl,_⟩:=h;unfold v_ at a;split at a
  .cases a
  .split at a
   .cases a
   .injection a with a;omega
theorem Cn(y i s f u op w)(h:iI y w s i f)(I:s.size<=1000000)(hi:i<=s.size)(hu:At s i u)(hw:mi op=true):
  Calls prog 199 #[Pt y] w λe Z=>Only y w Z/\X' s y f (dT op u) e Z:=by
 go_enter func199,ntmps199;go_wp2_with fail;apply(sx y i s f u 91 w h I hi hu aG).mono;rintro e w1 ⟨o1,rfl,S,B,T,h1,r1⟩;let k1:∃n,At s S n/\((f=false/\B=false/\dH 91 u=some n)\/(B=true/\(f=true\/dT op u=none))):=by
  obtain⟨j,c,t,k,q⟩|⟨j,c⟩:=r1
  .exact⟨t,q,.inl ⟨j,c,k⟩⟩
  .exact⟨_,lJ s S,.inr ⟨j,c.imp id (uu hw)⟩⟩
 let⟨n,hu1,q1⟩:=k1;go_wp2_with fail;apply(Cl y S s B n w1 h1 I T hu1).mono;rintro e w2 ⟨o2,U,a,z,N,h2,rfl,r2⟩;let k2:∃C,At s U C/\0<=a/\a<=10000000/\((f=false/\z=false/\∃n,dH 91 u=some n/\jm n=some (a,C))\/(z=true/\(f=true\/dT op u=none))):=by
  obtain⟨j,c,t,k,q⟩|⟨j,c,k,q⟩:=r2
  .let⟨s1,s2⟩:=wW k;obtain⟨d,g,l⟩|⟨d,g⟩:=q1
   .exact⟨t,q,s1,aA,.inl ⟨d,c,n,l,k⟩⟩
   .rw[j]at d;cases d
  .refine⟨_,lJ s U,k,q,.inr ⟨j,?_⟩⟩;obtain⟨d,g,l⟩|⟨d,g⟩:=q1
   .obtain c|c:=c
    .rw[g]at c;cases c
    .right;rw[nY hw l,c]
   .exact g
 let⟨C,hu2,sa1,sa2,q2⟩:=k2;go_wp2_with fail;apply(sx y U s z C 44 w2 h2 I N hu2 aG).mono;rintro e w3 ⟨o3,rfl,X,v,R,h3,r3⟩;let k3:∃D,At s X D/\((f=false/\v=false/\∃n C,dH 91 u=some n/\jm n=some (a,C)/\dH 44 C=some D)\/(v=true/\(f=true\/dT op u=none))):=by
  obtain⟨j,c,t,k,q⟩|⟨j,c⟩:=r3
  .obtain⟨d,g,E,l,A⟩|⟨d,g⟩:=q2
   .exact⟨t,q,.inl ⟨d,c,E,C,l,A,k⟩⟩
   .rw[j]at d;cases d
  .refine⟨_,lJ s X,.inr ⟨j,?_⟩⟩;obtain⟨d,g,E,l,A⟩|⟨d,g⟩:=q2
   .obtain c|c:=c
    .rw[g]at c;cases c
    .right;rw[nY hw l,A];simp only;rw[c]
   .exact g
 let⟨D,hu3,q3⟩:=k3;go_wp2_with fail;apply(Cl y X s v D w3 h3 I R hu3).mono;rintro e w4 ⟨o4,O,b,r,P,h4,rfl,r4⟩;let k4:∃K,At s O K/\0<=b/\b<=10000000/\((f=false/\r=false/\∃n C D,dH 91 u=some n/\jm n=some (a,C)/\dH 44 C=some D/\jm D=some (b,K))\/(r=true/\(f=true\/dT op u=none))):=by
  obtain⟨j,c,t,k,q⟩|⟨j,c,k,q⟩:=r4
  .let⟨s1,s2⟩:=wW k;obtain⟨d,g,E,J,l,A,F⟩|⟨d,g⟩:=q3
   .exact⟨t,q,s1,aA,.inl ⟨d,c,E,J,D,l,A,F,k⟩⟩
   .rw[j]at d;cases d
  .refine⟨_,lJ s O,k,q,.inr ⟨j,?_⟩⟩;obtain⟨d,g,E,J,l,A,F⟩|⟨d,g⟩:=q3
   .obtain c|c:=c
    .rw[g]at c;cases c
    .right;rw[nY hw l,A];simp only;rw[F];simp only;rw[c]
   .exact g
 let⟨K,hu4,sb1,sb2,q4⟩:=k4;go_wp2_with fail;apply(sx y O s r K 93 w4 h4 I P hu4 aG).mono;rintro e w5 ⟨o5,rfl,Q,m,H,L,r5⟩;let Y:Hid ((f=false/\m=false/\∃G,dT op u=(if b<a then none else some ((a,b),G))/\At s Q G)\/(m=true/\(f=true\/dT op u=none))):=by
  obtain⟨j,c,t,k,q⟩|⟨j,c⟩:=r5
  .obtain⟨d,g,E,J,v3,l,A,F,W⟩|⟨d,g⟩:=q4
   .exact .inl ⟨d,c,t,by rw[nY hw l,A];simp only;rw[F];simp only;rw[W];simp only;rw[k],q⟩
   .rw[j]at d;cases d
  .refine .inr ⟨j,?_⟩;obtain⟨d,g,E,J,v3,l,A,F,W⟩|⟨d,g⟩:=q4
   .obtain c|c:=c
    .rw[g]at c;cases c
    .right;rw[nY hw l,A];simp only;rw[F];simp only;rw[W];simp only;rw[c]
   .exact g
 let c2:w5.cell? (Ad y 2)=some (.bool m):=aD L rfl;let f2:=cK L 2;let o:=(((o1.trans o2).trans o3).trans o4).trans o5;by_cases M:b<a
 .let V:decide (a>b)=true:=by simp;omega
  go_wp2;go_ret2;refine⟨o.setCell (p:=(Ad y 2)) (.inl rfl) _,Q,a,b,true,H,ng L,rfl,.inr ⟨rfl,?_⟩⟩;obtain⟨x1,_,G,x2,_⟩|⟨_,x⟩:=Y.out
  .right;rw[x2,bY M]
  .exact x
 .let V:decide (a>b)=false:=by simp;omega
  go_wp2;go_ret2;refine⟨o,Q,a,b,m,H,L,rfl,?_⟩;obtain⟨x1,x3,G,x2,x4⟩|⟨x3,x⟩:=Y.out
  .exact .inl ⟨x1,x3,G,by rw[x2,bN aA],x4⟩
  .exact .inr ⟨x3,x⟩
theorem sD(u):(cB u).length<=u.length:=by
 cases u with
 |nil=>exact aZ
 |cons c r=>
  by_cases h:c=32
  .let e:cB (c::r)=r:=bY h;rw[e];simp
  .let e:cB (c::r)=c::r:=bN h;rw[e];exact aZ
theorem W9(c r)(h:c≠32):cB (c::r)=c::r:=bN h
theorem td{c u t}(h:dH c u=some t):t.length<u.length:=by
 let b:=sD u;cases a:cB u with
 |nil=>rw[D_ a]at h;cases h
 |cons d r=>
  rw[vo a]at h;rw[a]at b;split at h
  .injection h with h;subst h;simp at b;omega
  .cases h
theorem PI{u t n}(h:jm u=some (n,t)):t.length<=u.length:=by
 rw[N2]at h;cases a:v_ ((cB u).takeWhile (pB 48 57))with
 |none=>rw[a]at h;cases h
 |some v=>
  rw[a]at h;simp at h;rw[<-h.2];exact gH (List.dropWhile_sublist _).length_le (sD u)
theorem ur{op u t ab}(h:dT op u=some (ab,t)):t.length<=u.length:=by
 by_cases hw:mi op=true
 .cases g:dH 91 u with
  |none=>rw[uu hw g]at h;cases h
  |some i=>
   rw[nY hw g]at h;let m:=td g;cases c:jm i with
   |none=>rw[c]at h;cases h
   |some j=>
    let⟨a,t2⟩:=j;rw[c]at h;simp only at h;let r:=PI c;cases f:dH 44 t2 with
    |none=>rw[f]at h;cases h
    |some k=>
     rw[f]at h;simp only at h;let q:=td f;cases d:jm k with
     |none=>rw[d]at h;cases h
     |some l=>
      let⟨b,t4⟩:=l;rw[d]at h;simp only at h;let o:=PI d;cases e:dH 93 t4 with
      |none=>rw[e]at h;cases h
      |some n=>
       rw[e]at h;simp only at h;let p:=td e;split at h
       .cases h
       .simp at h;rw[<-h.2];omega
 .unfold dT at h;rw[bN hw]at h;simp at h;rw[<-h.2];exact aZ
def eO(op:Int):Int:=if op=172 then 33 else if op=8743 then 38 else if op=8744 then 124 else op
def bX(B:Nat)(w:aC):BT dD->aE->Prop
 |.nil,v=>v=.pointer none
 |.node _ _ a l r,v=>∃b vl vr,v=(Pt b)/\B<=b/\w.heap[b]?=some (.cells #[.int .u8 (eO a.op),.string a.name,Iv a.lo,Iv a.hi,vl,vr] 252 (0,0))/\bX B w l vl/\bX B w r vr
theorem bX.heap{B:Nat}{w w':aC}(a:∀k o,B<=k->w.heap[k]?=some o->w'.heap[k]?=some o):∀{x:BT dD}{v:aE},bX B w x v->bX B w' x v
 |.nil,_,h=>h
 |.node _ _ _ l r,_,⟨b,i,j,e,c,g,d,f⟩=>⟨b,i,j,e,c,a b _ c g,bX.heap a (x:=l) d,bX.heap a (x:=r) f⟩
theorem bX.only{B s w w' x v}(h:bX B w x v)(a:Only s w w')(c:s<B):bX B w' x v:=
 bX.heap (λk o d b=>a.heap b aA) h
theorem bX.below{B w a x v}(h:bX B w x v)(b:Bl w a):bX B a x v:=
 bX.heap (λ_ _ _ c=>Below.aT b c) h
theorem bX.low{B B':Nat}{w:aC}(a:B'<=B):∀{x:BT dD}{v:aE},bX B w x v->bX B' w x v
 |.nil,_,h=>h
 |.node _ _ _ l r,_,⟨b,i,j,e,g,f,c,d⟩=>⟨b,i,j,e,gH a g,f,bX.low a (x:=l) c,bX.low a (x:=r) d⟩
theorem bX.mg{B w x v}(h:bX B w x v){p}(b:p.block<B)(u):bX B (w.setCell p u) x v:=
 bX.heap (λk o c a=>by rw[mE _ _ _ _ aA];exact a) h
theorem uf{B w x v}(h:bX B w x v):∃a,v=Value.pointer a:=by
 cases x with
 |nil=>exact⟨_,h⟩
 |node _ _ _ _ _=>obtain⟨b,_,_,c,_⟩:=h;exact⟨_,c⟩
def rK(X:Nat)(w:aC)(k:Int)(nm:a_)(a b:Int)(p q:aE):Prop:=w.heap[X]?=some (.cells #[.int .u8 k,.string nm,Iv a,Iv b,p,q] 252 (0,0))
theorem rK.k{X w k a b nm p q}(h:rK X w k nm a b p q)(c):rK X (w.setCell (Ad X 0) (.int .u8 c)) c nm a b p q:=by
 unfold rK at*;simp[World.setCell,uy,h]
theorem rK.nm{X w k a b nm p q}(h:rK X w k nm a b p q)(c):rK X (w.setCell (Ad X 1) (.string c)) k c a b p q:=by
 unfold rK at*;simp[World.setCell,uy,h]
theorem rK.ab{X w k a b nm p q}(h:rK X w k nm a b p q)(d c):rK X ((w.setCell (Ad X 2) (Iv d)).setCell (Ad X 3) (Iv c)) k nm d c p q:=by
 unfold rK at*;simp[World.setCell,uy,h]
theorem rK.p{X w k a b nm p q}(h:rK X w k nm a b p q)(c):rK X (w.setCell (Ad X 4) c) k nm a b c q:=by
 unfold rK at*;simp[World.setCell,uy,h]
theorem rK.q{X w k a b nm p q}(h:rK X w k nm a b p q)(c):rK X (w.setCell (Ad X 5) c) k nm a b p c:=by
 unfold rK at*;simp[World.setCell,uy,h]
theorem rK.only{X s w w' k a b nm p q}(h:rK X w k nm a b p q)(c:Only s w w')(d:X≠s):rK X w' k nm a b p q:=c.heap h d
theorem rK.facts{X w k a b nm p q}(h:rK X w k nm a b p q):(w.cell? (Ad X 0)=some (.int .u8 k)/\w.cell? (Ad X 1)=some (.string nm)/\w.cell? (Ad X 2)=some (Iv a)/\w.cell? (Ad X 3)=some (Iv b)/\w.cell? (Ad X 4)=some p/\w.cell? (Ad X 5)=some q)
  /\(w.frozen? (Ad X 0)=false/\w.frozen? (Ad X 1)=false/\w.frozen? (Ad X 2)=false/\w.frozen? (Ad X 3)=false/\w.frozen? (Ad X 4)=false/\w.frozen? (Ad X 5)=false):=
 ⟨⟨aD h rfl,aD h rfl,aD h rfl,aD h rfl,aD h rfl,aD h rfl⟩,⟨cK h 0,cK h 1,cK h 2,cK h 3,cK h 4,cK h 5⟩⟩
theorem Bm{B X w op lo hi k nm l r a b}(h:rK X w k nm lo hi a b)(f:k=eO op)(e:B<=X)(c:bX B w l a)(d:bX B w r b):bX B w (mk op nm lo hi l r) (Pt X):=by
 subst f;exact⟨X,a,b,rfl,e,h,c,d⟩
theorem iI.lt{b i w s a}(h:iI b w s i a):b<w.heap.size:=aN h
theorem iI.alloc{b i w s a}(h:iI b w s i a)(o):iI b (w.alloc o) s i a:=by
 unfold iI at*;rw[ij _ _ _ (aN h)];exact h
theorem iI.Ae{b i w s a}(h:iI b w s i a){p}(c:p.block≠b)(u):iI b (w.setCell p u) s i a:=by
 unfold iI at*;rw[mE _ _ _ _ λe=>c e.symm];exact h
def IM(s:a_)(d B:Nat)(b:Bool)(res:aR (BT dD×aB aX))(e:Ending)(c:aC):Prop:=
 ∃j p a,j<=s.size/\iI d c s j a/\e=.returned (.pointer p)/\((b=false/\a=false/\∃x t,res=some (x,t)/\At s j t/\bX B c x (.pointer p))\/(a=true/\(b=true\/res=none)))
theorem RD(a i s u res w)(h:iI a w s i true)(n:s.size<=1000000)(hi:i<=s.size)(k:At s i u):
  Calls prog 179 #[Pt a] w λe f=>Only a w f/\IM s a w.heap.size true res e f:=by
 let b:=kg a i s true u w h n hi k;let m:iM true (cB u)=0:=by cases cB u<;>rfl
 rw[m]at b;go_enter func179,ntmps179;go_wp2_with fail;apply b.mono;rintro e d ⟨q,rfl,j,o,r,c⟩;let c2:d.cell? (Ad a 2)=some (.bool true):=aD c rfl;let t:=cK c 2;let g:=c.lt;let l:a≠d.heap.size:=aA;go_wp2;go_ret;exact⟨(q.setCell (p:=(Ad a 2)) (.inl rfl) _).alloc _,j,_,true,o,(ng c).alloc _,rfl,.inr ⟨rfl,.inl rfl⟩⟩
theorem RE(a i s u res w)(h:iI a w s i false)(q:s.size<=1000000)(hi:i<=s.size)(m:At s i u)(k:cB u=[])(b:res=none):
  Calls prog 179 #[Pt a] w λe g=>Only a w g/\IM s a w.heap.size false res e g:=by
 let c:=kg a i s false u w h q hi m;let o:iM false (cB u)=0:=by rw[k];rfl
 rw[o]at c;go_enter func179,ntmps179;go_wp2_with fail;apply c.mono;rintro e f ⟨t,rfl,j,r,v,d⟩;let c2:f.cell? (Ad a 2)=some (.bool false):=aD d rfl;let x:=cK d 2;let l:=d.lt;let n:a≠f.heap.size:=aA;go_wp2;go_ret;exact⟨(t.setCell (p:=(Ad a 2)) (.inl rfl) _).alloc _,j,_,true,r,(ng d).alloc _,rfl,.inr ⟨rfl,.inr b⟩⟩
def Zl(n:Nat)(f:aB aX->aR (BT dD×aB aX)):Prop:=
 ∀(a i:Nat)(s:a_)(u:aB aX)(w:aC),iI a w s i false->s.size<=1000000->i<=s.size->At s i u->u.length<n->
  Calls prog 179 #[Pt a] w λe b=>Only a w b/\IM s a w.heap.size false (f u) e b
theorem Zl.any{n f}(j:Zl n f)(b i s a u w)(h:iI b w s i a)(d:s.size<=1000000)(hi:i<=s.size)(c:At s i u)(g:a=false->u.length<n):
  Calls prog 179 #[Pt b] w λe w'=>Only b w w'/\IM s b w.heap.size a (f u) e w':=by
 cases a with
 |true=>exact RD b i s u _ w h d hi c
 |false=>exact j b i s u w h d hi c (g rfl)
abbrev WI(w:aC)(a j:Nat)(k:Int):aC:=(w.setCell (Ad a 1) (Iv ((j+1:Nat):Int))).alloc (.cells #[.int .u8 k,.string ⟨#[]⟩,Iv 0,Iv 0,.pointer none,.pointer none] 252 (0,0))
theorem Zd{w a b j s}(k)(c:iI b a s j false)(d:Only b w a):(a.cell? (Ad b 1)=some (Iv j)/\a.cell? (Ad b 2)=some (.bool false)/\a.frozen? (Ad b 1)=false)/\(b<a.heap.size/\w.heap.size<=a.heap.size/\b≠a.heap.size/\a.heap.size≠b)/\iI b (WI a b j k) s (j+1) false/\rK a.heap.size (WI a b j k) k ⟨#[]⟩ 0 0 (.pointer none) (.pointer none)/\Only b w (WI a b j k)/\(WI a b j k).heap.size=a.heap.size+1:=
 let e:=c.lt
 ⟨⟨aD c rfl,aD c rfl,cK c 1⟩,⟨e,d.size,aA,aA⟩,(Bs (j:=j+1) c).alloc _,aQ _ _ _ (by simp[World.setCell]),(d.setCell (p:=(Ad b 1)) (.inl rfl) _).alloc _,by simp[World.setCell]⟩
theorem RF(n f)(J:Zl n f)(b i s u c r w)(h:iI b w s i false)(y:s.size<=1000000)(hi:i<=s.size)(D:At s i u)(k:cB u=c::r)(O:c.toNat=33)(C:r.length<n):
  Calls prog 179 #[Pt b] w λe z=>Only b w z/\IM s b w.heap.size false (singleR f 172 r) e z:=by
 have l:=kg b i s false u w h y hi D;have E:iM false (cB u)=33:=by rw[k];show(c.toNat:Int)=33;omega
 rw[E,k]at l;have q:Hid (singleR f 172 r=match f r with|none=>none|some (p,t2)=>some (mk 172 ByteArray.empty 0 0 p .nil,t2)):=rfl;generalize singleR f 172 r=res at*;go_enter func179,ntmps179;go_wp2_with fail;apply l.mono;rintro e B ⟨L,rfl,j,P,A,G⟩;have⟨hl,ZZ,ht⟩:=A.cons;have⟨⟨c1,c2,f1⟩,⟨NI,z0,hne,Bc⟩,h2,hX,o,Jf⟩:=Zd 33 G L;go_wp2_with fail;apply(J b (j+1) s r _ h2 y hl ht C).mono;rintro e Q ⟨v,M,p,d,m,I,rfl,H⟩;have g:=hX.only v aA;have⟨⟨x0,x1,x2,x3,x4,x5⟩,⟨y0,y1,y2,y3,y4,y5⟩⟩:=g.facts;have o:=o.trans v;go_wp2;go_ret;refine⟨o.setCell (p:=(Ad B.heap.size 4)) (.inr z0) _,M,_,d,m,I.Ae Bc _,rfl,?_⟩;obtain⟨_,a,x,t,F,N,a5⟩|⟨K,a⟩:=H
 .refine .inl ⟨rfl,a,mk 172 ByteArray.empty 0 0 x .nil,t,by rw[q.out,F],N,?_⟩;exact Bm (g.p (.pointer p)) rfl aA ((bX.mg a5 (by simp[World.setCell]) _).low (by simp[World.setCell];omega)) rfl
 .refine .inr ⟨K,.inr ?_⟩;obtain a|a:=a
  .cases a
  .rw[q.out,a]
theorem Bn(k)(S:k=89\/k=79\/k=72)(n f)(ih:Zl n f)(o i s u c r w)(h:iI o w s i false)(J:s.size<=1000000)(hi:i<=s.size)(T:At s i u)(C:cB u=c::r)(Z:(c.toNat:Int)=k)(hn:r.length<n):
  Calls prog 179 #[Pt o] w λe Q=>Only o w Q/\IM s o w.heap.size false (singleR f k r) e Q:=by
 have D:=kg o i s false u w h J hi T;obtain⟨q,B⟩:∃q:Int,Hid (k=q):=⟨_,rfl⟩;have V:iM false (cB u)=k:=C▸Z;rw[V,C]at D;have H:Hid (singleR f k r=match dT k r with|none=>none|some ((a,b),t1)=>match f t1 with|none=>none|some (p,t2)=>some (mk k ByteArray.empty a b p .nil,t2)):=rfl;generalize singleR f k r=res at*;obtain rfl|rfl|rfl:=S
 all_goals
  go_enter func179,ntmps179;go_wp2_with fail;apply D.mono;rintro e v ⟨ho,rfl,j,hj,R,Y⟩;have⟨hl,ZZ,ht⟩:=R.cons;have X:=Zd q Y ho;rw[<-B.out]at X;have⟨⟨c1,c2,f1⟩,⟨NI,z0,hne,Bc⟩,h2,hX,oo,Jf⟩:=X;have O:=Cn o (j+1) s false r q _ h2 J hl ht (by rw[<-B.out];rfl);rw[<-B.out]at O;go_wp2_with fail;apply O.mono;rintro e w2 ⟨I,N,a,b,g,F,h3,rfl,r2⟩;have A:=hX.only I aA;have U:=I.size;rw[Jf]at U;have o3:=((oo.trans I).setCell (p:=(Ad v.heap.size 2)) (.inr z0) (Iv a)).setCell (p:=(Ad v.heap.size 3)) (.inr z0) (Iv b);have⟨⟨x0,x1,x2,x3,x4,x5⟩,⟨y0,y1,y2,y3,y4,y5⟩⟩:=A.facts;have k2:∃E,At s N E/\((g=false/\dT q r=some ((a,b),E))\/(g=true/\dT q r=none)):=by
   rw[<-B.out];obtain⟨_,d,t,G,L⟩|⟨M,d|d⟩:=r2
   .exact⟨t,L,.inl ⟨d,G⟩⟩
   .cases d
   .exact⟨_,lJ s N,.inr ⟨M,d⟩⟩
  have⟨E,hu2,q2⟩:=k2;rw[<-B.out]at q2;have hC:=ih.any o N s g E _ ((h3.Ae (p:=(Ad v.heap.size 2)) Bc (Iv a)).Ae (p:=(Ad v.heap.size 3)) Bc (Iv b)) J F hu2 (λW=>by
   obtain⟨_,l⟩|⟨m,_⟩:=q2
   .have:=ur l;omega
   .rw[W]at m;cases m)
  go_wp2_with fail;apply hC.mono;rintro e w3 ⟨P,j3,p,y,K,h5,rfl,r3⟩;have z:=(A.ab a b).only P aA;have⟨⟨v0,v1,v2,v3,v4,v5⟩,⟨t0,t1,t2,t3,t4,t5⟩⟩:=z.facts;go_wp2;go_ret;refine⟨(o3.trans P).setCell (p:=(Ad v.heap.size 4)) (.inr z0) _,j3,_,y,K,h5.Ae Bc _,rfl,?_⟩;obtain⟨e1,d,x,t,G,L,a5⟩|⟨M,d⟩:=r3
  .obtain⟨_,l⟩|⟨m,_⟩:=q2
   .refine .inl ⟨rfl,d,_,t,by rw[H.out,l];simp only;rw[G],L,?_⟩;exact Bm (z.p (.pointer p)) rfl z0 ((bX.mg a5 (by simp[World.setCell];omega) _).low (by simp[World.setCell];omega)) rfl
   .rw[e1]at m;cases m
  .refine .inr ⟨M,.inr ?_⟩;obtain⟨m,l⟩|⟨_,l⟩:=q2
   .obtain d|d:=d
    .rw[m]at d;cases d
    .rw[H.out,l];simp only;rw[d]
   .rw[H.out,l]
theorem rK.aa8{X w k a b nm p q}(h:rK X w k nm a b p q){ad}(c:ad.block≠X)(u):rK X (w.setCell ad u) k nm a b p q:=by
 unfold rK at*;rw[mE _ _ _ _ λe=>c e.symm];exact h
theorem Uw{f:aB aX->aR (BT dD×aB aX)}{r e d:aB aX}{x1:BT dD}{k:aX}(i:f r=some (x1,e))(l:cB e=k::d)(c:k=38\/k=124\/k=83):wk f r=match dT (aM (k.toNat:Int)) d with
    |none=>none
    |some ((a,b),j)=>match f j with
     |none=>none
     |some (q,g)=>match dH 41 g with
      |none=>none
      |some h=>some (mk (aM (k.toNat:Int)) ByteArray.empty a b x1 q,h):=by
 unfold wk;rw[i];simp only;rw[l];simp only;rw[bY c];rfl
theorem kU{c}{n:Nat}(h:c.toNat=n)(a:n<256):c=UInt8.ofNat n:=by
 rw[<-sQ,h,Im];omega
theorem OE(n f)(ih:Zl n f)(v i s u c r w)(h:iI v w s i false)(V:s.size<=1000000)(hi:i<=s.size)(hu:At s i u)(an:cB u=c::r)(hc:c.toNat=40)(hn:r.length<n)(C:∀x t k m,f r=some (x,t)->cB t=k::m->m.length<n):
  Calls prog 179 #[Pt v] w λe w'=>Only v w w'/\IM s v w.heap.size false (wk f r) e w':=by
 have aj:=kg v i s false u w h V hi hu;have hv:iM false (cB u)=40:=by rw[an];show(c.toNat:Int)=40;omega
 rw[hv,an]at aj;obtain⟨res,HR⟩:∃res,Hid (wk f r=res):=⟨_,rfl⟩;rw[HR.out];replace C:Hid (∀x t k m,f r=some (x,t)->cB t=k::m->m.length<n):=C;go_enter func179,ntmps179;go_wp2_with fail;apply aj.mono;rintro e l ⟨ho,rfl,j,hj,ha,h1⟩;have⟨hl,ZZ,ht⟩:=ha.cons;have⟨⟨c1,c2,f1⟩,⟨b0,z0,hne,Bc⟩,h2,hX,oo,Jf⟩:=Zd 40 h1 ho;have hC:=ih v (j+1) s r _ h2 V hl ht hn;go_wp2_with fail;apply hC.mono;rintro e w2 ⟨o2,j2,p,g,ag,h3,rfl,r2⟩;have R:=hX.only o2 aA;have z2:=o2.size;rw[Jf]at z2;have P:=R.p (.pointer p);have h4:=h3.Ae (p:=(Ad l.heap.size 4)) Bc (.pointer p);have o3:=(oo.trans o2).setCell (p:=(Ad l.heap.size 4)) (.inr z0) (.pointer p);have⟨⟨x0,S,x2,x3,x4,x5⟩,⟨y0,y1,y2,y3,y4,y5⟩⟩:=R.facts;have K2:(∃B,At s j2 B/\((iM g (cB B)!=38)=true/\(iM g (cB B)!=124)=true/\(iM g (cB B)!=83)=true)/\0<=iM g (cB B)/\iM g (cB B)<256/\Hid (res=none))\/∃x1 t1 k m,Hid (f r=some (x1,t1))/\Hid (cB t1=k::m)/\(k=38\/k=124\/k=83)/\At s j2 t1/\g=false/\bX (l.heap.size+1) w2 x1 (.pointer p):=by
  have hz:∀B,g=true\/cB B=[]->iM g (cB B)=0:=by
   rintro B (e|e)
   .subst e;cases cB B<;>rfl
   .rw[e];rfl
  have L:=HR.out;unfold wk at L;obtain⟨_,d,x,t,F,D,a5⟩|⟨E,d⟩:=r2
  .rw[F]at L;simp only at L;cases H:cB t with
   |nil=>
    have:=hz t (.inr H);rw[H]at L;exact .inl ⟨t,D,by rw[this];decide,by rw[this];decide,by rw[this];decide,L.symm⟩
   |cons k m=>
    by_cases M:k=38\/k=124\/k=83
    .exact .inr ⟨x,t,k,m,F,H,M,D,d,by rw[Jf]at a5;exact a5⟩
    .have b0:=Ar k;subst d;have e:iM false (k::m)=(k.toNat:Int):=rfl;rw[H]at L;simp only at L;rw[bN M]at L;refine .inl ⟨t,D,?_⟩;rw[H,e];simp only[bne_iff_ne];have e1:k.toNat≠38/\k.toNat≠124/\k.toNat≠83:=⟨λe=>M (.inl (kU (n:=38) e aG)),λe=>M (.inr (.inl (kU (n:=124) e aG))),λe=>M (.inr (.inr (kU (n:=83) e aG)))⟩;exact⟨aA,aA,aA,L.symm⟩
  .obtain d|d:=d
   .cases d
   .rw[d]at L;exact .inl ⟨_,lJ s j2,by rw[hz _ (.inl E)];decide,by rw[hz _ (.inl E)];decide,by rw[hz _ (.inl E)];decide,L.symm⟩
 obtain⟨B,Y,⟨q1,q2,q3⟩,lo,bc,HN⟩|⟨x1,t1,k,m,hf,M,Z,Y,rfl,a8⟩:=K2
 .have y:=kg v j2 s g B _ h4 V ag Y;generalize iM g (cB B)=lv at*;clear r2 h3 R;go_wp2_with fail;apply y.mono;rintro e w3 ⟨o4,rfl,U,af,aq,h5⟩;have Q:=P.only o4 aA;obtain⟨⟨v0,v1,v2,v3,v4,v5⟩,⟨t0,t1,m,t3,t4,t5⟩⟩:=Q.facts;have d2:w3.cell? (Ad v 2)=some (.bool g):=aD h5 rfl;have g2:w3.frozen? (Ad v 2)=false:=cK h5 2;clear y h4 P x0 S x2 x3 x4 x5 y0 y1 y2 y3 y4 y5;go_wp2_with fail;go_ret;refine⟨((o3.trans o4).setCell (p:=(Ad l.heap.size 0)) (.inr z0) _).setCell (p:=(Ad v 2)) (.inl rfl) _,U,_,true,af,ng (h5.Ae (p:=(Ad l.heap.size 0)) Bc _),rfl,.inr ⟨rfl,.inr HN.out⟩⟩
 .have y:=kg v j2 s false t1 _ h4 V ag Y;have aw:=C.out x1 t1 k m hf.out M.out;have K:=Uw hf.out M.out Z;rw[M.out,show iM false (k::m)=(k.toNat:Int)from rfl]at y;have ay:(k.toNat:Int)=38\/(k.toNat:Int)=124\/(k.toNat:Int)=83:=by
   rcases Z with rfl|rfl|rfl<;>decide
  obtain⟨q',O⟩:∃q',Hid ((k.toNat:Int)=q'):=⟨_,rfl⟩;rw[HR.out,O.out]at K;replace K:Hid (res=match dT (aM q') m with|none=>none|some ((a,b),t3)=>match f t3 with|none=>none|some (q,t4)=>match dH 41 t4 with|none=>none|some t5=>some (mk (aM q') ByteArray.empty a b x1 q,t5)):=K;generalize(k.toNat:Int)=q at*;clear r2 h3 R Z C hf M HR;go_wp2_with fail;apply y.mono;rintro e w3 ⟨o4,rfl,U,af,aq,h5⟩;obtain⟨ak,_,ar⟩:=aq.cons;have Q:=P.only o4 aA;have aa:=(a8.mg (p:=(Ad l.heap.size 4)) j7 (.pointer p)).only o4 aA;have z4:=o4.size;simp only[CO]at z4;obtain⟨⟨v0,v1,v2,v3,v4,v5⟩,⟨az,bb,b7,b5,b6,au⟩⟩:=Q.facts;have d1:w3.cell? (Ad v 1)=some (Iv U):=aD h5 rfl;have g1:w3.frozen? (Ad v 1)=false:=cK h5 1;have ai:=(Q.k q).aa8 (ad:=(Ad v 1)) hne (Iv ((U+1:Nat):Int));have h6:=Bs (j:=U+1) (h5.Ae (p:=(Ad l.heap.size 0)) Bc (.int .u8 q));have ae:=(aa.mg (p:=(Ad l.heap.size 0)) j7 (.int .u8 q)).mg (p:=(Ad v 1)) (show v<_ from aA) (Iv ((U+1:Nat):Int));have o5:=((o3.trans o4).setCell (p:=(Ad l.heap.size 0)) (.inr z0) (.int .u8 q)).setCell (p:=(Ad v 1)) (.inl rfl) (Iv ((U+1:Nat):Int));clear y h4 P a8 aa x0 S x2 x3 x4 x5 y0 y1 y2 y3 y4 y5;rcases ay with rfl|rfl|rfl
  rotate_left 2
  .rw[show aM q'=83 by rw[<-O.out];rfl]at K;have hW:=Cn v (U+1) s false m 83 _ h6 V ak ar rfl;go_wp2_with fail;apply hW.mono;rintro e w4 ⟨o6,j4,a,b,G,b8,h7,rfl,r4⟩;have ah:=ai.only o6 aA;have z6:=o6.size;simp only[CO]at z6;have b9:=((ae.only o6 aA).mg (p:=(Ad l.heap.size 2)) j7 (Iv a)).mg (p:=(Ad l.heap.size 3)) j7 (Iv b);have h8:=(h7.Ae (p:=(Ad l.heap.size 2)) Bc (Iv a)).Ae (p:=(Ad l.heap.size 3)) Bc (Iv b);have o7:=((o5.trans o6).setCell (p:=(Ad l.heap.size 2)) (.inr z0) (Iv a)).setCell (p:=(Ad l.heap.size 3)) (.inr z0) (Iv b);obtain⟨⟨x0,S,x2,x3,x4,x5⟩,⟨y0,y1,y2,y3,y4,y5⟩⟩:=ah.facts;have k4:∃X,At s j4 X/\((G=false/\dT 83 m=some ((a,b),X))\/(G=true/\dT 83 m=none)):=by
    rcases r4 with⟨_,d,t,F,D⟩|⟨E,d|d⟩
    .exact⟨t,D,.inl ⟨d,F⟩⟩
    .cases d
    .exact⟨_,lJ s j4,.inr ⟨E,d⟩⟩
   obtain⟨X,ba,q4⟩:=k4;have hC:=ih.any v j4 s G X _ h8 V b8 ba (λhb=>by
    rcases q4 with⟨_,A⟩|⟨z,_⟩
    .have:=ur A;omega
    .rw[hb]at z;cases z)
   go_wp2_with fail;apply hC.mono;rintro e w5 ⟨N,j5,q,o,a7,h9,rfl,r5⟩;have J:=(ah.ab a b).only N aA;have z8:=N.size;simp only[CO]at z8;have⟨⟨v0,v1,v2,v3,v4,v5⟩,⟨az,bb,b7,b5,b6,au⟩⟩:=J.facts;have k5:∃T,At s j5 T/\((o=false/\∃X x2,dT 83 m=some ((a,b),X)/\f X=some (x2,T)/\bX (l.heap.size+1) (w5.setCell (Ad l.heap.size 5) (.pointer q)) x2 (.pointer q))\/(o=true/\res=none)):=by
    obtain⟨e1,d,x,t,F,D,a5⟩|⟨E,d⟩:=r5
    .obtain⟨_,A⟩|⟨z,_⟩:=q4
     .exact⟨t,D,.inl ⟨d,X,x,A,F,((bX.mg a5 (by simp only[CO];omega) _).low (by simp only[CO];omega))⟩⟩
     .rw[e1]at z;cases z
    .refine⟨_,lJ s j5,.inr ⟨E,?_⟩⟩;obtain⟨z,A⟩|⟨_,A⟩:=q4
     .obtain d|d:=d
      .rw[z]at d;cases d
      .rw[K.out,A];simp only;rw[d]
     .rw[K.out,A]
   have⟨T,hu5,q5⟩:=k5;go_wp2_with fail;apply(sx v j5 s o T 41 _ (h9.Ae (p:=(Ad l.heap.size 5)) Bc (.pointer q)) V a7 hu5 aG).mono;rintro e w6 ⟨W,rfl,j6,I,a6,hA,r6⟩;go_wp2;go_ret;refine⟨((o7.trans N).setCell (p:=(Ad l.heap.size 5)) (.inr z0) (.pointer q)).trans W,j6,_,I,a6,hA,rfl,?_⟩;obtain⟨e1,d,t,F,D⟩|⟨E,d⟩:=r6
   .obtain⟨_,ax,x2,A,b3,b4⟩|⟨z,_⟩:=q5
    .refine .inl ⟨rfl,d,mk 83 ByteArray.empty a b x1 x2,t,by rw[K.out,A];simp only;rw[b3];simp only;rw[F],D,?_⟩;exact Bm ((J.q (.pointer q)).only W aA) rfl z0 ((((b9.only N aA).mg (p:=(Ad l.heap.size 5)) j7 (.pointer q)).only W aA).low aA) ((b4.only W aA).low aA)
    .rw[e1]at z;cases z
   .refine .inr ⟨E,.inr ?_⟩;obtain⟨z,ax,x2,A,b3,b4⟩|⟨_,A⟩:=q5
    .obtain d|d:=d
     .rw[z]at d;cases d
     .rw[K.out,A];simp only;rw[b3];simp only;rw[d]
    .exact A
  all_goals
   have HW:Hid (dT (aM q') m=some ((0,0),m)):=by
    show _=_;rw[<-O.out];rfl
   have hC:=ih v (U+1) s m _ h6 V ak ar aw;go_wp2_with fail;apply hC.mono;rintro e w5 ⟨N,j5,q,o,a7,h9,rfl,r5⟩;have J:=ai.only N aA;have z8:=N.size;simp only[CO]at z8;have⟨⟨x0,S,x2,x3,x4,x5⟩,⟨y0,y1,y2,y3,y4,y5⟩⟩:=J.facts;have k5:∃T,At s j5 T/\((o=false/\∃x2,f m=some (x2,T)/\bX (l.heap.size+1) (w5.setCell (Ad l.heap.size 5) (.pointer q)) x2 (.pointer q))\/(o=true/\res=none)):=by
    obtain⟨e1,d,x,t,F,D,a5⟩|⟨E,d|d⟩:=r5
    .exact⟨t,D,.inl ⟨d,x,F,((bX.mg a5 (by simp only[CO];omega) _).low (by simp only[CO];omega))⟩⟩
    .cases d
    .exact⟨_,lJ s j5,.inr ⟨E,by rw[K.out,HW.out];simp only;rw[d]⟩⟩
   have⟨T,hu5,q5⟩:=k5;go_wp2_with fail;apply(sx v j5 s o T 41 _ (h9.Ae (p:=(Ad l.heap.size 5)) Bc (.pointer q)) V a7 hu5 aG).mono;rintro e w6 ⟨W,rfl,j6,I,a6,hA,r6⟩;go_wp2;go_ret;refine⟨((o5.trans N).setCell (p:=(Ad l.heap.size 5)) (.inr z0) (.pointer q)).trans W,j6,_,I,a6,hA,rfl,?_⟩;obtain⟨e1,d,t,F,D⟩|⟨E,d⟩:=r6
   .obtain⟨_,x2,b3,b4⟩|⟨z,_⟩:=q5
    .refine .inl ⟨rfl,d,_,t,by rw[K.out,HW.out];simp only;rw[b3];simp only;rw[F],D,?_⟩;exact Bm ((J.q (.pointer q)).only W aA) (by rw[<-O.out];rfl) z0 ((((ae.only N aA).mg (p:=(Ad l.heap.size 5)) j7 (.pointer q)).only W aA).low aA) ((b4.only W aA).low aA)
    .rw[e1]at z;cases z
   .refine .inr ⟨E,.inr ?_⟩;obtain⟨z,x2,b3,b4⟩|⟨_,A⟩:=q5
    .obtain d|d:=d
     .rw[z]at d;cases d
     .rw[K.out,HW.out];simp only;rw[b3];simp only;rw[d]
    .exact A
theorem L2(a i s u c r res w)(h:iI a w s i false)(D:s.size<=1000000)(hi:i<=s.size)(A:At s i u)(d:cB u=c::r)(b:res=none)
  (N:¬(c.toNat=33\/c.toNat=89\/c.toNat=79\/c.toNat=72\/c.toNat=40)) (m:¬(97<=c.toNat/\c.toNat<=122)):
  Calls prog 179 #[Pt a] w λe o=>Only a w o/\IM s a w.heap.size false res e o:=by
 have f:=kg a i s false u w h D hi A;have C:iM false (cB u)=(c.toNat:Int):=by rw[d];rfl
 rw[C,d]at f;have v:=Ar c;have y:((c.toNat:Int)==33)=false:=by simp only[rG];omega
 have q:((c.toNat:Int)==89)=false:=by simp only[rG];omega
 have H:((c.toNat:Int)==79)=false:=by simp only[rG];omega
 have z:((c.toNat:Int)==72)=false:=by simp only[rG];omega
 have E:((c.toNat:Int)==40)=false:=by simp only[rG];omega
 have K:((c.toNat:Int)==0)=true\/(((c.toNat:Int)==0)=false/\(decide (97<=(c.toNat:Int))=false\/(decide (97<=(c.toNat:Int))=true/\decide ((c.toNat:Int)<=122)=false))):=by
  by_cases F:c.toNat=0
  .exact .inl (by rw[F];rfl)
  .refine .inr ⟨by simp only[rG];omega,?_⟩;by_cases t:97<=c.toNat
   .exact .inr ⟨bI,bI⟩
   .exact .inl bI
 generalize(c.toNat:Int)=O at*;obtain J|⟨J,k|⟨k,n⟩⟩:=K
 all_goals
  go_enter func179,ntmps179;go_wp2_with fail;apply f.mono;rintro e l ⟨I,rfl,j,G,L,g⟩;have c2:l.cell? (Ad a 2)=some (.bool false):=aD g rfl;have M:=cK g 2;have x:=g.lt;have B:a≠l.heap.size:=aA;go_wp2;go_ret;exact⟨(I.setCell (p:=(Ad a 2)) (.inl rfl) _).alloc _,j,_,true,G,(ng g).alloc _,rfl,.inr ⟨rfl,.inr b⟩⟩
theorem OG(b i s u c r w)(h:iI b w s i false)(S:s.size<=1000000)(hi:i<=s.size)(hu:At s i u)(z:cB u=c::r)(m:97<=c.toNat/\c.toNat<=122):
  Calls prog 179 #[Pt b] w λe U=>Only b w U/\IM s b w.heap.size false ((oY (iD 97 (c::r))).map λx=>(x,jX 97 (c::r))) e U:=by
 have n:=kg b i s false u w h S hi hu;have hv:iM false (cB u)=(c.toNat:Int):=by rw[z];rfl
 rw[hv,z]at n;have D:=Ar c;have M:c≠32:=by intro e;subst e;exact absurd m.1 aG
 have A:=W9 c r M;rw[(Fv _).1,(Fv _).2];have q0:((c.toNat:Int)==0)=false:=by simp only[rG];omega
 have a7:((c.toNat:Int)==33)=false:=by simp only[rG];omega
 have Z:((c.toNat:Int)==89)=false:=by simp only[rG];omega
 have af:((c.toNat:Int)==79)=false:=by simp only[rG];omega
 have a8:((c.toNat:Int)==72)=false:=by simp only[rG];omega
 have ad:((c.toNat:Int)==40)=false:=by simp only[rG];omega
 have a1:decide (97<=(c.toNat:Int))=true:=bI;have O:decide ((c.toNat:Int)<=122)=true:=bI;clear m D;generalize hL:(c::r).takeWhile (pB 97 122)=l;generalize R:(c::r).dropWhile (pB 97 122)=t;go_enter func179,ntmps179;go_wp2_with fail;apply n.mono;rintro e f ⟨V,rfl,j,hj,Y,I⟩;have c2:f.cell? (Ad b 2)=some (.bool false):=aD I rfl;have a6:=I.lt;have aa:b≠f.heap.size:=aA;have g:f.heap.size≠b:=aA;have B:=V.size;clear n;have N:=I.alloc (.cells #[.int .u8 97,.string ⟨#[]⟩,Iv 0,Iv 0,.pointer none,.pointer none] 252 (0,0));have Q:rK f.heap.size (f.alloc (.cells #[.int .u8 97,.string ⟨#[]⟩,Iv 0,Iv 0,.pointer none,.pointer none] 252 (0,0))) 97 ⟨#[]⟩ 0 0 (.pointer none) (.pointer none):=aQ _ _ _ rfl;have oo:=V.alloc (.cells #[.int .u8 97,.string ⟨#[]⟩,Iv 0,Iv 0,.pointer none,.pointer none] 252 (0,0));have E:=H8 b j s false (c::r) 97 122 _ N S hj Y;rw[A,hL,R]at E;clear hL R;go_wp2_with fail;apply E.mono;rintro e X ⟨W,k,d,F,L,rfl,C,P⟩;have y:=Q.only W aA;have o:=y.nm d;have G:=L.Ae (p:=(Ad f.heap.size 1)) g (.string d);have K:=(oo.trans W).setCell (p:=(Ad f.heap.size 1)) (.inr B) (.string d);obtain⟨⟨x0,x1,x2,x3,x4,x5⟩,⟨y0,y1,y2,y3,y4,y5⟩⟩:=y.facts;have e2:X.cell? (Ad b 2)=some (.bool false):=aD L rfl;have g2:X.frozen? (Ad b 2)=false:=cK L 2;have ae:d.size=l.length:=by rw[<-C,fT]
 clear E N Q;by_cases q:l=[116,114,117,101]
 .have J:(d.toList==[116,114,117,101])=true:=by rw[Lib.toList_data,C,q];rfl
  have a:Hid (oY l=some (mk 116 ByteArray.empty 0 0 .nil .nil)):=by show _=_;unfold oY;rw[bY q]
  have H:=(o.k 116).nm ⟨#[]⟩;go_wp2_with fail;go_ret;refine⟨(K.setCell (p:=(Ad f.heap.size 0)) (.inr B) _).setCell (p:=(Ad f.heap.size 1)) (.inr B) _,k,_,false,F,(G.Ae (p:=(Ad f.heap.size 0)) g _).Ae (p:=(Ad f.heap.size 1)) g _,rfl,.inl ⟨rfl,rfl,_,t,by rw[a.out];rfl,P,?_⟩⟩;exact Bm H rfl B rfl rfl
 .have J:(d.toList==[116,114,117,101])=false:=by
   rw[Lib.toList_data,C,rG];exact q
  by_cases T:8<l.length
  .have a:Hid (oY l=none):=by show _=_;unfold oY;rw[bN q,bY T]
   have z8:decide (8<(l.length:Int))=true:=bI;go_wp2_with fail;go_ret;exact⟨K.setCell (p:=(Ad b 2)) (.inl rfl) _,k,_,true,F,ng G,rfl,.inr ⟨rfl,.inr (by rw[a.out];rfl)⟩⟩
  .have v:d=⟨l.toArray⟩:=my C;have a:Hid (oY l=some (mk 97 d 0 0 .nil .nil)):=by show _=_;unfold oY;rw[bN q,bN T,<-v]
   have z8:decide (8<(l.length:Int))=false:=bI;clear v;go_wp2_with fail;go_ret;refine⟨K,k,_,false,F,G,rfl,.inl ⟨rfl,rfl,_,t,by rw[a.out];rfl,P,?_⟩⟩;exact Bm o rfl B rfl rfl
theorem L7:∀(n:Nat)(u:aB aX)(x:BT dD)(t:aB aX),jY n u=some (x,t)->t.length<=u.length
 |0,u,x,t,h=>by cases h
 |n+1,u,x,t,h=>by
  let o:=L7 n
  let e:=sD u
  simp only[jY]at h
  cases g:cB u with
  |nil=>rw[g]at h;cases h
  |cons c r=>
   rw[g]at h e
   simp only at h
   let C:r.length<=u.length:=by simp at e;omega
   split at h
   .cases hw:oY (iD 97 (c::r))with
    |none=>rw[hw]at h;cases h
    |some y=>
     rw[hw]at h
     simp at h
     rw[<-h.2]
     exact gH (List.dropWhile_sublist _).length_le e
   .split at h
    .unfold wk at h
     cases i:jY n r with
     |none=>rw[i]at h;cases h
     |some z=>
      let⟨x1,t1⟩:=z
      let D:=o r x1 t1 i
      let s:=sD t1
      rw[i]at h
      simp only at h
      cases p:cB t1 with
      |nil=>rw[p]at h;cases h
      |cons k v=>
       rw[p]at h s
       simp only at h
       simp at s
       split at h
       .cases f:dT (aM (k.toNat:Int)) v with
        |none=>rw[f]at h;cases h
        |some l=>
         let⟨⟨a,b⟩,t3⟩:=l
         let w:=ur f
         rw[f]at h
         simp only at h
         cases d:jY n t3 with
         |none=>rw[d]at h;cases h
         |some j=>
          let⟨q,t4⟩:=j
          let A:=o t3 q t4 d
          rw[d]at h
          simp only at h
          cases m:dH 41 t4 with
          |none=>rw[m]at h;cases h
          |some E=>
           let B:=td m
           rw[m]at h
           simp at h
           rw[<-h.2]
           omega
       .cases h
    .split at h
     .unfold singleR at h
      cases f:dT (aM (c.toNat:Int)) r with
      |none=>rw[f]at h;cases h
      |some l=>
       let⟨⟨a,b⟩,t3⟩:=l
       let w:=ur f
       rw[f]at h
       simp only at h
       cases d:jY n t3 with
       |none=>rw[d]at h;cases h
       |some j=>
        let⟨q,t4⟩:=j
        let A:=o t3 q t4 d
        rw[d]at h
        simp at h
        rw[<-h.2]
        omega
     .cases h
theorem H4:∀n,Zl n (jY n)
 |0=>λm i s u w h o hi l B=>absurd B (Ao _)
 |n+1=>by
  let z:=H4 n
  intro m i s u w h o hi l B
  let y:=sD u
  cases a:cB u with
  |nil=>exact RE m i s u _ w h o hi l a (by simp only[jY];rw[a])
  |cons c r=>
   rw[a]at y
   let v:r.length<n:=by simp at y;omega
   let F:jY (n+1) u=if aM (c.toNat:Int)=97 then(oY (iD 97 (c::r))).map λx=>(x,jX 97 (c::r))
    else if c=40 then wk (jY n) r
    else if c=33\/c=89\/c=79\/c=72 then singleR (jY n) (aM (c.toNat:Int)) r
    else none:=by simp only[jY];rw[a]
   rw[F]
   let p:=Uu c
   by_cases b:97<=c.toNat/\c.toNat<=122
   .have:aM (c.toNat:Int)=97:=by
     let t:(aM (c.toNat:Int)==97)=true:=by rw[p];unfold pB;simp[b]
     simpa using t
    rw[bY this];exact OG m i s u c r w h o hi l a b
   .let A:¬aM (c.toNat:Int)=97:=by
     intro e;let t:pB 97 122 c=true:=by rw[<-p,e];rfl
     unfold pB at t;simp at t;exact b t
    rw[bN A];by_cases q:c.toNat=40
    .let G:c=40:=kU (n:=40) q aG;rw[bY G];refine OE n _ z m i s u c r w h o hi l a q v λx1 D k I H E=>?_;let J:=L7 n r x1 D H;let C:=sD D;rw[E]at C;simp at C;omega
    .rw[bN λe=>q (by rw[e];rfl)];by_cases d:c.toNat=33
     .rw[bY (.inl (kU (n:=33) d aG)),show aM (c.toNat:Int)=172 by rw[d];decide];exact RF n _ z m i s u c r w h o hi l a d v
     .by_cases g:c.toNat=89
      .rw[bY (.inr (.inl (kU (n:=89) g aG))),show aM (c.toNat:Int)=89 by rw[g];decide];exact Bn 89 aF n _ z m i s u c r w h o hi l a (by rw[g];rfl) v
      .by_cases j:c.toNat=79
       .rw[bY (.inr (.inr (.inl (kU (n:=79) j aG)))),show aM (c.toNat:Int)=79 by rw[j];decide];exact Bn 79 aF n _ z m i s u c r w h o hi l a (by rw[j];rfl) v
       .by_cases f:c.toNat=72
        .rw[bY (.inr (.inr (.inr (kU (n:=72) f aG)))),show aM (c.toNat:Int)=72 by rw[f];decide];exact Bn 72 aF n _ z m i s u c r w h o hi l a (by rw[f];rfl) v
        .rw[bN (by rintro(e|e|e|e)<;>(rw[e]at d g j f;first|exact d rfl|exact g rfl|exact j rfl|exact f rfl))];exact L2 m i s u c r none w h o hi l a rfl aA b
end Go.Proofs.YtpbbmagjhkakgaaGreatDoor
