import Derived.Test.YtpbbmagjhkakgaaGreatDoorC4
import Derived.Test.YtpbbmagjhkakgaaGreatDoorC7
namespace Go.Proofs.YtpbbmagjhkakgaaGreatDoor
set_option maxHeartbeats 8000000
set_option maxRecDepth 100000
namespace Ev
open Tryz Go.RowKit Go.Deep Go.Maps Lf
def RL:Pe:=⟨0,0,[],[]⟩
def kU(K:aB Key)(E:aB Pe):Nat->aB Pe
 |0=>[]
 |j+1=>kU K E j++[eG (kU K E j).reverse K (E.getD j RL).bare]
theorem rL(K:aB Key)(E:aB Pe):∀j,(kU K E j).length=j
 |0=>rfl
 |j+1=>by simp[kU,rL K E j]
theorem D7(K:aB Key)(E:aB Pe):∀j,∀e∈kU K E j,e.so.length=K.length+1
 |0,e,h=>by simp[kU]at h
 |j+1,e,h=>by
  obtain h|h:=i_.1 h
  .exact D7 K E j e h
  .simp only[sA]at h
   subst h
   rw[(iT _ K _).2.2.2.1]
   simp[Pe.bare]
   omega
theorem BA:∀(C:aB iZ)(j:Nat)(c:iZ)(a sl sc:Nat),C[j]?=some c->(iu C).set (j*4+3) (Sl a sl sc)=iu (C.set j (c.gi a sl sc))
 |[],j,c,a,sl,sc,h=>by simp at h
 |d::C,0,c,a,sl,sc,h=>by
  simp at h
  subst h
  rfl
 |d::C,j+1,c,a,sl,sc,h=>by
  let i:=BA C j c a sl sc (by simpa using h)
  let e:iu (d::C)=dD d++iu C:=rfl
  let g:(d::C).set (j+1) (c.gi a sl sc)=d::C.set j (c.gi a sl sc):=rfl
  let f:iu (d::C.set j (c.gi a sl sc))=dD d++iu (C.set j (c.gi a sl sc)):=rfl
  let b:(dD d).length=4:=rfl
  rw[e,g,f,<-i,List.set_append]
  rw[bN (by rw[b];omega),b]
  congr 2
  omega
structure JD(aW:Nat)(rt rm pv:aF)(no:aQ a_)(bZ:Nat)(K:aB Key)(g cap:Nat)(C:aB iZ)(E:aB Pe)(w:aC)(j:Nat)(Cs:aB iZ)(wr:aC):Prop where
 hw:wr.heap[aW]?=some (.cells #[rt,rm,.slice no K.length bZ,Sl g C.length cap,pv] 153 (0,0))
 bH:fJ wr (Sl g C.length cap) Cs
 len:Cs.length=C.length
 same:∀(i:Nat) c c0,Cs[i]?=some c->C[i]?=some c0->c.number=c0.number/\c.time=c0.time/\c.ao=c0.ao/\c.al=c0.al/\c.ac=c0.ac
 done:∀(i:Nat) c e,i<j->Cs[i]?=some c->(kU K E j)[i]?=some e->gP wr c e
 typed:∀c∈Cs,Fj wr c
 later:∀i,j<=i->Cs[i]?=C[i]?
 sp:cY (λb=>b=aW\/b=g) w wr
theorem gP.pre{w c e}(h:gP w c e):uB w c e:=⟨h.number,h.time,h.low,h.al,h.Dk,h.atoms⟩
theorem Qn(aW M R nv Q no bZ K g cap C E w)
  (hw:w.heap[aW]?=some (.cells #[M,R,nv,Sl g C.length cap,Q] 153 (0,0))) (hE:fJ w (Sl g C.length cap) C) (ax:C.length=E.length) (ah:∀(i:Nat) c e,C[i]?=some c->E[i]?=some e->gP w c e) (hT:∀c∈C,Fj w c) (hn:C.length<=1000)
  (hK:K.length<=1000) (aw:K.length<=bZ) (hN:ki w no K) (ai:∀a,no=some a->∃A m,w.heap[a.block]?=some (.cells A 226 m)) (ae:∀k∈K,nw k.op) (an:xb K):
  Calls prog 142 #[Pt aW,.slice no K.length bZ] w λe w'=>e=.returned (.tuple #[])/\∃l,JD aW M R Q no bZ K g cap C E w C.length l w':=by
 have b0:=aL hw;have b1:=(hE.lt g rfl).2;have⟨cg0,WU⟩:=cE hE (g:=g) rfl;have Z:g≠aW:=by
  rintro rfl;rw[hw]at WU;cases WU
 have ay:C.length<=cap:=by
  obtain⟨f,_⟩|⟨g',cp,af,f,_,_⟩:=hE.cases
  .cases f
  .cases af;exact f
 have a8:∀a,no=some a->a.block≠g/\a.block≠aW/\a.block<w.heap.size:=λa s=>by
  have⟨A,m,f⟩:=ai a s;refine⟨?_,?_,aL f⟩
  .intro e;rw[e,WU]at f;cases f
  .intro e;rw[e,hw]at f;cases f
 have az:=cJ hw 2;have c2:=aD (i:=2) hw rfl;have c3:=aD (i:=3) hw rfl;have u:JD aW M R Q no bZ K g cap C E w 0 C (w.setCell (Ad aW 2) (.slice no K.length bZ)):=by
  have ho:Only aW w (w.setCell (Ad aW 2) (.slice no K.length bZ)):=(Only.refl aW w).setCell (p:=(Ad aW 2)) (.inl rfl) _;have hs:cY (λb=>b=aW\/b=g) w (w.setCell (Ad aW 2) (.slice no K.length bZ)):=cY.qG ho λx T=>.inl T;refine⟨dR (i:=2) hw,eF hE λb hb=>ho.block b (hE.lt b hb).2 (by cases hb;exact Z),rfl,λi c c0 f r=>by rw[f]at r;cases r;exact⟨rfl,rfl,rfl,rfl,rfl⟩,λi c e h=>aA,λc G=>?_,λi _=>rfl,hs⟩;refine(hT c G).spare hs (λa s=>?_) λa s=>?_
  .have⟨A,m,f⟩:=(hT c G).so a s;rintro(e|e)
   .rw[e,hw]at f;cases f
   .rw[e,WU]at f;cases f
  .have⟨A,m,f⟩:=(hT c G).ao a s;rintro(e|e)
   .rw[e,hw]at f;cases f
   .rw[e,WU]at f;cases f
 have H:∀(j:Nat)(l:aB iZ)(wr:aC),j<C.length->JD aW M R Q no bZ K g cap C E w j l wr->Calls prog 132 #[.slice no K.length bZ,Sl g (j+1) cap] wr λe W'=>(∃v,e=.returned v)/\∃I,JD aW M R Q no bZ K g cap C E w (j+1) I W':=by
  intro j l wr hj o;have F:j<l.length:=o.len▸hj;have W:j<E.length:=aA;have YP:wr.ownsRow 0 159 4 (Sl g l.length cap) l.length (iu l):=by have:=o.bH;rw[<-o.len]at this;exact this
  have⟨cg,sF,SV,hcp,Y2,aaq,aar⟩:=GU YP rfl;obtain⟨c,G⟩:∃c,l[j]?=some c:=⟨l[j],fG F⟩;have N:=(o.later j aX)▸G;have D:∀i,l.getD i c=(l[i]?).getD c:=λi=>by rw[qp]
  have X:l.getD j c=c:=by rw[D,G];rfl
  have S:=rL K E j;have O:∀i,i<j->(kU K E j++[E[j]]).getD i RL=(kU K E j).getD i RL:=λi hi=>by
   rw[qp,qp,tZ aA]
  have aa:(kU K E j++[E[j]]).getD j RL=E[j]:=by
   rw[qp,sr aA,S];simp
  have y:∀i,i<l.length->Fj wr (l.getD i c):=λi hi=>o.typed _ (by rw[D,fG hi];exact w_ hi);have L:∀a A t m,w.heap[a]?=some (.cells A t m)->t≠153->t≠159->¬(a=aW\/a=g):=λa A t m f r h3 h4=>by
   obtain e|e:=h4
   .rw[e,hw]at f;injection f with f;injection f with _ f _;exact r f.symm
   .rw[e,WU]at f;injection f with f;injection f with _ f _;exact h3 f.symm
  have ad:uB wr c E[j]:=by
   have f:=(ah j c E[j] N (fG W)).pre;refine⟨f.number,f.time,f.low,f.al,f.Dk,λak=>?_⟩;have⟨b,off,a1,a2,a3⟩:=f.atoms ak;have⟨A,m,k1⟩:=(hT c (iA N)).ao _ a1;exact⟨b,off,a1,fW a2 o.sp.size,λq hq=>by rw[fT (o.sp.block b a2 (L b A 9 m k1 aG aG))];exact a3 q hq⟩
  have aj:=B_ no bZ K g cap j cg (λi=>l.getD i c) (λi=>(kU K E j++[E[j]]).getD i RL) wr aA aA hK aw sF
   (λi k v hi hv=>by
    have B:i<l.length:=aA;have:(l.getD i c)=l[i]:=by rw[D,fG B];rfl
    rw[this]at hv;exact SV _ _ (jh dD 4 (λ_=>rfl) l i k l[i] v (fG B) hv))
   (hN.spare o.sp λa s=>by obtain⟨f,r,_⟩:=a8 a s;exact λh=>h.elim r f) (λa s=>(a8 a s).1) ae an
   (λi hi=>by
    have B:i<l.length:=aA;rw[O i hi];refine o.done i _ _ hi ?_ (by rw[qp,fG aA];rfl);rw[D,fG B];rfl)
   (λi hi=>by
    rw[O i hi];apply D7 K E j _;rw[qp,fG aA];exact w_ _)
   (λi hi=>(y i aA).off sF)
   (by show uB wr (l.getD j c) ((kU K E j++[E[j]]).getD j RL);rw[X,aa];exact ad)
   (λa s=>by
    have:=(y j F).off sF;exact this.ao a s)
  apply aj.mono;rintro e W' ⟨sb,sc,au,rfl,s1,Y,s3,s4,s5⟩;refine⟨⟨_,rfl⟩,l.set j (c.gi sb (K.length+1) sc),?_⟩;have aq:eZ (λi=>(kU K E j++[E[j]]).getD i RL) j=(kU K E j).reverse:=by
   rw[uJ O];have:=Dn (kU K E j) RL;rw[S]at this;exact this
  have ag:E.getD j RL=E[j]:=by rw[qp,fG W];rfl
  have s5':gP W' (c.gi sb (K.length+1) sc) (eG (kU K E j).reverse K (E.getD j RL).bare):=by
   have:=s5;simp only[aq,aa,X]at this;rw[ag];exact this
  refine⟨(Y.block aW (aL o.hw) λe=>Z e.symm).trans o.hw,?_,by rw[Ff,o.len],?_,?_,?_,?_,o.sp.trans (cY.qG Y λx T=>.inr T)⟩
  .show W'.ownsRow 0 159 4 _ _ _;rw[Ff,<-BA l j c sb (K.length+1) sc G];refine⟨by rw[Ff];exact YP.1,.inr ⟨g,cap,_,by rw[o.len],cD,s3,hcp,Y2,by simp[aaq],?_⟩⟩;rw[Array.toList_setIfInBounds,List.take_set,aar]
  .intro i d d0 f r;by_cases z:i=j
   .subst z;rw[rh F]at f;cases f;rw[N]at r;cases r;exact⟨rfl,rfl,rfl,rfl,rfl⟩
   .rw[yj λe=>z e.symm]at f;exact o.same i d d0 f r
  .intro i d e hi f r;by_cases z:i=j
   .subst z;rw[rh F]at f;cases f;rw[kU,sr aA,S]at r;simp at r;subst r;exact s5'
   .rw[yj λe=>z e.symm]at f;rw[kU,tZ aA]at r;exact(o.done i d e aA f r).only ((o.typed d (iA f)).off sF) Y
  .intro d hd;obtain hd|rfl:=Bh hd
   .have V:=o.typed d hd;have a6:=V.off sF;exact V.spare (cY.qG Y (P:=λb=>b=g) λx T=>T) a6.so a6.ao
   .have a7:=o.typed c (iA G);refine⟨λa s=>?_,λa s=>?_⟩
    .have:some ((Ad sb 0):a_)=some a:=s;cases this;exact⟨au,(0,0),s4⟩
    .have⟨A,m,k1⟩:=a7.ao a s;exact⟨A,m,(Y.block _ (aL k1) ((a7.off sF).ao a s)).trans k1⟩
  .intro i hi;rw[yj aA];exact o.later i aA
 have U:Hid (∀j l wr,JD aW M R Q no bZ K g cap C E w j l wr->wr.cell? (Ad aW 3)=some (Sl g C.length cap)):=λj l wr h=>aD h.hw rfl;have b3:=U.out 0 C _ u;generalize hJ:JD aW M R Q no bZ K g cap C E w=J at*;generalize C.length=n at*;go_enter func142,ntmps142;go_wp2;go_loopw [14] (λjv wr=>∃(j:Nat)(l:aB iZ),jv=Iv j/\j<=n/\J j l wr) (λjv _=>n-(intOf jv).toNat)
 case atStart=>exact⟨0,C,rfl,cD,u⟩
 case round=>
  obtain⟨j,l,rfl,b2,o⟩:=hrel;by_cases hj:j<n
  .have k3:=U.out j l wr o;go_wp2_with fail;apply(H j l wr hj o).mono;rintro e w1 ⟨⟨v,rfl⟩,I,ar⟩;go_wp2
   try go_big_round
   exact⟨⟨j+1,I,dU,aA,ar⟩,zm⟩
  .obtain rfl:j=n:=by omega
   go_wp2_with fail;exact bodyPost_end (results_none rfl _ _ _) rfl ⟨rfl,l,o⟩
theorem J7(p name w):Calls prog 140 #[NH p,.string name] w λe b=>e=.returned (Iv (nW p.name name))/\Bl w b:=by
 have a:=λW=>strings_Compare p.name name W;unfold nW;generalize Lib.compareBytes p.name.data.toList name.data.toList=c at*;unfold NH;go_enter func140,ntmps140;go_wp2_with fail;apply(a _).m0;go_wp2;go_ret;exact⟨rfl,aT.al _⟩
theorem N9(pb k cap t m ps name w)(f:w.heap[pb]?=some (.cells t 183 m))(J:eI t k ps)(K:eV ps)(O:ps.length<=1000000):
  Calls prog 139 #[.slice (some (Ad pb k)) ps.length cap,.string name,.func (.func 140) #[] #[]] w λe N=>e=.returned (.tuple #[Iv (dV name ps),.bool (eW name ps)])/\Bl w N:=by
 have r:Hid (∀W (j:Nat) p,Bl w W->ps[j]?=some p->W.cell? (Ad pb (k+j*5))=some (.string p.name)/\W.cell? (Ad pb (k+j*5+1))=some (.pointer p.eE)/\W.cell? (Ad pb (k+j*5+2))=some (Iv p.node)/\W.cell? (Ad pb (k+j*5+3))=some (Iv p.cO)/\W.cell? (Ad pb (k+j*5+4))=some (.pointer p.fV)):=λW j p l D=>by
  have h:=l.aS f;have⟨a0,a1,a2,a3,a4⟩:=J j p D;exact⟨aD h a0,aD h a1,aD h a2,aD h a3,aD h a4⟩
 have b:=λp W=>J7 p name W;have z:=hid λ(i:Nat)(p:mW)=>pn name ps i p K;have B:Hid (∀p,ps[dV name ps]?=some p->eW name ps=decide (nW p.name name=0)):=λp f=>by
  unfold eW;rw[f];simp[v_]
 have C:Hid (¬dV name ps<ps.length->eW name ps=false):=λh=>by
  unfold eW;rw[List.getElem?_eq_none aA]
 have x:=pj name ps;have g:Hid (∀j,j<ps.length->∃p,ps[j]?=some p):=λj D=>⟨_,fG D⟩;generalize eW name ps=P at*;generalize dV name ps=u at*;generalize ps.length=n at*;unfold NH at b;go_enter func139,ntmps139;go_wp2;go_loopw [9,10] (λE A wr=>∃i j:Nat,E=Iv i/\A=Iv j/\i<=u/\u<=j/\j<=n/\Bl w wr) (λE A _=>(intOf A).toNat-(intOf E).toNat)
 case atStart=>exact⟨0,n,rfl,rfl,cD,x,aX,aT⟩
 case round=>
  obtain⟨lo,hi,rfl,rfl,I,G,M,l⟩:=hrel;by_cases H:lo<hi
  .have⟨p,f⟩:=g.out ((lo+hi)/2) aA;have⟨y0,y1,y2,y3,y4⟩:=r.out _ _ p l f;have q:=b p;have s:=z.out _ p f;have o:=hid l;generalize nW p.name name=c at*;by_cases d:c<0
   .have L:=s.1 d;go_wp2_with fail;refine(q _).m λy a=>?_;go_wp2
    try go_big_round
    exact⟨⟨(lo+hi)/2+1,hi,by rw[show((lo:Int)+(hi:Int))/2+1=(((lo+hi)/2+1:Nat):Int)by omega],rfl,aA,G,M,o.out.tr a⟩,zm⟩
   .have L:¬(lo+hi)/2<u:=λh=>d (s.2 h);go_wp2_with fail;refine(q _).m λy a=>?_;go_wp2
    try go_big_round
    exact⟨⟨lo,(lo+hi)/2,rfl,by rw[show((lo:Int)+(hi:Int))/2=(((lo+hi)/2:Nat):Int)by omega],I,aA,aA,o.out.tr a⟩,zm⟩
  .obtain rfl:lo=u:=by omega
   by_cases F:lo<n
   .have⟨p,f⟩:=g.out lo F;have⟨y0,y1,y2,y3,y4⟩:=r.out _ _ p l f;have q:=b p;have v:=B.out p f;have o:=hid l;generalize nW p.name name=c at*;by_cases d:c=0
    .subst d;go_wp2_with fail;refine(q _).m λy a=>?_;go_wp2;go_ret2;exact⟨by rw[v];rfl,o.out.tr a⟩
    .go_wp2_with fail;refine(q _).m λy a=>?_;go_wp2;go_ret2;exact⟨by rw[v];simp[d],o.out.tr a⟩
   .have v:=C.out F;subst v;go_wp2;go_ret2;exact⟨rfl,l⟩
theorem mJ(aW h f g ev pa bS ps name w)(hw:w.heap[aW]?=some (.cells #[h,f,g,ev,.slice pa ps.length bS] 153 (0,0)))(d:ij w pa bS ps)(b:eV ps)(k:ps.length<=1000000):
  Calls prog 97 #[Pt aW,.string name] w λe o=>e=.returned (.tuple #[Iv (dV name ps),.bool (eW name ps)])/\Bl w o:=by
 obtain⟨rfl,rfl,rfl⟩|⟨pb,l,a,m,rfl,j,d⟩:=d
 .refine(YS aW h f g ev name w hw).m0 ?_;exact⟨rfl,aT⟩
 .have r:=aD (i:=4) hw rfl;have b:=N9 pb l bS a m ps name w j d b k;generalize dV name ps=q at*;generalize eW name ps=s at*;generalize ps.length=n at*;go_enter func97,ntmps97;go_wp2_with fail;refine b.m λp c=>?_;go_wp2;go_ret2;exact⟨rfl,c⟩
def q_:BT c_->aB (aB aV)
 |.nil=>[]
 |.node b o a l r=>q_ l++q_ r++[bF (.node b o a l r)]
theorem pA:∀(x:BT c_)(L:aB (aB aV))(t:aB aV),t∈dC L x↔t∈L\/t∈q_ x
 |.nil,L,t=>by simp[dC,q_]
 |.node b o a l r,L,t=>by
  let f:=pA r (dC L l) t
  let e:=pA l L t
  let d:∀s,s∈dC (dC L l) r↔(s∈L\/s∈q_ l)\/s∈q_ r:=λs=>by rw[pA r,pA l]
  unfold dC q_
  simp only[i_,sA]
  split
  .rename_i c
   rw[d]
   constructor
   .rintro((h|h)|h)
    .exact .inl h
    .exact .inr (.inl (.inl h))
    .exact .inr (.inl (.inr h))
   .rintro(h|(h|h)|h)
    .exact .inl (.inl h)
    .exact .inl (.inr h)
    .exact .inr h
    .subst h;exact(d _).1 c
  .rw[i_,sA,d]
   constructor
   .rintro(((h|h)|h)|h)
    .exact .inl h
    .exact .inr (.inl (.inl h))
    .exact .inr (.inl (.inr h))
    .exact .inr (.inr h)
   .rintro(h|(h|h)|h)
    .exact .inl (.inl (.inl h))
    .exact .inl (.inl (.inr h))
    .exact .inl (.inr h)
    .exact .inr h
theorem qM:∀(x:BT c_)(L:aB (aB aV)),L.Nodup->(dC L x).Nodup
 |.nil,L,h=>h
 |.node b o a l r,L,h=>by
  let c:=qM r _ (qM l L h)
  unfold dC
  split
  .exact c
  .rename_i f
   exact L5.2 ⟨c,aE,λa e b d=>by simp at d;subst d;rintro rfl;exact f e⟩
def tU(X:Nat->BT c_):Nat->aB (aB aV)
 |0=>[]
 |n+1=>dC (tU X n) (aN (X n))
theorem zT(X:Nat->BT c_):∀n,(∀j,j<n->fZ (X j))->Twin (jw X n) (tU X n)
 |0,_=>Twin.nil
 |n+1,h=>count_eq (zT X n λj a=>h j aA) (h n aA)
theorem ya(X:Nat->BT c_)(t:aB aV):∀n,t∈tU X n↔∃j,j<n/\t∈q_ (aN (X j))
 |0=>by simp[tU]
 |n+1=>by
  rw[tU,pA,ya X t n]
  constructor
  .rintro(⟨j,b,a⟩|h)
   .exact⟨j,aA,a⟩
   .exact⟨n,aA,h⟩
  .rintro⟨j,b,a⟩
   by_cases c:j<n
   .exact .inl ⟨j,c,a⟩
   .obtain rfl:j=n:=by omega
    exact .inr a
theorem zS(X:Nat->BT c_):∀n,(tU X n).Nodup
 |0=>List.nodup_nil
 |n+1=>qM _ _ (zS X n)
theorem Eh{d:Type}[DecidableEq d]:∀(l m:aB d),l.Nodup->(∀t∈l,t∈m)->l.length<=m.length
 |[],_,_,_=>cD
 |a::l,m,h,c=>by
  let b:=c a aE
  let f:=(HU.1 h)
  let j:=Eh l (m.erase a) f.2 λt e=>(List.mem_erase_of_ne (by rintro rfl;exact f.1 e)).2 (c t (by simp[e]))
  let i:=List.length_erase_of_mem b
  let g:=List.length_pos_of_mem b
  simp only[hY]
  omega
theorem U2(X Y n m)(c:∀j,j<n->fZ (X j))(a:∀j,j<m->fZ (Y j))(h:∀j,j<n->∃i,i<m/\X j=Y i):(jw X n).length<=(jw Y m).length:=by
 rw[(zT X n c).len,(zT Y m a).len];refine Eh _ _ (zS X n) λt b=>?_;let⟨j,hj,h1⟩:=(ya X t n).1 b;let⟨i,hi,e⟩:=h j hj;exact(ya Y t m).2 ⟨i,hi,by rw[<-e];exact h1⟩
end Ev
namespace Ev
open Go.Deep (BT)
structure Vd where
 ev:Int
 time:Int
 cO:Int
 ok:Bool
structure Ag where
 name:aZ
 x:BT c_
 cO:Int
 str:aB Vd
structure fX where
 ret:Int
 room:Int
 bH:aB nz
 off:Nat
 aU:aB Ag
def rQ(c:aV):Bool:=decide (97<=c.toNat)&&decide (c.toNat<=122)
def iY(s:aZ):Bool:=s.data.toList.all rQ&&(decide (1<=s.size)&&decide (s.size<=8)&& !(s.toList==[116,114,117,101]))
def iP(x:BT c_)(bH:aB nz)(i:Nat):Bool:=dQ x (bH.take (i+1)).reverse
def Rn(x:BT c_)(cO:Int)(bH:aB nz)(i:Nat):Vd:=⟨(i:Int)+1,(bH.getD i (0,[])).1,cO,iP x bH i⟩
def Wq(x:BT c_)(cO:Int)(bH:aB nz)(a:Nat):aB Vd:=(List.range (bH.length-a)).map λj=>Rn x cO bH (a+j)
def lf(t:Int):aB nz->Nat
 |[]=>0
 |e::l=>if e.1<t then lf t l+1 else 0
def tT(xs:aB (BT c_)):aB (aB aV):=xs.foldl (λL x=>dC L (aN x)) []
def iI(xs:aB (BT c_)):Nat:=(tT xs).length
def ft(A:aB aZ):Bool:=decide (A.length<=10)&&A.all iY&&decide A.Nodup
def fX.has(S:fX)(name:aZ):Bool:=S.aU.any λp=>decide (p.name=name)
def fX.get(S:fX)(name:aZ):aQ Ag:=S.aU.find? λp=>decide (p.name=name)
def nZ(S:fX)(t:Int):Bool:=match S.bH.getLast? with
 |some e=>decide (t<=e.1)
 |none=>false
def rU(S:fX)(t:Int):Nat:=S.off+lf (t-S.ret) (S.bH.drop S.off)
def fX.take(S:fX)(t:Int)(A:aB aZ):fX:=
 {S with bH:=S.bH++[(t,A)],off:=rU S t,aU:=S.aU.map λp=>{p with str:=p.str++[Rn p.x p.cO (S.bH++[(t,A)]) S.bH.length]}}
def eJ(S:fX)(t:Int)(A:aB aZ):Int:=
 if t<0\/1000000000000<t\/nZ S t=true then 9
 else if ft A=false then 10
 else if S.aU.any (λp=>decide (30<=p.str.length))=true then 11
 else if S.room<(S.bH.length:Int)+1-rU S t then 12
 else 0
def jc(S:fX)(t:Int)(A:aB aZ):fX:=if eJ S t A=0 then S.take t A else S
def kG(S:fX)(name a:aZ):aQ (BT c_)×Int:=
 if iY name=false then(none,3)
 else match cV a with
  |(none,e)=>(none,e)
  |(some x,_)=>if S.ret<bD x then(none,4)else(some x,0)
def pW(S:fX)(x:BT c_):Nat:=if S.off=0 then 0 else S.off+lf ((S.bH.getD S.off (0,[])).1+bD x) (S.bH.drop S.off)
def mf(S:fX)(x:BT c_)(cO:Int):aB Vd:=Wq x cO S.bH (pW S x)
def kK(S:fX)(name a:aZ):aB Vd×Int×fX:=match kG S name a with
 |(none,e)=>([],e,S)
 |(some x,_)=>
  if S.has name=true then([],5,S)
  else if 8<=S.aU.length then([],7,S)
  else if 40<iI (S.aU.map (·.x)++[x])then([],8,S)
  else(mf S x 1,0,{S with aU:=S.aU++[⟨name,x,1,[]⟩]})
def Lo(S:fX)(name:aZ)(x:BT c_):aB (BT c_):=(S.aU.filter λp=>decide (p.name≠name)).map (·.x)++[x]
def fX.upd(S:fX)(name:aZ)(f:Ag->Ag):fX:={S with aU:=S.aU.map λp=>if p.name=name then f p else p}
def gb(S:fX)(name a:aZ):aB Vd×Int×fX:=match kG S name a with
 |(none,e)=>([],e,S)
 |(some x,_)=>match S.get name with
  |none=>([],6,S)
  |some p=>
   if 40<iI (Lo S name x)then([],8,S)
   else(mf S x (p.cO+1),0,S.upd name λp=>{p with x:=x,cO:=p.cO+1})
def iM(S:fX)(name:aZ):Int×fX:=
 if S.has name=true then(0,{S with aU:=S.aU.filter λp=>decide (p.name≠name)})else(6,S)
def gm(S:fX)(name:aZ):aB Vd×Int:=match S.get name with
 |none=>([],6)
 |some p=>(p.str,0)
def qR(S:fX)(name:aZ)(n:Int):Int×fX:=match S.get name with
 |none=>(6,S)
 |some p=>if n<0\/(p.str.length:Int)<n then(13,S)else(0,S.upd name λp=>{p with str:=p.str.drop n.toNat})
def lz(L:aB aZ):Prop:=L.Pairwise λa b=>nW a b<0
def E1(S:fX):Nat:=iI (S.aU.map (·.x))
def y_(S:fX):Nat:=S.bH.length-S.off
def kF(ret room:Int):fX:=⟨ret,room,[],0,[]⟩
structure fX.OK(S:fX)(n:Nat):Prop where
 ret:0<=S.ret/\S.ret<=100000
 room:1<=S.room/\S.room<=60
 inc:S.bH.Pairwise λa b=>a.1<b.1
 time:∀e∈S.bH,0<=e.1/\e.1<=1000000000000
 many:S.bH.length<=n
 kept:(S.bH.length:Int)<=S.off+S.room
 last:S.off<S.bH.length\/(S.bH=[]/\S.off=0)
 ZT:∀d∈S.bH.take S.off,∀e,S.bH.getLast?=some e->d.1<e.1-S.ret
 nodup:(S.aU.map (·.name)).Nodup
 few:S.aU.length<=8
 each:∀p∈S.aU,iY p.name=true/\fZ p.x/\bC p.x<=12/\bD p.x<=S.ret/\1<=p.cO/\p.cO<=(n:Int)+1/\p.str.length<=30
 nodes:iI (S.aU.map (·.x))<=40
theorem fX.OK.mono{S:fX}{n m}(h:S.OK n)(j:n<=m):S.OK m:=
 {h with many:=gC h.many j,each:=λp i=>by obtain⟨a,b,c,d,e,f,g⟩:=h.each p i;exact⟨a,b,c,d,e,aA,g⟩}
theorem Dg{ret room:Int}(h:0<=ret/\ret<=100000)(k:1<=room/\room<=60):(kF ret room).OK 0 where
 ret:=h
 room:=k
 inc:=List.Pairwise.nil
 time:=λe c=>by simp[kF]at c
 many:=aX
 kept:=by simp[kF];omega
 last:=.inr ⟨rfl,rfl⟩
 ZT:=λd b=>by simp[kF]at b
 nodup:=by simp[kF]
 few:=by simp[kF]
 each:=λp a=>by simp[kF]at a
 nodes:=by simp[kF,iI,tT]
theorem DH(t:Int):∀l:aB nz,lf t l<=l.length
 |[]=>aX
 |e::l=>by have:=DH t l;simp only[lf];split<;>simp<;>omega
theorem Ka(t:Int):∀(l:aB nz),∀e∈l.take (lf t l),e.1<t
 |[],e,h=>by simp[lf]at h
 |a::l,e,h=>by
  simp only[lf]at h
  split at h
  .rename_i b
   rw[List.take_succ_cons]at h
   obtain rfl|h:=gp.1 h
   .exact b
   .exact Ka t l e h
  .simp at h
theorem VZ{S n}(h:S.OK n)(t):rU S t<=S.bH.length:=by
 have:=DH (t-S.ret) (S.bH.drop S.off);have:=h.last;simp only[rU,nQ]at*;obtain h|⟨b,a⟩:=h.last
 .omega
 .simp[b,a]at*;omega
theorem VL{S n}(h:S.OK n){t}(c:nZ S t=false):∀e∈S.bH,e.1<t:=by
 intro e b;unfold nZ at c;obtain⟨a,d⟩:∃a,S.bH.getLast?=some a:=by
  cases f:S.bH.getLast? with
  |none=>rw[List.getLast?_eq_none_iff.1 f]at b;cases b
  |some a=>exact⟨a,rfl⟩
 rw[d]at c;simp at c;let⟨l,hl2⟩:=List.getLast?_eq_some_iff.1 d;let hi:=h.inc;rw[hl2]at hi b;obtain b|b:=i_.1 b
 .have:=(Hu.1 hi).2.2 e b a aE;omega
 .simp at b;subst b;omega
theorem H9{S n}(h:S.OK n){t A}(c:eJ S t A=0):(S.take t A).OK (n+1):=by
 unfold eJ at c;split at c
 .cases c
 rename_i m;split at c
 .cases c
 split at c
 .cases c
 rename_i s;split at c
 .cases c
 rename_i D;let g:=VL h (t:=t) (by simpa using λe=>m (.inr (.inr e)));let C:=VZ h t;simp only[not_or,Int.not_lt]at m;refine⟨h.ret,h.room,?_,?_,?_,?_,?_,?_,?_,?_,?_,?_⟩
 .exact Hu.2 ⟨h.inc,aE,λa x b w=>by simp at w;subst w;exact g a x⟩
 .intro e c;rcases i_.1 c with c|c
  .exact h.time e c
  .simp at c;subst c;exact⟨m.1,m.2.1⟩
 .have:=h.many;simp[fX.take];omega
 .simp only[fX.take,kt,List.length_singleton];omega
 .left;simp only[fX.take,kt,List.length_singleton];omega
 .intro d f e i;let v:(S.take t A).bH=S.bH++[(t,A)]:=rfl;rw[v,List.getLast?_append]at i;simp at i;subst i;let z:(S.take t A).off=rU S t:=rfl;rw[v,z,Fc C]at f;unfold rU at f;rw[List.take_add]at f;obtain j|j:=i_.1 f
  .let hm':=g d (F_ j);obtain o|⟨_,B⟩:=h.last
   .obtain⟨l,i⟩:∃l,S.bH.getLast?=some l:=by
     cases y:S.bH.getLast? with
     |none=>rw[List.getLast?_eq_none_iff.1 y]at o;simp at o
     |some a=>exact⟨a,rfl⟩
    have:=h.ZT d j l i;have:=g l (List.mem_of_getLast? i);show d.1<t-S.ret;omega
   .rw[B]at j;simp at j
  .exact(Ka (t-S.ret) (S.bH.drop S.off)) d j
 .have:(S.take t A).aU.map (·.name)=S.aU.map (·.name):=by simp[fX.take,Function.comp_def]
  rw[this];exact h.nodup
 .simp[fX.take];exact h.few
 .intro p u;simp only[fX.take,iX]at u;obtain⟨q,r,rfl⟩:=u;let k:=h.each q r;have:q.str.length<30:=by
   simp only[zY,oX,not_exists,not_and]at s;have:=s q r;omega
  refine⟨k.1,k.2.1,k.2.2.1,k.2.2.2.1,k.2.2.2.2.1,?_,?_⟩
  .show q.cO<=_;omega
  .simp;omega
 .have:(S.take t A).aU.map (·.x)=S.aU.map (·.x):=by simp[fX.take,Function.comp_def]
  rw[this];exact h.nodes
theorem pG{S n}(h:S.OK n)(t A):(jc S t A).OK (n+1):=by
 unfold jc;split
 .rename_i a;exact H9 h a
 .exact h.mono (rj _)
theorem EP(t xs):t∈tT xs↔∃x∈xs,t∈q_ (aN x):=by
 suffices h:∀(xs:aB (BT c_))(L:aB (aB aV)),t∈xs.foldl (λL x=>dC L (aN x)) L↔t∈L\/∃x∈xs,t∈q_ (aN x)by
  unfold tT;simpa using h xs []
 intro xs
 induction xs with
 |nil=>intro L;simp
 |cons x xs a=>intro L;rw[Cm,a,pA];simp[or_assoc]
theorem Jn(xs):(tT xs).Nodup:=by
 suffices h:∀(xs:aB (BT c_))(L:aB (aB aV)),L.Nodup->(xs.foldl (λL x=>dC L (aN x)) L).Nodup from h xs [] List.nodup_nil
 intro xs
 induction xs with
 |nil=>intro L h;exact h
 |cons x xs a=>intro L h;exact a _ (qM _ _ h)
theorem p_{xs a}(h:∀x∈xs,x∈a):iI xs<=iI a:=
 Eh _ _ (Jn xs) λt b=>by
  let⟨x,hx,h1⟩:=(EP t xs).1 b
  exact(EP t a).2 ⟨x,h x hx,h1⟩
theorem vD{xs b}(h:xs.Perm b):iI xs=iI b:=
 Nat.le_antisymm (p_ λ_ a=>h.mem_iff.1 a) (p_ λ_ a=>h.mem_iff.2 a)
theorem nG{S name a x e}(h:kG S name a=(some x,e)):iY name=true/\cV a=(some x,0)/\bD x<=S.ret:=by
 unfold kG at h;split at h
 .cases h
 .rename_i c;split at h
  .cases h
  .rename_i y m b;split at h
   .cases h
   .rename_i d;cases h;exact⟨by simpa using c,by rw[b,(dH b).2.2.2],aA⟩
theorem MU{S name a e}(h:kG S name a=(none,e)):(iY name=false/\e=3)\/(iY name=true/\cV a=(none,e))\/∃x,iY name=true/\cV a=(some x,0)/\S.ret<bD x/\e=4:=by
 unfold kG at h;split at h
 .rename_i c;cases h;exact .inl ⟨c,rfl⟩
 .rename_i c;let Z6:iY name=true:=by simpa using c
  split at h
  .rename_i m b;cases h;exact .inr (.inl ⟨Z6,b⟩)
  .rename_i y m b;split at h
   .rename_i d;cases h;exact .inr (.inr ⟨y,Z6,by rw[b,(dH b).2.2.2],d,rfl⟩)
   .cases h
theorem get_some{S:fX}{name p}(h:S.get name=some p):p∈S.aU/\p.name=name:=
 ⟨List.mem_of_find?_eq_some h,by simpa using List.find?_some h⟩
theorem get_none{S:fX}{name}:S.get name=none↔∀p∈S.aU,p.name≠name:=by
 unfold fX.get;rw[List.find?_eq_none];simp
theorem oT{S:fX}{name}:S.has name=true↔∃p∈S.aU,p.name=name:=by
 unfold fX.has;simp
theorem qY{l:aB Ag}(c:(l.map (·.name)).Nodup){p}(b:p∈l):l.find? (λq=>decide (q.name=p.name))=some p:=by
 induction l with
 |nil=>cases b
 |cons a l d=>
  rw[gW,HU]at c;by_cases h:a.name=p.name
  .rw[List.find?_cons_of_pos (by simpa using h)];obtain rfl|b:=gp.1 b
   .rfl
   .exact absurd (iX.2 ⟨p,b,h.symm⟩) c.1
  .rw[List.find?_cons_of_neg (by simpa using h)];obtain rfl|b:=gp.1 b
   .exact absurd rfl h
   .exact d c.2 b
theorem get_mem{S:fX}(b:(S.aU.map (·.name)).Nodup){p}(a:p∈S.aU):S.get p.name=some p:=qY b a
theorem Mi{S n}(h:S.OK n)(name d):(kK S name d).2.2.OK (n+1):=by
 let f:=h.mono (rj n);unfold kK;cases k:kG S name d with
 |mk o e=>
  cases o with
  |none=>exact f
  |some x=>
   let⟨g1,g2,g3⟩:=nG k;let⟨r1,r2,r3,_⟩:=dH g2;simp only;split
   .exact f
   rename_i l;split
   .exact f
   rename_i q;split
   .exact f
   rename_i m;let g:∀p∈S.aU,p.name≠name:=λp c e=>l (oT.2 ⟨p,c,e⟩);refine{f with nodup:=?_,few:=?_,each:=?_,nodes:=?_}
   .rw[l8];exact L5.2 ⟨h.nodup,aE,λa j b i=>by
     simp at i;obtain⟨p,c,rfl⟩:=iX.1 j;rw[i];exact g p c⟩
   .simp;omega
   .intro p c;obtain c|c:=i_.1 c
    .exact f.each p c
    .simp at c;subst c;exact⟨g1,⟨r1,r2⟩,r3,g3,Int.le_refl _,by show(1:Int)<=_;omega,aE⟩
   .simp only[l8,gW,sD];omega
theorem Hi{S:fX}{name f}(a:∀p,(f p).name=p.name):(S.upd name f).aU.map (·.name)=S.aU.map (·.name):=by
 unfold fX.upd;rw[Co];apply E6;intro p _;simp only[Function.comp];split
 .exact a p
 .rfl
theorem Db{S:fX}{name f p}(h:p∈(S.upd name f).aU):(∃q∈S.aU,q.name=name/\p=f q)\/(p∈S.aU/\p.name≠name):=by
 obtain⟨q,a,rfl⟩:=iX.1 h;by_cases e:q.name=name
 .rw[bY e];exact .inl ⟨q,a,e,rfl⟩
 .rw[bN e];exact .inr ⟨a,e⟩
theorem Df{S n}(h:S.OK n)(name b):(gb S name b).2.2.OK (n+1):=by
 let c:=h.mono (rj n);unfold gb;cases d:kG S name b with
 |mk o e=>
  cases o with
  |none=>exact c
  |some x=>
   let⟨g1,g2,g3⟩:=nG d;let⟨r1,r2,r3,_⟩:=dH g2;simp only;split
   .exact c
   rename_i p k;split
   .exact c
   rename_i g;refine{c with nodup:=?_,few:=?_,each:=?_,nodes:=?_}
   .rw[Hi];exact h.nodup;intro p;rfl
   .simp only[fX.upd,ux];exact h.few
   .intro q a;obtain⟨u,f,e,rfl⟩|⟨a,_⟩:=Db a
    .have:=h.each u f;exact⟨this.1,⟨r1,r2⟩,r3,g3,by show 1<=u.cO+1;omega,by show u.cO+1<=_;omega,this.2.2.2.2.2.2⟩
    .exact c.each q a
   .refine gC (p_ λy j=>?_) (Nat.le_of_not_lt g);obtain⟨q,a,rfl⟩:=iX.1 j;unfold Lo;obtain⟨q,a,e,rfl⟩|⟨a,i⟩:=Db a
    .simp
    .exact List.mem_append_left _ (iX.2 ⟨q,HZ.2 ⟨a,by simpa using i⟩,rfl⟩)
theorem PB{S n}(h:S.OK n)(name):(iM S name).2.OK (n+1):=by
 let b:=h.mono (rj n);unfold iM;split
 .let a:(S.aU.filter λp=>decide (p.name≠name)).Sublist S.aU:=List.filter_sublist;exact{b with nodup:=(a.map _).nodup h.nodup,few:=gC a.length_le h.few,each:=λp c=>b.each p (a.subset c),nodes:=gC (p_ λy d=>(a.map _).subset d) h.nodes}
 .exact b
theorem Xm{S n}(h:S.OK n)(name k):(qR S name k).2.OK (n+1):=by
 let b:=h.mono (rj n);unfold qR;split
 .exact b
 split
 .exact b
 refine{b with nodup:=?_,few:=?_,each:=?_,nodes:=?_}
 .rw[Hi];exact h.nodup;intro p;rfl
 .simp only[fX.upd,ux];exact h.few
 .intro q a;obtain⟨u,c,e,rfl⟩|⟨a,_⟩:=Db a
  .have:=b.each u c;exact⟨this.1,this.2.1,this.2.2.1,this.2.2.2.1,this.2.2.2.2.1,this.2.2.2.2.2.1,bI⟩
  .exact b.each q a
 .refine gC (p_ λy d=>?_) h.nodes;obtain⟨q,a,rfl⟩:=iX.1 d;obtain⟨u,c,e,rfl⟩|⟨a,f⟩:=Db a
  .exact iX.2 ⟨u,c,rfl⟩
  .exact iX.2 ⟨q,a,rfl⟩
theorem EJ{L M}(h:lz L)(k:lz M)(d:L.Perm M):L=M:=
 List.Perm.eq_of_pairwise (le:=λa b=>nW a b<0) (λa b _ _ e c=>by
  have:=(uL _ _).1 e
  let c:Lib.compareBytes b.data.toList a.data.toList<0:=c
  omega) h k d
end Ev
namespace Ev
open Tryz Go.RowKit Go.Deep Lf
abbrev CE:=nz×aQ a_×Nat
abbrev CP:=Ag×aF×aF
def ZQ(c:CE):aB aF:=[Iv c.1.1,.slice c.2.1 c.1.2.length c.2.2]
def Jx(c:CP):aB aF:=[.string c.1.name,c.2.1,Iv c.1.cO,c.2.2]
def Jz(v:Vd):aB aF:=[Iv v.ev,Iv v.time,Iv v.cO,.bool v.ok]
def Sq(C:aB CE):aB aF:=(C.map ZQ).flatten
def uy(L:aB CP):aB aF:=(L.map Jx).flatten
def kZ(l:aB Vd):aB aF:=(l.map Jz).flatten
structure eT(O:Nat->Prop)(S:fX)(yb:Nat)(ev pv:aF)(C:aB CE)(L:aB CP)(w:aC):Prop where
 cell:w.heap[yb]?=some (.cells #[Iv S.ret,Iv S.room,ev,Iv ((S.off:Int)+1),pv] 79 (0,0))
 hC:C.map (·.1)=S.bH
 hL:L.map (·.1)=S.aU
 bH:w.ownsRow 0 193 2 ev C.length (Sq C)
 aU:w.ownsRow 0 86 4 pv L.length (uy L)
 atoms:∀c∈C,eQ w c.2.1 c.1.2/\c.1.2.length<=c.2.2/\c.1.2.length<=10/\∀a,c.2.1=some a->O a.block/\∃cs m,w.heap[a.block]?=some (.cells cs 9 m)
 eE:∀l∈L,bX 0 w l.1.x l.2.1
 fV:∀l∈L,w.ownsRow 0 199 4 l.2.2 l.1.str.length (kZ l.1.str)
 apart:L.Pairwise λa b=>∀g,a.2.2.ownBlock=some g->b.2.2.ownBlock≠some g
 own:O yb/\(∀g,ev.ownBlock=some g->O g)/\(∀g,pv.ownBlock=some g->O g)/\∀l∈L,∀g,l.2.2.ownBlock=some g->O g
def uC(O:Nat->Prop)(S:fX)(yb:Nat)(w:aC):Prop:=∃ev a C L,eT O S yb ev a C L w
theorem eQ.spare{P w e ao A}(h:eQ w ao A)(d:aI P w e)(g:∀a,ao=some a->¬P a.block):eQ e ao A:=λc=>by
 let⟨b,off,h1,h2,h3⟩:=h c
 exact⟨b,off,h1,fW h2 d.size,λj f=>by rw[fT (a:=(Ad b (off+j))) (d.block b h2 (g _ h1))];exact h3 j f⟩
theorem cG{P w a base size n e v xs}(h:w.ownsRow base e size v n xs)(c:aI P w a)(d:∀g,v.ownBlock=some g->¬P g):a.ownsRow base e size v n xs:=
 eF h λk b=>c.block k (h.lt k b).2 (d k b)
theorem fQ{P:Nat->bQ}{w f:aC}(a:aI P w f)(d:dP w P [252]):∀{x:BT c_}{v:aF},bX 0 w x v->bX 0 f x v
 |.nil,_,h=>h
 |.node _ _ _ l r,_,⟨b,j,m,e,k,c,g,i⟩=>⟨b,j,m,e,k,(a.block b (aL c) (d b _ _ _ c aE)).trans c,fQ a d g,fQ a d i⟩
theorem eT.move{O P:Nat->bQ}{S:fX}{yb:Nat}{ev n:aF}{C:aB CE}{L:aB CP}{w o:aC}(h:eT O S yb ev n C L w)(d:aI P w o)(e:∀b,O b->¬P b)(q:dP w P [252]):eT O S yb ev n C L o where
 cell:=(d.block yb (aL h.cell) (e _ h.own.1)).trans h.cell
 hC:=h.hC
 hL:=h.hL
 bH:=cG h.bH d λg i=>e g (h.own.2.1 g i)
 aU:=cG h.aU d λg i=>e g (h.own.2.2.1 g i)
 atoms:=λc p=>by
  let⟨a1,a2,a3,a4⟩:=h.atoms c p
  refine⟨a1.spare d λa f=>e _ (a4 a f).1,a2,a3,λa f=>⟨(a4 a f).1,?_⟩⟩
  let⟨cs,m,k⟩:=(a4 a f).2
  exact⟨cs,m,d.get k (e _ (a4 a f).1)⟩
 eE:=λl j=>fQ d q (h.eE l j)
 fV:=λl j=>cG (h.fV l j) d λg i=>e g (h.own.2.2.2 l j g i)
 apart:=h.apart
 own:=h.own
theorem eT.below{O S yb ev a C L w b}(h:eT O S yb ev a C L w)(c:Bl w b):eT O S yb ev a C L b:=
 h.move (P:=λ_=>False) (aI.aR c) (λ_ _ x=>x) (dP.none _ _)
theorem bT{w:aC}{e size n v xs}(h:w.ownsRow 0 e size v n xs):∃o cap,v=.slice o n cap/\n<=cap/\cap<=maxLen/\(0<n->∃g,o=some (Ad g 0)/\g<w.heap.size/\(.slice o n cap:aF).ownBlock=some g/\∀j x,xs[j]?=some x->w.cell? (Ad g j)=some x):=by
 let h':=h;obtain⟨l,⟨rfl,a⟩|⟨g,cap,i,rfl,k,d,f,c,_⟩⟩:=h
 .exact⟨none,0,by rw[a],aA,by simp[maxLen],λh=>aA⟩
 .exact⟨_,cap,rfl,f,c,λ_=>⟨g,rfl,aL d,rfl,λj x b=>d_ h' rfl b⟩⟩
theorem OH{C i k c v}(h:C[i]?=some c)(a:(ZQ c)[k]?=some v):(Sq C)[i*2+k]?=some v:=jh ZQ 2 (λ_=>rfl) C i k c v h a
theorem jx{L i k c v}(h:L[i]?=some c)(a:(Jx c)[k]?=some v):(uy L)[i*4+k]?=some v:=jh Jx 4 (λ_=>rfl) L i k c v h a
theorem QT{O S n yb ev c C L w}(h:eT O S yb ev c C L w)(a:S.OK n)(l:n<=1000000000):
  Calls prog 57 #[Pt yb] w λe g=>e=.returned (Iv (y_ S))/\Bl w g:=by
 obtain⟨o,cap,rfl,k,j,_⟩:=bT h.bH;have i:C.length=S.bH.length:=by rw[<-h.hC,ux]
 have f:S.off<=S.bH.length:=by rcases a.last with h|⟨_,h⟩<;>omega
 have d:=a.many;have c2:w.cell? (Ad yb 2)=some (.slice o C.length cap):=aD h.cell rfl;have m:w.cell? (Ad yb 3)=some (Iv ((S.off:Int)+1)):=aD h.cell rfl;have b:Hid ((y_ S:Int)=(C.length:Int)-((S.off:Int)+1)+1):=by show _=_;unfold y_;omega
 generalize y_ S=q at*;go_enter func57,ntmps57;go_wp2
 go_region
 go_wp2;go_ret;exact⟨iC (by rw[b.out];try omega),aT.drew⟩
def OG(name:aZ):aB Ag->Nat->Int
 |[],_=>-1
 |p::l,i=>if p.name=name then(i:Int)else OG name l (i+1)
theorem Mz{a b:aZ}(h:¬a=b):(a.toList==b.toList)=false:=by
 simp only[ri];intro e;rw[H3,H3]at e;cases a;cases b;exact h (og _ (Array.toList_inj.1 e))
theorem zv{O S n yb ev y C L w}(h:eT O S yb ev y C L w)(u:S.OK n)(name):
  Calls prog 110 #[Pt yb,.string name] w λe x=>e=.returned (Iv (OG name S.aU 0))/\x=w:=by
 obtain⟨o,cap,rfl,B,F,b⟩:=bT h.aU;have s:L.length=S.aU.length:=by rw[<-h.hL,ux]
 have m:=u.few;have G:w.cell? (Ad yb 4)=some (.slice o L.length cap):=aD h.cell rfl;have z:Hid (∀i,i<L.length->∃g p,o=some (Ad g 0)/\w.cell? (Ad g (i*4))=some (.string p)/\OG name (S.aU.drop i) i=if p=name then(i:Int)else OG name (S.aU.drop (i+1)) (i+1)):=λi hi=>by
  obtain⟨g,rfl,_,_,j⟩:=b aA;refine⟨g,L[i].1.name,rfl,j _ _ (jx (k:=0) (fG hi) rfl),?_⟩;rw[oV (by omega:i<S.aU.length)];have:S.aU[i]'aA=L[i].1:=by
   have r:S.aU[i]?=some L[i].1:=by rw[<-h.hL,kY,fG hi];rfl
   rw[fG aA]at r;exact oW r
  rw[OG,this]
 have A:Hid (OG name (S.aU.drop L.length) L.length=-1):=by show _=_;rw[s,List.drop_length];rfl
 have v:Hid (OG name (S.aU.drop 0) 0=OG name S.aU 0):=rfl;generalize OG name S.aU 0=res at*;generalize q:L.length=len at*;go_enter func110,ntmps110;go_wp2;go_loopw [5] (λl wr=>∃i:Nat,l=Iv i/\i<=len/\Hid (wr=w)/\Hid (OG name (S.aU.drop i) i=res)) (λl _=>len-(intOf l).toNat)
 case atStart=>exact⟨0,rfl,cD,rfl,v⟩
 case round=>
  obtain⟨i,rfl,t,d,a⟩:=hrel;obtain rfl:=d.out;by_cases hi:i<len
  .obtain⟨g,p,rfl,E,f⟩:=z.out i hi;rw[f]at a;by_cases c:p=name
   .subst c;rw[bY rfl]at a;go_wp2;go_ret;exact⟨iC a.out,rfl⟩
   .rw[bN c]at a;have D:=Mz c;go_wp2
    try go_big_round
    exact⟨⟨i+1,dU,hi,trivial,a⟩,zm⟩
  .obtain rfl:i=len:=by omega
   rw[A.out]at a;go_wp2;go_ret;exact⟨iC a.out,rfl⟩
end Ev
namespace Ev
open Go.Deep (BT)
def n5(t lo hi:Int)(k:Bool)(p:aB nz->Bool):aB nz->Bool
 |[]=> !k
 |e::es=>if lo<=t-e.1/\t-e.1<=hi/\p (e::es)=k then k else n5 t lo hi k p es
def oA(t lo hi:Int)(p q:aB nz->Bool):aB nz->Bool
 |[]=>false
 |e::es=>if lo<=t-e.1/\t-e.1<=hi/\q (e::es)=true then true else if p (e::es)=false then false else oA t lo hi p q es
def Down(h:aB nz):Prop:=h.Pairwise λa b=>b.1<a.1
theorem Gw{t lo hi:Int}{k:Bool}{p:aB nz->Bool}:∀h:aB nz,(∀e∈h,hi<t-e.1)->n5 t lo hi k p h= !k
 |[],_=>rfl
 |e::a,h=>by
  have:=h e aE
  rw[n5,bN aA]
  exact Gw a λe he=>h e (by simp[he])
theorem EF{t lo hi:Int}{p q:aB nz->Bool}:∀h:aB nz,(∀e∈h,hi<t-e.1)->oA t lo hi p q h=false
 |[],_=>rfl
 |e::a,h=>by
  have:=h e aE
  rw[oA,bN aA]
  split
  .rfl
  .exact EF a λe he=>h e (by simp[he])
theorem xL{t lo hi:Int}{p:aB nz->Bool}:∀h:aB nz,Down h->n5 t lo hi true p h=oJ t lo hi p h
 |[],_=>rfl
 |e::d,h=>by
  let⟨h1,h2⟩:=Cf.1 h
  rw[oJ]
  split
  .exact Gw (e::d) λa c=>by
    obtain rfl|c:=gp.1 c
    .omega
    .have:=h1 a c;omega
  .rw[n5,xL d h2]
   by_cases b:t-e.1>=lo/\p (e::d)=true
   .rw[bY b,bY ⟨b.1,aA,b.2⟩]
   .rw[bN b,bN λy=>b ⟨y.1,y.2.2⟩]
theorem Gx{t lo hi:Int}{p:aB nz->Bool}:∀h:aB nz,n5 t lo hi false p h= !n5 t lo hi true (λh=> !p h) h
 |[]=>rfl
 |e::a=>by
  simp only[n5,Gx a,Bool.not_eq_true']
  split<;>rfl
theorem He{t lo hi:Int}{p q:aB nz->Bool}:∀h:aB nz,Down h->oA t lo hi p q h=oB t lo hi p q h
 |[],_=>rfl
 |e::d,h=>by
  let⟨h1,h2⟩:=Cf.1 h
  rw[oB]
  split
  .exact EF (e::d) λa c=>by
    obtain rfl|c:=gp.1 c
    .omega
    .have:=h1 a c;omega
  .rw[oA,He d h2]
   by_cases b:t-e.1>=lo/\q (e::d)=true
   .rw[bY b,bY ⟨b.1,aA,b.2⟩]
   .rw[bN b,bN λy=>b ⟨y.1,y.2.2⟩]
theorem Az{bH:aB nz}(h:bH.Pairwise λa b=>a.1<b.1)(i):Down (bH.take i).reverse:=
 List.pairwise_reverse.2 (h.sublist (List.take_sublist i bH))
theorem oa{bH:aB nz}{i e}(h:bH[i]?=some e):(bH.take (i+1)).reverse=e::(bH.take i).reverse:=by
 rw[ym,h];simp
section
variable{bH:aB nz}{i:Nat}{e:nz}{b o:Nat}{a:c_}{l r:BT c_}
theorem Un(hi:bH.Pairwise λa b=>a.1<b.1)(he:bH[i]?=some e)(h:a.op=79):iP (.node b o a l r) bH i=n5 e.1 a.lo a.hi true (dQ l) (bH.take (i+1)).reverse:=by
 rw[xL _ (Az hi _)];unfold iP;rw[oa he,zJ _ _ h]
theorem N7(hi:bH.Pairwise λa b=>a.1<b.1)(he:bH[i]?=some e)(h:a.op=72):iP (.node b o a l r) bH i=n5 e.1 a.lo a.hi false (dQ l) (bH.take (i+1)).reverse:=by
 rw[Gx,xL _ (Az hi _)];unfold iP;rw[oa he,N_ _ _ h]
theorem Q1(hi:bH.Pairwise λa b=>a.1<b.1)(he:bH[i]?=some e)(h:a.op=83):iP (.node b o a l r) bH i=oA e.1 a.lo a.hi (dQ l) (dQ r) (bH.take (i+1)).reverse:=by
 rw[He _ (Az hi _)];unfold iP;rw[oa he,wL _ _ h]
end
theorem N8{bH i e d}(he:bH[i+1]?=some e)(c:bH[i]?=some d){b o a l r}(h:a.op=89):iP (.node b o a l r) bH (i+1)=(decide (a.lo<=e.1-d.1)&&decide (e.1-d.1<=a.hi)&&iP l bH i):=by
 unfold iP;rw[oa he,qi _ _ h,oa c];rfl
theorem Tx{bH t lo hi k l j e}(h:bH[j]?=some e):n5 t lo hi k (dQ l) (bH.take (j+1)).reverse=if lo<=t-e.1/\t-e.1<=hi/\iP l bH j=k then k else n5 t lo hi k (dQ l) (bH.take j).reverse:=by
 unfold iP;rw[oa h,n5]
theorem Q'{bH}{t lo hi}{l r}{j}{e}(h:bH[j]?=some e):oA t lo hi (dQ l) (dQ r) (bH.take (j+1)).reverse=if lo<=t-e.1/\t-e.1<=hi/\iP r bH j=true then true else if iP l bH j=false then false else oA t lo hi (dQ l) (dQ r) (bH.take j).reverse:=by
 unfold iP;rw[oa h,oA]
end Ev
end Go.Proofs.YtpbbmagjhkakgaaGreatDoor
