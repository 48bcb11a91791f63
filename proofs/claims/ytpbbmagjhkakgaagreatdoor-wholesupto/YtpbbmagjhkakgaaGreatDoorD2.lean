import Derived.Test.YtpbbmagjhkakgaaGreatDoorC6
import Derived.Test.YtpbbmagjhkakgaaGreatDoorC9
namespace Go.Proofs.YtpbbmagjhkakgaaGreatDoor
set_option maxHeartbeats 8000000
set_option maxRecDepth 100000
namespace Ev
open Tryz Go.RowKit Go.Deep Go.Maps Lf
def Su:Pe:=⟨0,0,[],[]⟩
def kZ(K:aB Key)(E:aB Pe):Nat->aB Pe
 |0=>[]
 |j+1=>kZ K E j++[eG (kZ K E j).reverse K (E.getD j Su).bare]
theorem rZ(K:aB Key)(E:aB Pe):∀j,(kZ K E j).length=j
 |0=>rfl
 |j+1=>by simp[kZ,rZ K E j]
theorem Et(K:aB Key)(E:aB Pe):∀j,∀e∈kZ K E j,e.so.length=K.length+1
 |0,e,h=>by simp[kZ]at h
 |j+1,e,h=>by
  obtain h|h:=jc.1 h
  .exact Et K E j e h
  .simp only[sO]at h
   subst h
   rw[(iX _ K _).2.2.2.1]
   simp[Pe.bare]
   omega
theorem BW:∀(C:aB jb)(j:Nat)(c:jb)(a sl sc:Nat),C[j]?=some c->(iz C).set (j*4+3) (Sl a sl sc)=iz (C.set j (c.gp a sl sc))
 |[],j,c,a,sl,sc,h=>by simp at h
 |d::C,0,c,a,sl,sc,h=>by
  simp at h
  subst h
  rfl
 |d::C,j+1,c,a,sl,sc,h=>by
  let i:=BW C j c a sl sc (by simpa using h)
  let e:iz (d::C)=dF d++iz C:=rfl
  let g:(d::C).set (j+1) (c.gp a sl sc)=d::C.set j (c.gp a sl sc):=rfl
  let f:iz (d::C.set j (c.gp a sl sc))=dF d++iz (C.set j (c.gp a sl sc)):=rfl
  let b:(dF d).length=4:=rfl
  rw[e,g,f,<-i,List.set_append]
  rw[bN (by rw[b];omega),b]
  congr 2
  omega
structure J7(aY:Nat)(rt rm pv:aE)(no:aR bC)(bZ:Nat)(K:aB Key)(g cap:Nat)(C:aB jb)(E:aB Pe)(w:aC)(j:Nat)(Cs:aB jb)(wr:aC):Prop where
 hw:wr.heap[aY]?=some (.cells #[rt,rm,.slice no K.length bZ,Sl g C.length cap,pv] 153 (0,0))
 bH:fL wr (Sl g C.length cap) Cs
 len:Cs.length=C.length
 same:∀(i:Nat) c c0,Cs[i]?=some c->C[i]?=some c0->c.number=c0.number/\c.time=c0.time/\c.ao=c0.ao/\c.al=c0.al/\c.ac=c0.ac
 done:∀(i:Nat) c e,i<j->Cs[i]?=some c->(kZ K E j)[i]?=some e->gU wr c e
 typed:∀c∈Cs,FQ wr c
 later:∀i,j<=i->Cs[i]?=C[i]?
 sp:c_ (λb=>b=aY\/b=g) w wr
theorem gU.pre{w c e}(h:gU w c e):uT w c e:=⟨h.number,h.time,h.low,h.al,h.DI,h.atoms⟩
theorem QZ(aY M R nv Q no bZ K g cap C E w)
  (hw:w.heap[aY]?=some (.cells #[M,R,nv,Sl g C.length cap,Q] 153 (0,0))) (hE:fL w (Sl g C.length cap) C) (ax:C.length=E.length) (ah:∀(i:Nat) c e,C[i]?=some c->E[i]?=some e->gU w c e) (hT:∀c∈C,FQ w c) (hn:C.length<=1000)
  (hK:K.length<=1000) (aw:K.length<=bZ) (hN:km w no K) (ai:∀a,no=some a->∃A m,w.heap[a.block]?=some (.cells A 226 m)) (ae:∀k∈K,nL k.op) (an:xw K):
  Calls prog 142 #[Pt aY,.slice no K.length bZ] w λe w'=>e=.returned (.tuple #[])/\∃l,J7 aY M R Q no bZ K g cap C E w C.length l w':=by
 have b0:=aN hw;have b1:=(hE.lt g rfl).2;have⟨cg0,XE⟩:=cE hE (g:=g) rfl;have Z:g≠aY:=by
  rintro rfl;rw[hw]at XE;cases XE
 have ay:C.length<=cap:=by
  obtain⟨f,_⟩|⟨g',cp,af,f,_,_⟩:=hE.cases
  .cases f
  .cases af;exact f
 have a8:∀a,no=some a->a.block≠g/\a.block≠aY/\a.block<w.heap.size:=λa s=>by
  have⟨A,m,f⟩:=ai a s;refine⟨?_,?_,aN f⟩
  .intro e;rw[e,XE]at f;cases f
  .intro e;rw[e,hw]at f;cases f
 have az:=cK hw 2;have c2:=aD (i:=2) hw rfl;have c3:=aD (i:=3) hw rfl;have u:J7 aY M R Q no bZ K g cap C E w 0 C (w.setCell (Ad aY 2) (.slice no K.length bZ)):=by
  have ho:Only aY w (w.setCell (Ad aY 2) (.slice no K.length bZ)):=(Only.refl aY w).setCell (p:=(Ad aY 2)) (.inl rfl) _;have hs:c_ (λb=>b=aY\/b=g) w (w.setCell (Ad aY 2) (.slice no K.length bZ)):=c_.qR ho λx T=>.inl T;refine⟨dS (i:=2) hw,eF hE λb hb=>ho.block b (hE.lt b hb).2 (by cases hb;exact Z),rfl,λi c c0 f r=>by rw[f]at r;cases r;exact⟨rfl,rfl,rfl,rfl,rfl⟩,λi c e h=>aA,λc G=>?_,λi _=>rfl,hs⟩;refine(hT c G).spare hs (λa s=>?_) λa s=>?_
  .have⟨A,m,f⟩:=(hT c G).so a s;rintro(e|e)
   .rw[e,hw]at f;cases f
   .rw[e,XE]at f;cases f
  .have⟨A,m,f⟩:=(hT c G).ao a s;rintro(e|e)
   .rw[e,hw]at f;cases f
   .rw[e,XE]at f;cases f
 have H:∀(j:Nat)(l:aB jb)(wr:aC),j<C.length->J7 aY M R Q no bZ K g cap C E w j l wr->Calls prog 132 #[.slice no K.length bZ,Sl g (j+1) cap] wr λe W'=>(∃v,e=.returned v)/\∃I,J7 aY M R Q no bZ K g cap C E w (j+1) I W':=by
  intro j l wr hj o;have F:j<l.length:=o.len▸hj;have W:j<E.length:=aA;have ZN:wr.ownsRow 0 159 4 (Sl g l.length cap) l.length (iz l):=by have:=o.bH;rw[<-o.len]at this;exact this
  have⟨cg,sS,TA,hcp,Z0,aaQ,aaR⟩:=H2 ZN rfl;obtain⟨c,G⟩:∃c,l[j]?=some c:=⟨l[j],fH F⟩;have N:=(o.later j aZ)▸G;have D:∀i,l.getD i c=(l[i]?).getD c:=λi=>by rw[qB]
  have X:l.getD j c=c:=by rw[D,G];rfl
  have S:=rZ K E j;have O:∀i,i<j->(kZ K E j++[E[j]]).getD i Su=(kZ K E j).getD i Su:=λi hi=>by
   rw[qB,qB,uw aA]
  have aa:(kZ K E j++[E[j]]).getD j Su=E[j]:=by
   rw[qB,sK aA,S];simp
  have y:∀i,i<l.length->FQ wr (l.getD i c):=λi hi=>o.typed _ (by rw[D,fH hi];exact xu hi);have L:∀a A t m,w.heap[a]?=some (.cells A t m)->t≠153->t≠159->¬(a=aY\/a=g):=λa A t m f r h3 h4=>by
   obtain e|e:=h4
   .rw[e,hw]at f;injection f with f;injection f with _ f _;exact r f.symm
   .rw[e,XE]at f;injection f with f;injection f with _ f _;exact h3 f.symm
  have ad:uT wr c E[j]:=by
   have f:=(ah j c E[j] N (fH W)).pre;refine⟨f.number,f.time,f.low,f.al,f.DI,λak=>?_⟩;have⟨b,off,a1,a2,a3⟩:=f.atoms ak;have⟨A,m,k1⟩:=(hT c (iF N)).ao _ a1;exact⟨b,off,a1,fZ a2 o.sp.size,λq hq=>by rw[fP (o.sp.block b a2 (L b A 9 m k1 aG aG))];exact a3 q hq⟩
  have aj:=Cr no bZ K g cap j cg (λi=>l.getD i c) (λi=>(kZ K E j++[E[j]]).getD i Su) wr aA aA hK aw sS
   (λi k v hi hv=>by
    have B:i<l.length:=aA;have:(l.getD i c)=l[i]:=by rw[D,fH B];rfl
    rw[this]at hv;exact TA _ _ (jl dF 4 (λ_=>rfl) l i k l[i] v (fH B) hv))
   (hN.spare o.sp λa s=>by obtain⟨f,r,_⟩:=a8 a s;exact λh=>h.elim r f) (λa s=>(a8 a s).1) ae an
   (λi hi=>by
    have B:i<l.length:=aA;rw[O i hi];refine o.done i _ _ hi ?_ (by rw[qB,fH aA];rfl);rw[D,fH B];rfl)
   (λi hi=>by
    rw[O i hi];apply Et K E j _;rw[qB,fH aA];exact xu _)
   (λi hi=>(y i aA).off sS)
   (by show uT wr (l.getD j c) ((kZ K E j++[E[j]]).getD j Su);rw[X,aa];exact ad)
   (λa s=>by
    have:=(y j F).off sS;exact this.ao a s)
  apply aj.mono;rintro e W' ⟨sb,sc,au,rfl,s1,Y,s3,s4,s5⟩;refine⟨⟨_,rfl⟩,l.set j (c.gp sb (K.length+1) sc),?_⟩;have aq:fq (λi=>(kZ K E j++[E[j]]).getD i Su) j=(kZ K E j).reverse:=by
   rw[Z'' O];have:=DL (kZ K E j) Su;rw[S]at this;exact this
  have ag:E.getD j Su=E[j]:=by rw[qB,fH W];rfl
  have s5':gU W' (c.gp sb (K.length+1) sc) (eG (kZ K E j).reverse K (E.getD j Su).bare):=by
   have:=s5;simp only[aq,aa,X]at this;rw[ag];exact this
  refine⟨(Y.block aY (aN o.hw) λe=>Z e.symm).trans o.hw,?_,by rw[FK,o.len],?_,?_,?_,?_,o.sp.trans (c_.qR Y λx T=>.inr T)⟩
  .show W'.ownsRow 0 159 4 _ _ _;rw[FK,<-BW l j c sb (K.length+1) sc G];refine⟨by rw[FK];exact ZN.1,.inr ⟨g,cap,_,by rw[o.len],cC,s3,hcp,Z0,by simp[aaQ],?_⟩⟩;rw[Array.toList_setIfInBounds,List.take_set,aaR]
  .intro i d d0 f r;by_cases z:i=j
   .subst z;rw[rF F]at f;cases f;rw[N]at r;cases r;exact⟨rfl,rfl,rfl,rfl,rfl⟩
   .rw[yA λe=>z e.symm]at f;exact o.same i d d0 f r
  .intro i d e hi f r;by_cases z:i=j
   .subst z;rw[rF F]at f;cases f;rw[kZ,sK aA,S]at r;simp at r;subst r;exact s5'
   .rw[yA λe=>z e.symm]at f;rw[kZ,uw aA]at r;exact(o.done i d e aA f r).only ((o.typed d (iF f)).off sS) Y
  .intro d hd;obtain hd|rfl:=BD hd
   .have V:=o.typed d hd;have a6:=V.off sS;exact V.spare (c_.qR Y (P:=λb=>b=g) λx T=>T) a6.so a6.ao
   .have a7:=o.typed c (iF G);refine⟨λa s=>?_,λa s=>?_⟩
    .have:some ((Ad sb 0):bC)=some a:=s;cases this;exact⟨au,(0,0),s4⟩
    .have⟨A,m,k1⟩:=a7.ao a s;exact⟨A,m,(Y.block _ (aN k1) ((a7.off sS).ao a s)).trans k1⟩
  .intro i hi;rw[yA aA];exact o.later i aA
 have U:Hid (∀j l wr,J7 aY M R Q no bZ K g cap C E w j l wr->wr.cell? (Ad aY 3)=some (Sl g C.length cap)):=λj l wr h=>aD h.hw rfl;have b3:=U.out 0 C _ u;generalize hJ:J7 aY M R Q no bZ K g cap C E w=J at*;generalize C.length=n at*;go_enter func142,ntmps142;go_wp2;go_loopw [14] (λjv wr=>∃(j:Nat)(l:aB jb),jv=Iv j/\j<=n/\J j l wr) (λjv _=>n-(intOf jv).toNat)
 case atStart=>exact⟨0,C,rfl,cC,u⟩
 case round=>
  obtain⟨j,l,rfl,b2,o⟩:=hrel;by_cases hj:j<n
  .have k3:=U.out j l wr o;go_wp2_with fail;apply(H j l wr hj o).mono;rintro e w1 ⟨⟨v,rfl⟩,I,ar⟩;go_wp2
   try go_big_round
   exact⟨⟨j+1,I,dV,aA,ar⟩,zm⟩
  .obtain rfl:j=n:=by omega
   go_wp2_with fail;exact bodyPost_end (results_none rfl _ _ _) rfl ⟨rfl,l,o⟩
theorem Kz(p name w):Calls prog 140 #[Oi p,.string name] w λe b=>e=.returned (Iv (od p.name name))/\Bl w b:=by
 have a:=λW=>strings_Compare p.name name W;unfold od;generalize Lib.compareBytes p.name.data.toList name.data.toList=c at*;unfold Oi;go_enter func140,ntmps140;go_wp2_with fail;apply(a _).m0;go_wp2;go_ret;exact⟨rfl,aV.al _⟩
theorem OO(pb k cap t m ps name w)(f:w.heap[pb]?=some (.cells t 183 m))(J:eI t k ps)(K:eV ps)(O:ps.length<=1000000):
  Calls prog 139 #[.slice (some (Ad pb k)) ps.length cap,.string name,.func (.func 140) #[] #[]] w λe N=>e=.returned (.tuple #[Iv (dW name ps),.bool (eW name ps)])/\Bl w N:=by
 have r:Hid (∀W (j:Nat) p,Bl w W->ps[j]?=some p->W.cell? (Ad pb (k+j*5))=some (.string p.name)/\W.cell? (Ad pb (k+j*5+1))=some (.pointer p.eE)/\W.cell? (Ad pb (k+j*5+2))=some (Iv p.node)/\W.cell? (Ad pb (k+j*5+3))=some (Iv p.cP)/\W.cell? (Ad pb (k+j*5+4))=some (.pointer p.fY)):=λW j p l D=>by
  have h:=l.aT f;have⟨a0,a1,a2,a3,a4⟩:=J j p D;exact⟨aD h a0,aD h a1,aD h a2,aD h a3,aD h a4⟩
 have b:=λp W=>Kz p name W;have z:=hid λ(i:Nat)(p:nk)=>pI name ps i p K;have B:Hid (∀p,ps[dW name ps]?=some p->eW name ps=decide (od p.name name=0)):=λp f=>by
  unfold eW;rw[f];simp[wM]
 have C:Hid (¬dW name ps<ps.length->eW name ps=false):=λh=>by
  unfold eW;rw[List.getElem?_eq_none aA]
 have x:=pH name ps;have g:Hid (∀j,j<ps.length->∃p,ps[j]?=some p):=λj D=>⟨_,fH D⟩;generalize eW name ps=P at*;generalize dW name ps=u at*;generalize ps.length=n at*;unfold Oi at b;go_enter func139,ntmps139;go_wp2;go_loopw [9,10] (λE A wr=>∃i j:Nat,E=Iv i/\A=Iv j/\i<=u/\u<=j/\j<=n/\Bl w wr) (λE A _=>(intOf A).toNat-(intOf E).toNat)
 case atStart=>exact⟨0,n,rfl,rfl,cC,x,aZ,aV⟩
 case round=>
  obtain⟨lo,hi,rfl,rfl,I,G,M,l⟩:=hrel;by_cases H:lo<hi
  .have⟨p,f⟩:=g.out ((lo+hi)/2) aA;have⟨y0,y1,y2,y3,y4⟩:=r.out _ _ p l f;have q:=b p;have s:=z.out _ p f;have o:=hid l;generalize od p.name name=c at*;by_cases d:c<0
   .have L:=s.1 d;go_wp2_with fail;refine(q _).m λy a=>?_;go_wp2
    try go_big_round
    exact⟨⟨(lo+hi)/2+1,hi,by rw[show((lo:Int)+(hi:Int))/2+1=(((lo+hi)/2+1:Nat):Int)by omega],rfl,aA,G,M,o.out.tr a⟩,zm⟩
   .have L:¬(lo+hi)/2<u:=λh=>d (s.2 h);go_wp2_with fail;refine(q _).m λy a=>?_;go_wp2
    try go_big_round
    exact⟨⟨lo,(lo+hi)/2,rfl,by rw[show((lo:Int)+(hi:Int))/2=(((lo+hi)/2:Nat):Int)by omega],I,aA,aA,o.out.tr a⟩,zm⟩
  .obtain rfl:lo=u:=by omega
   by_cases F:lo<n
   .have⟨p,f⟩:=g.out lo F;have⟨y0,y1,y2,y3,y4⟩:=r.out _ _ p l f;have q:=b p;have v:=B.out p f;have o:=hid l;generalize od p.name name=c at*;by_cases d:c=0
    .subst d;go_wp2_with fail;refine(q _).m λy a=>?_;go_wp2;go_ret2;exact⟨by rw[v];rfl,o.out.tr a⟩
    .go_wp2_with fail;refine(q _).m λy a=>?_;go_wp2;go_ret2;exact⟨by rw[v];simp[d],o.out.tr a⟩
   .have v:=C.out F;subst v;go_wp2;go_ret2;exact⟨rfl,l⟩
theorem mT(aY h f g ev pa bS ps name w)(hw:w.heap[aY]?=some (.cells #[h,f,g,ev,.slice pa ps.length bS] 153 (0,0)))(d:iu w pa bS ps)(b:eV ps)(k:ps.length<=1000000):
  Calls prog 97 #[Pt aY,.string name] w λe o=>e=.returned (.tuple #[Iv (dW name ps),.bool (eW name ps)])/\Bl w o:=by
 obtain⟨rfl,rfl,rfl⟩|⟨pb,l,a,m,rfl,j,d⟩:=d
 .refine(ZQ aY h f g ev name w hw).m0 ?_;exact⟨rfl,aV⟩
 .have r:=aD (i:=4) hw rfl;have b:=OO pb l bS a m ps name w j d b k;generalize dW name ps=q at*;generalize eW name ps=s at*;generalize ps.length=n at*;go_enter func97,ntmps97;go_wp2_with fail;refine b.m λp c=>?_;go_wp2;go_ret2;exact⟨rfl,c⟩
def rA:BT dD->aB (aB aX)
 |.nil=>[]
 |.node b o a l r=>rA l++rA r++[bF (.node b o a l r)]
theorem pN:∀(x:BT dD)(L:aB (aB aX))(t:aB aX),t∈dE L x↔t∈L\/t∈rA x
 |.nil,L,t=>by simp[dE,rA]
 |.node b o a l r,L,t=>by
  let f:=pN r (dE L l) t
  let e:=pN l L t
  let d:∀s,s∈dE (dE L l) r↔(s∈L\/s∈rA l)\/s∈rA r:=λs=>by rw[pN r,pN l]
  unfold dE rA
  simp only[jc,sO]
  split
  .rename_i c
   rw[d]
   constructor
   .rintro((h|h)|h)
    .exact .inl h
    .exact .inr (.inl (.inl h))
    .exact .inr (.inl (.inr h))
   .rintro(h|(h|h)|h)
    .exact .inl (.inl h)
    .exact .inl (.inr h)
    .exact .inr h
    .subst h;exact(d _).1 c
  .rw[jc,sO,d]
   constructor
   .rintro(((h|h)|h)|h)
    .exact .inl h
    .exact .inr (.inl (.inl h))
    .exact .inr (.inl (.inr h))
    .exact .inr (.inr h)
   .rintro(h|(h|h)|h)
    .exact .inl (.inl (.inl h))
    .exact .inl (.inl (.inr h))
    .exact .inl (.inr h)
    .exact .inr h
theorem qY:∀(x:BT dD)(L:aB (aB aX)),L.Nodup->(dE L x).Nodup
 |.nil,L,h=>h
 |.node b o a l r,L,h=>by
  let c:=qY r _ (qY l L h)
  unfold dE
  split
  .exact c
  .rename_i f
   exact MF.2 ⟨c,aF,λa e b d=>by simp at d;subst d;rintro rfl;exact f e⟩
def uo(X:Nat->BT dD):Nat->aB (aB aX)
 |0=>[]
 |n+1=>dE (uo X n) (aO (X n))
theorem Aj(X:Nat->BT dD):∀n,(∀j,j<n->gg (X j))->Twin (jB X n) (uo X n)
 |0,_=>Twin.nil
 |n+1,h=>count_eq (Aj X n λj a=>h j aA) (h n aA)
theorem yw(X:Nat->BT dD)(t:aB aX):∀n,t∈uo X n↔∃j,j<n/\t∈rA (aO (X j))
 |0=>by simp[uo]
 |n+1=>by
  rw[uo,pN,yw X t n]
  constructor
  .rintro(⟨j,b,a⟩|h)
   .exact⟨j,aA,a⟩
   .exact⟨n,aA,h⟩
  .rintro⟨j,b,a⟩
   by_cases c:j<n
   .exact .inl ⟨j,c,a⟩
   .obtain rfl:j=n:=by omega
    exact .inr a
theorem Ai(X:Nat->BT dD):∀n,(uo X n).Nodup
 |0=>List.nodup_nil
 |n+1=>qY _ _ (Ai X n)
theorem EH{d:Type}[DecidableEq d]:∀(l m:aB d),l.Nodup->(∀t∈l,t∈m)->l.length<=m.length
 |[],_,_,_=>cC
 |a::l,m,h,c=>by
  let b:=c a aF
  let f:=(Iw.1 h)
  let j:=EH l (m.erase a) f.2 λt e=>(List.mem_erase_of_ne (by rintro rfl;exact f.1 e)).2 (c t (by simp[e]))
  let i:=List.length_erase_of_mem b
  let g:=List.length_pos_of_mem b
  simp only[ic]
  omega
theorem VJ(X Y n m)(c:∀j,j<n->gg (X j))(a:∀j,j<m->gg (Y j))(h:∀j,j<n->∃i,i<m/\X j=Y i):(jB X n).length<=(jB Y m).length:=by
 rw[(Aj X n c).len,(Aj Y m a).len];refine EH _ _ (Ai X n) λt b=>?_;let⟨j,hj,h1⟩:=(yw X t n).1 b;let⟨i,hi,e⟩:=h j hj;exact(yw Y t m).2 ⟨i,hi,by rw[<-e];exact h1⟩
end Ev
namespace Ev
open Go.Deep (BT)
structure Vd where
 ev:Int
 time:Int
 cP:Int
 ok:Bool
structure Az where
 name:a_
 x:BT dD
 cP:Int
 str:aB Vd
structure f_ where
 ret:Int
 room:Int
 bH:aB nM
 off:Nat
 aW:aB Az
def si(c:aX):Bool:=decide (97<=c.toNat)&&decide (c.toNat<=122)
def ja(s:a_):Bool:=s.data.toList.all si&&(decide (1<=s.size)&&decide (s.size<=8)&& !(s.toList==[116,114,117,101]))
def iU(x:BT dD)(bH:aB nM)(i:Nat):Bool:=dR x (bH.take (i+1)).reverse
def R8(x:BT dD)(cP:Int)(bH:aB nM)(i:Nat):Vd:=⟨(i:Int)+1,(bH.getD i (0,[])).1,cP,iU x bH i⟩
def Xc(x:BT dD)(cP:Int)(bH:aB nM)(a:Nat):aB Vd:=(List.range (bH.length-a)).map λj=>R8 x cP bH (a+j)
def ly(t:Int):aB nM->Nat
 |[]=>0
 |e::l=>if e.1<t then ly t l+1 else 0
def um(xs:aB (BT dD)):aB (aB aX):=xs.foldl (λL x=>dE L (aO x)) []
def iN(xs:aB (BT dD)):Nat:=(um xs).length
def fu(A:aB a_):Bool:=decide (A.length<=10)&&A.all ja&&decide A.Nodup
def f_.has(S:f_)(name:a_):Bool:=S.aW.any λp=>decide (p.name=name)
def f_.get(S:f_)(name:a_):aR Az:=S.aW.find? λp=>decide (p.name=name)
def om(S:f_)(t:Int):Bool:=match S.bH.getLast? with
 |some e=>decide (t<=e.1)
 |none=>false
def sq(S:f_)(t:Int):Nat:=S.off+ly (t-S.ret) (S.bH.drop S.off)
def f_.take(S:f_)(t:Int)(A:aB a_):f_:=
 {S with bH:=S.bH++[(t,A)],off:=sq S t,aW:=S.aW.map λp=>{p with str:=p.str++[R8 p.x p.cP (S.bH++[(t,A)]) S.bH.length]}}
def eJ(S:f_)(t:Int)(A:aB a_):Int:=
 if t<0\/1000000000000<t\/om S t=true then 9
 else if fu A=false then 10
 else if S.aW.any (λp=>decide (30<=p.str.length))=true then 11
 else if S.room<(S.bH.length:Int)+1-sq S t then 12
 else 0
def jf(S:f_)(t:Int)(A:aB a_):f_:=if eJ S t A=0 then S.take t A else S
def kK(S:f_)(name a:a_):aR (BT dD)×Int:=
 if ja name=false then(none,3)
 else match cW a with
  |(none,e)=>(none,e)
  |(some x,_)=>if S.ret<bE x then(none,4)else(some x,0)
def qf(S:f_)(x:BT dD):Nat:=if S.off=0 then 0 else S.off+ly ((S.bH.getD S.off (0,[])).1+bE x) (S.bH.drop S.off)
def mr(S:f_)(x:BT dD)(cP:Int):aB Vd:=Xc x cP S.bH (qf S x)
def kO(S:f_)(name a:a_):aB Vd×Int×f_:=match kK S name a with
 |(none,e)=>([],e,S)
 |(some x,_)=>
  if S.has name=true then([],5,S)
  else if 8<=S.aW.length then([],7,S)
  else if 40<iN (S.aW.map (·.x)++[x])then([],8,S)
  else(mr S x 1,0,{S with aW:=S.aW++[⟨name,x,1,[]⟩]})
def LX(S:f_)(name:a_)(x:BT dD):aB (BT dD):=(S.aW.filter λp=>decide (p.name≠name)).map (·.x)++[x]
def f_.upd(S:f_)(name:a_)(f:Az->Az):f_:={S with aW:=S.aW.map λp=>if p.name=name then f p else p}
def gi(S:f_)(name a:a_):aB Vd×Int×f_:=match kK S name a with
 |(none,e)=>([],e,S)
 |(some x,_)=>match S.get name with
  |none=>([],6,S)
  |some p=>
   if 40<iN (LX S name x)then([],8,S)
   else(mr S x (p.cP+1),0,S.upd name λp=>{p with x:=x,cP:=p.cP+1})
def iP(S:f_)(name:a_):Int×f_:=
 if S.has name=true then(0,{S with aW:=S.aW.filter λp=>decide (p.name≠name)})else(6,S)
def gu(S:f_)(name:a_):aB Vd×Int:=match S.get name with
 |none=>([],6)
 |some p=>(p.str,0)
def rf(S:f_)(name:a_)(n:Int):Int×f_:=match S.get name with
 |none=>(6,S)
 |some p=>if n<0\/(p.str.length:Int)<n then(13,S)else(0,S.upd name λp=>{p with str:=p.str.drop n.toNat})
def lI(L:aB a_):Prop:=L.Pairwise λa b=>od a b<0
def Fw(S:f_):Nat:=iN (S.aW.map (·.x))
def zH(S:f_):Nat:=S.bH.length-S.off
def kJ(ret room:Int):f_:=⟨ret,room,[],0,[]⟩
structure f_.OK(S:f_)(n:Nat):Prop where
 ret:0<=S.ret/\S.ret<=100000
 room:1<=S.room/\S.room<=60
 inc:S.bH.Pairwise λa b=>a.1<b.1
 time:∀e∈S.bH,0<=e.1/\e.1<=1000000000000
 many:S.bH.length<=n
 kept:(S.bH.length:Int)<=S.off+S.room
 last:S.off<S.bH.length\/(S.bH=[]/\S.off=0)
 far:∀d∈S.bH.take S.off,∀e,S.bH.getLast?=some e->d.1<e.1-S.ret
 nodup:(S.aW.map (·.name)).Nodup
 few:S.aW.length<=8
 each:∀p∈S.aW,ja p.name=true/\gg p.x/\bD p.x<=12/\bE p.x<=S.ret/\1<=p.cP/\p.cP<=(n:Int)+1/\p.str.length<=30
 nodes:iN (S.aW.map (·.x))<=40
theorem f_.OK.mono{S:f_}{n m}(h:S.OK n)(j:n<=m):S.OK m:=
 {h with many:=gH h.many j,each:=λp i=>by obtain⟨a,b,c,d,e,f,g⟩:=h.each p i;exact⟨a,b,c,d,e,aA,g⟩}
theorem DC{ret room:Int}(h:0<=ret/\ret<=100000)(k:1<=room/\room<=60):(kJ ret room).OK 0 where
 ret:=h
 room:=k
 inc:=List.Pairwise.nil
 time:=λe c=>by simp[kJ]at c
 many:=aZ
 kept:=by simp[kJ];omega
 last:=.inr ⟨rfl,rfl⟩
 far:=λd b=>by simp[kJ]at b
 nodup:=by simp[kJ]
 few:=by simp[kJ]
 each:=λp a=>by simp[kJ]at a
 nodes:=by simp[kJ,iN,um]
theorem D5(t:Int):∀l:aB nM,ly t l<=l.length
 |[]=>aZ
 |e::l=>by have:=D5 t l;simp only[ly];split<;>simp<;>omega
theorem KE(t:Int):∀(l:aB nM),∀e∈l.take (ly t l),e.1<t
 |[],e,h=>by simp[ly]at h
 |a::l,e,h=>by
  simp only[ly]at h
  split at h
  .rename_i b
   rw[List.take_succ_cons]at h
   obtain rfl|h:=gA.1 h
   .exact b
   .exact KE t l e h
  .simp at h
theorem WK{S n}(h:S.OK n)(t):sq S t<=S.bH.length:=by
 have:=D5 (t-S.ret) (S.bH.drop S.off);have:=h.last;simp only[sq,nZ]at*;obtain h|⟨b,a⟩:=h.last
 .omega
 .simp[b,a]at*;omega
theorem Wv{S n}(h:S.OK n){t}(c:om S t=false):∀e∈S.bH,e.1<t:=by
 intro e b;unfold om at c;obtain⟨a,d⟩:∃a,S.bH.getLast?=some a:=by
  cases f:S.bH.getLast? with
  |none=>rw[List.getLast?_eq_none_iff.1 f]at b;cases b
  |some a=>exact⟨a,rfl⟩
 rw[d]at c;simp at c;let⟨l,hl2⟩:=List.getLast?_eq_some_iff.1 d;let hi:=h.inc;rw[hl2]at hi b;obtain b|b:=jc.1 b
 .have:=(Io.1 hi).2.2 e b a aF;omega
 .simp at b;subst b;omega
theorem II{S n}(h:S.OK n){t A}(c:eJ S t A=0):(S.take t A).OK (n+1):=by
 unfold eJ at c;split at c
 .cases c
 rename_i m;split at c
 .cases c
 split at c
 .cases c
 rename_i s;split at c
 .cases c
 rename_i D;let g:=Wv h (t:=t) (by simpa using λe=>m (.inr (.inr e)));let C:=WK h t;simp only[not_or,Int.not_lt]at m;refine⟨h.ret,h.room,?_,?_,?_,?_,?_,?_,?_,?_,?_,?_⟩
 .exact Io.2 ⟨h.inc,aF,λa x b w=>by simp at w;subst w;exact g a x⟩
 .intro e c;rcases jc.1 c with c|c
  .exact h.time e c
  .simp at c;subst c;exact⟨m.1,m.2.1⟩
 .have:=h.many;simp[f_.take];omega
 .simp only[f_.take,ky,List.length_singleton];omega
 .left;simp only[f_.take,ky,List.length_singleton];omega
 .intro d f e i;let v:(S.take t A).bH=S.bH++[(t,A)]:=rfl;rw[v,List.getLast?_append]at i;simp at i;subst i;let z:(S.take t A).off=sq S t:=rfl;rw[v,z,FJ C]at f;unfold sq at f;rw[List.take_add]at f;obtain j|j:=jc.1 f
  .let hm':=g d (GC j);obtain o|⟨_,B⟩:=h.last
   .obtain⟨l,i⟩:∃l,S.bH.getLast?=some l:=by
     cases y:S.bH.getLast? with
     |none=>rw[List.getLast?_eq_none_iff.1 y]at o;simp at o
     |some a=>exact⟨a,rfl⟩
    have:=h.far d j l i;have:=g l (List.mem_of_getLast? i);show d.1<t-S.ret;omega
   .rw[B]at j;simp at j
  .exact(KE (t-S.ret) (S.bH.drop S.off)) d j
 .have:(S.take t A).aW.map (·.name)=S.aW.map (·.name):=by simp[f_.take,Function.comp_def]
  rw[this];exact h.nodup
 .simp[f_.take];exact h.few
 .intro p u;simp only[f_.take,iZ]at u;obtain⟨q,r,rfl⟩:=u;let k:=h.each q r;have:q.str.length<30:=by
   simp only[Ap,pz,not_exists,not_and]at s;have:=s q r;omega
  refine⟨k.1,k.2.1,k.2.2.1,k.2.2.2.1,k.2.2.2.2.1,?_,?_⟩
  .show q.cP<=_;omega
  .simp;omega
 .have:(S.take t A).aW.map (·.x)=S.aW.map (·.x):=by simp[f_.take,Function.comp_def]
  rw[this];exact h.nodes
theorem pS{S n}(h:S.OK n)(t A):(jf S t A).OK (n+1):=by
 unfold jf;split
 .rename_i a;exact II h a
 .exact h.mono (qA _)
theorem Fe(t xs):t∈um xs↔∃x∈xs,t∈rA (aO x):=by
 suffices h:∀(xs:aB (BT dD))(L:aB (aB aX)),t∈xs.foldl (λL x=>dE L (aO x)) L↔t∈L\/∃x∈xs,t∈rA (aO x)by
  unfold um;simpa using h xs []
 intro xs
 induction xs with
 |nil=>intro L;simp
 |cons x xs a=>intro L;rw[CJ,a,pN];simp[or_assoc]
theorem JM(xs):(um xs).Nodup:=by
 suffices h:∀(xs:aB (BT dD))(L:aB (aB aX)),L.Nodup->(xs.foldl (λL x=>dE L (aO x)) L).Nodup from h xs [] List.nodup_nil
 intro xs
 induction xs with
 |nil=>intro L h;exact h
 |cons x xs a=>intro L h;exact a _ (qY _ _ h)
theorem qm{xs a}(h:∀x∈xs,x∈a):iN xs<=iN a:=
 EH _ _ (JM xs) λt b=>by
  let⟨x,hx,h1⟩:=(Fe t xs).1 b
  exact(Fe t a).2 ⟨x,h x hx,h1⟩
theorem vW{xs b}(h:xs.Perm b):iN xs=iN b:=
 Nat.le_antisymm (qm λ_ a=>h.mem_iff.1 a) (qm λ_ a=>h.mem_iff.2 a)
theorem nR{S name a x e}(h:kK S name a=(some x,e)):ja name=true/\cW a=(some x,0)/\bE x<=S.ret:=by
 unfold kK at h;split at h
 .cases h
 .rename_i c;split at h
  .cases h
  .rename_i y m b;split at h
   .cases h
   .rename_i d;cases h;exact⟨by simpa using c,by rw[b,(dI b).2.2.2],aA⟩
theorem Ny{S name a e}(h:kK S name a=(none,e)):(ja name=false/\e=3)\/(ja name=true/\cW a=(none,e))\/∃x,ja name=true/\cW a=(some x,0)/\S.ret<bE x/\e=4:=by
 unfold kK at h;split at h
 .rename_i c;cases h;exact .inl ⟨c,rfl⟩
 .rename_i c;let hn':ja name=true:=by simpa using c
  split at h
  .rename_i m b;cases h;exact .inr (.inl ⟨hn',b⟩)
  .rename_i y m b;split at h
   .rename_i d;cases h;exact .inr (.inr ⟨y,hn',by rw[b,(dI b).2.2.2],d,rfl⟩)
   .cases h
theorem get_some{S:f_}{name p}(h:S.get name=some p):p∈S.aW/\p.name=name:=
 ⟨List.mem_of_find?_eq_some h,by simpa using List.find?_some h⟩
theorem get_none{S:f_}{name}:S.get name=none↔∀p∈S.aW,p.name≠name:=by
 unfold f_.get;rw[List.find?_eq_none];simp
theorem pj{S:f_}{name}:S.has name=true↔∃p∈S.aW,p.name=name:=by
 unfold f_.has;simp
theorem rq{l:aB Az}(c:(l.map (·.name)).Nodup){p}(b:p∈l):l.find? (λq=>decide (q.name=p.name))=some p:=by
 induction l with
 |nil=>cases b
 |cons a l d=>
  rw[hY,Iw]at c;by_cases h:a.name=p.name
  .rw[List.find?_cons_of_pos (by simpa using h)];obtain rfl|b:=gA.1 b
   .rfl
   .exact absurd (iZ.2 ⟨p,b,h.symm⟩) c.1
  .rw[List.find?_cons_of_neg (by simpa using h)];obtain rfl|b:=gA.1 b
   .exact absurd rfl h
   .exact d c.2 b
theorem get_mem{S:f_}(b:(S.aW.map (·.name)).Nodup){p}(a:p∈S.aW):S.get p.name=some p:=rq b a
theorem MT{S n}(h:S.OK n)(name d):(kO S name d).2.2.OK (n+1):=by
 let f:=h.mono (qA n);unfold kO;cases k:kK S name d with
 |mk o e=>
  cases o with
  |none=>exact f
  |some x=>
   let⟨g1,g2,g3⟩:=nR k;let⟨r1,r2,r3,_⟩:=dI g2;simp only;split
   .exact f
   rename_i l;split
   .exact f
   rename_i q;split
   .exact f
   rename_i m;let g:∀p∈S.aW,p.name≠name:=λp c e=>l (pj.2 ⟨p,c,e⟩);refine{f with nodup:=?_,few:=?_,each:=?_,nodes:=?_}
   .rw[ml];exact MF.2 ⟨h.nodup,aF,λa j b i=>by
     simp at i;obtain⟨p,c,rfl⟩:=iZ.1 j;rw[i];exact g p c⟩
   .simp;omega
   .intro p c;obtain c|c:=jc.1 c
    .exact f.each p c
    .simp at c;subst c;exact⟨g1,⟨r1,r2⟩,r3,g3,Int.le_refl _,by show(1:Int)<=_;omega,aF⟩
   .simp only[ml,hY,sR];omega
theorem Ie{S:f_}{name f}(a:∀p,(f p).name=p.name):(S.upd name f).aW.map (·.name)=S.aW.map (·.name):=by
 unfold f_.upd;rw[CM];apply FC;intro p _;simp only[Function.comp];split
 .exact a p
 .rfl
theorem Dv{S:f_}{name f p}(h:p∈(S.upd name f).aW):(∃q∈S.aW,q.name=name/\p=f q)\/(p∈S.aW/\p.name≠name):=by
 obtain⟨q,a,rfl⟩:=iZ.1 h;by_cases e:q.name=name
 .rw[bY e];exact .inl ⟨q,a,e,rfl⟩
 .rw[bN e];exact .inr ⟨a,e⟩
theorem Dz{S n}(h:S.OK n)(name b):(gi S name b).2.2.OK (n+1):=by
 let c:=h.mono (qA n);unfold gi;cases d:kK S name b with
 |mk o e=>
  cases o with
  |none=>exact c
  |some x=>
   let⟨g1,g2,g3⟩:=nR d;let⟨r1,r2,r3,_⟩:=dI g2;simp only;split
   .exact c
   rename_i p k;split
   .exact c
   rename_i g;refine{c with nodup:=?_,few:=?_,each:=?_,nodes:=?_}
   .rw[Ie];exact h.nodup;intro p;rfl
   .simp only[f_.upd,uP];exact h.few
   .intro q a;obtain⟨u,f,e,rfl⟩|⟨a,_⟩:=Dv a
    .have:=h.each u f;exact⟨this.1,⟨r1,r2⟩,r3,g3,by show 1<=u.cP+1;omega,by show u.cP+1<=_;omega,this.2.2.2.2.2.2⟩
    .exact c.each q a
   .refine gH (qm λy j=>?_) (Nat.le_of_not_lt g);obtain⟨q,a,rfl⟩:=iZ.1 j;unfold LX;obtain⟨q,a,e,rfl⟩|⟨a,i⟩:=Dv a
    .simp
    .exact List.mem_append_left _ (iZ.2 ⟨q,Ix.2 ⟨a,by simpa using i⟩,rfl⟩)
theorem Qe{S n}(h:S.OK n)(name):(iP S name).2.OK (n+1):=by
 let b:=h.mono (qA n);unfold iP;split
 .let a:(S.aW.filter λp=>decide (p.name≠name)).Sublist S.aW:=List.filter_sublist;exact{b with nodup:=(a.map _).nodup h.nodup,few:=gH a.length_le h.few,each:=λp c=>b.each p (a.subset c),nodes:=gH (qm λy d=>(a.map _).subset d) h.nodes}
 .exact b
theorem X5{S n}(h:S.OK n)(name k):(rf S name k).2.OK (n+1):=by
 let b:=h.mono (qA n);unfold rf;split
 .exact b
 split
 .exact b
 refine{b with nodup:=?_,few:=?_,each:=?_,nodes:=?_}
 .rw[Ie];exact h.nodup;intro p;rfl
 .simp only[f_.upd,uP];exact h.few
 .intro q a;obtain⟨u,c,e,rfl⟩|⟨a,_⟩:=Dv a
  .have:=b.each u c;exact⟨this.1,this.2.1,this.2.2.1,this.2.2.2.1,this.2.2.2.2.1,this.2.2.2.2.2.1,bI⟩
  .exact b.each q a
 .refine gH (qm λy d=>?_) h.nodes;obtain⟨q,a,rfl⟩:=iZ.1 d;obtain⟨u,c,e,rfl⟩|⟨a,f⟩:=Dv a
  .exact iZ.2 ⟨u,c,rfl⟩
  .exact iZ.2 ⟨q,a,rfl⟩
theorem E9{L M}(h:lI L)(k:lI M)(d:L.Perm M):L=M:=
 List.Perm.eq_of_pairwise (le:=λa b=>od a b<0) (λa b _ _ e c=>by
  have:=(u_ _ _).1 e
  let c:Lib.compareBytes b.data.toList a.data.toList<0:=c
  omega) h k d
end Ev
namespace Ev
open Tryz Go.RowKit Go.Deep Lf
abbrev CE:=nM×aR bC×Nat
abbrev CP:=Az×aE×aE
def ceV(c:CE):aB aE:=[Iv c.1.1,.slice c.2.1 c.1.2.length c.2.2]
def J1(c:CP):aB aE:=[.string c.1.name,c.2.1,Iv c.1.cP,c.2.2]
def J3(v:Vd):aB aE:=[Iv v.ev,Iv v.time,Iv v.cP,.bool v.ok]
def S_(C:aB CE):aB aE:=(C.map ceV).flatten
def uQ(L:aB CP):aB aE:=(L.map J1).flatten
def lr(l:aB Vd):aB aE:=(l.map J3).flatten
structure eT(O:Nat->Prop)(S:f_)(yb:Nat)(ev pv:aE)(C:aB CE)(L:aB CP)(w:aC):Prop where
 cell:w.heap[yb]?=some (.cells #[Iv S.ret,Iv S.room,ev,Iv ((S.off:Int)+1),pv] 79 (0,0))
 hC:C.map (·.1)=S.bH
 hL:L.map (·.1)=S.aW
 bH:w.ownsRow 0 193 2 ev C.length (S_ C)
 aW:w.ownsRow 0 86 4 pv L.length (uQ L)
 atoms:∀c∈C,eQ w c.2.1 c.1.2/\c.1.2.length<=c.2.2/\c.1.2.length<=10/\∀a,c.2.1=some a->O a.block/\∃cs m,w.heap[a.block]?=some (.cells cs 9 m)
 eE:∀l∈L,bX 0 w l.1.x l.2.1
 fY:∀l∈L,w.ownsRow 0 199 4 l.2.2 l.1.str.length (lr l.1.str)
 apart:L.Pairwise λa b=>∀g,a.2.2.ownBlock=some g->b.2.2.ownBlock≠some g
 own:O yb/\(∀g,ev.ownBlock=some g->O g)/\(∀g,pv.ownBlock=some g->O g)/\∀l∈L,∀g,l.2.2.ownBlock=some g->O g
def uU(O:Nat->Prop)(S:f_)(yb:Nat)(w:aC):Prop:=∃ev a C L,eT O S yb ev a C L w
theorem eQ.spare{P w e ao A}(h:eQ w ao A)(d:aH P w e)(g:∀a,ao=some a->¬P a.block):eQ e ao A:=λc=>by
 let⟨b,off,h1,h2,h3⟩:=h c
 exact⟨b,off,h1,fZ h2 d.size,λj f=>by rw[fP (a:=(Ad b (off+j))) (d.block b h2 (g _ h1))];exact h3 j f⟩
theorem cG{P w a base size n e v xs}(h:w.ownsRow base e size v n xs)(c:aH P w a)(d:∀g,v.ownBlock=some g->¬P g):a.ownsRow base e size v n xs:=
 eF h λk b=>c.block k (h.lt k b).2 (d k b)
theorem fU{P:Nat->bQ}{w f:aC}(a:aH P w f)(d:dQ w P [252]):∀{x:BT dD}{v:aE},bX 0 w x v->bX 0 f x v
 |.nil,_,h=>h
 |.node _ _ _ l r,_,⟨b,j,m,e,k,c,g,i⟩=>⟨b,j,m,e,k,(a.block b (aN c) (d b _ _ _ c aF)).trans c,fU a d g,fU a d i⟩
theorem eT.move{O P:Nat->bQ}{S:f_}{yb:Nat}{ev n:aE}{C:aB CE}{L:aB CP}{w o:aC}(h:eT O S yb ev n C L w)(d:aH P w o)(e:∀b,O b->¬P b)(q:dQ w P [252]):eT O S yb ev n C L o where
 cell:=(d.block yb (aN h.cell) (e _ h.own.1)).trans h.cell
 hC:=h.hC
 hL:=h.hL
 bH:=cG h.bH d λg i=>e g (h.own.2.1 g i)
 aW:=cG h.aW d λg i=>e g (h.own.2.2.1 g i)
 atoms:=λc p=>by
  let⟨a1,a2,a3,a4⟩:=h.atoms c p
  refine⟨a1.spare d λa f=>e _ (a4 a f).1,a2,a3,λa f=>⟨(a4 a f).1,?_⟩⟩
  let⟨cs,m,k⟩:=(a4 a f).2
  exact⟨cs,m,d.get k (e _ (a4 a f).1)⟩
 eE:=λl j=>fU d q (h.eE l j)
 fY:=λl j=>cG (h.fY l j) d λg i=>e g (h.own.2.2.2 l j g i)
 apart:=h.apart
 own:=h.own
theorem eT.below{O S yb ev a C L w b}(h:eT O S yb ev a C L w)(c:Bl w b):eT O S yb ev a C L b:=
 h.move (P:=λ_=>False) (aH.aS c) (λ_ _ x=>x) (dQ.none _ _)
theorem bT{w:aC}{e size n v xs}(h:w.ownsRow 0 e size v n xs):∃o cap,v=.slice o n cap/\n<=cap/\cap<=maxLen/\(0<n->∃g,o=some (Ad g 0)/\g<w.heap.size/\(.slice o n cap:aE).ownBlock=some g/\∀j x,xs[j]?=some x->w.cell? (Ad g j)=some x):=by
 let h':=h;obtain⟨l,⟨rfl,a⟩|⟨g,cap,i,rfl,k,d,f,c,_⟩⟩:=h
 .exact⟨none,0,by rw[a],aA,by simp[maxLen],λh=>aA⟩
 .exact⟨_,cap,rfl,f,c,λ_=>⟨g,rfl,aN d,rfl,λj x b=>d_ h' rfl b⟩⟩
theorem Pk{C i k c v}(h:C[i]?=some c)(a:(ceV c)[k]?=some v):(S_ C)[i*2+k]?=some v:=jl ceV 2 (λ_=>rfl) C i k c v h a
theorem jC{L i k c v}(h:L[i]?=some c)(a:(J1 c)[k]?=some v):(uQ L)[i*4+k]?=some v:=jl J1 4 (λ_=>rfl) L i k c v h a
theorem Rx{O S n yb ev c C L w}(h:eT O S yb ev c C L w)(a:S.OK n)(l:n<=1000000000):
  Calls prog 57 #[Pt yb] w λe g=>e=.returned (Iv (zH S))/\Bl w g:=by
 obtain⟨o,cap,rfl,k,j,_⟩:=bT h.bH;have i:C.length=S.bH.length:=by rw[<-h.hC,uP]
 have f:S.off<=S.bH.length:=by rcases a.last with h|⟨_,h⟩<;>omega
 have d:=a.many;have c2:w.cell? (Ad yb 2)=some (.slice o C.length cap):=aD h.cell rfl;have m:w.cell? (Ad yb 3)=some (Iv ((S.off:Int)+1)):=aD h.cell rfl;have b:Hid ((zH S:Int)=(C.length:Int)-((S.off:Int)+1)+1):=by show _=_;unfold zH;omega
 generalize zH S=q at*;go_enter func57,ntmps57;go_wp2
 go_region
 go_wp2;go_ret;exact⟨iH (by rw[b.out];try omega),aV.drew⟩
def Pj(name:a_):aB Az->Nat->Int
 |[],_=>-1
 |p::l,i=>if p.name=name then(i:Int)else Pj name l (i+1)
theorem Na{a b:a_}(h:¬a=b):(a.toList==b.toList)=false:=by
 simp only[rG];intro e;rw[Iz,Iz]at e;cases a;cases b;exact h (oB _ (Array.toList_inj.1 e))
theorem zW{O S n yb ev y C L w}(h:eT O S yb ev y C L w)(u:S.OK n)(name):
  Calls prog 110 #[Pt yb,.string name] w λe x=>e=.returned (Iv (Pj name S.aW 0))/\x=w:=by
 obtain⟨o,cap,rfl,B,F,b⟩:=bT h.aW;have s:L.length=S.aW.length:=by rw[<-h.hL,uP]
 have m:=u.few;have G:w.cell? (Ad yb 4)=some (.slice o L.length cap):=aD h.cell rfl;have z:Hid (∀i,i<L.length->∃g p,o=some (Ad g 0)/\w.cell? (Ad g (i*4))=some (.string p)/\Pj name (S.aW.drop i) i=if p=name then(i:Int)else Pj name (S.aW.drop (i+1)) (i+1)):=λi hi=>by
  obtain⟨g,rfl,_,_,j⟩:=b aA;refine⟨g,L[i].1.name,rfl,j _ _ (jC (k:=0) (fH hi) rfl),?_⟩;rw[pw (by omega:i<S.aW.length)];have:S.aW[i]'aA=L[i].1:=by
   have r:S.aW[i]?=some L[i].1:=by rw[<-h.hL,lj,fH hi];rfl
   rw[fH aA]at r;exact nD r
  rw[Pj,this]
 have A:Hid (Pj name (S.aW.drop L.length) L.length=-1):=by show _=_;rw[s,List.drop_length];rfl
 have v:Hid (Pj name (S.aW.drop 0) 0=Pj name S.aW 0):=rfl;generalize Pj name S.aW 0=res at*;generalize q:L.length=len at*;go_enter func110,ntmps110;go_wp2;go_loopw [5] (λl wr=>∃i:Nat,l=Iv i/\i<=len/\Hid (wr=w)/\Hid (Pj name (S.aW.drop i) i=res)) (λl _=>len-(intOf l).toNat)
 case atStart=>exact⟨0,rfl,cC,rfl,v⟩
 case round=>
  obtain⟨i,rfl,t,d,a⟩:=hrel;obtain rfl:=d.out;by_cases hi:i<len
  .obtain⟨g,p,rfl,E,f⟩:=z.out i hi;rw[f]at a;by_cases c:p=name
   .subst c;rw[bY rfl]at a;go_wp2;go_ret;exact⟨iH a.out,rfl⟩
   .rw[bN c]at a;have D:=Na c;go_wp2
    try go_big_round
    exact⟨⟨i+1,dV,hi,trivial,a⟩,zm⟩
  .obtain rfl:i=len:=by omega
   rw[A.out]at a;go_wp2;go_ret;exact⟨iH a.out,rfl⟩
end Ev
namespace Ev
open Go.Deep (BT)
def oq(t lo hi:Int)(k:Bool)(p:aB nM->Bool):aB nM->Bool
 |[]=> !k
 |e::es=>if lo<=t-e.1/\t-e.1<=hi/\p (e::es)=k then k else oq t lo hi k p es
def oM(t lo hi:Int)(p q:aB nM->Bool):aB nM->Bool
 |[]=>false
 |e::es=>if lo<=t-e.1/\t-e.1<=hi/\q (e::es)=true then true else if p (e::es)=false then false else oM t lo hi p q es
def Down(h:aB nM):Prop:=h.Pairwise λa b=>b.1<a.1
theorem Hd{t lo hi:Int}{k:Bool}{p:aB nM->Bool}:∀h:aB nM,(∀e∈h,hi<t-e.1)->oq t lo hi k p h= !k
 |[],_=>rfl
 |e::a,h=>by
  have:=h e aF
  rw[oq,bN aA]
  exact Hd a λe he=>h e (by simp[he])
theorem E5{t lo hi:Int}{p q:aB nM->Bool}:∀h:aB nM,(∀e∈h,hi<t-e.1)->oM t lo hi p q h=false
 |[],_=>rfl
 |e::a,h=>by
  have:=h e aF
  rw[oM,bN aA]
  split
  .rfl
  .exact E5 a λe he=>h e (by simp[he])
theorem yg{t lo hi:Int}{p:aB nM->Bool}:∀h:aB nM,Down h->oq t lo hi true p h=oU t lo hi p h
 |[],_=>rfl
 |e::d,h=>by
  let⟨h1,h2⟩:=Cz.1 h
  rw[oU]
  split
  .exact Hd (e::d) λa c=>by
    obtain rfl|c:=gA.1 c
    .omega
    .have:=h1 a c;omega
  .rw[oq,yg d h2]
   by_cases b:t-e.1>=lo/\p (e::d)=true
   .rw[bY b,bY ⟨b.1,aA,b.2⟩]
   .rw[bN b,bN λy=>b ⟨y.1,y.2.2⟩]
theorem He{t lo hi:Int}{p:aB nM->Bool}:∀h:aB nM,oq t lo hi false p h= !oq t lo hi true (λh=> !p h) h
 |[]=>rfl
 |e::a=>by
  simp only[oq,He a,Bool.not_eq_true']
  split<;>rfl
theorem Ia{t lo hi:Int}{p q:aB nM->Bool}:∀h:aB nM,Down h->oM t lo hi p q h=oN t lo hi p q h
 |[],_=>rfl
 |e::d,h=>by
  let⟨h1,h2⟩:=Cz.1 h
  rw[oN]
  split
  .exact E5 (e::d) λa c=>by
    obtain rfl|c:=gA.1 c
    .omega
    .have:=h1 a c;omega
  .rw[oM,Ia d h2]
   by_cases b:t-e.1>=lo/\q (e::d)=true
   .rw[bY b,bY ⟨b.1,aA,b.2⟩]
   .rw[bN b,bN λy=>b ⟨y.1,y.2.2⟩]
theorem AR{bH:aB nM}(h:bH.Pairwise λa b=>a.1<b.1)(i):Down (bH.take i).reverse:=
 List.pairwise_reverse.2 (h.sublist (List.take_sublist i bH))
theorem oz{bH:aB nM}{i e}(h:bH[i]?=some e):(bH.take (i+1)).reverse=e::(bH.take i).reverse:=by
 rw[yD,h];simp
section
variable{bH:aB nM}{i:Nat}{e:nM}{b o:Nat}{a:dD}{l r:BT dD}
theorem U2(hi:bH.Pairwise λa b=>a.1<b.1)(he:bH[i]?=some e)(h:a.op=79):iU (.node b o a l r) bH i=oq e.1 a.lo a.hi true (dR l) (bH.take (i+1)).reverse:=by
 rw[yg _ (AR hi _)];unfold iU;rw[oz he,Ab _ _ h]
theorem OL(hi:bH.Pairwise λa b=>a.1<b.1)(he:bH[i]?=some e)(h:a.op=72):iU (.node b o a l r) bH i=oq e.1 a.lo a.hi false (dR l) (bH.take (i+1)).reverse:=by
 rw[He,yg _ (AR hi _)];unfold iU;rw[oz he,OP _ _ h]
theorem RH(hi:bH.Pairwise λa b=>a.1<b.1)(he:bH[i]?=some e)(h:a.op=83):iU (.node b o a l r) bH i=oM e.1 a.lo a.hi (dR l) (dR r) (bH.take (i+1)).reverse:=by
 rw[Ia _ (AR hi _)];unfold iU;rw[oz he,xe _ _ h]
end
theorem OM{bH i e d}(he:bH[i+1]?=some e)(c:bH[i]?=some d){b o a l r}(h:a.op=89):iU (.node b o a l r) bH (i+1)=(decide (a.lo<=e.1-d.1)&&decide (e.1-d.1<=a.hi)&&iU l bH i):=by
 unfold iU;rw[oz he,qv _ _ h,oz c];rfl
theorem Ug{bH t lo hi k l j e}(h:bH[j]?=some e):oq t lo hi k (dR l) (bH.take (j+1)).reverse=if lo<=t-e.1/\t-e.1<=hi/\iU l bH j=k then k else oq t lo hi k (dR l) (bH.take j).reverse:=by
 unfold iU;rw[oz h,oq]
theorem RS{bH}{t lo hi}{l r}{j}{e}(h:bH[j]?=some e):oM t lo hi (dR l) (dR r) (bH.take (j+1)).reverse=if lo<=t-e.1/\t-e.1<=hi/\iU r bH j=true then true else if iU l bH j=false then false else oM t lo hi (dR l) (dR r) (bH.take j).reverse:=by
 unfold iU;rw[oz h,oM]
end Ev
end Go.Proofs.YtpbbmagjhkakgaaGreatDoor
