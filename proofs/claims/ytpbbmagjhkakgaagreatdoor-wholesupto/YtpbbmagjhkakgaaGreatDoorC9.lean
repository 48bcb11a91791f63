import Derived.Test.YtpbbmagjhkakgaaGreatDoorC3
import Derived.Test.YtpbbmagjhkakgaaGreatDoorC4
import Derived.Test.YtpbbmagjhkakgaaGreatDoorC7
namespace Go.Proofs.YtpbbmagjhkakgaaGreatDoor
set_option maxHeartbeats 8000000
set_option maxRecDepth 100000
namespace Ev
open Tryz Go.RowKit Go.Deep Lf Go.Conc Go.Maps
theorem n8:(prog.info? 9).map (λi=>(i.zero,i.size,i.bytes))=some (some (.string ⟨#[]⟩),1,16):=aL
def qW(L:aB a_):aB aE:=L.map Value.string
theorem RZ(L):(qW L).length=L.length:=by simp[qW]
theorem O4(A:aB a_)(i)(h:i<A.length):qW (A.take (i+1))=qW (A.take i)++[.string (A.getD i ByteArray.empty)]:=by
 let e:A.getD i ByteArray.empty=A[i]:=by rw[qB,fH h];rfl
 rw[<-List.take_append_getElem h,e];unfold qW;rw[ml];rfl
theorem Mc{w B v A}(h:w.ownsRow B 9 1 v A.length (qW A)):∃ao cap,v=.slice ao A.length cap/\A.length<=cap/\eQ w ao A/\∀a,ao=some a->B<=a.block/\∃n,w.heap[a.block]?=some (.cells n 9 (0,0)):=by
 have f:=h.lt;have h':=h;obtain⟨p,⟨rfl,e⟩|⟨g,cap,c,rfl,l,i,k,o,r,q⟩⟩:=h
 .exact⟨none,0,by rw[e],aA,λd=>absurd (uJ.1 e) d,λa b=>by cases b⟩
 .refine⟨some (Ad g 0),cap,rfl,k,λ_=>⟨g,0,rfl,(f g rfl).2,λj m=>?_⟩,λa b=>by cases b;exact⟨l,c,i⟩⟩;rw[fE];apply d_ h' rfl;simp[qW,m,List.getD_eq_getElem?_getD]
theorem Ng(ao A cap w)(h:eQ w ao A)(K:A.length<=1000)(B:A.length<=cap)(z:∀j,j<A.length->(A.getD j ByteArray.empty).size<=1000):
  Calls prog 129 #[.slice ao A.length cap] w λe w'=>∃v,e=.returned v/\w'.ownsRow w.heap.size 9 1 v A.length (qW A)/\Bl w w':=by
 have D:=hid λw' (u:Bl w w')=>h.below u;have⟨i0,hi,nI,nJ,nS⟩:=eB n8;generalize g:A.length=n at*;go_enter func129,ntmps129;go_wp2;go_loopw [8,3] (λt v wr=>∃i:Nat,t=Iv i/\i<=n/\wr.ownsRow w.heap.size 9 1 v i (qW (A.take i))/\Bl w wr) (λt _ _=>n-(intOf t).toNat)
 case atStart=>exact⟨0,rfl,cC,fI _ _ _ _,aV⟩
 case round=>
  obtain⟨i,rfl,C,a,m⟩:=hrel;by_cases r:i<n
  .obtain⟨b,off,rfl,u,y⟩:=D.out wr m (by intro e;rw[e]at g;simp at g;omega);have I:=y i aA;have H:=z i r;have f:=O4 A i aA;have G:=hid f;clear y z f;generalize A.getD i ByteArray.empty=x at*;go_wp2_with fail;refine(AO x _ aA).m λq p=>?_;have d:=eF a (w':=q) λk E=>p.block k (a.lt k E).2;have c:=m.tr p;have F:=c.size;go_wp2_with (at_builtin;refine jz _ rfl _ _ 31 rfl w.heap.size 9 i0 _ 1 16 underlying31 hi nI nJ nS rfl aG _ _ _ rfl (d.alloc _) (Ad q.heap.size 0) 1 1 [.string x] rfl rfl ?c1 ?c2 ?c3 ?c4 ?c5 ?_)
   case c1=>exact cell_one_new q _ _
   case c2=>simp[Value.oneCell']
   case c3=>unfold maxLen;omega
   case c4=>omega
   case c5=>simp;omega
   intro J L l o _;have s:=(c.al _).grown o (gH c.size aF) λk e=>(d.lt k e).1;go_wp2
   try go_big_round
   exact⟨⟨i+1,dV,aA,by rw[G.out];exact l,s⟩,zm⟩
  .obtain rfl:i=n:=by omega
   rw[rD aA]at a;go_wp2;go_ret;exact⟨_,rfl,a,m⟩
theorem KB(ea n cap w)(a:n<=cap):Calls prog 130 #[.slice ea n cap,Iv 0,Iv 0] w λe b=>e=.returned (.slice ea n cap)/\b=w:=by
 go_enter func130,ntmps130;go_wp2;go_ret;exact⟨rfl,rfl⟩
structure FQ(w:aC)(c:jb):Prop where
 so:∀a,c.so=some a->∃cs m,w.heap[a.block]?=some (.cells cs 4 m)
 ao:∀a,c.ao=some a->∃cs m,w.heap[a.block]?=some (.cells cs 9 m)
theorem FQ.off{w c g j m}(h:FQ w c)(f:w.heap[g]?=some (.cells j 159 m)):Sz g c:=
 ⟨λa d e=>(by obtain⟨i,m,b⟩:=h.so a d;rw[e,f]at b;cases b),λa d e=>(by obtain⟨i,m,b⟩:=h.ao a d;rw[e,f]at b;cases b)⟩
structure c_(P:Nat->Prop)(w w':aC):Prop where
 os:w'.os=w.os
 tape:w'.tape=w.tape
 output:w'.output=w.output
 size:w.heap.size<=w'.heap.size
 block:∀b,b<w.heap.size->¬P b->w'.heap[b]?=w.heap[b]?
theorem c_.refl(P w):c_ P w w:=⟨rfl,rfl,rfl,aZ,λ_ _ _=>rfl⟩
theorem c_.trans{P a b c}(h:c_ P a b)(k:c_ P b c):c_ P a c:=⟨k.os.trans h.os,k.tape.trans h.tape,k.output.trans h.output,gH h.size k.size,λx d e=>(k.block x (fZ d h.size) e).trans (h.block x d e)⟩
theorem c_.aS{P a b}(h:Bl a b):c_ P a b:=⟨h.os,h.tape,h.output,h.size,λx c _=>h.block x c⟩
theorem c_.qR{P g a b}(h:Only g a b)(f:∀x,x=g->P x):c_ P a b:=⟨h.os,h.tape,h.output,h.size,λx c d=>h.block x c λe=>d (f x e)⟩
theorem c_.mono{P Q a b}(h:c_ P a b)(f:∀x,x<a.heap.size->P x->Q x):c_ Q a b:=⟨h.os,h.tape,h.output,h.size,λx c d=>h.block x c λe=>d (f x c e)⟩
theorem c_.Up{P row a b}(h:a.grownBy b row)(f:∀x,row=some x->P x):c_ P a b:=⟨h.os,h.tape,h.output,h.size,λx c d=>h.block x c λe=>d (f x e.symm)⟩
theorem gU.spare{P w i c e}(h:gU w c e)(d:c_ P w i)(l:∀a,c.so=some a->¬P a.block)(k:∀a,c.ao=some a->¬P a.block):gU i c e:=by
 let⟨sb,s1,s2,s3⟩:=h.so;refine{h with so:=⟨sb,s1,fZ s2 d.size,λj b g=>?_⟩,atoms:=λf=>?_}
 .rw[fP (d.block sb s2 (l _ s1))];exact s3 j b g
 .let⟨b,off,a1,a2,a3⟩:=h.atoms f;exact⟨b,off,a1,fZ a2 d.size,λj g=>by rw[fP (d.block b a2 (k _ a1))];exact a3 j g⟩
theorem FQ.spare{P w f c}(h:FQ w c)(e:c_ P w f)(i:∀a,c.so=some a->¬P a.block)(g:∀a,c.ao=some a->¬P a.block):FQ f c:=
 ⟨λa b=>by obtain⟨d,m,k⟩:=h.so a b;exact⟨d,m,by rw[e.block _ (aN k) (i a b)];exact k⟩,λa b=>by obtain⟨d,m,k⟩:=h.ao a b;exact⟨d,m,by rw[e.block _ (aN k) (g a b)];exact k⟩⟩
theorem km.spare{P w c no K}(h:km w no K)(d:c_ P w c)(e:∀a,no=some a->¬P a.block):km c no K:=λb=>by
 let⟨nb,a1,a2,a3⟩:=h b
 let f:∀q,c.cell? (Ad nb q)=w.cell? (Ad nb q):=λq=>fP (d.block nb a2 (e _ a1))
 exact⟨nb,a1,fZ a2 d.size,λi k g=>by simp only[f];exact a3 i k g⟩
theorem wP:(prog.info? 159).map (λi=>(i.zero,i.size,i.bytes))=some (some (.agg #[Iv 0,Iv 0,.slice none 0 0,.slice none 0 0]),4,64):=aL
theorem l9:(prog.info? 183).map (λi=>(i.zero,i.size,i.bytes))=some (some (.agg #[.string ⟨#[]⟩,.pointer none,Iv 0,Iv 0,.pointer none]),5,48):=aL
theorem Wn:(prog.info? 59).map (λi=>(i.zero,i.size,i.bytes))=some (some (.agg #[Iv 0,Iv 0,Iv 0,.bool false]),4,32):=aL
theorem tR(C c):iz (C++[c])=iz C++dF c:=by simp[iz]
theorem Xy(c):∀u∈dF c,u.oneCell'=true:=by
 intro u a;simp[dF,jb.av,jb.sv]at a;obtain rfl|rfl|rfl|rfl:=a<;>rfl
theorem mP(w:aC)(c t):∀j u,(dF c)[j]?=some u->(w.alloc (.cells #[Iv c.number,Iv c.time,.slice c.ao c.al c.ac,.slice c.so c.sl c.sc] t)).cell? (((Ad w.heap.size 0):bC).add j)=some u:=by
 intro j u a;let b:((Ad w.heap.size 0):bC).add j=(Ad w.heap.size j):=by simp[Addr.add];omega
 rw[b];apply aD (aQ w (.cells #[Iv c.number,Iv c.time,.slice c.ao c.al c.ac,.slice c.so c.sl c.sc] t (0,0)) _ rfl);obtain _|_|_|_|j:=j
 .exact a
 .exact a
 .exact a
 .exact a
 .simp[dF]at a
def kr(C:aB jb):Int:=match C.getLast? with
 |some c=>c.number+1
 |none=>1
noncomputable def DR:Code:=f87.body.getD .skip
noncomputable def PR:aU Oper:=match DR with
 |.seq _ (.seq _ (.seq _ (.seq (.region _ x _) _)))=>x
 |_=>#[]
noncomputable def XT:aU Oper:=match DR with
 |.seq _ (.seq _ (.seq _ (.seq _ (.seq (.region _ x _) _))))=>x
 |_=>#[]
theorem DL(L:aB Pe)(d):fq (λi=>L.getD i d) L.length=L.reverse:=by
 unfold fq;rw[s_ (λi=>L.getD i d) _ _ aZ];apply CF;intro i;by_cases hi:i<L.length
 .simp[hi];have:L.length-1-i<L.length:=aA;simp[this]
 .simp[hi]
theorem H2{w:aC}{base size n e v xs}(h:w.ownsRow base e size v n xs){g cap}(c:v=Sl g n cap):∃a,w.heap[g]?=some (.cells a e (0,0))/\(∀(j:Nat)(x),xs[j]?=some x->a[j]?=some x)/\n<=cap/\cap<=maxLen/\a.size=cap*size/\a.toList.take (n*size)=xs:=by
 obtain⟨s,⟨rfl,q⟩|⟨r,d,a,i,t,l,m,k,p,f⟩⟩:=h
 .cases c
 .rw[c]at i;cases i;refine⟨a,l,λj x b=>?_,m,k,p,f⟩;let o:j<n*size:=by have:=(eY.1 b).1;omega
  rw[<-f,BH,bY o]at b;rw[<-Array.getElem?_toList];exact b
theorem QP(C c a sl sc):(iz (C++[c])).set (C.length*4+3) (Sl a sl sc)=iz (C++[c.gp a sl sc]):=by
 let b:(iz C).length=C.length*4:=eN dF 4 (λ_=>rfl) C;rw[tR,tR,FB _ _ aA,b];have:C.length*4+3-C.length*4=3:=aA;rw[this];rfl
theorem LR(Q)(hQ:∀c a d v w,Q (.panic c) (Act.put a d v) w->Q (.panic c) a w)(aY n g h r1 r2 no bZ K pv C f)(E:aB Pe)(t W x1 x2 x3 x4 x5 x7 x8 x9 ai V X aq ba b0 bd ae ad ax aj bh a1 az b6 a6 a7 ag b3 b8 b7 aw ak Z bc bb au af ay an aa b2 U a8 b9 bj bp bl bu bt bk bn bw bm)
  (hw:W.heap[aY]?=some (.cells #[r1,r2,.slice no K.length bZ,Sl g (C.length+1) h,pv] 153 (0,0))) (hE:fL W (Sl g (C.length+1) h) (C++[f])) (hn:C.length<=1000) (z:C.length=E.length)
  (ah:∀(i:Nat) c e,C[i]?=some c->E[i]?=some e->gU W c e) (hT:∀c∈C,FQ W c) (J:uT W f t) (T:∀a,f.ao=some a->∃P m,W.heap[a.block]?=some (.cells P 9 m)) (hK:K.length<=1000) (c7:K.length<=bZ) (hN:km W no K) (ar:∀a,no=some a->∃P m,W.heap[a.block]?=some (.cells P 226 m)) (AA:∀k∈K,nL k.op) (b1:xw K) (D:∀e∈E,e.so.length=K.length+1)
  (H:W.heap[n]?=some (.cells #[Iv 0,Iv 0,.slice none 0 0,.slice none 0 0] 159 (0,0))) (b5:n≠g)
  (hk:∀l sc (u) (y),W.heap.size<=l->y.heap[l]?=some (.cells u 4 (0,0))->c_ (λb=>b=g\/b=n) W y->fL y (Sl g (C.length+1) h) (C++[f.gp l (K.length+1) sc])->gU y (f.gp l (K.length+1) sc) (eG E.reverse K t.bare)->
   y.heap[n]?=some (.cells #[Iv f.number,Iv f.time,.slice f.ao f.al f.ac,Sl l (K.length+1) sc] 159 (0,0))->Q .normal ⟨#[(Pt aY),x1,x2,x3,x4,x5,(Pt n),x7,x8,x9,ai,V,X,aq,ba,b0,bd,ae,ad,ax,aj,bh,a1,az,b6,a6,a7,ag,b3,b8,b7,aw,ak,Z,bc,bb,au,af,ay,an,aa,b2,U,a8,b9,(Pt aY),(Pt aY),(.pointer (some (Ad aY 2))),(.slice no K.length bZ),(Pt aY),(Pt aY),(.pointer (some (Ad aY 3))),(Sl g (C.length+1) h),(nG (f.gp l (K.length+1) sc))],[]⟩ y):
  (Code.region 6 XT true).wp prog Q ⟨#[(Pt aY),x1,x2,x3,x4,x5,(Pt n),x7,x8,x9,ai,V,X,aq,ba,b0,bd,ae,ad,ax,aj,bh,a1,az,b6,a6,a7,ag,b3,b8,b7,aw,ak,Z,bc,bb,au,af,ay,an,aa,b2,U,a8,b9,bj,bp,bl,bu,bt,bk,bn,bw,bm],[]⟩ W:=by
 have c8:=aN hw;have el:(C++[f]).length=C.length+1:=aF;have Pv:World.ownsRow W 0 159 4 (Sl g (C.length+1) h) (C.length+1) (iz (C++[f])):=by
  have h0:=hE;unfold fL at h0;rw[el]at h0;exact h0
 obtain⟨cg,O,bo,b4,bx,br,c1⟩:=H2 Pv rfl;have hW:Calls prog 132 #[.slice no K.length bZ,Sl g (C.length+1) h] W.drew λe y=>∃l sc u,e=.returned (nG (f.gp l (K.length+1) sc))/\W.heap.size<=l/\Only g W y/\
   y.heap[g]?=some (.cells (cg.setIfInBounds (C.length*4+3) (Sl l (K.length+1) sc)) 159 (0,0))/\y.heap[l]?=some (.cells u 4 (0,0))/\gU y (f.gp l (K.length+1) sc) (eG E.reverse K t.bare):=by
  have G:(C++[f]).getD C.length f=f:=aF;have R:(E++[t]).getD C.length t=t:=by rw[z];simp
  have L:∀i,i<C.length->∃c e,(C++[f]).getD i f=c/\(E++[t]).getD i t=e/\C[i]?=some c/\E[i]?=some e:=λi hi=>by
   have j:i<E.length:=aA;exact⟨C[i],E[i],by rw[qB,uw hi,fH hi];rfl,by rw[qB,uw j,fH j];rfl,fH hi,fH j⟩
  have:=Cr no bZ K g h C.length cg (λi=>(C++[f]).getD i f) (λi=>(E++[t]).getD i t) W.drew aA b4 hK c7 O ?_ (λbs=>hN bs) ?_ AA b1 ?_ ?_ ?_ (by simp only[G,R];exact⟨J.number,J.time,J.low,J.al,J.DI,J.atoms⟩) ?_
  .simp only[G,R]at this;have hb:fq (λi=>(E++[t]).getD i t) C.length=E.reverse:=by
    rw[Z'' (F:=λi=>E.getD i t) (λi hi=>by
     have j:i<E.length:=aA;show(E++[t]).getD i t=E.getD i t;rw[qB,uw j,<-qB]),z]
    exact DL E t
   rw[hb]at this;apply this.mono;rintro e y ⟨l,sc,u,j,M,A,N,h5,h6⟩;exact⟨l,sc,u,j,M,⟨A.os,A.tape,A.output,A.size,A.block⟩,N,h5,h6⟩
  .intro i k v hi hv;have hc:(C++[f])[i]?=some ((C++[f]).getD i f):=by
    have:i<(C++[f]).length:=aA;rw[qB,fH this];rfl
   exact bo _ _ (jl dF 4 (λ_=>rfl) (C++[f]) i k _ v hc hv)
  .intro a I e;obtain⟨P,m,j⟩:=ar a I;rw[e,O]at j;cases j
  .intro i hi;obtain⟨c,e,j,M,A,N⟩:=L i hi;simp only[j,M];exact(ah i c e A N).below ((cD _ W).drew)
  .intro i hi;have⟨c,e,j,M,A,N⟩:=L i hi;simp only[M];exact D e (iF N)
  .intro i hi;have⟨c,e,j,M,A,N⟩:=L i hi;simp only[j];exact(hT c (iF A)).off O
  .simp only[G];intro a I e;have⟨P,m,j⟩:=T a I;rw[e,O]at j;cases j
 have bf:Hid (∀w',Only g W w'->(λw'=>w'.cell? (Ad aY 2)=some (.slice no K.length bZ)/\w'.cell? (Ad aY 3)=some (Sl g (C.length+1) h)) w'):=λw' ho=>by
  have j:=ho.heap hw (by rintro rfl;rw[hw]at O;cases O);exact⟨aD j rfl,aD j rfl⟩
 have s:=bf.out _ (Only.refl g W).drew;clear ah hT J hN ar AA b1 D z el;simp only[XT,DR,f87,fD];apply cA.begin (S:=(λw'=>w'.cell? (Ad aY 2)=some (.slice no K.length bZ)/\w'.cell? (Ad aY 3)=some (Sl g (C.length+1) h))) (fin:=9) aL;simp only[ju,ic,jr,Nat.reduceAdd,fE];refine cA.tk 0 s ?_
 try walk_nrm
 refine cA.tk 1 s ?_
 try walk_nrm
 refine cA.tk 2 s ?_
 try walk_nrm
 refine cA.tk 3 s ?_
 try walk_nrm
 refine cA.tk 4 s ?_
 try walk_nrm
 refine cA.tk 5 s ?_
 try walk_nrm
 refine cA.tk 6 s ?_
 try walk_nrm
 refine cA.tk 7 s ?_
 try walk_nrm
 refine cA.o 8 (MO func132 hW ?_);rintro e W1 ⟨l,sc,u,rfl,bz,B,c6,bg,bq⟩;refine⟨_,rfl,λ_=>bf.out _ B,?_⟩
 try walk_nrm
 have o:=B.heap H b5;have r0:=aD (i:=0) o rfl;have r1':=aD (i:=1) o rfl;have r2':=aD (i:=2) o rfl;have r3':=aD (i:=3) o rfl;have fz:∀q,W1.frozen? (Ad n q)=false:=λq=>cK o q;refine cA.op (i:=9) jZ rfl (by rfl) λK' hK'=>?_;unfold Oper.wp;simp only[nG,jb.gp];go_simp;refine hK' _ _ ⟨λx=>absurd x aG,?_⟩;refine cA.done jZ ?_ _
 try walk_nrm
 have hR:=dS (i:=3) (v:=Sl l (K.length+1) sc) (dS (i:=2) (v:=.slice f.ao f.al f.ac) (dS (i:=1) (v:=Iv f.time) (dS (i:=0) (v:=Iv f.number) o)));simp only[P_,CC,Iq]at hR;have r:Only n W1 ((((W1.setCell (Ad n 0) (Iv f.number)).setCell (Ad n 1) (Iv f.time)).setCell (Ad n 2) (.slice f.ao f.al f.ac)).setCell (Ad n 3) (Sl l (K.length+1) sc)):=((((Only.refl _ W1).setCell (p:=(Ad n 0)) (.inl rfl) _).setCell (p:=(Ad n 1)) (.inl rfl) _).setCell (p:=(Ad n 2)) (.inl rfl) _).setCell (p:=(Ad n 3)) (.inl rfl) _;generalize((((W1.setCell (Ad n 0) (Iv f.number)).setCell (Ad n 1) (Iv f.time)).setCell (Ad n 2) (.slice f.ao f.al f.ac)).setCell (Ad n 3) (Sl l (K.length+1) sc))=W4 at hR r⊢;have ca:=aN H;refine hk l sc u W4 bz (r.heap bg aA) ⟨r.os.trans B.os,r.tape.trans B.tape,r.output.trans B.output,gH B.size r.size,λb hb hp=>(r.block b (fZ hb B.size) λe=>hp (.inr e)).trans (B.block b hb λe=>hp (.inl e))⟩ ?_ ?_ hR
 .have Y:(C++[f.gp l (K.length+1) sc]).length=C.length+1:=by simp
  show World.ownsRow _ 0 159 4 _ _ _;rw[Y];refine⟨by rw[iz,eN dF 4 λ_=>rfl,Y],.inr ⟨g,h,_,rfl,cC,r.heap c6 (lG b5),b4,bx,by simpa using br,?_⟩⟩;rw[<-QP,<-c1,Array.toList_setIfInBounds,List.take_set]
 .refine bq.only ⟨λa I=>?_,λa I=>?_⟩ r
  .have:some ((Ad l 0):bC)=some a:=I;cases this;show l≠n;omega
  .intro e;have⟨P,m,j⟩:=T a I;rw[e,H]at j;cases j
theorem De{P h o a w K Q E}
  (l:o.guard=none) (s x t) (p:o.op=Op.call {callee:=Callee.builtin Builtin.append,args:=#[s,x],argTypes:=#[t,t]})
  (e i) (A:P.underlying t=some (.slice e)) (v:P.info? e=some i) (g n cap b) (C:w.heap[g]?=some (.cells b e (0,0))) (D:a.eval s=Sl g n cap)
  (k m c news) (z:a.eval x=.slice (some k) m c) (y:news.length=m*i.size) (B:∀j u,news[j]?=some u->w.cell? (k.add j)=some u) (q:∀u∈news,u.oneCell'=true)
  (d:n+m<=cap) (f:n*i.size+news.length<=b.size)
  (r:K (a.put o.dst (Sl g (n+m) cap)) (w.setRow g (b.toList.take (n*i.size)++news++b.toList.drop (n*i.size+news.length)).toArray)):
  if Region.wanted o (yielded h a.tmps)=true then Oper.wp P o a w K Q else E:=by
 let hw:Region.wanted o (yielded h a.tmps)=true:=by simp[Region.wanted,l]
 rw[bY hw];unfold Oper.wp;simp[execOp,p,resolve,invoke,builtin,D,z,run_append_room (P:=P) w t o.type e i A v g n cap b C k m c news y B q d f,Result.andThen];rw[nC]at r;exact r
theorem zo{T:bQ}(h:T:=by rcases hs with rfl|rfl<;>omega):T:=h
def VF(q st et a:Nat)(b:aU aE):Prop:=(q=130/\st=146/\et=159/\a=4/\b=#[Iv 0,Iv 0,.slice none 0 0,.slice none 0 0])\/(q=99/\st=151/\et=183/\a=5/\b=#[.string ⟨#[]⟩,.pointer none,Iv 0,Iv 0,.pointer none])\/(q=184/\st=54/\et=59/\a=4/\b=#[Iv 0,Iv 0,Iv 0,.bool false])
theorem Sk{q st et c b}(h:VF q st et c b)(k):∀u∈(Builtin.zeroCells b k).toList,u.oneCell'=true:=by
 intro u a;simp only[Builtin.zeroCells,Array.toList_map,iZ,Array.mem_toList_iff,Array.mem_range]at a;obtain⟨i,_,rfl⟩:=a;obtain⟨_,_,_,_,rfl⟩|⟨_,_,_,_,rfl⟩|⟨_,_,_,_,rfl⟩:=h
 all_goals
  simp only[ju,ic,jr,fE,Nat.reduceAdd]
  first
  |(rcases(by omega:i%4=0\/i%4=1\/i%4=2\/i%4=3)with h|h|h|h<;>rw[h]<;>rfl)
  |(rcases(by omega:i%5=0\/i%5=1\/i%5=2\/i%5=3\/i%5=4)with h|h|h|h|h<;>rw[h]<;>rfl)
theorem BC{q st et a b}(h:VF q st et a b)(k):(Builtin.zeroCells b k).toList.length=k*a:=by
 obtain⟨_,_,_,rfl,rfl⟩|⟨_,_,_,rfl,rfl⟩|⟨_,_,_,rfl,rfl⟩:=h<;>simp[Builtin.zeroCells]
theorem QD{q st et d b}(h:VF q st et d b)(W n g o k c)(p:k≠0)(a)(j:W.heap[g]?=some (.cells a et (0,0)))(e:o+k*d<=a.size):
  (Builtin.clear_ #[st] n #[.slice (some (Ad g o)) k c]).run prog W=.ok (.tuple #[]) (W.setRow g (a.toList.take o++(Builtin.zeroCells b k).toList++a.toList.drop (o+k*d)).toArray):=by
 let f:=run_storeCells_at (P:=prog) g o et _ 0 a W j (by rw[BC h];omega) (Sk h k);rw[BC h,FE]at f;obtain⟨k,rfl⟩:∃m,k=m+1:=⟨k-1,aA⟩;let i:(Value.agg b).cells=b:=by rcases h with⟨_,_,_,_,rfl⟩|⟨_,_,_,_,rfl⟩|⟨_,_,_,_,rfl⟩<;>rfl
 let l:∀w:aC,(underlying st).run prog w=.ok (.slice et) w:=by
  obtain⟨_,rfl,rfl,_⟩|⟨_,rfl,rfl,_⟩|⟨_,rfl,rfl,_⟩:=h<;>intro w
  .have:=underlying146;simp[underlying,this]
  .have:=underlying151;simp[underlying,this]
  .have:=underlying54;simp[underlying,this]
 obtain⟨_,rfl,rfl,rfl,rfl⟩|⟨_,rfl,rfl,rfl,rfl⟩|⟨_,rfl,rfl,rfl,rfl⟩:=h
 all_goals
  simp[Builtin.clear_,l,i,f]
theorem Nw(C):∀k,iz (C.drop k)=(iz C).drop (k*4):=by
 induction C with
 |nil=>intro k;simp[iz]
 |cons c C d=>
  intro k;cases k with
  |zero=>simp
  |succ k=>
   let e:iz (c::C)=dF c++iz C:=rfl;rw[P9,d k,e,List.drop_append];let a:(dF c).length=4:=rfl;rw[a];let b:(k+1)*4-4=k*4:=aA;rw[b,ux (l:=dF c) (by rw[a];omega),jq]
theorem I5{q st et d zs}(h:VF q st et d zs)(B g cap i j n xs w)(hE:w.ownsRow B et d (Sl g n cap) n xs)(J:∀u∈xs,u.oneCell'=true)(a8:i<j)(ad:j<=n)(hn:n<=1000):
  Calls prog q #[Sl g n cap,Iv (i),Iv (j)] w λe w'=>e=.returned (Sl g (n-(j-i)) cap)/\w'.ownsRow B et d (Sl g (n-(j-i)) cap) (n-(j-i)) (xs.take (i*d)++xs.drop (j*d))/\Only g w w':=by
 obtain⟨P,⟨h1,_⟩|⟨g',Y,k,e1,V,I,ae,F,y,D⟩⟩:=hE
 .cases h1
 cases e1;obtain⟨z,hi,v⟩:∃z,prog.info? et=some z/\z.size=d:=by
  rcases h with⟨_,_,rfl,rfl,_⟩|⟨_,_,rfl,rfl,_⟩|⟨_,_,rfl,rfl,_⟩
  .have⟨a,b,_,c,_⟩:=eB wP;exact⟨a,b,c⟩
  .have⟨a,b,_,c,_⟩:=eB l9;exact⟨a,b,c⟩
  .have⟨a,b,_,c,_⟩:=eB Wn;exact⟨a,b,c⟩
 have hs:d=4\/d=5:=by rcases h with⟨_,_,_,h,_⟩|⟨_,_,_,h,_⟩|⟨_,_,_,h,_⟩<;>simp[h]
 have hU:prog.underlying st=some (.slice et):=by
  obtain⟨_,rfl,rfl,_⟩|⟨_,rfl,rfl,_⟩|⟨_,rfl,rfl,_⟩:=h
  .exact underlying146
  .exact underlying151
  .exact underlying54
 obtain⟨news,f⟩:∃news,news=xs.drop (j*d):=⟨_,rfl⟩;have X:cap<=9223372036854775807:=gH F aG;have E:=BC h (j-i);have G:=λW U o k I hf=>QD h W U g o (j-i) (cap-(n-(j-i))) aA k I hf;obtain⟨Z,hZ⟩:∃Z,Z=(Builtin.zeroCells zs (j-i)).toList:=⟨_,rfl⟩;rw[<-hZ]at E G;clear hZ;have l:news.length=(n-j)*d:=by rw[f,nZ,P,Nat.sub_mul]
 have Ej:k.toList.length=cap*d:=yB▸y;have C:∀t u,news[t]?=some u->w.cell? (Ad g (j*d+t))=some u:=by
  intro t u p;have ht:=(eY.1 p).1;rw[l]at ht;apply aD I;rw[f,uN,<-D,BH]at p;rw[bY zo]at p;simpa using p
 obtain⟨A,hA,O⟩:∃A:bC,(if cap=j then some ((Ad g 0):bC)else some (Ad g (j*d)))=some A/\Hid (∀t u,news[t]?=some u->w.drew.cell? (A.add t)=some u):=by
  by_cases h:cap=j
  .refine⟨(Ad g 0),by simp[h],λt u p=>?_⟩;have P:news.length=0:=l▸zo;rw[uJ.1 P]at p;simp at p
  .refine⟨(Ad g (j*d)),by simp[h],λt u p=>?_⟩;rw[oZ];exact C t u p
 obtain⟨R,K⟩:∃R,R=k.toList.take (i*z.size)++news++k.toList.drop (i*z.size+news.length):=⟨_,rfl⟩;obtain⟨N,m⟩:∃N,N=w.drew.setRow g R.toArray:=⟨_,rfl⟩;have r:∀u∈news,u.oneCell'=true:=λu p=>J u (by rw[f]at p;exact sN p);have H:N.heap[g]?=some (.cells R.toArray et (0,0)):=m▸CR w.drew g k _ _ (0,0) I;have s:R.length=cap*d:=by
  simp only[K,ky,kV,nZ,Ej,l,v];exact zo
 have aa:=λU=>G N U ((n-(j-i))*d) _ H (by rw[ju,s];exact zo);have x:∀Q,Q=N.setRow g (R.toArray.toList.take ((n-(j-i))*d)++Z++R.toArray.toList.drop ((n-(j-i))*d+(j-i)*d)).toArray->Q.ownsRow B et d (Sl g (n-(j-i)) cap) (n-(j-i)) (xs.take (i*d)++xs.drop (j*d))/\Only g w Q:=by
  rintro Q rfl;have a1:(k.toList.take (i*d)++news).length=(n-(j-i))*d:=by
   simp only[ky,kV,Ej,l];exact zo
  refine⟨⟨?_,.inr ⟨g,cap,_,rfl,V,CR _ g _ _ _ _ H,aA,F,?_,?_⟩⟩,?_⟩
  .simp only[ky,kV,nZ,P];exact zo
  .simp only[ju,ky,kV,nZ,E,s];exact zo
  .have e2:R.take ((n-(j-i))*d)=k.toList.take (i*d)++news:=by
    rw[K,v,FJ aA,rD aA]
   have e3:k.toList.take (i*d)=xs.take (i*d):=by rw[<-D,List.take_take];congr 1;exact zo
   simp only[];rw[e2,nC,FJ aA,rD aA,e3,f]
  .refine⟨by rw[m];rfl,by rw[m];rfl,by rw[m];rfl,by rw[m];simp,λb hb L=>?_⟩;rw[Au _ _ _ _ L,m,Au _ _ _ _ L];rfl
 have S:news.length=(n-j)*z.size:=v▸l;have T:i*z.size+news.length<=k.size:=by rw[y,v,l];exact zo
 have hW:=hid m;replace K:Hid _:=K;replace x:Hid _:=x;replace S:Hid _:=S;replace T:Hid _:=T;replace r:Hid _:=r;have Wb:=hid I;have a7:j<=cap:=aA;have a6:i<=cap:=aA;clear C f l H s P D I m y F Ej J G E hs v;rcases h with⟨rfl,rfl,rfl,rfl,_⟩|⟨rfl,rfl,rfl,rfl,_⟩|⟨rfl,rfl,rfl,rfl,_⟩;go_enter func130,ntmps130
 rotate_left
 go_enter func99,ntmps99
 rotate_left
 go_enter func184,ntmps184
 rotate_left
 all_goals
  go_wp2_with fail
  go_region_law (refine De rfl (.tmp 22) (.tmp 25) _ rfl _ z hU hi g i cap k Wb.out (by simp[Act.eval,Act.put]) A (n-j) (cap-j) news (by simp[Act.eval,Act.put]) S.out O.out r.out aA T.out ?_;rw[<-K.out,<-hW.out])
  have af:n-(n-(j-i))=j-i:=aA;have M:i+(n-j)=n-(j-i):=aA;rw[M];go_wp2;go_ret;exact⟨rfl,x.out _ (by simp only[nC])⟩
theorem D1(ea cap k C w)(j:fL w (.slice ea C.length cap) C)(a:k<=C.length)(o:C.length<=1000)(d:C.length<=cap):
  Calls prog 130 #[.slice ea C.length cap,Iv 0,Iv (k)] w λe f=>e=.returned (.slice ea (C.length-k) cap)/\fL f (.slice ea (C.length-k) cap) (C.drop k)/\c_ (λb=>(Value.slice ea C.length cap).ownBlock=some b) w f:=by
 obtain rfl|p:=BG k
 .refine(KB ea C.length cap w d).mono ?_;rintro e f ⟨rfl,rfl⟩;exact⟨rfl,j,c_.refl _ _⟩
 .obtain⟨_,rfl⟩|⟨g,cp,i,_⟩:=j.cases
  .simp at a;omega
  .cases i;refine(I5 (.inl ⟨rfl,rfl,rfl,rfl,rfl⟩) 0 g cap 0 k C.length _ w j (λu h=>?_) p a o).mono ?_
   .let⟨c,hc,h⟩:=Ir.1 h;obtain⟨e,_,rfl⟩:=iZ.1 hc;exact Xy e u h
   rintro e f ⟨rfl,l,m⟩;refine⟨rfl,?_,c_.qR m λx n=>by rw[n];rfl⟩;rw[Nat.zero_mul,List.take_zero,jq,<-Nw]at l;show World.ownsRow _ _ _ _ _ _ _;rw[nZ];exact l
theorem JC(Q)(hQ:∀c a d v w,Q (.panic c) (Act.put a d v) w->Q (.panic c) a w)(aY F f rm O ea bO pv C num time m h l W x2 x3 x4 x5 x6 x8 x9 aj Z a1 aq b6 ay b7 ag af au ak b9 a6 ax b3 ad ae ai az b5 b4 bs c7 cc c1 bt bp bx bu cd c8 c6 bn bb bl T ar a8 b1 b0 U ah b2 aa)
  (hw:W.heap[aY]?=some (.cells #[Iv f,rm,O,.slice ea C.length bO,pv] 153 (0,0))) (hE:fL W (.slice ea C.length bO) C) (hn:C.length<=1000) (ht:0<=time/\time<=1000000000000) (hr:0<=f/\f<=1000000000) (k) (bo:nU (time-f) C=k) (I:C.length<=bO) (an:k<=C.length)
  (L:W.heap[F]?=some (.cells #[Iv num,Iv time,.slice m h l,.slice none 0 0] 159 (0,0))) (R:(Value.slice ea C.length bO).ownBlock≠some F)
  (hK:∀Zm (W') (v41),W'.heap[aY]?=some (.cells #[Iv f,rm,O,Zm,pv] 153 (0,0))->fL W' Zm (C.drop k++[(⟨num,time,m,h,l,none,0,0⟩:jb)])->c_ (λb=>b=aY\/(Value.slice ea C.length bO).ownBlock=some b) W W'->(∀b,Zm.ownBlock=some b->(Value.slice ea C.length bO).ownBlock=some b\/W.heap.size<=b)->
   Q .normal ⟨#[(Pt aY),(Iv time),x2,x3,x4,x5,x6,(Pt F),x8,x9,aj,Z,a1,aq,b6,ay,b7,ag,af,au,ak,b9,a6,ax,b3,ad,ae,ai,az,b5,b4,(Pt aY),(Pt aY),(Pt aY),(.pointer (some (Ad aY 3))),(.slice ea C.length bO),(Pt aY),(Iv time),(Iv (k)),(.slice ea (C.length-k) bO),(.agg #[Iv num,Iv time,.slice m h l,.slice none 0 0]),v41,Zm,(Pt aY),(.pointer (some (Ad aY 3))),T,ar,a8,b1,b0,U,ah,b2,aa],[]⟩ W'):
  (Code.region 5 PR true).wp prog Q ⟨#[(Pt aY),(Iv time),x2,x3,x4,x5,x6,(Pt F),x8,x9,aj,Z,a1,aq,b6,ay,b7,ag,af,au,ak,b9,a6,ax,b3,ad,ae,ai,az,b5,b4,bs,c7,cc,c1,bt,bp,bx,bu,cd,c8,c6,bn,bb,bl,T,ar,a8,b1,b0,U,ah,b2,aa],[]⟩ W:=by
 obtain⟨ow,K⟩:∃o:Obj,o=.cells #[Iv f,rm,O,.slice ea C.length bO,pv] 153 (0,0):=⟨_,rfl⟩;obtain⟨on,b8⟩:∃o:Obj,o=.cells #[Iv num,Iv time,.slice m h l,.slice none 0 0] 159 (0,0):=⟨_,rfl⟩;obtain⟨S,hS⟩:∃S,S=λw':aC=>w'.cell? (Ad aY 3)=some (.slice ea C.length bO)/\w'.cell? (Ad F 0)=some (Iv num)/\w'.cell? (Ad F 1)=some (Iv time)/\w'.cell? (Ad F 2)=some (.slice m h l)/\w'.cell? (Ad F 3)=some (.slice none 0 0):=⟨_,rfl⟩;rw[<-K]at hw;rw[<-b8]at L;let cj:=aN hw;let ck:=aN L;obtain⟨i0,hi,ca,cb,br⟩:=eB wP;let HO:Hid (∀w',Bl W w'->Calls prog 131 #[Pt aY,Iv time] w' λe bz=>e=.returned (Iv (k:Int))/\Bl w' bz):=λw' hb=>by
  have:=Ju aY f rm O (.slice ea C.length bO) pv C time w' (K▸hb.aT hw) (hE.below hb) aA ht hr;rw[bo]at this;exact this
 let n:=hid λ(w':aC)(H:w'.heap[aY]?=some ow)(h2:w'.heap[F]?=some on)=>show S w' by
  subst hS K b8;exact⟨aD H rfl,aD h2 rfl,aD h2 rfl,aD h2 rfl,aD h2 rfl⟩
 let N:=hid λw' (hb:Bl W w')=>n.out w' (hb.aT hw) (hb.aT L);let bq:(Value.slice ea C.length bO).ownBlock≠some aY:=λe=>by
  obtain⟨cs,H⟩:=cE hE e;rw[hw,K]at H;cases H
 let after:∀(A D:aC),Bl W A->c_ (λb=>(Value.slice ea C.length bO).ownBlock=some b) A D->D.heap[aY]?=some ow/\D.heap[F]?=some on/\c_ (λb=>b=aY\/(Value.slice ea C.length bO).ownBlock=some b) W D:=λA D hb ho=>
  ⟨(ho.block aY (aN (hb.aT hw)) bq).trans (hb.aT hw),(ho.block F (aN (hb.aT L)) R).trans (hb.aT L),(c_.aS hb).trans (ho.mono λ_ _ hx=>.inr hx)⟩
 replace after:Hid _:=after;let z:=N.out _ (cD _ W).drew;let s:∀(V:aC)(sl:Nat),V.heap[aY]?=some ow->V.heap[F]?=some on->fL V (.slice ea (C.length-k) bO) (C.drop k)->c_ (λb=>b=aY\/(Value.slice ea C.length bO).ownBlock=some b) W V->(∀j u,(dF (⟨num,time,m,h,l,none,0,0⟩:jb))[j]?=some u->V.cell? (((Ad sl 0):bC).add j)=some u)->
   cA prog .any PR Q S 14 4 #[true,true,true,true,true,true,true,true,true,true,true,false,false,false,false] ⟨#[(Pt aY),(Iv time),x2,x3,x4,x5,x6,(Pt F),x8,x9,aj,Z,a1,aq,b6,ay,b7,ag,af,au,ak,b9,a6,ax,b3,ad,ae,ai,az,b5,b4,(Pt aY),(Pt aY),(Pt aY),(.pointer (some (Ad aY 3))),(.slice ea C.length bO),(Pt aY),(Iv time),(Iv (k:Int)),(.slice ea (C.length-k) bO),(.agg #[Iv num,Iv time,.slice m h l,.slice none 0 0]),(Sl sl 1 1),bn,bb,bl,T,ar,a8,b1,b0,U,ah,b2,aa],[]⟩ V:=by
  intro V sl a7 bd bc P aw;subst hS K b8;let aaO:V.ownsRow 0 159 4 (.slice ea (C.length-k) bO) (C.length-k) (iz (C.drop k)):=by
   have:=bc;unfold fL at this;rw[nZ]at this;exact this
  simp only[PR,DR,f87,fD];refine cA.one (i:=11) jZ rfl (by rfl) (wp_append_own (.tmp 39) (.tmp 41) 146 rfl 0 159 i0 _ 4 64 underlying146 hi ca cb br rfl aG (.slice ea (C.length-k) bO) (C.length-k) (iz (C.drop k)) rfl aaO (Ad sl 0) 1 1 (dF (⟨num,time,m,h,l,none,0,0⟩:jb)) rfl rfl aw (Xy _) eP aA cC ?_);intro v' w2 B q bh;let bj:(Value.slice ea (C.length-k) bO).ownBlock=(Value.slice ea C.length bO).ownBlock:=by cases ea<;>rfl
  rw[bj]at q bh;obtain⟨g2,c2,rfl⟩:=ownsRow_succ B;let ba:∀b,(Value.slice ea C.length bO).ownBlock=some b->∃cs,V.heap[b]?=some (.cells cs 159 (0,0)):=λb hb=>cE bc (bj.trans hb);let y:=(q.block aY (aN a7) λe=>by obtain⟨cs,H⟩:=ba aY e.symm;rw[a7]at H;cases H).trans a7;let cm:=aD (i:=3) y rfl;let cl:=cK y 3;let bf:=(q.block F (aN bd) λe=>R e.symm).trans bd;let X:=n.out _ y bf;refine⟨λ_=>X,?_⟩
  try walk_nrm
  refine cA.o 12 (PM ⟨λ_=>X,?_⟩)
  try walk_nrm
  refine cA.o 13 (PM ⟨λ_=>X,?_⟩)
  try walk_nrm
  refine cA.o 14 (opk ⟨λx=>absurd x aG,?_⟩);refine cA.done jZ ?_ _
  try walk_nrm
  let bw:g2≠aY:=by
   rintro rfl;obtain⟨_,⟨h2,_⟩|⟨g',cg,cn,e1,_,e2,_⟩⟩:=B
   .cases h2
   .cases e1;rw[y]at e2;cases e2
  apply hK (Sl g2 (C.length-k+1) c2) _ _ (dS (i:=3) y)
  .show World.ownsRow _ 0 159 4 _ _ _;let el:(C.drop k++[(⟨num,time,m,h,l,none,0,0⟩:jb)]).length=C.length-k+1:=aF;rw[el,tR];exact eF B λb cf=>mE _ _ _ _ (by cases cf;exact bw)
  .let s1:c_ (λb=>b=aY\/(Value.slice ea C.length bO).ownBlock=some b) W w2:=P.trans (c_.Up q λx hx=>.inr hx);exact s1.trans (c_.qR ((Only.refl aY w2).setCell (p:=(Ad aY 3)) (.inl rfl) _) λx hx=>.inl hx)
  .intro b hb;rcases bh with e|e
   .exact .inl (e▸hb)
   .rw[e]at hb;cases hb;exact .inr P.size
 simp only[PR,DR,f87,fD]at s⊢;apply cA.begin (S:=S) (fin:=14) aL;subst hS;simp only[ju,ic,jr,Nat.reduceAdd,fE];refine cA.tk 0 z ?_
 try walk_nrm
 refine cA.tk 1 z ?_
 try walk_nrm
 refine cA.tk 2 z ?_
 try walk_nrm
 refine cA.tk 3 z ?_
 try walk_nrm
 refine cA.tk 4 z ?_
 try walk_nrm
 refine cA.tk 5 z ?_
 try walk_nrm
 refine cA.tk 6 z ?_
 try walk_nrm
 refine cA.tk 9 z ?_
 try walk_nrm
 refine cA.t 7 10 ?_ ?_
 .refine MO func131 (HO.out W.drew (cD W.heap.size W).drew) ?_;rintro e A ⟨rfl,g⟩;replace g:Bl W A:=((cD W.heap.size W).drew).trans (g.mono ((cD W.heap.size W).drew).size);refine⟨_,rfl,λ_=>N.out _ g,?_⟩
  try walk_nrm
  refine cA.t 8 10 ?_ ?_
  .refine MO func130 (D1 ea bO k C A (hE.below g) an hn I) ?_;rintro e D ⟨rfl,J,E⟩;obtain⟨t,r,M⟩:=after.out A D g E;refine⟨_,rfl,λ_=>n.out _ t r,?_⟩
   try walk_nrm
   let G:=λo=>(cD D.heap.size D).al o;refine cA.o 10 (PM ⟨λ_=>n.out _ ((G _).aT t) ((G _).aT r),?_⟩)
   try walk_nrm
   exact s _ D.heap.size ((G _).aT t) ((G _).aT r) (J.below (G _)) (M.trans (c_.aS (G _))) (mP D (⟨num,time,m,h,l,none,0,0⟩:jb) 159)
  .refine PM ⟨λ_=>N.out _ ((g).al _),?_⟩
   try walk_nrm
   refine cA.o 8 (MO func130 (D1 ea bO k C _ (hE.below (g.al _)) an hn I) ?_);rintro e D ⟨rfl,J,E⟩;obtain⟨t,r,M⟩:=after.out _ D (g.al _) E;refine⟨_,rfl,λ_=>n.out _ t r,?_⟩
   try walk_nrm
   refine s _ A.heap.size t r J M λj u hj=>?_;let H:=mP A (⟨num,time,m,h,l,none,0,0⟩:jb) 159 j u hj;let cq:=g.size;let e1:((Ad A.heap.size 0):bC).add j=(Ad A.heap.size j):=by simp[Addr.add];omega
   rw[e1]at H⊢;rw[<-H];exact fP (E.block A.heap.size aF λe=>by have:=(hE.lt _ e).2;omega)
 .refine PM ⟨λ_=>N.out _ (((cD W.heap.size W).drew).al _),?_⟩
  try walk_nrm
  let Y:=(cD W.heap.size W).drew.al (.cells #[Iv num,Iv time,.slice m h l,.slice none 0 0] 159 (0,0));refine cA.o 7 (MO func131 (HO.out _ Y) ?_);rintro e A ⟨rfl,g⟩;let bk:=g;replace g:Bl W A:=(Y).trans (g.mono (Y).size);refine⟨_,rfl,λ_=>N.out _ g,?_⟩
  try walk_nrm
  refine cA.o 8 (MO func130 (D1 ea bO k C A (hE.below g) an hn I) ?_);rintro e D ⟨rfl,J,E⟩;obtain⟨t,r,M⟩:=after.out A D g E;refine⟨_,rfl,λ_=>n.out _ t r,?_⟩
  try walk_nrm
  let bm:=aN (aQ W.drew (.cells #[Iv num,Iv time,.slice m h l,.slice none 0 0] 159) W.heap.size rfl);refine s _ W.heap.size t r J M λj u hj=>?_;let H:=mP W.drew (⟨num,time,m,h,l,none,0,0⟩:jb) 159 j u hj;let e1:((Ad W.heap.size 0):bC).add j=(Ad W.heap.size j):=by simp[Addr.add];omega
  let e2:((Ad W.drew.heap.size 0):bC).add j=(Ad W.heap.size j):=e1;rw[e2]at H;let bg:W.heap.size<A.heap.size:=fZ bm bk.size;rw[e1,fP (E.block W.heap.size bg λe=>by have:=(hE.lt _ e).2;omega),bk.cell (p:=(Ad W.heap.size j)) bm];exact H
def SK(aY:Nat)(d:Int)(j:aE)(no:aR bC)(bZ:Nat)(K:aB Key)(ea:aR bC)(bO:Nat)(k:aE)(C D:aB jb)(F:aB Pe)(time:Int)(A:aB a_)(w:aC)(e:Ending)(g:aC):Prop:=
 ∃(c:jb)(f:aE)(i:Nat)(h:aU aE),e=.returned (nG c)/\c.so=some (Ad i 0)/\w.heap.size<=i/\g.heap[i]?=some (.cells h 4 (0,0))/\g.heap[aY]?=some (.cells #[Iv d,j,.slice no K.length bZ,f,k] 153 (0,0))/\fL g f (D++[c])/\
  gU g c (eG F.reverse K (⟨kr C,time,A,[]⟩:Pe).bare)/\FQ g c/\c_ (λb=>b=aY\/(Value.slice ea C.length bO).ownBlock=some b) w g/\(∀b,f.ownBlock=some b->(Value.slice ea C.length bO).ownBlock=some b\/w.heap.size<=b)/\∀a,c.ao=some a->w.heap.size<=a.block
theorem take_drop(aY f rm no bZ K ea bO pv C)(E:aB Pe)(time ao A cap w)
  (hw:w.heap[aY]?=some (.cells #[Iv f,rm,.slice no K.length bZ,.slice ea C.length bO,pv] 153 (0,0))) (hE:fL w (.slice ea C.length bO) C) (aa:C.length=E.length) (aq:∀(i:Nat) c e,C[i]?=some c->E[i]?=some e->gU w c e) (hT:∀c∈C,FQ w c) (hn:C.length<=1000) (X:0<=time/\time<=1000000000000) (hr:0<=f/\f<=1000000000) (k) (ad:nU (time-f) C=k)
  (ak:∀c,C.getLast?=some c->0<=c.number/\c.number<=1000000000000) (h:eQ w ao A) (hA:A.length<=1000) (b2:A.length<=cap) (hs:∀j,j<A.length->(A.getD j ByteArray.empty).size<=1000)
  (hK:K.length<=1000) (bd:K.length<=bZ) (hN:km w no K) (ax:∀a,no=some a->∃r m,w.heap[a.block]?=some (.cells r 226 m)) (b3:∀k∈K,nL k.op) (ba:xw K) (a7:∀e∈E,e.so.length=K.length+1):
  Calls prog 87 #[Pt aY,Iv time,.slice ao A.length cap] w (SK aY f rm no bZ K ea bO pv C (C.drop k) (E.drop k) time A w):=by
 have R:∀(i:Nat) c e,(C.drop k)[i]?=some c->(E.drop k)[i]?=some e->gU w c e:=λi c e O N=>aq (k+i) c e (uN▸O) (uN▸N);have ai:∀c∈C.drop k,FQ w c:=λc hc=>hT c (sN hc);have z:(C.drop k).length=(E.drop k).length:=by rw[nZ,nZ,aa]
 have S:∀e∈E.drop k,e.so.length=K.length+1:=λe he=>a7 e (sN he);have au:(C.drop k).length<=1000:=by rw[nZ];omega
 have bl:=hE;clear aq hT aa a7;obtain⟨D,hD⟩:∃D,D=C.drop k:=⟨_,rfl⟩;obtain⟨F,hF⟩:∃F,F=E.drop k:=⟨_,rfl⟩;have aj:D.length=C.length-k:=by rw[hD,nZ]
 rw[<-hD]at R ai z au⊢;rw[<-hF]at R z S⊢;have an:=aN hw;have ar:Hid (D.length=F.length):=z;clear z;have b5:Hid (D.length=C.length-k):=aj;clear aj;have ah:C.length<=bO:=by
  rcases hE.cases with⟨O,rfl⟩|⟨g,cp,M,O,_,_⟩
  .simp
  .cases M;exact O
 have bc:=Ng ao A cap (w.alloc (.cells #[Iv 0,Iv 0,.slice none 0 0,.slice none 0 0] 159)) (h.below (aV.al _)) hA b2 hs;go_enter func87,ntmps87;go_wp2_with fail;apply bc.mono;rintro e T ⟨v1,rfl,af,ay⟩;obtain⟨G,P,rfl,bg,b0,aw⟩:=Mc af;have u:Bl w T:=(aV.al _).tr ay;have Q:T.heap[w.heap.size]?=some (.cells #[Iv 0,Iv 0,.slice none 0 0,.slice none 0 0] 159 (0,0)):=ay.aT (aQ _ _ _ rfl);have bf:aY<T.heap.size:=fZ an u.size;have az:Bl w (T.alloc (.cells #[Iv 1,Iv time,.slice G A.length P,.slice none 0 0] 159)):=u.al _;have y3:=(az.cell (p:=(Ad aY 3)) an).trans (aD hw rfl);have l:∀b,(Value.slice ea C.length bO).ownBlock=some b->b<w.heap.size:=λb s=>(hE.lt b s).2;have n:∀b r t m,w.heap[b]?=some (.cells r t m)->t≠153->t≠159->¬(b=aY\/(Value.slice ea C.length bO).ownBlock=some b):=λb r t m s O N I=>by
  obtain rfl|I:=I
  .rw[hw]at s;injection s with s;injection s with _ s _;exact O s.symm
  .have⟨J,hc⟩:=cE hE I;rw[hc]at s;injection s with s;injection s with _ s _;exact N s.symm
 have B:∀a,G=some a->w.heap.size+1<=a.block/\∃r,T.heap[a.block]?=some (.cells r 9 (0,0)):=λa v=>by have:=aw a v;simpa using this
 have fin:∀(num:Int),num=kr C->∀W,T.alloc (.cells #[Iv num,Iv time,.slice G A.length P,.slice none 0 0] 159)=W->∀c0,(⟨num,time,G,A.length,P,none,0,0⟩:jb)=c0->∀(L:aE)(y:aC),y.heap[aY]?=some (.cells #[Iv f,rm,.slice no K.length bZ,L,pv] 153 (0,0))->fL y L (D++[c0])->c_ (λb=>b=aY\/(Value.slice ea C.length bO).ownBlock=some b) W y->(∀b,L.ownBlock=some b->(Value.slice ea C.length bO).ownBlock=some b\/W.heap.size<=b)->
   ∃g q,L=Sl g (D.length+1) q/\(∀(i:Nat) c e,D[i]?=some c->F[i]?=some e->gU y c e)/\(∀c∈D,FQ y c)/\uT y c0 (⟨kr C,time,A,[]⟩:Pe)/\(∀a,G=some a->∃r m,y.heap[a.block]?=some (.cells r 9 m))/\km y no K/\(∀a,no=some a->∃r m,y.heap[a.block]?=some (.cells r 226 m))/\y.heap[w.heap.size]?=some (.cells #[Iv 0,Iv 0,.slice none 0 0,.slice none 0 0] 159 (0,0))/\w.heap.size≠g/\
   ∀(V sc:Nat)(J:aU aE)(H:aC),y.heap.size<=V->H.heap[V]?=some (.cells J 4 (0,0))->c_ (λb=>b=g\/b=w.heap.size) y H->fL H (Sl g (D.length+1) q) (D++[c0.gp V (K.length+1) sc])->gU H (c0.gp V (K.length+1) sc) (eG F.reverse K (⟨kr C,time,A,[]⟩:Pe).bare)->
    SK aY f rm no bZ K ea bO pv C D F time A w (.returned (nG (c0.gp V (K.length+1) sc))) H:=by
  intro num ae W hW c0 bb L y f1 f2 f3 f4;have b6:Bl w W:=hW▸u.al _;have bn:W.heap.size=T.heap.size+1:=by rw[<-hW];simp
  have Y:∀b o,T.heap[b]?=some o->W.heap[b]?=some o:=λb o s=>hW▸(ij _ _ _ (aN s)).trans s;have bk:=u.size;have bp:=aN Q;have sp:c_ (λb=>b=aY\/(Value.slice ea C.length bO).ownBlock=some b) w y:=(c_.aS b6).trans f3;have el:(D++[c0]).length=D.length+1:=aF;obtain⟨g,q,rfl⟩:∃g q,L=Sl g (D.length+1) q:=by
   obtain⟨_,N⟩|⟨g,cp,M,_⟩:=f2.cases
   .simp at N
   .rw[el]at M;exact⟨g,cp,M⟩
  have U:∃cg,y.heap[g]?=some (.cells cg 159 (0,0)):=cE f2 rfl;have⟨cg,U⟩:=U;have b1:=f4 g rfl;have a8:∀a,G=some a->∃r m,y.heap[a.block]?=some (.cells r 9 m):=λa v=>by
   have⟨O,r,N⟩:=B a v;refine⟨r,(0,0),(f3.block _ (aN (Y _ _ N)) λI=>?_).trans (Y _ _ N)⟩;obtain e|e:=I
   .omega
   .have:=l _ e;omega
  subst bb;refine⟨g,q,rfl,λi c e O N=>?_,λc hc=>?_,⟨ae,rfl,⟨by show-1000000000000<=time;omega,X.2⟩,rfl,by show A.length<=_;omega,λb9=>?_⟩,a8,hN.spare sp λa v=>?_,λa v=>?_,?_,?_,?_⟩
  .have X:=ai c (iF O);exact(R i c e O N).spare sp (λa v=>by obtain⟨r,m,k⟩:=X.so a v;exact n _ _ _ _ k aG aG) (λa v=>by obtain⟨r,m,k⟩:=X.ao a v;exact n _ _ _ _ k aG aG)
  .have X:=ai c hc;exact X.spare sp (λa v=>by obtain⟨r,m,k⟩:=X.so a v;exact n _ _ _ _ k aG aG) (λa v=>by obtain⟨r,m,k⟩:=X.ao a v;exact n _ _ _ _ k aG aG)
  .have⟨b,off,O,N,h3⟩:=b0 b9;have⟨k1,r,k2⟩:=B _ O;have s:y.heap[b]?=T.heap[b]?:=((f3.block b aA (λI=>by
    obtain e|e:=I
    .have:w.heap.size+1<=b:=k1;omega
    .have:=l _ e;have:w.heap.size+1<=b:=k1;omega)).trans (Y b _ k2)).trans k2.symm
   exact⟨b,off,O,by have:=f3.size;omega,λj hj=>by rw[fP s];exact h3 j hj⟩
  .have⟨r,m,k⟩:=ax a v;exact n _ _ _ _ k aG aG
  .have⟨r,m,k⟩:=ax a v;exact⟨r,m,(sp.block _ (aN k) (n _ _ _ _ k aG aG)).trans k⟩
  .refine(f3.block _ aA λI=>?_).trans (Y _ _ Q);obtain e|e:=I
   .omega
   .have:=l _ e;omega
  .obtain e|e:=b1
   .have:=l _ e;omega
   .omega
  .intro V sc J H a1 a2 Z a4 a5;have bm:=f3.size;have b8:g≠aY:=by rintro rfl;rw[f1]at U;cases U
   refine⟨_,_,V,J,rfl,rfl,aA,a2,(Z.block aY (aN f1) λI=>I.elim (λe=>b8 e.symm) λe=>aA).trans f1,a4,a5,⟨λa v=>?_,λa v=>?_⟩,⟨Z.os.trans sp.os,Z.tape.trans sp.tape,Z.output.trans sp.output,gH sp.size Z.size,λb s I=>(Z.block b (fZ s sp.size) λe=>?_).trans (sp.block b s I)⟩,λb s=>?_,λa v=>by have:=(B a v).1;omega⟩
   .have:some ((Ad V 0):bC)=some a:=v;cases this;exact⟨J,(0,0),a2⟩
   .have⟨r,m,k⟩:=a8 a v;have⟨k1,_⟩:=B a v;refine⟨r,m,(Z.block _ (aN k) λI=>?_).trans k⟩;obtain e|e:=I
    .rw[e,U]at k;cases k
    .omega
   .obtain e|e:=e
    .obtain e2|e2:=b1
     .exact I (.inr (e▸e2))
     .omega
    .omega
   .exact(f4 b s).imp id λx=>aA
 obtain rfl|⟨C0,cl,rfl⟩:=List.eq_nil_or_concat C
 case' inr=>
  rw[List.concat_eq_append]at*;have b4:(C0++[cl])[C0.length]?=some cl:=aF;have ag:(C0++[cl]).length=C0.length+1:=aF;obtain⟨_,N⟩|⟨g0,cp,M,_,_,b7⟩:=hE.cases
  .simp at N
  cases M;have hq:=hE.cell (k:=0) b4 rfl;have y0:(T.alloc (.cells #[Iv 1,Iv time,.slice G A.length P,.slice none 0 0] 159)).cell? (Ad g0 (C0.length*4))=some (Iv cl.number):=(az.cell (p:=(Ad g0 (C0.length*4))) b7).trans hq;have bh:=ak cl aF;have bj:cl.number+1=kr (C0++[cl]):=by simp[kr]
  rw[ag]at y3
 all_goals
  go_wp2_with fail;refine JC _ ?aaX aY T.heap.size f rm (.slice no K.length bZ) _ _ pv _ _ time G A.length P _ _ _ _ _ _ _ _ _ _ _ _ _ _ _ _ _ _ _ _ _ _ _ _ _ _ _ _ _ _ _ _ _ _ _ _ _ _ _ _ _ _ _ _ _ _ _ _ _ _ _ _ ((u.al _).aT hw) (hE.below (u.al _)) hn X hr k ad ah (ad▸tX _ _) (aQ _ _ _ rfl) (λe=>by have:=l _ e;have:=u.size;omega) ?_
  case aaX=>exact λ_ _ d _ _ h=>by cases d<;>exact h
  intro L y bo f1 f2 f3 f4;rw[<-hD]at f2;have aj:=b5.out;obtain⟨g,q,rfl,k1,k2,k3,k4,k5,k6,k7,k8,k9⟩:=fin _ rfl _ rfl _ rfl _ _ f1 f2 f3 f4;go_wp2_with fail;apply LR _ ?aaY aY w.heap.size g q (Iv f) rm no bZ K pv D _ F _ y _ _ _ _ _ _ _ _ _ _ _ _ _ _ _ _ _ _ _ _ _ _ _ _ _ _ _ _ _ _ _ _ _ _ _ _ _ _ _ _ _ _ _ _ _ _ _ _ _ _ _ _ f1 f2 au ar.out k1 k2 k3 k4 hK bd k5 k6 b3 ba S k7 k8
  case aaY=>exact λ_ _ d _ _ h=>by cases d<;>exact h
  intro V sc J H a1 a2 Z a4 a5 a6;have K9:=k9 V sc J H a1 a2 Z a4 a5;go_wp2_with fail;rw[hD,hF]at K9
  try rw[List.drop_nil]at K9
  refine⟨rfl,_,?_,K9⟩;simp[results,f87,go_sem,loadVar,nG,jb.gp,aD (i:=0) a6 rfl,aD (i:=1) a6 rfl,aD (i:=2) a6 rfl,(aD (i:=3) a6 rfl)]<;>rfl
structure aH(P:Nat->Prop)(w w':aC):Prop where
 os:w'.os=w.os
 output:w'.output=w.output
 size:w.heap.size<=w'.heap.size
 block:∀b,b<w.heap.size->¬P b->w'.heap[b]?=w.heap[b]?
theorem aH.refl(P w):aH P w w:=⟨rfl,rfl,aZ,λ_ _ _=>rfl⟩
theorem aH.trans{P a b c}(h:aH P a b)(k:aH P b c):aH P a c:=⟨k.os.trans h.os,k.output.trans h.output,gH h.size k.size,λx d e=>(k.block x (fZ d h.size) e).trans (h.block x d e)⟩
theorem aH.aS{P a b}(h:Bl a b):aH P a b:=⟨h.os,h.output,h.size,λx c _=>h.block x c⟩
theorem aH.zM{P a b}(h:c_ P a b):aH P a b:=⟨h.os,h.output,h.size,h.block⟩
theorem aH.mono{P Q a b}(h:aH P a b)(f:∀x,x<a.heap.size->P x->Q x):aH Q a b:=⟨h.os,h.output,h.size,λx c d=>h.block x c λe=>d (f x c e)⟩
theorem aH.g_{P a b}(h:aH P a b)(c d):aH P a (re b c d):=⟨h.os,h.output,h.size,h.block⟩
theorem aH.Md{P a b c d}(h:aH P (re a c d) b):aH P a b:=⟨h.os,h.output,h.size,h.block⟩
structure dJ(w:aC)(aY:Nat)(Ox room:Int)(no:aR bC)(bZ:Nat)(K:aB Key)(ea:aR bC)(bO:Nat)(C:aB jb)(E:aB Pe)(pa:aR bC)(bS:Nat)(ps:aB nk)(ss:aB lx):Prop where
 cell:w.heap[aY]?=some (.cells #[Iv Ox,Iv room,.slice no K.length bZ,.slice ea C.length bO,.slice pa ps.length bS] 153 (0,0))
 bH:fL w (.slice ea C.length bO) C
 len:C.length=E.length
 ins:∀(i:Nat) c e,C[i]?=some c->E[i]?=some e->gU w c e
 typed:∀c∈C,FQ w c
 few:C.length<=1000
 ret:0<=Ox/\Ox<=1000000000
 Uo:∀c,C.getLast?=some c->0<=c.number/\c.number<=1000000000
 Um:K.length<=1000
 ncp:K.length<=bZ
 nodes:km w no K
 ld:∀a,no=some a->∃cs m,w.heap[a.block]?=some (.cells cs 226 m)
 core:∀k∈K,nL k.op
 ahead:xw K
 rows:∀e∈E,e.so.length=K.length+1
 aW:iu w pa bS ps
 wm:ps.length<=1000
 pcp:ps.length<=bS
 na:ss.length=ps.length
 zS:∀(i:Nat)(s:lx)(p:nk),ss[i]?=some s->ps[i]?=some p->p.fY=some (Ad s.cX 0)
 E8:∀s∈ss,gh w s
 apart:Apart ss
 Hr:∀p∈ps,p.node<=K.length
theorem gU.g_{w c e}(h:gU w c e)(a d):gU (re w a d) c e:=
 ⟨h.number,h.time,h.low,h.sl,h.E7,h.so,h.al,h.DI,h.atoms⟩
theorem dJ.g_{w aY a room no bZ K ea bO C E pa bS ps ss}(h:dJ w aY a room no bZ K ea bO C E pa bS ps ss)(b d):dJ (re w b d) aY a room no bZ K ea bO C E pa bS ps ss:=
 ⟨h.cell,h.bH,h.len,λi c e j g=>(h.ins i c e j g).g_ b d,λc f=>⟨(h.typed c f).so,(h.typed c f).ao⟩,h.few,h.ret,h.Uo,h.Um,h.ncp,h.nodes,h.ld,h.core,h.ahead,h.rows,h.aW,h.wm,h.pcp,h.na,h.zS,h.E8,h.apart,h.Hr⟩
def Kb(aY:Nat)(ea:aR bC)(ss:aB lx)(b:Nat):Prop:=b=aY\/(∃a,ea=some a/\a.block=b)\/Ms ss b
def dQ(w:aC)(P:Nat->Prop)(c:aB TypeId):Prop:=∀b a t m,w.heap[b]?=some (.cells a t m)->t∈c->¬P b
theorem dQ.none(w a):dQ w (λ_=>False) a:=λ_ _ _ _ _ _ h=>h
theorem dQ.less{w P c a}(h:dQ w P c)(f:∀t∈a,t∈c):dQ w P a:=λb e t m g d=>h b e t m g (f t d)
section
variable{w w':aC}{P:Nat->Prop}
theorem aH.spare(h:aH P w w'):c_ P w (re w' w.tape w'.drawn):=⟨h.os,rfl,h.output,h.size,h.block⟩
theorem gU.move{c e}(h:gU w c e)(d:FQ w c)(i:aH P w w')(f:dQ w P [4,9]):gU w' c e:=by
 have:=h.spare i.spare (λa b=>by obtain⟨g,m,k⟩:=d.so a b;exact f _ _ _ _ k aF) (λa b=>by obtain⟨g,m,k⟩:=d.ao a b;exact f _ _ _ _ k aF);exact⟨this.number,this.time,this.low,this.sl,this.E7,this.so,this.al,this.DI,this.atoms⟩
theorem FQ.move{c}(d:FQ w c)(g:aH P w w')(e:dQ w P [4,9]):FQ w' c:=by
 have:=d.spare g.spare (λa b=>by obtain⟨f,m,k⟩:=d.so a b;exact e _ _ _ _ k aF) (λa b=>by obtain⟨f,m,k⟩:=d.ao a b;exact e _ _ _ _ k aF);exact⟨this.so,this.ao⟩
theorem aH.get(c:aH P w w'){b o}(h:w.heap[b]?=some o)(a:¬P b):w'.heap[b]?=some o:=(c.block b (aN h) a).trans h
theorem km.move{no K}(h:km w no K)(e:∀a,no=some a->∃b m,w.heap[a.block]?=some (.cells b 226 m))(d:aH P w w')(f:dQ w P [226]):km w' no K:=by
 have:=h.spare d.spare (λa c=>by obtain⟨b,m,k⟩:=e a c;exact f _ _ _ _ k aF);exact this
theorem typed.move{no:aR bC}{t}(e:∀a,no=some a->∃b m,w.heap[a.block]?=some (.cells b t m))(d:aH P w w')(f:dQ w P [t]):∀a,no=some a->∃b m,w'.heap[a.block]?=some (.cells b t m):=λa c=>by
 let⟨b,m,k⟩:=e a c
 exact⟨b,m,d.get k (f _ _ _ _ k aF)⟩
theorem iu.move{pa bS ps}(h:iu w pa bS ps)(c:aH P w w')(i:dQ w P [183]):iu w' pa bS ps:=by
 obtain h|⟨pb,d,a,g,f,b,e⟩:=h
 .exact .inl h
 .exact .inr ⟨pb,d,a,g,f,c.get b (i _ _ _ _ b aF),e⟩
theorem gh.move{s}(h:gh w s)(e:aH P w w')(c:dQ w P [177,59]):gh w' s:=by
 refine h.heap λb j a=>e.block b j ?_;obtain rfl|a:=a
 .exact c _ _ _ _ h.1 aF
 .obtain⟨_,⟨d,_⟩|⟨g,cp,k,f,_,i,_⟩⟩:=h.2
  .rw[d]at a;cases a
  .rw[f]at a;cases a;exact c _ _ _ _ i aF
theorem fL.move{ev C}(h:fL w ev C)(d:aH P w w')(f:dQ w P [159]):fL w' ev C:=
 eF h λb a=>d.block b (h.lt b a).2 (by obtain⟨c,e⟩:=cE h a;exact f _ _ _ _ e aF)
theorem eQ.move{ao A}(h:eQ w ao A)(c:aH (λ_=>False) w w'):eQ w' ao A:=λa=>by
 let⟨b,off,h1,h2,h3⟩:=h a
 exact⟨b,off,h1,fZ h2 c.size,λj d=>by rw[fP (c.block b h2 λx=>x)];exact h3 j d⟩
theorem dJ.move{aY a room no bZ K ea bO C E pa bS ps ss}(h:dJ w aY a room no bZ K ea bO C E pa bS ps ss)(b:aH P w w')(d:dQ w P [4,9,226,183,177,59,159,153]):dJ w' aY a room no bZ K ea bO C E pa bS ps ss:=
 {h with
  cell:=b.get h.cell (d _ _ _ _ h.cell aF)
  bH:=h.bH.move b (d.less aF)
  ins:=λi c e g j=>(h.ins i c e g j).move (h.typed c (iF g)) b (d.less aF)
  typed:=λc k=>(h.typed c k).move b (d.less aF)
  nodes:=h.nodes.move h.ld b (d.less aF)
  ld:=typed.move h.ld b (d.less aF)
  aW:=iu.move h.aW b (d.less aF)
  E8:=λs f=>gh.move (h.E8 s f) b (d.less aF)}
end
theorem LJ{a c ps}(f:nk->Bool)(h:eI a c ps):eI a c (ps.map λp=>{p with v:=f p}):=λj p b=>by
 simp at b
 obtain⟨q,d,rfl⟩:=b
 exact h j q d
theorem LK{w pa bS ps}(f:nk->Bool)(h:iu w pa bS ps):iu w pa bS (ps.map λp=>{p with v:=f p}):=by
 obtain⟨d,b,c⟩|⟨pb,e,a,g,d,b,c⟩:=h
 .exact .inl ⟨d,by rw[b];rfl,c⟩
 .exact .inr ⟨pb,e,a,g,d,b,LJ f c⟩
theorem n5(s v lo hi w)(h:lo<=v/\v<=hi):Calls prog 124 #[.string s,Iv v,Iv lo,Iv hi] w λe a=>e=.returned .nilIface/\a=w:=by
 go_enter func124,ntmps124;go_wp2;go_ret;exact⟨rfl,rfl⟩
theorem Oa(a room w)(f:0<=a/\a<=100000)(d:1<=room/\room<=60):Calls prog 85 #[Iv a,Iv room] w λe g=>e=.returned (.tuple #[.agg #[Iv a,Iv room,.slice none 0 0,.slice none 0 0],.nilIface])/\Bl w g:=by
 let c:=n5 ⟨#[114,101,116,97,105,110]⟩ a 0 100000 (w.alloc (.cells #[Iv 0,Iv 0,.slice none 0 0,.slice none 0 0] 148)) f;go_enter func85,ntmps85;go_wp2_with fail;apply c.mono;rintro e h ⟨rfl,rfl⟩;go_wp2_with fail;apply(n5 ⟨#[114,111,111,109]⟩ room 1 60 (w.alloc (.cells #[Iv 0,Iv 0,.slice none 0 0,.slice none 0 0] 148)) d).m0;go_wp2_with fail;let b:(w.alloc (.cells #[Iv a,Iv room,.slice none 0 0,.slice none 0 0] 148)).heap[w.heap.size]?=some (.cells #[Iv a,Iv room,.slice none 0 0,.slice none 0 0] 148 (0,0)):=aQ _ _ _ rfl;refine⟨rfl,_,?_,rfl,aV.al _⟩;simp[results,f85,go_sem,loadVar,aD (i:=0) b rfl,aD (i:=1) b rfl,aD (i:=2) b rfl,(aD (i:=3) b rfl)]
theorem Ml(a room w)(f:0<=a/\a<=100000)(d:1<=room/\room<=60):Calls prog 45 #[Iv a,Iv room] w λe c=>∃aY,e=.returned (.tuple #[Pt aY,.nilIface])/\w.heap.size<=aY/\c.heap[aY]?=some (.cells #[Iv a,Iv room,.slice none 0 0,.slice none 0 0,.slice none 0 0] 153 (0,0))/\Bl w c:=by
 go_enter func45,ntmps45;go_wp2_with fail;refine(Oa a room w f d).m λg b=>?_;let h:=b.size;go_wp2;go_ret2;exact⟨_,rfl,by first|omega|(simp;omega),by first|exact aQ _ _ _ rfl|exact aQ _ _ _ aF,by first|exact(b.al _).al _|exact b.al _⟩
theorem YN(a room w)(g:0<=a/\a<=100000)(f:1<=room/\room<=60):Calls prog 23 #[Iv a,Iv room] w λe c=>∃mb aY,e=.returned (.tuple #[Pt mb,Iv 0])/\w.heap.size<=mb/\w.heap.size<=aY/\c.heap[mb]?=some (.cells #[Pt aY] 104 (0,0))/\c.heap[aY]?=some (.cells #[Iv a,Iv room,.slice none 0 0,.slice none 0 0,.slice none 0 0] 153 (0,0))/\Bl w c:=by
 go_enter func23,ntmps23;go_wp2_with fail;apply(Ml a room w g f).mono;rintro e h ⟨aY,rfl,hw,d,b⟩;go_wp2;go_ret2;exact⟨_,aY,rfl,b.size,hw,aQ _ _ _ rfl,(ij _ _ _ (aN d)).trans d,b.al _⟩
theorem pE(w):Calls prog 40 #[.nilIface] w λe a=>e=.returned (Iv 0)/\a=w:=by
 go_enter func40,ntmps40;go_wp2;go_ret;exact⟨rfl,rfl⟩
theorem Nk(w):cI prog 40 #[.nilIface] w λe b=>e=.returned (Iv 0)/\∃a d,b=re w a d:=
 cI.EL aK (λe w a d x=>⟨x.1,by obtain⟨_,g,h,rfl⟩:=x;exact⟨a,d,rfl⟩⟩) (λw x=>by cases x.1) λa d=>(pE (re w a d)).mono λe b ⟨f,c⟩=>⟨f,a,d,c⟩
theorem Ul{w mb aY time ao n cap}{D:aC->bQ}(t:w.heap[mb]?=some (.cells #[Pt aY] 104 (0,0)))(s:∀w g d,D w->D (re w g d))
  (h:cI prog 46 #[Pt aY,Iv time,.slice ao n cap] w λe q=>e=.returned .nilIface/\D q):cI prog 24 #[Pt mb,Iv time,.slice ao n cap] w λe q=>e=.returned (Iv 0)/\D q:=by
 let i:=aK;let k:∀l∈([]:aB Item),cY l:=aF;let b:∀(c:Code),∀l∈[Item.code c],cY l:=λc=>bP trivial aF;let p:∀g d,(re w g d).cell? (Ad mb 0)=some (Pt aY):=λg d=>aD (w:=re w g d) t rfl;refine cI.Js func24 rfl λu a=>?_;simp only[ntmps24,ju,ic,jr,Nat.reduceAdd,Nat.reduceSub,uK,uL,uO,uM,jq,lq];apply aJ.seq i k a;apply aJ.region i (b _) a;simp only[ju,ic,jr,fE,List.range,List.range.loop];apply aJ.val i (w':=w) (v:=Iv 0) rfl (by rfl) (λg d=>run_eq_of ?r0) (b _) a
 case r0=>intro K j;go_simp;exact j
 try walk_nrm
 apply aJ.nil i (b _) a;apply aJ.seq i k a;apply aJ.region i (b _) a;simp only[ju,ic,jr,Nat.reduceAdd,fE,List.range,List.range.loop];apply aJ.val i (w':=w) (v:=(Pt mb)) rfl (by rfl) (λg d=>run_eq_of ?r1) (b _) a
 case r1=>intro K j;go_simp;exact j
 try walk_nrm
 apply aJ.val i (w':=w) (v:=(Pt mb)) rfl (by rfl) (λg d=>run_eq_of ?r2) (b _) a
 case r2=>intro K j;go_simp;exact j
 try walk_nrm
 apply aJ.val i (w':=w) (v:=(Pt mb)) rfl (by rfl) (λg d=>run_eq_of ?r3) (b _) a
 case r3=>intro K j;go_simp;exact j
 try walk_nrm
 apply aJ.val i (w':=w) (v:=(Pt aY)) rfl (by rfl) (λg d=>run_eq_of ?r4) (b _) a
 case r4=>intro K j;have:=p g d;go_simp;exact j
 try walk_nrm
 apply aJ.val i (w':=w) (v:=Iv time) rfl (by rfl) (λg d=>run_eq_of ?r5) (b _) a
 case r5=>intro K j;go_simp;exact j
 try walk_nrm
 apply aJ.val i (w':=w) (v:=.slice ao n cap) rfl (by rfl) (λg d=>run_eq_of ?r6) (b _) a
 case r6=>intro K j;go_simp;exact j
 try walk_nrm
 apply aJ.call i (f:=46) (args:=#[Pt aY,Iv time,.slice ao n cap]) rfl (by rfl) (λg d=>?c7) (b _) a h λe w' x=>⟨_,x.1⟩
 case c7=>rw[run_call_body (f:=46) (args:=#[.tmp 10,.tmp 11,.tmp 12]) (ats:=#[100,3,31]) rfl func46 aG rfl];simp only[Dj,hY,sR];rfl
 rintro v r ⟨m,o⟩;cases m
 try walk_nrm
 apply aJ.call i (f:=40) (args:=#[.nilIface]) rfl (by rfl) (λg d=>?c8) (b _) a (Nk r) λe w' x=>⟨_,x.1⟩
 case c8=>rw[run_call_body (f:=40) (args:=#[.tmp 13]) (ats:=#[89]) rfl func40 aG rfl];simp only[Dj,hY,sR];rfl
 rintro v y ⟨m,g,d,rfl⟩;cases m;refine aJ.other ?_ g d
 try walk_nrm
 apply aJ.val i (w':=r) (v:=Iv 0) rfl (by rfl) (λg d=>run_eq_of ?r9) (b _) a
 case r9=>intro K j;go_simp;exact j
 try walk_nrm
 apply aJ.nil i (b _) a;exact aJ.ret i k a func24 rfl (λg d=>by simp[results,go_sem,f24]) λg d=>⟨rfl,s _ _ _ o⟩
theorem F7(b off n c xs w)(q:xs.length=n*4)(x:n<=1000000)(r:∀j u,xs[j]?=some u->w.cell? (Ad b (off+j))=some u)(t:∀u∈xs,u.oneCell'=true):
  Calls prog 94 #[.slice (some (Ad b off)) n c] w λe m=>∃g,e=.returned g/\m.ownsRow w.heap.size 59 4 g n xs/\Bl w m:=by
 let⟨i0,hi,nI,nJ,nS⟩:=eB Go.Proofs.YtpbbmagjhkakgaaGreatDoor.Lf.vN;let p:∀(w:aC)(a:aR bC)(n c i h:Nat),(binOp .eql 54 (.slice a n c) (.slice none i h)).run prog w=.ok (.bool a.isNone) w:=λw a n c i h=>CN w _ _ a n c i h underlying54;go_enter func94,ntmps94;go_wp2_with (at_builtin;refine jz _ rfl _ _ 54 rfl w.heap.size 59 i0 (.agg #[Iv 0,Iv 0,Iv 0,.bool false]) 4 32 underlying54 hi nI nJ nS rfl aG _ _ _ rfl (World.ownsRow_made w #[] 0 aZ cC rfl) (Ad b off) n c xs rfl ?UI ?UJ ?UK ?UL ?UM ?UN ?_)
 case UI=>exact q
 case UJ=>
  intro j u s;rw[oZ];exact Lib.cell?_alloc_some _ (r j u s)
 case UK=>exact t
 case UL=>unfold maxLen;omega
 case UM=>omega
 case UN=>simp
 intro g v f d l;go_wp2;go_ret;refine⟨g,rfl,by simpa using f,?_⟩;exact((cD _ w).alloc aZ _).grown d aF (by intro k o;simp[Value.ownBlock]at o;omega)
theorem I2(n c w):Calls prog 94 #[.slice none n c] w λe g=>e=.returned (.slice none 0 0)/\g=w:=by
 let f:∀(w:aC)(a:aR bC)(n c d b:Nat),(binOp .eql 54 (.slice a n c) (.slice none d b)).run prog w=.ok (.bool a.isNone) w:=λw a n c d b=>CN w _ _ a n c d b underlying54;go_enter func94,ntmps94;go_wp2;go_ret;exact⟨rfl,rfl⟩
theorem F6(b off n c xs w)(q:xs.length=n*5)(x:n<=1000000)(r:∀j u,xs[j]?=some u->w.cell? (Ad b (off+j))=some u)(t:∀u∈xs,u.oneCell'=true):
  Calls prog 100 #[.slice (some (Ad b off)) n c] w λe m=>∃g,e=.returned g/\m.ownsRow w.heap.size 183 5 g n xs/\Bl w m:=by
 let⟨i0,hi,nI,nJ,nS⟩:=eB l9;let p:∀(w:aC)(a:aR bC)(n c i h:Nat),(binOp .eql 151 (.slice a n c) (.slice none i h)).run prog w=.ok (.bool a.isNone) w:=λw a n c i h=>CN w _ _ a n c i h underlying151;go_enter func100,ntmps100;go_wp2_with (at_builtin;refine jz _ rfl _ _ 151 rfl w.heap.size 183 i0 (.agg #[.string ⟨#[]⟩,.pointer none,Iv 0,Iv 0,.pointer none]) 5 48 underlying151 hi nI nJ nS rfl aG _ _ _ rfl (World.ownsRow_made w #[] 0 aZ cC rfl) (Ad b off) n c xs rfl ?UI ?UJ ?UK ?UL ?UM ?UN ?_)
 case UI=>exact q
 case UJ=>
  intro j u s;rw[oZ];exact Lib.cell?_alloc_some _ (r j u s)
 case UK=>exact t
 case UL=>unfold maxLen;omega
 case UM=>omega
 case UN=>simp
 intro g v f d l;go_wp2;go_ret;refine⟨g,rfl,by simpa using f,?_⟩;exact((cD _ w).alloc aZ _).grown d aF (by intro k o;simp[Value.ownBlock]at o;omega)
theorem I1(n c w):Calls prog 100 #[.slice none n c] w λe g=>e=.returned (.slice none 0 0)/\g=w:=by
 let f:∀(w:aC)(a:aR bC)(n c d b:Nat),(binOp .eql 151 (.slice a n c) (.slice none d b)).run prog w=.ok (.bool a.isNone) w:=λw a n c d b=>CN w _ _ a n c d b underlying151;go_enter func100,ntmps100;go_wp2;go_ret;exact⟨rfl,rfl⟩
theorem I0(b off n c xs w)(q:xs.length=n*4)(x:n<=1000000)(r:∀j u,xs[j]?=some u->w.cell? (Ad b (off+j))=some u)(t:∀u∈xs,u.oneCell'=true):
  Calls prog 175 #[.slice (some (Ad b off)) n c] w λe m=>∃g,e=.returned g/\m.ownsRow w.heap.size 159 4 g n xs/\Bl w m:=by
 let⟨i0,hi,nI,nJ,nS⟩:=eB wP;let p:∀(w:aC)(a:aR bC)(n c i h:Nat),(binOp .eql 146 (.slice a n c) (.slice none i h)).run prog w=.ok (.bool a.isNone) w:=λw a n c i h=>CN w _ _ a n c i h underlying146;go_enter func175,ntmps175;go_wp2_with (at_builtin;refine jz _ rfl _ _ 146 rfl w.heap.size 159 i0 (.agg #[Iv 0,Iv 0,.slice none 0 0,.slice none 0 0]) 4 64 underlying146 hi nI nJ nS rfl aG _ _ _ rfl (World.ownsRow_made w #[] 0 aZ cC rfl) (Ad b off) n c xs rfl ?UI ?UJ ?UK ?UL ?UM ?UN ?_)
 case UI=>exact q
 case UJ=>
  intro j u s;rw[oZ];exact Lib.cell?_alloc_some _ (r j u s)
 case UK=>exact t
 case UL=>unfold maxLen;omega
 case UM=>omega
 case UN=>simp
 intro g v f d l;go_wp2;go_ret;refine⟨g,rfl,by simpa using f,?_⟩;exact((cD _ w).alloc aZ _).grown d aF (by intro k o;simp[Value.ownBlock]at o;omega)
theorem Kv(n c w):Calls prog 175 #[.slice none n c] w λe g=>e=.returned (.slice none 0 0)/\g=w:=by
 let f:∀(w:aC)(a:aR bC)(n c d b:Nat),(binOp .eql 146 (.slice a n c) (.slice none d b)).run prog w=.ok (.bool a.isNone) w:=λw a n c d b=>CN w _ _ a n c d b underlying146;go_enter func175,ntmps175;go_wp2;go_ret;exact⟨rfl,rfl⟩
theorem DY(b off n c xs w)(q:xs.length=n*6)(x:n<=1000000)(r:∀j u,xs[j]?=some u->w.cell? (Ad b (off+j))=some u)(t:∀u∈xs,u.oneCell'=true):
  Calls prog 177 #[.slice (some (Ad b off)) n c] w λe m=>∃g,e=.returned g/\m.ownsRow w.heap.size 226 6 g n xs/\Bl w m:=by
 let⟨i0,hi,nI,nJ,nS⟩:=eB Lb;let p:∀(w:aC)(a:aR bC)(n c i h:Nat),(binOp .eql 95 (.slice a n c) (.slice none i h)).run prog w=.ok (.bool a.isNone) w:=λw a n c i h=>CN w _ _ a n c i h underlying95;go_enter func177,ntmps177;go_wp2_with (at_builtin;refine jz _ rfl _ _ 95 rfl w.heap.size 226 i0 (.agg #[.int .i32 0,.string ⟨#[]⟩,Iv 0,Iv 0,Iv 0,Iv 0]) 6 56 underlying95 hi nI nJ nS rfl aG _ _ _ rfl (World.ownsRow_made w #[] 0 aZ cC rfl) (Ad b off) n c xs rfl ?UI ?UJ ?UK ?UL ?UM ?UN ?_)
 case UI=>exact q
 case UJ=>
  intro j u s;rw[oZ];exact Lib.cell?_alloc_some _ (r j u s)
 case UK=>exact t
 case UL=>unfold maxLen;omega
 case UM=>omega
 case UN=>simp
 intro g v f d l;go_wp2;go_ret;refine⟨g,rfl,by simpa using f,?_⟩;exact((cD _ w).alloc aZ _).grown d aF (by intro k o;simp[Value.ownBlock]at o;omega)
theorem F5(n c w):Calls prog 177 #[.slice none n c] w λe g=>e=.returned (.slice none 0 0)/\g=w:=by
 let f:∀(w:aC)(a:aR bC)(n c d b:Nat),(binOp .eql 95 (.slice a n c) (.slice none d b)).run prog w=.ok (.bool a.isNone) w:=λw a n c d b=>CN w _ _ a n c d b underlying95;go_enter func177,ntmps177;go_wp2;go_ret;exact⟨rfl,rfl⟩
theorem gF{S:TypeId}{w w':aC}(a:∀(k:Nat)(c:aU aE),w.heap[k]?=some (Obj.cells c S (0,0))->w'.heap[k]?=some (Obj.cells c S (0,0))):∀{x:BT dD}{v:aE},bG S 0 w x v->bG S 0 w' x v
 |.nil,_,h=>h
 |.node _ _ _ l r,_,⟨b,g,j,e,i,f,d,m⟩=>⟨b,g,j,e,i,a b _ f,gF a (x:=l) d,gF a (x:=r) m⟩
theorem xf{S:TypeId}{B:Nat}{w:aC}:∀{x:BT dD}{v:aE},bG S B w x v->bG S 0 w x v
 |.nil,_,h=>h
 |.node _ _ _ l r,_,⟨b,d,f,e,_,c,a,g⟩=>⟨b,d,f,e,cC,c,xf (x:=l) a,xf (x:=r) g⟩
theorem WO(x:BT dD)(v:aE)(B tb:Nat)(K:aB Key)(w:aC)(y:bG 143 0 w x v)(o:Good x)(M:sX B tb w K)(b:K.length+cF (aO x)<=1000000000000):
  Calls prog 43 #[Pt tb,v] w λe C=>e=.returned (Iv (cO K (aO x)).1)/\sX B tb C (cO K (aO x)).2/\Below B w C:=by
 obtain⟨l,rfl⟩:∃l,v=Value.pointer l:=gZ y;let O:∀(w:aC)(r:aR Nat),(binOp .eql 94 (.map r) (.map none)).run prog w=.ok (.bool r.isNone) w:=λw r=>run_eql_map_nil w _ _ _ r underlying94;let z:=dK o;rcases M with⟨i,rfl,A⟩|⟨mb,H,u⟩
 .let n:w.cell? (Ad tb 0)=some (.map none):=aD i rfl;let J:w.frozen? (Ad tb 0)=false:=cK i 0;let q:=aN i;let I:tb≠w.heap.size:=aA;let j:(w.setCell (Ad tb 0) (.map (some w.heap.size))).heap.size=w.heap.size:=by simp[World.setCell]
  let c:Only tb w ((w.setCell (Ad tb 0) (.map (some w.heap.size))).alloc (.map #[] 0)):=((Only.refl tb w).setCell (p:=(Ad tb 0)) (.inl rfl) _).alloc _;let D:gq B tb w.heap.size (.slice none 0 0) ((w.setCell (Ad tb 0) (.map (some w.heap.size))).alloc (.map #[] 0)) []:=by
   refine⟨?_,?_,fI _ _ _ _,A,aA⟩
   .rw[ij _ _ _ (by rw[j];exact q)];exact GZ i
   .have:=mL.made (w.setCell (Ad tb 0) (.map (some w.heap.size)));rw[j]at this;exact this
  let t:=gF (λk N m=>c.heap m (by rintro rfl;rw[i]at m;cases m)) y;let E:=Jr x (.pointer l) 0 _ t o cC;let F:(Instr.makeMap 94 none).run prog w=.ok (.map (some w.heap.size)) (w.alloc (.map #[] 0)):=rfl;go_enter func43,ntmps43;go_wp2_with fail;apply E.mono;rintro e s ⟨p,rfl,h,a⟩;go_wp2_with fail;refine(Dt (aO x) (.pointer p) 0 B tb w.heap.size (.slice none 0 0) [] s h (.inr z) (D.below a) b).m λG ⟨g,d,f⟩=>?_;go_wp2;go_ret;refine⟨rfl,.inr ⟨w.heap.size,g,d⟩,?_⟩;exact((c.below A aA).trans (a.mono (by have:=c.size;omega))).trans f.below
 .let n:w.cell? (Ad tb 0)=some (.map (some mb)):=aD u.1 rfl;let L:=u.base;go_enter func43,ntmps43;go_wp2_with fail;apply(Jr x (.pointer l) 0 w y o cC).mono;rintro e s ⟨p,rfl,h,a⟩;go_wp2_with fail;refine(Dt (aO x) (.pointer p) 0 B tb mb H K s h (.inr z) (u.below a) b).m λG ⟨g,d,f⟩=>?_;go_wp2;go_ret;refine⟨rfl,.inr ⟨mb,g,d⟩,?_⟩;exact(a.mono aA).trans f.below
theorem Wt(K):∀u∈mA K,u.oneCell'=true:=by
 intro u a;simp only[mA,Ir,iZ]at a;obtain⟨l,⟨k,_,rfl⟩,h⟩:=a;exact T7 k u h
theorem QQ(K):(mA K).length=K.length*6:=eN jV 6 (λ_=>rfl) K
theorem JL(B tb K w)(v:sX B tb w K)(p:K.length<=1000000):Calls prog 143 #[Pt tb] w λe b=>∃a,e=.returned a/\b.ownsRow w.heap.size 226 6 a K.length (mA K)/\Bl w b:=by
 have c:∀f,w.cell? (Ad tb 1)=some f->w.ownsRow B 226 6 f K.length (mA K)->Calls prog 143 #[Pt tb] w λe b=>∃a,e=.returned a/\b.ownsRow w.heap.size 226 6 a K.length (mA K)/\Bl w b:=by
  intro f y l;have d:=l;obtain⟨_,⟨rfl,k⟩|⟨g,cap,t,rfl,_⟩⟩:=l
  .have m:=uJ.1 k;subst m;go_enter func143,ntmps143;go_wp2_with fail;apply(F5 0 0 w).mono;rintro e q ⟨rfl,rfl⟩;go_wp2;go_ret;exact⟨_,rfl,fI _ _ _ _,aV⟩
  .have h:=DY g 0 K.length cap (mA K) w (QQ K) p (λj u s=>by rw[fE];exact d_ d rfl s) (Wt K);have z:=hid d;generalize mA K=xs at*;generalize K.length=n at*;go_enter func143,ntmps143;go_wp2_with fail;apply h.mono;rintro e q ⟨a,rfl,r,o⟩;go_wp2;go_ret;exact⟨_,rfl,r,o⟩
 obtain⟨i,rfl,x⟩|⟨mb,f,i,_,k,_⟩:=v
 .exact c _ (aD i rfl) (fI _ _ _ _)
 .exact c _ (aD i rfl) k
theorem NP(aY d b h c nn o n cap)(a:nn=.slice o n cap)(w)(hw:w.heap[aY]?=some (.cells #[d,b,h,.slice none 0 0,c] 153 (0,0))):
  Calls prog 142 #[Pt aY,nn] w λe g=>e=.returned (.tuple #[])/\g.heap[aY]?=some (.cells #[d,b,nn,.slice none 0 0,c] 153 (0,0))/\Only aY w g:=by
 subst a;let j:=cK hw 2;let c2:=aD (i:=2) hw rfl;let k:=aD (i:=3) hw rfl;go_enter func142,ntmps142;go_wp2;go_loopw [14] (λf wr=>f=Iv 0/\wr=w.setCell (Ad aY 2) (.slice o n cap)) (λf _=>0)
 case atStart=>exact⟨rfl,rfl⟩
 case round=>
  obtain⟨rfl,rfl⟩:=hrel;go_wp2_with fail;apply bodyPost_end (results_none rfl _ _ _) rfl;exact⟨rfl,dS (i:=2) hw,(Only.refl aY w).setCell (p:=(Ad aY 2)) (.inl rfl) _⟩
theorem F2(aY a b c d ev f w)(hw:w.heap[aY]?=some (.cells #[Iv a,c,d,ev,f] 153 (0,0)))(h:b<=a):
  Calls prog 171 #[Pt aY,Iv b] w λe g=>e=.returned .nilIface/\g=w:=by
 let j:=aD (i:=0) hw rfl;go_enter func171,ntmps171;go_wp2;go_ret;exact⟨rfl,rfl⟩
theorem qs(aY a l o ev r name s x w)(hw:w.heap[aY]?=some (.cells #[.int .i64 a,l,o,ev,r] 153 (0,0)))(y:oC name)(B:s.size<=maxLen)(A:dP w)(u:14<=w.heap.size)(n:cW s=(some x,0))(z:bE x<=a):
  Calls prog 135 #[.pointer (some ⟨aY,0,none⟩),.string name,.string s] w λe j=>∃p,e=.returned (.tuple #[.pointer p,.nilIface])/\bG 143 0 j x (.pointer p)/\Below w.heap.size w j:=by
 have⟨Pz,_,Z2,_⟩:=dI n;have g:∀c,Below w.heap.size w c->Calls prog 39 #[.string s] c (Pd s c (some x,0)):=λc t=>by
  have:=ox s c B (A.below t) (by have:=t.size;omega);rw[n]at this;exact this
 go_enter func135,ntmps135;go_wp2_with fail;refine(G_ name y w).m λc d=>?_;go_wp2_with fail;apply(g c d).mono;rintro e E ⟨k,⟨D,v,i,rfl,m,C⟩|⟨_,_,_,_,i,_⟩⟩
 .cases i;obtain⟨q,rfl⟩:=gZ m;have b:=d.tr k;have f:=xf m;go_wp2;go_quiet(first
   |(go_at_call_of 42 (Value.pointer q);exact Calls.quiet_of (w_ x _ _ _ (f.drewN _) (by omega) Pz.win))
   |(go_at_call_of 171 (Value.pointer (some ⟨aY,0,none⟩));exact Calls.quiet_of ((F2 aY a (bE x) l o ev r _ (by exact(b.aT hw)) z).mono (λe j h=>⟨h.1,0,h.2⟩))))
  go_wp2
  all_goals go_ret2
  all_goals exact⟨q,rfl,f.drewN _,b.tr (below_drewN _ _)⟩
 .cases i
def jB(X:Nat->BT dD):Nat->aB Key
 |0=>[]
 |j+1=>(cO (jB X j) (aO (X j))).2
def B_(X:Nat->BT dD)(j:Nat):Int:=(cO (jB X j) (aO (X j))).1
theorem VI(X j):(jB X j).length<=(jB X (j+1)).length:=(ou (aO (X j)) (jB X j)).1
theorem SH(X i k):(jB X i).length<=(jB X (i+k)).length:=by
 induction k with
 |zero=>exact aZ
 |succ k a=>exact gH a (VI X (i+k))
def jW(X:Nat->BT dD)(ps:aB nk):aB nk:=ps.mapIdx λj p=>{p with node:=(B_ X j).toNat}
theorem tW(X j):0<=B_ X j:=(ou (aO (X j)) (jB X j)).2.2.1
def nN(X:Nat->BT dD)(a:aU aE)(ps:aB nk)(i:Nat):Prop:=∀(j:Nat)(p:nk),ps[j]?=some p->a[j*5]?=some (.string p.name)/\a[j*5+1]?=some (.pointer p.eE)/\(j<i->a[j*5+2]?=some (.int .i64 (B_ X j)))/\a[j*5+3]?=some (.int .i64 p.cP)/\a[j*5+4]?=some (.pointer p.fY)
theorem nN.done{X g ps}(h:nN X g ps ps.length):eI g 0 (jW X ps):=by
 intro j q f;simp only[jW,P8]at f;cases i:ps[j]? with
 |none=>rw[i]at f;cases f
 |some p=>
  rw[i]at f;simp at f;subst f;let⟨a,b,c,d,e⟩:=h j p i;simp only[fE];refine⟨a,b,?_,d,e⟩;rw[c ((eY.1 i).1)];congr 2;exact(Int.toNat_of_nonneg (tW X j)).symm
theorem nN.start{X c ps}(h:eI c 0 ps):nN X c ps 0:=by
 intro j p f;let⟨a,b,_,d,e⟩:=h j p f;simp only[fE]at a b d e;exact⟨a,b,λh=>absurd h (Ao _),d,e⟩
theorem nN.set{X f ps i}(h:nN X f ps i)(hi:i<ps.length):nN X (f.setIfInBounds (i*5+2) (Iv (B_ X i))) ps (i+1):=by
 intro j p l;let⟨a,b,c,d,e⟩:=h j p l;let m:i*5+2<f.size:=by
  let⟨_,_,_,d',_⟩:=h i ps[i] (fH hi);have:=(jR.1 d').1;omega
 let ne:∀k,k≠i*5+2->(f.setIfInBounds (i*5+2) (Iv (B_ X i)))[k]?=f[k]?:=λk n=>qF (lG n);refine⟨by rw[ne _ aA];exact a,by rw[ne _ aA];exact b,λo=>?_,by rw[ne _ aA];exact d,by rw[ne _ aA];exact e⟩;by_cases g:j=i
 .subst g;rw[FI m]
 .rw[ne _ aA];exact c aA
theorem gY{w:aC}{B c size n e v xs}(h:w.ownsRow B e size v n xs)(f:c<=B):w.ownsRow c e size v n xs:=by
 obtain⟨b,d|⟨g,cap,a,k,i,j⟩⟩:=h
 .exact⟨b,.inl d⟩
 .exact⟨b,.inr ⟨g,cap,a,k,gH f i,j⟩⟩
theorem zSt{T:bQ} (h:T:=by
 obtain⟨p,hpi⟩:∃p,ps[i]?=some p:=⟨_,fH (by rw[VH.out];exact hi)⟩;obtain⟨a0,a1,_,a3,a4⟩:=ZX i p hpi;obtain⟨s1,s2,s3⟩:=HS.out i p hpi;have s1':bG 143 0 wr (X i) (.pointer p.eE):=gF (λk cs hk=>by
  rw[Sr.block k (aN hk) (by rintro rfl;rw[Hp.out.1]at hk;cases hk)];exact hk) s1
 have c1:wr.cell? ⟨pb,i*5+1,none⟩=some (.pointer p.eE):=aD hpb a1;have zF:=SH X i (n-i);have Sp:i+(n-i)=n:=by omega
 rw[Sp]at zF;have hKn:=HK.out;have Z':=WO (X i) (.pointer p.eE) w.heap.size w.heap.size (jB X i) wr s1' s2 hT (by omega);obtain⟨a2,e2⟩:∃v,oa[i*5+2]?=some v:=⟨_,sL (by have:=(jR.1 a3).1;omega)⟩;have YE:=ZX.set (by rw[VH.out];exact hi);have hnn:=tW X i;have XH:Calls prog 43 #[.pointer (some ⟨w.heap.size,0,none⟩),.pointer p.eE] wr λe w'=>e=.returned (.int .i64 (B_ X i))/\sX w.heap.size w.heap.size w' (jB X (i+1))/\Below w.heap.size wr w':=Z';clear Z' s1 s1' s2 s3 a0 a1 a3 a4 hT zF Sp hKn;have Hs:Hid (nN X (oa.setIfInBounds (i*5+2) (.int .i64 (B_ X i))) ps (i+1)):=YE;clear YE ZX;generalize B_ X i=nd at*;go_wp2_with fail;refine XH.m λw1 ⟨hT1,zF⟩=>?_;have Wf:w1.heap[pb]?=some (.cells oa 183 (0,0)):=(zF.block pb hpl).trans hpb;have hf:w1.frozen? ⟨pb,i*5+2,none⟩=false:=cK Wf _;have c2:w1.cell? ⟨pb,i*5+2,none⟩=some a2:=aD Wf e2;clear XH;go_wp2_with fail;go_roundw
 case rel=>
  have ho:Only pb w1 (w1.setCell ⟨pb,i*5+2,none⟩ (.int .i64 nd)):=(Only.refl pb w1).setCell (p:=⟨pb,i*5+2,none⟩) (.inl rfl) _;refine⟨i+1,by go_num,by omega,?_,?_,?_,_,dS Wf,Hs.out⟩
  .rcases hT1 with⟨t1,t2,t3⟩|⟨mb,nv1,t2⟩
   .exact .inl ⟨ho.heap t1 (by omega),t2,t3⟩
   .refine .inr ⟨mb,nv1,t2.heap (λk hk hf=>ho.block k hk ?_)⟩;exact λe=>hf (e▸t2.free Wf (by decide) (by decide))
  .have aaZ:c_ (λb=>b=pb) w w1:=⟨zF.os.trans Sr.os,zF.tape.trans Sr.tape,zF.output.trans Sr.output,gH Sr.size zF.size,λx hx hp=>(zF.block x hx).trans (Sr.block x hx hp)⟩;exact aaZ.trans (c_.qR ho λx hx=>hx)
  .have:=zF.size;have:=ho.size;omega
 case measure=>exact zm):T:=h
theorem RO(aY pb cap o m s ev D E G c ps X w)(J:aC->aE->aC->bQ)
  (hw:w.heap[aY]?=some (.cells #[o,m,s,ev,.slice D E G] 153 (0,0))) (hp:w.heap[pb]?=some (.cells c 183 (0,0))) (B:eI c 0 ps) (hn:ps.length<=1000) (F:ps.length<=cap)
  (hS:∀j (p),ps[j]?=some p->bG 143 0 w (X j) (.pointer p.eE)/\Good (X j)/\cF (aO (X j))<=1000000) (hK:(jB X ps.length).length<=40)
  (A:∀W (nn) (oa),W.ownsRow w.heap.size 226 6 nn (jB X ps.length).length (mA (jB X ps.length))->W.heap[aY]?=some (.cells #[o,m,s,ev,Sl pb ps.length cap] 153 (0,0))->W.heap[pb]?=some (.cells oa 183 (0,0))->eI oa 0 (jW X ps)->c_ (λb=>b=aY\/b=pb) w W->
   Calls prog 142 #[Pt aY,nn] W λe w'=>e=.returned (.tuple #[])/\J W nn w'):
  Calls prog 98 #[Pt aY,Sl pb ps.length cap] w λe w'=>e=.returned .nilIface/\∃W nn oa,W.ownsRow w.heap.size 226 6 nn (jB X ps.length).length (mA (jB X ps.length))/\W.heap[aY]?=some (.cells #[o,m,s,ev,Sl pb ps.length cap] 153 (0,0))/\W.heap[pb]?=some (.cells oa 183 (0,0))/\eI oa 0 (jW X ps)/\c_ (λb=>b=aY\/b=pb) w W/\J W nn w':=by
 have r:aY≠pb:=by rintro rfl;rw[hw]at hp;cases hp
 have u:=aN hw;have hpl:=aN hp;have Hp:Hid (w.heap[pb]?=some (.cells c 183 (0,0))/\eI c 0 ps):=⟨hp,B⟩;have L:=hid hw;have I:Hid (∀(W:aC)(nn:aE)(oa:aU aE),W.ownsRow w.heap.size 226 6 nn (jB X ps.length).length (mA (jB X ps.length))->W.heap[aY]?=some (.cells #[o,m,s,ev,Sl pb ps.length cap] 153 (0,0))->W.heap[pb]?=some (.cells oa 183 (0,0))->eI oa 0 (jW X ps)->c_ (λb=>b=aY\/b=pb) w W->
   Calls prog 142 #[Pt aY,nn] W λe w'=>e=.returned (.tuple #[])/\J W nn w'):=A
 have HS:=hid hS;have HK:=hid hK;clear hp B hw A hS hK;generalize h:ps.length=n at*;have VH:=hid h;clear h;go_enter func98,ntmps98;go_wp2_with fail;go_loopw [10] (λz wr=>∃(i:Nat),z=Iv i/\i<=n/\sX w.heap.size w.heap.size wr (jB X i)/\c_ (λb=>b=pb) w wr/\w.heap.size<wr.heap.size/\∃oa,wr.heap[pb]?=some (.cells oa 183 (0,0))/\nN X oa ps i) (λz _=>n-(intOf z).toNat)
 case atStart=>
  exact⟨0,rfl,cC,sX.new _ w aZ,c_.aS (aV.al _),aF,c,(ij _ _ _ hpl).trans Hp.out.1,nN.start Hp.out.2⟩
 case round=>
  obtain⟨i,rfl,H,hT,Sr,M,oa,hpb,ZX⟩:=hrel;by_cases hi:i<n
  .exact zSt
  .obtain rfl:i=n:=by omega
   have hC:=AQ w.heap.size w.heap.size (jB X i) wr hT;have f:wr.heap[aY]?=some (.cells #[o,m,s,ev,.slice D E G] 153 (0,0)):=(Sr.block aY u r).trans L.out;have hf:wr.frozen? (Ad aY 4)=false:=cK f 4;have O:=aD (i:=4) f rfl;have hKn:=HK.out;go_wp2_with fail;apply hC.mono;rintro e w1 ⟨rfl,rfl⟩;go_wp2_with fail;have l:=dS (i:=4) (v:=Sl pb i cap) f;simp only[P_,CC,Iq]at l;have ho:Only aY w1 (w1.setCell (Ad aY 4) (Sl pb i cap)):=(Only.refl aY w1).setCell (p:=(Ad aY 4)) (.inl rfl) _;have d:c_ (λb=>b=aY\/b=pb) w (w1.setCell (Ad aY 4) (Sl pb i cap)):=(Sr.mono λx _ hx=>.inr hx).trans (c_.qR ho λx hx=>.inl hx);have y:sX w.heap.size w.heap.size (w1.setCell (Ad aY 4) (Sl pb i cap)) (jB X i):=by
    rcases hT with⟨t1,t2,t3⟩|⟨mb,nv1,t2⟩
    .exact .inl ⟨ho.heap t1 aA,t2,t3⟩
    .exact .inr ⟨mb,nv1,t2.heap λk hk hf=>ho.block k hk λe=>hf (e▸t2.free f aG aG)⟩
   have g:=ho.heap hpb (lG r);have t:=nN.done (VH.out▸ZX);generalize w1.setCell (Ad aY 4) (Sl pb i cap)=W at*;apply cA.begin (S:=λ_=>True) (fin:=99) aL;simp only[ju,ic,jr,Nat.reduceAdd,fE];refine cA.tk 0 trivial ?_
   try walk_nrm
   refine cA.tk 1 trivial ?_
   try walk_nrm
   refine cA.tk 2 trivial ?_
   try walk_nrm
   refine cA.o 3 (MO func143 (JL w.heap.size w.heap.size (jB X i) W.drew (y.below (cD _ W).drew) aA) ?_);rintro e C ⟨nn,rfl,q,zF⟩;refine⟨_,rfl,λ_=>trivial,?_⟩
   try walk_nrm
   have zF:=(cD W.heap.size W).drew.trans (zF.mono (cD W.heap.size W).drew.size);have a:=gY q (gH d.size aF);refine cA.o 4 (MO func142 (I.out C nn oa a (zF.aT l) (zF.aT g) t (d.trans (c_.aS zF))) ?_);rintro e N ⟨rfl,K⟩;refine⟨_,rfl,λ_=>trivial,?_⟩;refine cA.done jZ ?_ _
   try walk_nrm
   go_wp2;go_ret;exact⟨rfl,C,nn,oa,a,zF.aT l,zF.aT g,t,d.trans (c_.aS zF),K⟩
theorem WY(name w):Calls prog 139 #[.slice none 0 0,.string name,.func (.func 140) #[] #[]] w λe c=>e=.returned (.tuple #[Iv 0,.bool false])/\c=w:=by
 go_enter func139,ntmps139;go_wp2;go_loopw [9,10] (λb a wr=>b=Iv 0/\a=Iv 0/\wr=w) (λ_ _ _=>0)
 case atStart=>exact⟨rfl,rfl,rfl⟩
 case round=>
  obtain⟨rfl,rfl,rfl⟩:=hrel;go_wp2;go_ret2;exact⟨rfl,rfl⟩
theorem ZQ(aY c a b ev name w)(hw:w.heap[aY]?=some (.cells #[c,a,b,ev,.slice none 0 0] 153 (0,0))):
  Calls prog 97 #[Pt aY,.string name] w λe d=>e=.returned (.tuple #[Iv 0,.bool false])/\d=w:=by
 let f:=aD (i:=4) hw rfl;go_enter func97,ntmps97;go_wp2_with fail;apply(WY name w).m0;go_wp2;go_ret2;exact⟨rfl,rfl⟩
def Oi(p:nk):aE:=.agg #[.string p.name,.pointer p.eE,Iv p.node,Iv p.cP,.pointer p.fY]
theorem Wp(d xs w)(h:xs.length=5)(l:∀j u,xs[j]?=some u->w.cell? (Ad d j)=some u)(i:∀u∈xs,u.oneCell'=true):
  Calls prog 137 #[.slice none 0 0,Iv 0,Sl d 1 1] w λe g=>∃c,e=.returned c/\g.ownsRow w.heap.size 183 5 c 1 xs/\Bl w g:=by
 let⟨i0,hi,nI,nJ,nS⟩:=eB l9;go_enter func137,ntmps137;go_wp2_with (at_builtin;refine jz _ rfl _ _ 151 rfl w.heap.size 183 i0 (.agg #[.string ⟨#[]⟩,.pointer none,Iv 0,Iv 0,.pointer none]) 5 48 underlying151 hi nI nJ nS rfl aG _ _ _ rfl (fI _ _ _ _) (Ad d 0) 1 1 xs rfl ?UI ?UJ ?UK ?UL ?UM ?UN ?_)
 case UI=>exact h
 case UJ=>
  intro j u m;rw[oZ,fE];exact l j u m
 case UK=>exact i
 case UL=>unfold maxLen;omega
 case UM=>omega
 case UN=>simp
 intro c o b a f;go_wp2;go_ret;refine⟨c,rfl,by simpa using b,?_⟩;exact(cD _ w).grown a aF (by intro k n;simp[Value.ownBlock]at n)
theorem wN:∀a b c:aB aX,Lib.compareBytes a b<0->Lib.compareBytes b c<0->Lib.compareBytes a c<0
 |[],b,[],d,f=>by cases b<;>simp[Lib.compareBytes]at d f
 |[],b,c::g,d,f=>by simp[Lib.compareBytes]
 |a::al,[],c,d,f=>by simp[Lib.compareBytes]at d
 |a::al,b::h,[],d,f=>by simp[Lib.compareBytes]at f
 |a::al,b::h,c::g,d,f=>by
  unfold Lib.compareBytes at d f⊢
  simp only[UInt8.lt_iff_toNat_lt]at d f⊢
  by_cases x1:a.toNat<b.toNat<;>by_cases x2:b.toNat<a.toNat<;>by_cases x3:b.toNat<c.toNat<;>by_cases i:c.toNat<b.toNat<;>simp only[x1,x2,x3,i,fB,fA]at d f<;>first|omega|skip
  all_goals by_cases e:a.toNat<c.toNat
  all_goals first|(simp only[e,fB];decide)|skip
  all_goals first|omega|skip
  all_goals
   let j:¬c.toNat<a.toNat:=aA
   simp only[e,j,fA]
   exact(wN al h g) d f
theorem Kw:∀a b:aB aX,Lib.compareBytes a b=0↔a=b
 |[],[]=>by simp[Lib.compareBytes]
 |[],_::_=>by simp[Lib.compareBytes]
 |_::_,[]=>by simp[Lib.compareBytes]
 |a::al,b::c=>by
  unfold Lib.compareBytes
  simp only[UInt8.lt_iff_toNat_lt,FD]
  by_cases x1:a.toNat<b.toNat
  .have:a≠b:=λh=>by subst h;omega
   simp[x1,this]
  .by_cases x2:b.toNat<a.toNat
   .have:a≠b:=λh=>by subst h;omega
    simp[x1,x2,this]
   .let e:a=b:=by
     apply sQ.1;omega
    simp[e,(Kw al c)]
theorem u_:∀a b:aB aX,Lib.compareBytes a b<0↔0<Lib.compareBytes b a
 |[],[]=>by simp[Lib.compareBytes]
 |[],_::_=>by simp[Lib.compareBytes]
 |_::_,[]=>by simp[Lib.compareBytes]
 |a::al,b::c=>by
  unfold Lib.compareBytes
  simp only[UInt8.lt_iff_toNat_lt]
  by_cases x1:a.toNat<b.toNat
  .have:¬b.toNat<a.toNat:=by omega
   simp[x1,this]
  .by_cases x2:b.toNat<a.toNat
   .simp[x1,x2]
   .simp[x1,x2,(u_ al c)]
abbrev od(a b:a_):Int:=Lib.compareBytes a.data.toList b.data.toList
theorem wM(a b):od a b=0↔a=b:=by
 rw[od,Kw];constructor
 .intro h;cases a;cases b;exact oB _ (Array.toList_inj.1 h)
 .rintro rfl;rfl
def eV(ps:aB nk):Prop:=ps.Pairwise λp q=>od p.name q.name<0
def dW(name:a_):aB nk->Nat
 |[]=>0
 |p::ps=>if od p.name name<0 then dW name ps+1 else 0
def eW(name:a_)(ps:aB nk):Bool:=match ps[dW name ps]? with
 |some p=>decide (p.name=name)
 |none=>false
theorem pH(name:a_):∀ps:aB nk,dW name ps<=ps.length
 |[]=>Zv 0
 |p::ps=>by
  have:=pH name ps
  simp only[dW,ic]
  split<;>omega
theorem pI(name:a_):∀(ps:aB nk)(i:Nat)(p:nk),eV ps->ps[i]?=some p->(od p.name name<0↔i<dW name ps)
 |[],i,p,_,h=>by simp at h
 |q::ps,0,p,a,h=>by
  simp only[My,GD]at h
  subst h
  simp only[dW]
  split<;>simp_all
 |q::ps,i+1,p,a,h=>by
  simp only[Il]at h
  simp only[dW]
  split
  .rw[(pI name ps i p ((Cz.1 a).2) h)];omega
  .rename_i c
   constructor
   .intro b
    exact absurd (wN _ _ _ ((Cz.1 a).1 p (iF h)) b) c
   .intro b;omega
theorem uq(name ps):eW name ps=true↔∃p,ps[dW name ps]?=some p/\p.name=name:=by
 unfold eW;split<;>simp_all
theorem Ff{name ps}(a:eV ps):eW name ps=true↔∃p∈ps,p.name=name:=by
 rw[uq];constructor
 .rintro⟨p,h,e⟩;exact⟨p,iF h,e⟩
 .rintro⟨p,h,e⟩;let⟨i,hi⟩:=MB h;let f:=pI name ps i p a hi;let g:¬od p.name name<0:=by rw[(wM p.name name).2 e];decide
  let k:¬i<dW name ps:=λh=>g (f.2 h);by_cases j:dW name ps=i
  .rw[j];exact⟨p,hi,e⟩
  .let c:dW name ps<i:=by omega
   let b:=Nat.lt_trans c (eY.1 hi).1;let d:=Dg.1 a _ _ b (eY.1 hi).1 c;rw[(eY.1 hi).2,e]at d;exact absurd ((pI name ps (dW name ps) _ a (fH b)).1 d) (Nat.lt_irrefl _)
theorem eV.insert{ps p}(c:eV ps)(m:eW p.name ps=false):eV (ps.take (dW p.name ps)++p::ps.drop (dW p.name ps)):=by
 let f:∀q∈ps.take (dW p.name ps),od q.name p.name<0:=by
  intro q e;let⟨i,hi⟩:=MB e;rw[BH]at hi;split at hi
  .exact(pI p.name ps i q c hi).2 (by assumption)
  .cases hi
 let j:∀q∈ps.drop (dW p.name ps),od p.name q.name<0:=by
  intro q e;let⟨i,hi⟩:=MB e;rw[uN]at hi;let n:¬od q.name p.name<0:=λh=>by have:=(pI p.name ps _ q c hi).1 h;omega
  let o:od q.name p.name≠0:=λh=>by
   let g:=(Ff c).2 ⟨q,iF hi,(wM _ _).1 h⟩;rw[m]at g;cases g
  let l:0<od q.name p.name:=aA;exact(u_ _ _).2 l
 refine Io.2 ⟨c.sublist (List.take_sublist _ _),Cz.2 ⟨j,c.sublist (List.drop_sublist _ _)⟩,?_⟩;intro a k b d;obtain rfl|d:=gA.1 d
 .exact f a k
 .exact wN _ _ _ (f a k) (j b d)
theorem eV.erase{ps}(a:eV ps)(k):eV (ps.take k++ps.drop (k+1)):=by
 rw[<-List.eraseIdx_eq_take_drop_succ];exact a.sublist (List.eraseIdx_sublist _ _)
end Ev
end Go.Proofs.YtpbbmagjhkakgaaGreatDoor
