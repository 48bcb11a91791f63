import Derived.Test.YtpbbmagjhkakgaaGreatDoorC1
import Derived.Test.YtpbbmagjhkakgaaGreatDoorC2
import Derived.Test.YtpbbmagjhkakgaaGreatDoorC5
namespace Go.Proofs.YtpbbmagjhkakgaaGreatDoor
set_option maxHeartbeats 8000000
set_option maxRecDepth 100000
namespace Ev
open Tryz Go.RowKit Go.Deep Lf Go.Conc Go.Maps
theorem nT:(prog.info? 9).map (λi=>(i.zero,i.size,i.bytes))=some (some (.string ⟨#[]⟩),1,16):=aM
def qK(L:aB aZ):aB aF:=L.map Value.string
theorem Rg(L):(qK L).length=L.length:=by simp[qK]
theorem Oq(A:aB aZ)(i)(h:i<A.length):qK (A.take (i+1))=qK (A.take i)++[.string (A.getD i ByteArray.empty)]:=by
 let e:A.getD i ByteArray.empty=A[i]:=by rw[qp,fG h];rfl
 rw[<-List.take_append_getElem h,e];unfold qK;rw[l8];rfl
theorem LJ{w B v A}(h:w.ownsRow B 9 1 v A.length (qK A)):∃ao cap,v=.slice ao A.length cap/\A.length<=cap/\eQ w ao A/\∀a,ao=some a->B<=a.block/\∃n,w.heap[a.block]?=some (.cells n 9 (0,0)):=by
 have f:=h.lt;have h':=h;obtain⟨p,⟨rfl,e⟩|⟨g,cap,c,rfl,l,i,k,o,r,q⟩⟩:=h
 .exact⟨none,0,by rw[e],aA,λd=>absurd (ur.1 e) d,λa b=>by cases b⟩
 .refine⟨some (Ad g 0),cap,rfl,k,λ_=>⟨g,0,rfl,(f g rfl).2,λj m=>?_⟩,λa b=>by cases b;exact⟨l,c,i⟩⟩;rw[fC];apply d_ h' rfl;simp[qK,m,List.getD_eq_getElem?_getD]
theorem MD(ao A cap w)(h:eQ w ao A)(K:A.length<=1000)(B:A.length<=cap)(z:∀j,j<A.length->(A.getD j ByteArray.empty).size<=1000):
  Calls prog 129 #[.slice ao A.length cap] w λe w'=>∃v,e=.returned v/\w'.ownsRow w.heap.size 9 1 v A.length (qK A)/\Bl w w':=by
 have D:=hid λw' (u:Bl w w')=>h.below u;have⟨i0,hi,nk,nt,nH⟩:=eB nT;generalize g:A.length=n at*;go_enter func129,ntmps129;go_wp2;go_loopw [8,3] (λt v wr=>∃i:Nat,t=Iv i/\i<=n/\wr.ownsRow w.heap.size 9 1 v i (qK (A.take i))/\Bl w wr) (λt _ _=>n-(intOf t).toNat)
 case atStart=>exact⟨0,rfl,cD,fF _ _ _ _,aT⟩
 case round=>
  obtain⟨i,rfl,C,a,m⟩:=hrel;by_cases r:i<n
  .obtain⟨b,off,rfl,u,y⟩:=D.out wr m (by intro e;rw[e]at g;simp at g;omega);have I:=y i aA;have H:=z i r;have f:=Oq A i aA;have G:=hid f;clear y z f;generalize A.getD i ByteArray.empty=x at*;go_wp2_with fail;refine(Aw x _ aA).m λq p=>?_;have d:=eF a (w':=q) λk E=>p.block k (a.lt k E).2;have c:=m.tr p;have F:=c.size;go_wp2_with (at_builtin;refine js _ rfl _ _ 31 rfl w.heap.size 9 i0 _ 1 16 underlying31 hi nk nt nH rfl aG _ _ _ rfl (d.alloc _) (Ad q.heap.size 0) 1 1 [.string x] rfl rfl ?c1 ?c2 ?c3 ?c4 ?c5 ?_)
   case c1=>exact cell_one_new q _ _
   case c2=>simp[Value.oneCell']
   case c3=>unfold maxLen;omega
   case c4=>omega
   case c5=>simp;omega
   intro J L l o _;have s:=(c.al _).grown o (gC c.size aE) λk e=>(d.lt k e).1;go_wp2
   try go_big_round
   exact⟨⟨i+1,dU,aA,by rw[G.out];exact l,s⟩,zm⟩
  .obtain rfl:i=n:=by omega
   rw[rf aA]at a;go_wp2;go_ret;exact⟨_,rfl,a,m⟩
theorem J9(ea n cap w)(a:n<=cap):Calls prog 130 #[.slice ea n cap,Iv 0,Iv 0] w λe b=>e=.returned (.slice ea n cap)/\b=w:=by
 go_enter func130,ntmps130;go_wp2;go_ret;exact⟨rfl,rfl⟩
structure Fj(w:aC)(c:iZ):Prop where
 so:∀a,c.so=some a->∃cs m,w.heap[a.block]?=some (.cells cs 4 m)
 ao:∀a,c.ao=some a->∃cs m,w.heap[a.block]?=some (.cells cs 9 m)
theorem Fj.off{w c g j m}(h:Fj w c)(f:w.heap[g]?=some (.cells j 159 m)):RQ g c:=
 ⟨λa d e=>(by obtain⟨i,m,b⟩:=h.so a d;rw[e,f]at b;cases b),λa d e=>(by obtain⟨i,m,b⟩:=h.ao a d;rw[e,f]at b;cases b)⟩
structure cY(P:Nat->Prop)(w w':aC):Prop where
 os:w'.os=w.os
 tape:w'.tape=w.tape
 output:w'.output=w.output
 size:w.heap.size<=w'.heap.size
 block:∀b,b<w.heap.size->¬P b->w'.heap[b]?=w.heap[b]?
theorem cY.refl(P w):cY P w w:=⟨rfl,rfl,rfl,aX,λ_ _ _=>rfl⟩
theorem cY.trans{P a b c}(h:cY P a b)(k:cY P b c):cY P a c:=⟨k.os.trans h.os,k.tape.trans h.tape,k.output.trans h.output,gC h.size k.size,λx d e=>(k.block x (fW d h.size) e).trans (h.block x d e)⟩
theorem cY.aR{P a b}(h:Bl a b):cY P a b:=⟨h.os,h.tape,h.output,h.size,λx c _=>h.block x c⟩
theorem cY.qG{P g a b}(h:Only g a b)(f:∀x,x=g->P x):cY P a b:=⟨h.os,h.tape,h.output,h.size,λx c d=>h.block x c λe=>d (f x e)⟩
theorem cY.mono{P Q a b}(h:cY P a b)(f:∀x,x<a.heap.size->P x->Q x):cY Q a b:=⟨h.os,h.tape,h.output,h.size,λx c d=>h.block x c λe=>d (f x c e)⟩
theorem cY.TG{P row a b}(h:a.grownBy b row)(f:∀x,row=some x->P x):cY P a b:=⟨h.os,h.tape,h.output,h.size,λx c d=>h.block x c λe=>d (f x e.symm)⟩
theorem gP.spare{P w i c e}(h:gP w c e)(d:cY P w i)(l:∀a,c.so=some a->¬P a.block)(k:∀a,c.ao=some a->¬P a.block):gP i c e:=by
 let⟨sb,s1,s2,s3⟩:=h.so;refine{h with so:=⟨sb,s1,fW s2 d.size,λj b g=>?_⟩,atoms:=λf=>?_}
 .rw[fT (d.block sb s2 (l _ s1))];exact s3 j b g
 .let⟨b,off,a1,a2,a3⟩:=h.atoms f;exact⟨b,off,a1,fW a2 d.size,λj g=>by rw[fT (d.block b a2 (k _ a1))];exact a3 j g⟩
theorem Fj.spare{P w f c}(h:Fj w c)(e:cY P w f)(i:∀a,c.so=some a->¬P a.block)(g:∀a,c.ao=some a->¬P a.block):Fj f c:=
 ⟨λa b=>by obtain⟨d,m,k⟩:=h.so a b;exact⟨d,m,by rw[e.block _ (aL k) (i a b)];exact k⟩,λa b=>by obtain⟨d,m,k⟩:=h.ao a b;exact⟨d,m,by rw[e.block _ (aL k) (g a b)];exact k⟩⟩
theorem ki.spare{P w c no K}(h:ki w no K)(d:cY P w c)(e:∀a,no=some a->¬P a.block):ki c no K:=λb=>by
 let⟨nb,a1,a2,a3⟩:=h b
 let f:∀q,c.cell? (Ad nb q)=w.cell? (Ad nb q):=λq=>fT (d.block nb a2 (e _ a1))
 exact⟨nb,a1,fW a2 d.size,λi k g=>by simp only[f];exact a3 i k g⟩
theorem wk:(prog.info? 159).map (λi=>(i.zero,i.size,i.bytes))=some (some (.agg #[Iv 0,Iv 0,.slice none 0 0,.slice none 0 0]),4,64):=aM
theorem lR:(prog.info? 183).map (λi=>(i.zero,i.size,i.bytes))=some (some (.agg #[.string ⟨#[]⟩,.pointer none,Iv 0,Iv 0,.pointer none]),5,48):=aM
theorem VD:(prog.info? 59).map (λi=>(i.zero,i.size,i.bytes))=some (some (.agg #[Iv 0,Iv 0,Iv 0,.bool false]),4,32):=aM
theorem tC(C c):iu (C++[c])=iu C++dD c:=by simp[iu]
theorem WN(c):∀u∈dD c,u.oneCell'=true:=by
 intro u a;simp[dD,iZ.av,iZ.sv]at a;obtain rfl|rfl|rfl|rfl:=a<;>rfl
theorem mG(w:aC)(c t):∀j u,(dD c)[j]?=some u->(w.alloc (.cells #[Iv c.number,Iv c.time,.slice c.ao c.al c.ac,.slice c.so c.sl c.sc] t)).cell? (((Ad w.heap.size 0):a_).add j)=some u:=by
 intro j u a;let b:((Ad w.heap.size 0):a_).add j=(Ad w.heap.size j):=by simp[Addr.add];omega
 rw[b];apply aD (aP w (.cells #[Iv c.number,Iv c.time,.slice c.ao c.al c.ac,.slice c.so c.sl c.sc] t (0,0)) _ rfl);obtain _|_|_|_|j:=j
 .exact a
 .exact a
 .exact a
 .exact a
 .simp[dD]at a
def kn(C:aB iZ):Int:=match C.getLast? with
 |some c=>c.number+1
 |none=>1
noncomputable def Ds:Code:=f87.body.getD .skip
noncomputable def Pb:aY Oper:=match Ds with
 |.seq _ (.seq _ (.seq _ (.seq (.region _ x _) _)))=>x
 |_=>#[]
noncomputable def Xa:aY Oper:=match Ds with
 |.seq _ (.seq _ (.seq _ (.seq _ (.seq (.region _ x _) _))))=>x
 |_=>#[]
theorem Dn(L:aB Pe)(d):eZ (λi=>L.getD i d) L.length=L.reverse:=by
 unfold eZ;rw[sO (λi=>L.getD i d) _ _ aX];apply Ci;intro i;by_cases hi:i<L.length
 .simp[hi];have:L.length-1-i<L.length:=aA;simp[this]
 .simp[hi]
theorem GU{w:aC}{base size n e v xs}(h:w.ownsRow base e size v n xs){g cap}(c:v=Sl g n cap):∃a,w.heap[g]?=some (.cells a e (0,0))/\(∀(j:Nat)(x),xs[j]?=some x->a[j]?=some x)/\n<=cap/\cap<=maxLen/\a.size=cap*size/\a.toList.take (n*size)=xs:=by
 obtain⟨s,⟨rfl,q⟩|⟨r,d,a,i,t,l,m,k,p,f⟩⟩:=h
 .cases c
 .rw[c]at i;cases i;refine⟨a,l,λj x b=>?_,m,k,p,f⟩;let o:j<n*size:=by have:=(e_.1 b).1;omega
  rw[<-f,Bm,bY o]at b;rw[<-Array.getElem?_toList];exact b
theorem Qd(C c a sl sc):(iu (C++[c])).set (C.length*4+3) (Sl a sl sc)=iu (C++[c.gi a sl sc]):=by
 let b:(iu C).length=C.length*4:=eN dD 4 (λ_=>rfl) C;rw[tC,tC,E5 _ _ aA,b];have:C.length*4+3-C.length*4=3:=aA;rw[this];rfl
theorem Lj(Q)(hQ:∀c a d v w,Q (.panic c) (Act.put a d v) w->Q (.panic c) a w)(aW n g h r1 r2 no bZ K pv C f)(E:aB Pe)(t W x1 x2 x3 x4 x5 x7 x8 x9 ai V X aq ba b0 bd ae ad ax aj bh a1 az b6 a6 a7 ag b3 b8 b7 aw ak Z bc bb au af ay an aa b2 U a8 b9 bj bp bl bu bt bk bn bw bm)
  (hw:W.heap[aW]?=some (.cells #[r1,r2,.slice no K.length bZ,Sl g (C.length+1) h,pv] 153 (0,0))) (hE:fJ W (Sl g (C.length+1) h) (C++[f])) (hn:C.length<=1000) (z:C.length=E.length)
  (ah:∀(i:Nat) c e,C[i]?=some c->E[i]?=some e->gP W c e) (hT:∀c∈C,Fj W c) (J:uB W f t) (T:∀a,f.ao=some a->∃P m,W.heap[a.block]?=some (.cells P 9 m)) (hK:K.length<=1000) (c7:K.length<=bZ) (hN:ki W no K) (ar:∀a,no=some a->∃P m,W.heap[a.block]?=some (.cells P 226 m)) (Ah:∀k∈K,nw k.op) (b1:xb K) (D:∀e∈E,e.so.length=K.length+1)
  (H:W.heap[n]?=some (.cells #[Iv 0,Iv 0,.slice none 0 0,.slice none 0 0] 159 (0,0))) (b5:n≠g)
  (hk:∀l sc (u) (y),W.heap.size<=l->y.heap[l]?=some (.cells u 4 (0,0))->cY (λb=>b=g\/b=n) W y->fJ y (Sl g (C.length+1) h) (C++[f.gi l (K.length+1) sc])->gP y (f.gi l (K.length+1) sc) (eG E.reverse K t.bare)->
   y.heap[n]?=some (.cells #[Iv f.number,Iv f.time,.slice f.ao f.al f.ac,Sl l (K.length+1) sc] 159 (0,0))->Q .normal ⟨#[(Pt aW),x1,x2,x3,x4,x5,(Pt n),x7,x8,x9,ai,V,X,aq,ba,b0,bd,ae,ad,ax,aj,bh,a1,az,b6,a6,a7,ag,b3,b8,b7,aw,ak,Z,bc,bb,au,af,ay,an,aa,b2,U,a8,b9,(Pt aW),(Pt aW),(.pointer (some (Ad aW 2))),(.slice no K.length bZ),(Pt aW),(Pt aW),(.pointer (some (Ad aW 3))),(Sl g (C.length+1) h),(ni (f.gi l (K.length+1) sc))],[]⟩ y):
  (Code.region 6 Xa true).wp prog Q ⟨#[(Pt aW),x1,x2,x3,x4,x5,(Pt n),x7,x8,x9,ai,V,X,aq,ba,b0,bd,ae,ad,ax,aj,bh,a1,az,b6,a6,a7,ag,b3,b8,b7,aw,ak,Z,bc,bb,au,af,ay,an,aa,b2,U,a8,b9,bj,bp,bl,bu,bt,bk,bn,bw,bm],[]⟩ W:=by
 have c8:=aL hw;have el:(C++[f]).length=C.length+1:=aE;have OU:World.ownsRow W 0 159 4 (Sl g (C.length+1) h) (C.length+1) (iu (C++[f])):=by
  have h0:=hE;unfold fJ at h0;rw[el]at h0;exact h0
 obtain⟨cg,O,bo,b4,bx,br,c1⟩:=GU OU rfl;have hW:Calls prog 132 #[.slice no K.length bZ,Sl g (C.length+1) h] W.drew λe y=>∃l sc u,e=.returned (ni (f.gi l (K.length+1) sc))/\W.heap.size<=l/\Only g W y/\
   y.heap[g]?=some (.cells (cg.setIfInBounds (C.length*4+3) (Sl l (K.length+1) sc)) 159 (0,0))/\y.heap[l]?=some (.cells u 4 (0,0))/\gP y (f.gi l (K.length+1) sc) (eG E.reverse K t.bare):=by
  have G:(C++[f]).getD C.length f=f:=aE;have R:(E++[t]).getD C.length t=t:=by rw[z];simp
  have L:∀i,i<C.length->∃c e,(C++[f]).getD i f=c/\(E++[t]).getD i t=e/\C[i]?=some c/\E[i]?=some e:=λi hi=>by
   have j:i<E.length:=aA;exact⟨C[i],E[i],by rw[qp,tZ hi,fG hi];rfl,by rw[qp,tZ j,fG j];rfl,fG hi,fG j⟩
  have:=B_ no bZ K g h C.length cg (λi=>(C++[f]).getD i f) (λi=>(E++[t]).getD i t) W.drew aA b4 hK c7 O ?_ (λbs=>hN bs) ?_ Ah b1 ?_ ?_ ?_ (by simp only[G,R];exact⟨J.number,J.time,J.low,J.al,J.Dk,J.atoms⟩) ?_
  .simp only[G,R]at this;have hb:eZ (λi=>(E++[t]).getD i t) C.length=E.reverse:=by
    rw[uJ (F:=λi=>E.getD i t) (λi hi=>by
     have j:i<E.length:=aA;show(E++[t]).getD i t=E.getD i t;rw[qp,tZ j,<-qp]),z]
    exact Dn E t
   rw[hb]at this;apply this.mono;rintro e y ⟨l,sc,u,j,M,A,N,h5,h6⟩;exact⟨l,sc,u,j,M,⟨A.os,A.tape,A.output,A.size,A.block⟩,N,h5,h6⟩
  .intro i k v hi hv;have hc:(C++[f])[i]?=some ((C++[f]).getD i f):=by
    have:i<(C++[f]).length:=aA;rw[qp,fG this];rfl
   exact bo _ _ (jh dD 4 (λ_=>rfl) (C++[f]) i k _ v hc hv)
  .intro a I e;obtain⟨P,m,j⟩:=ar a I;rw[e,O]at j;cases j
  .intro i hi;obtain⟨c,e,j,M,A,N⟩:=L i hi;simp only[j,M];exact(ah i c e A N).below ((cC _ W).drew)
  .intro i hi;have⟨c,e,j,M,A,N⟩:=L i hi;simp only[M];exact D e (iA N)
  .intro i hi;have⟨c,e,j,M,A,N⟩:=L i hi;simp only[j];exact(hT c (iA A)).off O
  .simp only[G];intro a I e;have⟨P,m,j⟩:=T a I;rw[e,O]at j;cases j
 have bf:Hid (∀w',Only g W w'->(λw'=>w'.cell? (Ad aW 2)=some (.slice no K.length bZ)/\w'.cell? (Ad aW 3)=some (Sl g (C.length+1) h)) w'):=λw' ho=>by
  have j:=ho.heap hw (by rintro rfl;rw[hw]at O;cases O);exact⟨aD j rfl,aD j rfl⟩
 have s:=bf.out _ (Only.refl g W).drew;clear ah hT J hN ar Ah b1 D z el;simp only[Xa,Ds,f87,ig];apply cA.begin (S:=(λw'=>w'.cell? (Ad aW 2)=some (.slice no K.length bZ)/\w'.cell? (Ad aW 3)=some (Sl g (C.length+1) h))) (fin:=9) aM;simp only[jn,hY,jl,Nat.reduceAdd,fC];refine cA.tk 0 s ?_
 try walk_nrm
 refine cA.tk 1 s ?_
 try walk_nrm
 refine cA.tk 2 s ?_
 try walk_nrm
 refine cA.tk 3 s ?_
 try walk_nrm
 refine cA.tk 4 s ?_
 try walk_nrm
 refine cA.tk 5 s ?_
 try walk_nrm
 refine cA.tk 6 s ?_
 try walk_nrm
 refine cA.tk 7 s ?_
 try walk_nrm
 refine cA.o 8 (Md func132 hW ?_);rintro e W1 ⟨l,sc,u,rfl,bz,B,c6,bg,bq⟩;refine⟨_,rfl,λ_=>bf.out _ B,?_⟩
 try walk_nrm
 have o:=B.heap H b5;have r0:=aD (i:=0) o rfl;have r1':=aD (i:=1) o rfl;have r2':=aD (i:=2) o rfl;have r3':=aD (i:=3) o rfl;have fz:∀q,W1.frozen? (Ad n q)=false:=λq=>cJ o q;refine cA.op (i:=9) jU rfl (by rfl) λK' hK'=>?_;unfold Oper.wp;simp only[ni,iZ.gi];go_simp;refine hK' _ _ ⟨λx=>absurd x aG,?_⟩;refine cA.done jU ?_ _
 try walk_nrm
 have hR:=dR (i:=3) (v:=Sl l (K.length+1) sc) (dR (i:=2) (v:=.slice f.ao f.al f.ac) (dR (i:=1) (v:=Iv f.time) (dR (i:=0) (v:=Iv f.number) o)));simp only[Pv,Cg,Hz]at hR;have r:Only n W1 ((((W1.setCell (Ad n 0) (Iv f.number)).setCell (Ad n 1) (Iv f.time)).setCell (Ad n 2) (.slice f.ao f.al f.ac)).setCell (Ad n 3) (Sl l (K.length+1) sc)):=((((Only.refl _ W1).setCell (p:=(Ad n 0)) (.inl rfl) _).setCell (p:=(Ad n 1)) (.inl rfl) _).setCell (p:=(Ad n 2)) (.inl rfl) _).setCell (p:=(Ad n 3)) (.inl rfl) _;generalize((((W1.setCell (Ad n 0) (Iv f.number)).setCell (Ad n 1) (Iv f.time)).setCell (Ad n 2) (.slice f.ao f.al f.ac)).setCell (Ad n 3) (Sl l (K.length+1) sc))=W4 at hR r⊢;have ca:=aL H;refine hk l sc u W4 bz (r.heap bg aA) ⟨r.os.trans B.os,r.tape.trans B.tape,r.output.trans B.output,gC B.size r.size,λb hb hp=>(r.block b (fW hb B.size) λe=>hp (.inr e)).trans (B.block b hb λe=>hp (.inl e))⟩ ?_ ?_ hR
 .have Y:(C++[f.gi l (K.length+1) sc]).length=C.length+1:=by simp
  show World.ownsRow _ 0 159 4 _ _ _;rw[Y];refine⟨by rw[iu,eN dD 4 λ_=>rfl,Y],.inr ⟨g,h,_,rfl,cD,r.heap c6 (lx b5),b4,bx,by simpa using br,?_⟩⟩;rw[<-Qd,<-c1,Array.toList_setIfInBounds,List.take_set]
 .refine bq.only ⟨λa I=>?_,λa I=>?_⟩ r
  .have:some ((Ad l 0):a_)=some a:=I;cases this;show l≠n;omega
  .intro e;have⟨P,m,j⟩:=T a I;rw[e,H]at j;cases j
theorem CV{P h o a w K Q E}
  (l:o.guard=none) (s x t) (p:o.op=Op.call {callee:=Callee.builtin Builtin.append,args:=#[s,x],argTypes:=#[t,t]})
  (e i) (A:P.underlying t=some (.slice e)) (v:P.info? e=some i) (g n cap b) (C:w.heap[g]?=some (.cells b e (0,0))) (D:a.eval s=Sl g n cap)
  (k m c news) (z:a.eval x=.slice (some k) m c) (y:news.length=m*i.size) (B:∀j u,news[j]?=some u->w.cell? (k.add j)=some u) (q:∀u∈news,u.oneCell'=true)
  (d:n+m<=cap) (f:n*i.size+news.length<=b.size)
  (r:K (a.put o.dst (Sl g (n+m) cap)) (w.setRow g (b.toList.take (n*i.size)++news++b.toList.drop (n*i.size+news.length)).toArray)):
  if Region.wanted o (yielded h a.tmps)=true then Oper.wp P o a w K Q else E:=by
 let hw:Region.wanted o (yielded h a.tmps)=true:=by simp[Region.wanted,l]
 rw[bY hw];unfold Oper.wp;simp[execOp,p,resolve,invoke,builtin,D,z,run_append_room (P:=P) w t o.type e i A v g n cap b C k m c news y B q d f,Result.andThen];rw[nc]at r;exact r
theorem zo{T:bQ}(h:T:=by rcases hs with rfl|rfl<;>omega):T:=h
def UY(q st et a:Nat)(b:aY aF):Prop:=(q=130/\st=146/\et=159/\a=4/\b=#[Iv 0,Iv 0,.slice none 0 0,.slice none 0 0])\/(q=99/\st=151/\et=183/\a=5/\b=#[.string ⟨#[]⟩,.pointer none,Iv 0,Iv 0,.pointer none])\/(q=184/\st=54/\et=59/\a=4/\b=#[Iv 0,Iv 0,Iv 0,.bool false])
theorem RD{q st et c b}(h:UY q st et c b)(k):∀u∈(Builtin.zeroCells b k).toList,u.oneCell'=true:=by
 intro u a;simp only[Builtin.zeroCells,Array.toList_map,iX,Array.mem_toList_iff,Array.mem_range]at a;obtain⟨i,_,rfl⟩:=a;obtain⟨_,_,_,_,rfl⟩|⟨_,_,_,_,rfl⟩|⟨_,_,_,_,rfl⟩:=h
 all_goals
  simp only[jn,hY,jl,fC,Nat.reduceAdd]
  first
  |(rcases(by omega:i%4=0\/i%4=1\/i%4=2\/i%4=3)with h|h|h|h<;>rw[h]<;>rfl)
  |(rcases(by omega:i%5=0\/i%5=1\/i%5=2\/i%5=3\/i%5=4)with h|h|h|h|h<;>rw[h]<;>rfl)
theorem Bg{q st et a b}(h:UY q st et a b)(k):(Builtin.zeroCells b k).toList.length=k*a:=by
 obtain⟨_,_,_,rfl,rfl⟩|⟨_,_,_,rfl,rfl⟩|⟨_,_,_,rfl,rfl⟩:=h<;>simp[Builtin.zeroCells]
theorem P3{q st et d b}(h:UY q st et d b)(W n g o k c)(p:k≠0)(a)(j:W.heap[g]?=some (.cells a et (0,0)))(e:o+k*d<=a.size):
  (Builtin.clear_ #[st] n #[.slice (some (Ad g o)) k c]).run prog W=.ok (.tuple #[]) (W.setRow g (a.toList.take o++(Builtin.zeroCells b k).toList++a.toList.drop (o+k*d)).toArray):=by
 let f:=run_storeCells_at (P:=prog) g o et _ 0 a W j (by rw[Bg h];omega) (RD h k);rw[Bg h,E8]at f;obtain⟨k,rfl⟩:∃m,k=m+1:=⟨k-1,aA⟩;let i:(Value.agg b).cells=b:=by rcases h with⟨_,_,_,_,rfl⟩|⟨_,_,_,_,rfl⟩|⟨_,_,_,_,rfl⟩<;>rfl
 let l:∀w:aC,(underlying st).run prog w=.ok (.slice et) w:=by
  obtain⟨_,rfl,rfl,_⟩|⟨_,rfl,rfl,_⟩|⟨_,rfl,rfl,_⟩:=h<;>intro w
  .have:=underlying146;simp[underlying,this]
  .have:=underlying151;simp[underlying,this]
  .have:=underlying54;simp[underlying,this]
 obtain⟨_,rfl,rfl,rfl,rfl⟩|⟨_,rfl,rfl,rfl,rfl⟩|⟨_,rfl,rfl,rfl,rfl⟩:=h
 all_goals
  simp[Builtin.clear_,l,i,f]
theorem MS(C):∀k,iu (C.drop k)=(iu C).drop (k*4):=by
 induction C with
 |nil=>intro k;simp[iu]
 |cons c C d=>
  intro k;cases k with
  |zero=>simp
  |succ k=>
   let e:iu (c::C)=dD c++iu C:=rfl;rw[Pu,d k,e,List.drop_append];let a:(dD c).length=4:=rfl;rw[a];let b:(k+1)*4-4=k*4:=aA;rw[b,t_ (l:=dD c) (by rw[a];omega),jW]
theorem Iu{q st et d zs}(h:UY q st et d zs)(B g cap i j n xs w)(hE:w.ownsRow B et d (Sl g n cap) n xs)(J:∀u∈xs,u.oneCell'=true)(a8:i<j)(ad:j<=n)(hn:n<=1000):
  Calls prog q #[Sl g n cap,Iv (i),Iv (j)] w λe w'=>e=.returned (Sl g (n-(j-i)) cap)/\w'.ownsRow B et d (Sl g (n-(j-i)) cap) (n-(j-i)) (xs.take (i*d)++xs.drop (j*d))/\Only g w w':=by
 obtain⟨P,⟨h1,_⟩|⟨g',Y,k,e1,V,I,ae,F,y,D⟩⟩:=hE
 .cases h1
 cases e1;obtain⟨z,hi,v⟩:∃z,prog.info? et=some z/\z.size=d:=by
  rcases h with⟨_,_,rfl,rfl,_⟩|⟨_,_,rfl,rfl,_⟩|⟨_,_,rfl,rfl,_⟩
  .have⟨a,b,_,c,_⟩:=eB wk;exact⟨a,b,c⟩
  .have⟨a,b,_,c,_⟩:=eB lR;exact⟨a,b,c⟩
  .have⟨a,b,_,c,_⟩:=eB VD;exact⟨a,b,c⟩
 have hs:d=4\/d=5:=by rcases h with⟨_,_,_,h,_⟩|⟨_,_,_,h,_⟩|⟨_,_,_,h,_⟩<;>simp[h]
 have hU:prog.underlying st=some (.slice et):=by
  obtain⟨_,rfl,rfl,_⟩|⟨_,rfl,rfl,_⟩|⟨_,rfl,rfl,_⟩:=h
  .exact underlying146
  .exact underlying151
  .exact underlying54
 obtain⟨news,f⟩:∃news,news=xs.drop (j*d):=⟨_,rfl⟩;have X:cap<=9223372036854775807:=gC F aG;have E:=Bg h (j-i);have G:=λW U o k I hf=>P3 h W U g o (j-i) (cap-(n-(j-i))) aA k I hf;obtain⟨Z,hZ⟩:∃Z,Z=(Builtin.zeroCells zs (j-i)).toList:=⟨_,rfl⟩;rw[<-hZ]at E G;clear hZ;have l:news.length=(n-j)*d:=by rw[f,nQ,P,Nat.sub_mul]
 have DY:k.toList.length=cap*d:=yl▸y;have C:∀t u,news[t]?=some u->w.cell? (Ad g (j*d+t))=some u:=by
  intro t u p;have ht:=(e_.1 p).1;rw[l]at ht;apply aD I;rw[f,uw,<-D,Bm]at p;rw[bY zo]at p;simpa using p
 obtain⟨A,hA,O⟩:∃A:a_,(if cap=j then some ((Ad g 0):a_)else some (Ad g (j*d)))=some A/\Hid (∀t u,news[t]?=some u->w.drew.cell? (A.add t)=some u):=by
  by_cases h:cap=j
  .refine⟨(Ad g 0),by simp[h],λt u p=>?_⟩;have P:news.length=0:=l▸zo;rw[ur.1 P]at p;simp at p
  .refine⟨(Ad g (j*d)),by simp[h],λt u p=>?_⟩;rw[oN];exact C t u p
 obtain⟨R,K⟩:∃R,R=k.toList.take (i*z.size)++news++k.toList.drop (i*z.size+news.length):=⟨_,rfl⟩;obtain⟨N,m⟩:∃N,N=w.drew.setRow g R.toArray:=⟨_,rfl⟩;have r:∀u∈news,u.oneCell'=true:=λu p=>J u (by rw[f]at p;exact sx p);have H:N.heap[g]?=some (.cells R.toArray et (0,0)):=m▸Ct w.drew g k _ _ (0,0) I;have s:R.length=cap*d:=by
  simp only[K,kt,kR,nQ,DY,l,v];exact zo
 have aa:=λU=>G N U ((n-(j-i))*d) _ H (by rw[jn,s];exact zo);have x:∀Q,Q=N.setRow g (R.toArray.toList.take ((n-(j-i))*d)++Z++R.toArray.toList.drop ((n-(j-i))*d+(j-i)*d)).toArray->Q.ownsRow B et d (Sl g (n-(j-i)) cap) (n-(j-i)) (xs.take (i*d)++xs.drop (j*d))/\Only g w Q:=by
  rintro Q rfl;have a1:(k.toList.take (i*d)++news).length=(n-(j-i))*d:=by
   simp only[kt,kR,DY,l];exact zo
  refine⟨⟨?_,.inr ⟨g,cap,_,rfl,V,Ct _ g _ _ _ _ H,aA,F,?_,?_⟩⟩,?_⟩
  .simp only[kt,kR,nQ,P];exact zo
  .simp only[jn,kt,kR,nQ,E,s];exact zo
  .have e2:R.take ((n-(j-i))*d)=k.toList.take (i*d)++news:=by
    rw[K,v,Fc aA,rf aA]
   have e3:k.toList.take (i*d)=xs.take (i*d):=by rw[<-D,List.take_take];congr 1;exact zo
   simp only[];rw[e2,nc,Fc aA,rf aA,e3,f]
  .refine⟨by rw[m];rfl,by rw[m];rfl,by rw[m];rfl,by rw[m];simp,λb hb L=>?_⟩;rw[Ab _ _ _ _ L,m,Ab _ _ _ _ L];rfl
 have S:news.length=(n-j)*z.size:=v▸l;have T:i*z.size+news.length<=k.size:=by rw[y,v,l];exact zo
 have hW:=hid m;replace K:Hid _:=K;replace x:Hid _:=x;replace S:Hid _:=S;replace T:Hid _:=T;replace r:Hid _:=r;have Vs:=hid I;have a7:j<=cap:=aA;have a6:i<=cap:=aA;clear C f l H s P D I m y F DY J G E hs v;rcases h with⟨rfl,rfl,rfl,rfl,_⟩|⟨rfl,rfl,rfl,rfl,_⟩|⟨rfl,rfl,rfl,rfl,_⟩;go_enter func130,ntmps130
 rotate_left
 go_enter func99,ntmps99
 rotate_left
 go_enter func184,ntmps184
 rotate_left
 all_goals
  go_wp2_with fail
  go_region_law (refine CV rfl (.tmp 22) (.tmp 25) _ rfl _ z hU hi g i cap k Vs.out (by simp[Act.eval,Act.put]) A (n-j) (cap-j) news (by simp[Act.eval,Act.put]) S.out O.out r.out aA T.out ?_;rw[<-K.out,<-hW.out])
  have af:n-(n-(j-i))=j-i:=aA;have M:i+(n-j)=n-(j-i):=aA;rw[M];go_wp2;go_ret;exact⟨rfl,x.out _ (by simp only[nc])⟩
theorem DE(ea cap k C w)(j:fJ w (.slice ea C.length cap) C)(a:k<=C.length)(o:C.length<=1000)(d:C.length<=cap):
  Calls prog 130 #[.slice ea C.length cap,Iv 0,Iv (k)] w λe f=>e=.returned (.slice ea (C.length-k) cap)/\fJ f (.slice ea (C.length-k) cap) (C.drop k)/\cY (λb=>(Value.slice ea C.length cap).ownBlock=some b) w f:=by
 obtain rfl|p:=Bj k
 .refine(J9 ea C.length cap w d).mono ?_;rintro e f ⟨rfl,rfl⟩;exact⟨rfl,j,cY.refl _ _⟩
 .obtain⟨_,rfl⟩|⟨g,cp,i,_⟩:=j.cases
  .simp at a;omega
  .cases i;refine(Iu (.inl ⟨rfl,rfl,rfl,rfl,rfl⟩) 0 g cap 0 k C.length _ w j (λu h=>?_) p a o).mono ?_
   .let⟨c,hc,h⟩:=HI.1 h;obtain⟨e,_,rfl⟩:=iX.1 hc;exact WN e u h
   rintro e f ⟨rfl,l,m⟩;refine⟨rfl,?_,cY.qG m λx n=>by rw[n];rfl⟩;rw[Nat.zero_mul,List.take_zero,jW,<-MS]at l;show World.ownsRow _ _ _ _ _ _ _;rw[nQ];exact l
theorem Jc(Q)(hQ:∀c a d v w,Q (.panic c) (Act.put a d v) w->Q (.panic c) a w)(aW F f rm O ea bO pv C num time m h l W x2 x3 x4 x5 x6 x8 x9 aj Z a1 aq b6 ay b7 ag af au ak b9 a6 ax b3 ad ae ai az b5 b4 bs c7 cc c1 bt bp bx bu cd c8 c6 bn bb bl T ar a8 b1 b0 U ah b2 aa)
  (hw:W.heap[aW]?=some (.cells #[Iv f,rm,O,.slice ea C.length bO,pv] 153 (0,0))) (hE:fJ W (.slice ea C.length bO) C) (hn:C.length<=1000) (ht:0<=time/\time<=1000000000000) (hr:0<=f/\f<=1000000000) (k) (bo:nK (time-f) C=k) (I:C.length<=bO) (an:k<=C.length)
  (L:W.heap[F]?=some (.cells #[Iv num,Iv time,.slice m h l,.slice none 0 0] 159 (0,0))) (R:(Value.slice ea C.length bO).ownBlock≠some F)
  (hK:∀Yr (W') (v41),W'.heap[aW]?=some (.cells #[Iv f,rm,O,Yr,pv] 153 (0,0))->fJ W' Yr (C.drop k++[(⟨num,time,m,h,l,none,0,0⟩:iZ)])->cY (λb=>b=aW\/(Value.slice ea C.length bO).ownBlock=some b) W W'->(∀b,Yr.ownBlock=some b->(Value.slice ea C.length bO).ownBlock=some b\/W.heap.size<=b)->
   Q .normal ⟨#[(Pt aW),(Iv time),x2,x3,x4,x5,x6,(Pt F),x8,x9,aj,Z,a1,aq,b6,ay,b7,ag,af,au,ak,b9,a6,ax,b3,ad,ae,ai,az,b5,b4,(Pt aW),(Pt aW),(Pt aW),(.pointer (some (Ad aW 3))),(.slice ea C.length bO),(Pt aW),(Iv time),(Iv (k)),(.slice ea (C.length-k) bO),(.agg #[Iv num,Iv time,.slice m h l,.slice none 0 0]),v41,Yr,(Pt aW),(.pointer (some (Ad aW 3))),T,ar,a8,b1,b0,U,ah,b2,aa],[]⟩ W'):
  (Code.region 5 Pb true).wp prog Q ⟨#[(Pt aW),(Iv time),x2,x3,x4,x5,x6,(Pt F),x8,x9,aj,Z,a1,aq,b6,ay,b7,ag,af,au,ak,b9,a6,ax,b3,ad,ae,ai,az,b5,b4,bs,c7,cc,c1,bt,bp,bx,bu,cd,c8,c6,bn,bb,bl,T,ar,a8,b1,b0,U,ah,b2,aa],[]⟩ W:=by
 obtain⟨ow,K⟩:∃o:Obj,o=.cells #[Iv f,rm,O,.slice ea C.length bO,pv] 153 (0,0):=⟨_,rfl⟩;obtain⟨on,b8⟩:∃o:Obj,o=.cells #[Iv num,Iv time,.slice m h l,.slice none 0 0] 159 (0,0):=⟨_,rfl⟩;obtain⟨S,hS⟩:∃S,S=λw':aC=>w'.cell? (Ad aW 3)=some (.slice ea C.length bO)/\w'.cell? (Ad F 0)=some (Iv num)/\w'.cell? (Ad F 1)=some (Iv time)/\w'.cell? (Ad F 2)=some (.slice m h l)/\w'.cell? (Ad F 3)=some (.slice none 0 0):=⟨_,rfl⟩;rw[<-K]at hw;rw[<-b8]at L;let cj:=aL hw;let ck:=aL L;obtain⟨i0,hi,ca,cb,br⟩:=eB wk;let HO:Hid (∀w',Bl W w'->Calls prog 131 #[Pt aW,Iv time] w' λe bz=>e=.returned (Iv (k:Int))/\Bl w' bz):=λw' hb=>by
  have:=I5 aW f rm O (.slice ea C.length bO) pv C time w' (K▸hb.aS hw) (hE.below hb) aA ht hr;rw[bo]at this;exact this
 let n:=hid λ(w':aC)(H:w'.heap[aW]?=some ow)(h2:w'.heap[F]?=some on)=>show S w' by
  subst hS K b8;exact⟨aD H rfl,aD h2 rfl,aD h2 rfl,aD h2 rfl,aD h2 rfl⟩
 let N:=hid λw' (hb:Bl W w')=>n.out w' (hb.aS hw) (hb.aS L);let bq:(Value.slice ea C.length bO).ownBlock≠some aW:=λe=>by
  obtain⟨cs,H⟩:=cE hE e;rw[hw,K]at H;cases H
 let after:∀(A D:aC),Bl W A->cY (λb=>(Value.slice ea C.length bO).ownBlock=some b) A D->D.heap[aW]?=some ow/\D.heap[F]?=some on/\cY (λb=>b=aW\/(Value.slice ea C.length bO).ownBlock=some b) W D:=λA D hb ho=>
  ⟨(ho.block aW (aL (hb.aS hw)) bq).trans (hb.aS hw),(ho.block F (aL (hb.aS L)) R).trans (hb.aS L),(cY.aR hb).trans (ho.mono λ_ _ hx=>.inr hx)⟩
 replace after:Hid _:=after;let z:=N.out _ (cC _ W).drew;let s:∀(V:aC)(sl:Nat),V.heap[aW]?=some ow->V.heap[F]?=some on->fJ V (.slice ea (C.length-k) bO) (C.drop k)->cY (λb=>b=aW\/(Value.slice ea C.length bO).ownBlock=some b) W V->(∀j u,(dD (⟨num,time,m,h,l,none,0,0⟩:iZ))[j]?=some u->V.cell? (((Ad sl 0):a_).add j)=some u)->
   cA prog .any Pb Q S 14 4 #[true,true,true,true,true,true,true,true,true,true,true,false,false,false,false] ⟨#[(Pt aW),(Iv time),x2,x3,x4,x5,x6,(Pt F),x8,x9,aj,Z,a1,aq,b6,ay,b7,ag,af,au,ak,b9,a6,ax,b3,ad,ae,ai,az,b5,b4,(Pt aW),(Pt aW),(Pt aW),(.pointer (some (Ad aW 3))),(.slice ea C.length bO),(Pt aW),(Iv time),(Iv (k:Int)),(.slice ea (C.length-k) bO),(.agg #[Iv num,Iv time,.slice m h l,.slice none 0 0]),(Sl sl 1 1),bn,bb,bl,T,ar,a8,b1,b0,U,ah,b2,aa],[]⟩ V:=by
  intro V sl a7 bd bc P aw;subst hS K b8;let aao:V.ownsRow 0 159 4 (.slice ea (C.length-k) bO) (C.length-k) (iu (C.drop k)):=by
   have:=bc;unfold fJ at this;rw[nQ]at this;exact this
  simp only[Pb,Ds,f87,ig];refine cA.one (i:=11) jU rfl (by rfl) (wp_append_own (.tmp 39) (.tmp 41) 146 rfl 0 159 i0 _ 4 64 underlying146 hi ca cb br rfl aG (.slice ea (C.length-k) bO) (C.length-k) (iu (C.drop k)) rfl aao (Ad sl 0) 1 1 (dD (⟨num,time,m,h,l,none,0,0⟩:iZ)) rfl rfl aw (WN _) eP aA cD ?_);intro v' w2 B q bh;let bj:(Value.slice ea (C.length-k) bO).ownBlock=(Value.slice ea C.length bO).ownBlock:=by cases ea<;>rfl
  rw[bj]at q bh;obtain⟨g2,c2,rfl⟩:=ownsRow_succ B;let ba:∀b,(Value.slice ea C.length bO).ownBlock=some b->∃cs,V.heap[b]?=some (.cells cs 159 (0,0)):=λb hb=>cE bc (bj.trans hb);let y:=(q.block aW (aL a7) λe=>by obtain⟨cs,H⟩:=ba aW e.symm;rw[a7]at H;cases H).trans a7;let cm:=aD (i:=3) y rfl;let cl:=cJ y 3;let bf:=(q.block F (aL bd) λe=>R e.symm).trans bd;let X:=n.out _ y bf;refine⟨λ_=>X,?_⟩
  try walk_nrm
  refine cA.o 12 (O8 ⟨λ_=>X,?_⟩)
  try walk_nrm
  refine cA.o 13 (O8 ⟨λ_=>X,?_⟩)
  try walk_nrm
  refine cA.o 14 (opk ⟨λx=>absurd x aG,?_⟩);refine cA.done jU ?_ _
  try walk_nrm
  let bw:g2≠aW:=by
   rintro rfl;obtain⟨_,⟨h2,_⟩|⟨g',cg,cn,e1,_,e2,_⟩⟩:=B
   .cases h2
   .cases e1;rw[y]at e2;cases e2
  apply hK (Sl g2 (C.length-k+1) c2) _ _ (dR (i:=3) y)
  .show World.ownsRow _ 0 159 4 _ _ _;let el:(C.drop k++[(⟨num,time,m,h,l,none,0,0⟩:iZ)]).length=C.length-k+1:=aE;rw[el,tC];exact eF B λb cf=>mn _ _ _ _ (by cases cf;exact bw)
  .let s1:cY (λb=>b=aW\/(Value.slice ea C.length bO).ownBlock=some b) W w2:=P.trans (cY.TG q λx hx=>.inr hx);exact s1.trans (cY.qG ((Only.refl aW w2).setCell (p:=(Ad aW 3)) (.inl rfl) _) λx hx=>.inl hx)
  .intro b hb;rcases bh with e|e
   .exact .inl (e▸hb)
   .rw[e]at hb;cases hb;exact .inr P.size
 simp only[Pb,Ds,f87,ig]at s⊢;apply cA.begin (S:=S) (fin:=14) aM;subst hS;simp only[jn,hY,jl,Nat.reduceAdd,fC];refine cA.tk 0 z ?_
 try walk_nrm
 refine cA.tk 1 z ?_
 try walk_nrm
 refine cA.tk 2 z ?_
 try walk_nrm
 refine cA.tk 3 z ?_
 try walk_nrm
 refine cA.tk 4 z ?_
 try walk_nrm
 refine cA.tk 5 z ?_
 try walk_nrm
 refine cA.tk 6 z ?_
 try walk_nrm
 refine cA.tk 9 z ?_
 try walk_nrm
 refine cA.t 7 10 ?_ ?_
 .refine Md func131 (HO.out W.drew (cC W.heap.size W).drew) ?_;rintro e A ⟨rfl,g⟩;replace g:Bl W A:=((cC W.heap.size W).drew).trans (g.mono ((cC W.heap.size W).drew).size);refine⟨_,rfl,λ_=>N.out _ g,?_⟩
  try walk_nrm
  refine cA.t 8 10 ?_ ?_
  .refine Md func130 (DE ea bO k C A (hE.below g) an hn I) ?_;rintro e D ⟨rfl,J,E⟩;obtain⟨t,r,M⟩:=after.out A D g E;refine⟨_,rfl,λ_=>n.out _ t r,?_⟩
   try walk_nrm
   let G:=λo=>(cC D.heap.size D).al o;refine cA.o 10 (O8 ⟨λ_=>n.out _ ((G _).aS t) ((G _).aS r),?_⟩)
   try walk_nrm
   exact s _ D.heap.size ((G _).aS t) ((G _).aS r) (J.below (G _)) (M.trans (cY.aR (G _))) (mG D (⟨num,time,m,h,l,none,0,0⟩:iZ) 159)
  .refine O8 ⟨λ_=>N.out _ ((g).al _),?_⟩
   try walk_nrm
   refine cA.o 8 (Md func130 (DE ea bO k C _ (hE.below (g.al _)) an hn I) ?_);rintro e D ⟨rfl,J,E⟩;obtain⟨t,r,M⟩:=after.out _ D (g.al _) E;refine⟨_,rfl,λ_=>n.out _ t r,?_⟩
   try walk_nrm
   refine s _ A.heap.size t r J M λj u hj=>?_;let H:=mG A (⟨num,time,m,h,l,none,0,0⟩:iZ) 159 j u hj;let cq:=g.size;let e1:((Ad A.heap.size 0):a_).add j=(Ad A.heap.size j):=by simp[Addr.add];omega
   rw[e1]at H⊢;rw[<-H];exact fT (E.block A.heap.size aE λe=>by have:=(hE.lt _ e).2;omega)
 .refine O8 ⟨λ_=>N.out _ (((cC W.heap.size W).drew).al _),?_⟩
  try walk_nrm
  let Y:=(cC W.heap.size W).drew.al (.cells #[Iv num,Iv time,.slice m h l,.slice none 0 0] 159 (0,0));refine cA.o 7 (Md func131 (HO.out _ Y) ?_);rintro e A ⟨rfl,g⟩;let bk:=g;replace g:Bl W A:=(Y).trans (g.mono (Y).size);refine⟨_,rfl,λ_=>N.out _ g,?_⟩
  try walk_nrm
  refine cA.o 8 (Md func130 (DE ea bO k C A (hE.below g) an hn I) ?_);rintro e D ⟨rfl,J,E⟩;obtain⟨t,r,M⟩:=after.out A D g E;refine⟨_,rfl,λ_=>n.out _ t r,?_⟩
  try walk_nrm
  let bm:=aL (aP W.drew (.cells #[Iv num,Iv time,.slice m h l,.slice none 0 0] 159) W.heap.size rfl);refine s _ W.heap.size t r J M λj u hj=>?_;let H:=mG W.drew (⟨num,time,m,h,l,none,0,0⟩:iZ) 159 j u hj;let e1:((Ad W.heap.size 0):a_).add j=(Ad W.heap.size j):=by simp[Addr.add];omega
  let e2:((Ad W.drew.heap.size 0):a_).add j=(Ad W.heap.size j):=e1;rw[e2]at H;let bg:W.heap.size<A.heap.size:=fW bm bk.size;rw[e1,fT (E.block W.heap.size bg λe=>by have:=(hE.lt _ e).2;omega),bk.cell (p:=(Ad W.heap.size j)) bm];exact H
def R2(aW:Nat)(d:Int)(j:aF)(no:aQ a_)(bZ:Nat)(K:aB Key)(ea:aQ a_)(bO:Nat)(k:aF)(C D:aB iZ)(F:aB Pe)(time:Int)(A:aB aZ)(w:aC)(e:Ending)(g:aC):Prop:=
 ∃(c:iZ)(f:aF)(i:Nat)(h:aY aF),e=.returned (ni c)/\c.so=some (Ad i 0)/\w.heap.size<=i/\g.heap[i]?=some (.cells h 4 (0,0))/\g.heap[aW]?=some (.cells #[Iv d,j,.slice no K.length bZ,f,k] 153 (0,0))/\fJ g f (D++[c])/\
  gP g c (eG F.reverse K (⟨kn C,time,A,[]⟩:Pe).bare)/\Fj g c/\cY (λb=>b=aW\/(Value.slice ea C.length bO).ownBlock=some b) w g/\(∀b,f.ownBlock=some b->(Value.slice ea C.length bO).ownBlock=some b\/w.heap.size<=b)/\∀a,c.ao=some a->w.heap.size<=a.block
theorem take_drop(aW f rm no bZ K ea bO pv C)(E:aB Pe)(time ao A cap w)
  (hw:w.heap[aW]?=some (.cells #[Iv f,rm,.slice no K.length bZ,.slice ea C.length bO,pv] 153 (0,0))) (hE:fJ w (.slice ea C.length bO) C) (aa:C.length=E.length) (aq:∀(i:Nat) c e,C[i]?=some c->E[i]?=some e->gP w c e) (hT:∀c∈C,Fj w c) (hn:C.length<=1000) (X:0<=time/\time<=1000000000000) (hr:0<=f/\f<=1000000000) (k) (ad:nK (time-f) C=k)
  (ak:∀c,C.getLast?=some c->0<=c.number/\c.number<=1000000000000) (h:eQ w ao A) (hA:A.length<=1000) (b2:A.length<=cap) (hs:∀j,j<A.length->(A.getD j ByteArray.empty).size<=1000)
  (hK:K.length<=1000) (bd:K.length<=bZ) (hN:ki w no K) (ax:∀a,no=some a->∃r m,w.heap[a.block]?=some (.cells r 226 m)) (b3:∀k∈K,nw k.op) (ba:xb K) (a7:∀e∈E,e.so.length=K.length+1):
  Calls prog 87 #[Pt aW,Iv time,.slice ao A.length cap] w (R2 aW f rm no bZ K ea bO pv C (C.drop k) (E.drop k) time A w):=by
 have R:∀(i:Nat) c e,(C.drop k)[i]?=some c->(E.drop k)[i]?=some e->gP w c e:=λi c e O N=>aq (k+i) c e (uw▸O) (uw▸N);have ai:∀c∈C.drop k,Fj w c:=λc hc=>hT c (sx hc);have z:(C.drop k).length=(E.drop k).length:=by rw[nQ,nQ,aa]
 have S:∀e∈E.drop k,e.so.length=K.length+1:=λe he=>a7 e (sx he);have au:(C.drop k).length<=1000:=by rw[nQ];omega
 have bl:=hE;clear aq hT aa a7;obtain⟨D,hD⟩:∃D,D=C.drop k:=⟨_,rfl⟩;obtain⟨F,hF⟩:∃F,F=E.drop k:=⟨_,rfl⟩;have aj:D.length=C.length-k:=by rw[hD,nQ]
 rw[<-hD]at R ai z au⊢;rw[<-hF]at R z S⊢;have an:=aL hw;have ar:Hid (D.length=F.length):=z;clear z;have b5:Hid (D.length=C.length-k):=aj;clear aj;have ah:C.length<=bO:=by
  rcases hE.cases with⟨O,rfl⟩|⟨g,cp,M,O,_,_⟩
  .simp
  .cases M;exact O
 have bc:=MD ao A cap (w.alloc (.cells #[Iv 0,Iv 0,.slice none 0 0,.slice none 0 0] 159)) (h.below (aT.al _)) hA b2 hs;go_enter func87,ntmps87;go_wp2_with fail;apply bc.mono;rintro e T ⟨v1,rfl,af,ay⟩;obtain⟨G,P,rfl,bg,b0,aw⟩:=LJ af;have u:Bl w T:=(aT.al _).tr ay;have Q:T.heap[w.heap.size]?=some (.cells #[Iv 0,Iv 0,.slice none 0 0,.slice none 0 0] 159 (0,0)):=ay.aS (aP _ _ _ rfl);have bf:aW<T.heap.size:=fW an u.size;have az:Bl w (T.alloc (.cells #[Iv 1,Iv time,.slice G A.length P,.slice none 0 0] 159)):=u.al _;have y3:=(az.cell (p:=(Ad aW 3)) an).trans (aD hw rfl);have l:∀b,(Value.slice ea C.length bO).ownBlock=some b->b<w.heap.size:=λb s=>(hE.lt b s).2;have n:∀b r t m,w.heap[b]?=some (.cells r t m)->t≠153->t≠159->¬(b=aW\/(Value.slice ea C.length bO).ownBlock=some b):=λb r t m s O N I=>by
  obtain rfl|I:=I
  .rw[hw]at s;injection s with s;injection s with _ s _;exact O s.symm
  .have⟨J,hc⟩:=cE hE I;rw[hc]at s;injection s with s;injection s with _ s _;exact N s.symm
 have B:∀a,G=some a->w.heap.size+1<=a.block/\∃r,T.heap[a.block]?=some (.cells r 9 (0,0)):=λa v=>by have:=aw a v;simpa using this
 have fin:∀(num:Int),num=kn C->∀W,T.alloc (.cells #[Iv num,Iv time,.slice G A.length P,.slice none 0 0] 159)=W->∀c0,(⟨num,time,G,A.length,P,none,0,0⟩:iZ)=c0->∀(L:aF)(y:aC),y.heap[aW]?=some (.cells #[Iv f,rm,.slice no K.length bZ,L,pv] 153 (0,0))->fJ y L (D++[c0])->cY (λb=>b=aW\/(Value.slice ea C.length bO).ownBlock=some b) W y->(∀b,L.ownBlock=some b->(Value.slice ea C.length bO).ownBlock=some b\/W.heap.size<=b)->
   ∃g q,L=Sl g (D.length+1) q/\(∀(i:Nat) c e,D[i]?=some c->F[i]?=some e->gP y c e)/\(∀c∈D,Fj y c)/\uB y c0 (⟨kn C,time,A,[]⟩:Pe)/\(∀a,G=some a->∃r m,y.heap[a.block]?=some (.cells r 9 m))/\ki y no K/\(∀a,no=some a->∃r m,y.heap[a.block]?=some (.cells r 226 m))/\y.heap[w.heap.size]?=some (.cells #[Iv 0,Iv 0,.slice none 0 0,.slice none 0 0] 159 (0,0))/\w.heap.size≠g/\
   ∀(V sc:Nat)(J:aY aF)(H:aC),y.heap.size<=V->H.heap[V]?=some (.cells J 4 (0,0))->cY (λb=>b=g\/b=w.heap.size) y H->fJ H (Sl g (D.length+1) q) (D++[c0.gi V (K.length+1) sc])->gP H (c0.gi V (K.length+1) sc) (eG F.reverse K (⟨kn C,time,A,[]⟩:Pe).bare)->
    R2 aW f rm no bZ K ea bO pv C D F time A w (.returned (ni (c0.gi V (K.length+1) sc))) H:=by
  intro num ae W hW c0 bb L y f1 f2 f3 f4;have b6:Bl w W:=hW▸u.al _;have bn:W.heap.size=T.heap.size+1:=by rw[<-hW];simp
  have Y:∀b o,T.heap[b]?=some o->W.heap[b]?=some o:=λb o s=>hW▸(ib _ _ _ (aL s)).trans s;have bk:=u.size;have bp:=aL Q;have sp:cY (λb=>b=aW\/(Value.slice ea C.length bO).ownBlock=some b) w y:=(cY.aR b6).trans f3;have el:(D++[c0]).length=D.length+1:=aE;obtain⟨g,q,rfl⟩:∃g q,L=Sl g (D.length+1) q:=by
   obtain⟨_,N⟩|⟨g,cp,M,_⟩:=f2.cases
   .simp at N
   .rw[el]at M;exact⟨g,cp,M⟩
  have U:∃cg,y.heap[g]?=some (.cells cg 159 (0,0)):=cE f2 rfl;have⟨cg,U⟩:=U;have b1:=f4 g rfl;have a8:∀a,G=some a->∃r m,y.heap[a.block]?=some (.cells r 9 m):=λa v=>by
   have⟨O,r,N⟩:=B a v;refine⟨r,(0,0),(f3.block _ (aL (Y _ _ N)) λI=>?_).trans (Y _ _ N)⟩;obtain e|e:=I
   .omega
   .have:=l _ e;omega
  subst bb;refine⟨g,q,rfl,λi c e O N=>?_,λc hc=>?_,⟨ae,rfl,⟨by show-1000000000000<=time;omega,X.2⟩,rfl,by show A.length<=_;omega,λb9=>?_⟩,a8,hN.spare sp λa v=>?_,λa v=>?_,?_,?_,?_⟩
  .have X:=ai c (iA O);exact(R i c e O N).spare sp (λa v=>by obtain⟨r,m,k⟩:=X.so a v;exact n _ _ _ _ k aG aG) (λa v=>by obtain⟨r,m,k⟩:=X.ao a v;exact n _ _ _ _ k aG aG)
  .have X:=ai c hc;exact X.spare sp (λa v=>by obtain⟨r,m,k⟩:=X.so a v;exact n _ _ _ _ k aG aG) (λa v=>by obtain⟨r,m,k⟩:=X.ao a v;exact n _ _ _ _ k aG aG)
  .have⟨b,off,O,N,h3⟩:=b0 b9;have⟨k1,r,k2⟩:=B _ O;have s:y.heap[b]?=T.heap[b]?:=((f3.block b aA (λI=>by
    obtain e|e:=I
    .have:w.heap.size+1<=b:=k1;omega
    .have:=l _ e;have:w.heap.size+1<=b:=k1;omega)).trans (Y b _ k2)).trans k2.symm
   exact⟨b,off,O,by have:=f3.size;omega,λj hj=>by rw[fT s];exact h3 j hj⟩
  .have⟨r,m,k⟩:=ax a v;exact n _ _ _ _ k aG aG
  .have⟨r,m,k⟩:=ax a v;exact⟨r,m,(sp.block _ (aL k) (n _ _ _ _ k aG aG)).trans k⟩
  .refine(f3.block _ aA λI=>?_).trans (Y _ _ Q);obtain e|e:=I
   .omega
   .have:=l _ e;omega
  .obtain e|e:=b1
   .have:=l _ e;omega
   .omega
  .intro V sc J H a1 a2 Z a4 a5;have bm:=f3.size;have b8:g≠aW:=by rintro rfl;rw[f1]at U;cases U
   refine⟨_,_,V,J,rfl,rfl,aA,a2,(Z.block aW (aL f1) λI=>I.elim (λe=>b8 e.symm) λe=>aA).trans f1,a4,a5,⟨λa v=>?_,λa v=>?_⟩,⟨Z.os.trans sp.os,Z.tape.trans sp.tape,Z.output.trans sp.output,gC sp.size Z.size,λb s I=>(Z.block b (fW s sp.size) λe=>?_).trans (sp.block b s I)⟩,λb s=>?_,λa v=>by have:=(B a v).1;omega⟩
   .have:some ((Ad V 0):a_)=some a:=v;cases this;exact⟨J,(0,0),a2⟩
   .have⟨r,m,k⟩:=a8 a v;have⟨k1,_⟩:=B a v;refine⟨r,m,(Z.block _ (aL k) λI=>?_).trans k⟩;obtain e|e:=I
    .rw[e,U]at k;cases k
    .omega
   .obtain e|e:=e
    .obtain e2|e2:=b1
     .exact I (.inr (e▸e2))
     .omega
    .omega
   .exact(f4 b s).imp id λx=>aA
 obtain rfl|⟨C0,cl,rfl⟩:=List.eq_nil_or_concat C
 case' inr=>
  rw[List.concat_eq_append]at*;have b4:(C0++[cl])[C0.length]?=some cl:=aE;have ag:(C0++[cl]).length=C0.length+1:=aE;obtain⟨_,N⟩|⟨g0,cp,M,_,_,b7⟩:=hE.cases
  .simp at N
  cases M;have hq:=hE.cell (k:=0) b4 rfl;have y0:(T.alloc (.cells #[Iv 1,Iv time,.slice G A.length P,.slice none 0 0] 159)).cell? (Ad g0 (C0.length*4))=some (Iv cl.number):=(az.cell (p:=(Ad g0 (C0.length*4))) b7).trans hq;have bh:=ak cl aE;have bj:cl.number+1=kn (C0++[cl]):=by simp[kn]
  rw[ag]at y3
 all_goals
  go_wp2_with fail;refine Jc _ ?aax aW T.heap.size f rm (.slice no K.length bZ) _ _ pv _ _ time G A.length P _ _ _ _ _ _ _ _ _ _ _ _ _ _ _ _ _ _ _ _ _ _ _ _ _ _ _ _ _ _ _ _ _ _ _ _ _ _ _ _ _ _ _ _ _ _ _ _ _ _ _ _ ((u.al _).aS hw) (hE.below (u.al _)) hn X hr k ad ah (ad▸tI _ _) (aP _ _ _ rfl) (λe=>by have:=l _ e;have:=u.size;omega) ?_
  case aax=>exact λ_ _ d _ _ h=>by cases d<;>exact h
  intro L y bo f1 f2 f3 f4;rw[<-hD]at f2;have aj:=b5.out;obtain⟨g,q,rfl,k1,k2,k3,k4,k5,k6,k7,k8,k9⟩:=fin _ rfl _ rfl _ rfl _ _ f1 f2 f3 f4;go_wp2_with fail;apply Lj _ ?aay aW w.heap.size g q (Iv f) rm no bZ K pv D _ F _ y _ _ _ _ _ _ _ _ _ _ _ _ _ _ _ _ _ _ _ _ _ _ _ _ _ _ _ _ _ _ _ _ _ _ _ _ _ _ _ _ _ _ _ _ _ _ _ _ _ _ _ _ f1 f2 au ar.out k1 k2 k3 k4 hK bd k5 k6 b3 ba S k7 k8
  case aay=>exact λ_ _ d _ _ h=>by cases d<;>exact h
  intro V sc J H a1 a2 Z a4 a5 a6;have K9:=k9 V sc J H a1 a2 Z a4 a5;go_wp2_with fail;rw[hD,hF]at K9
  try rw[List.drop_nil]at K9
  refine⟨rfl,_,?_,K9⟩;simp[results,f87,go_sem,loadVar,ni,iZ.gi,aD (i:=0) a6 rfl,aD (i:=1) a6 rfl,aD (i:=2) a6 rfl,(aD (i:=3) a6 rfl)]<;>rfl
structure aI(P:Nat->Prop)(w w':aC):Prop where
 os:w'.os=w.os
 output:w'.output=w.output
 size:w.heap.size<=w'.heap.size
 block:∀b,b<w.heap.size->¬P b->w'.heap[b]?=w.heap[b]?
theorem aI.refl(P w):aI P w w:=⟨rfl,rfl,aX,λ_ _ _=>rfl⟩
theorem aI.trans{P a b c}(h:aI P a b)(k:aI P b c):aI P a c:=⟨k.os.trans h.os,k.output.trans h.output,gC h.size k.size,λx d e=>(k.block x (fW d h.size) e).trans (h.block x d e)⟩
theorem aI.aR{P a b}(h:Bl a b):aI P a b:=⟨h.os,h.output,h.size,λx c _=>h.block x c⟩
theorem aI.zj{P a b}(h:cY P a b):aI P a b:=⟨h.os,h.output,h.size,h.block⟩
theorem aI.mono{P Q a b}(h:aI P a b)(f:∀x,x<a.heap.size->P x->Q x):aI Q a b:=⟨h.os,h.output,h.size,λx c d=>h.block x c λe=>d (f x c e)⟩
theorem aI.jT{P a b}(h:aI P a b)(c d):aI P a (re b c d):=⟨h.os,h.output,h.size,h.block⟩
theorem aI.LK{P a b c d}(h:aI P (re a c d) b):aI P a b:=⟨h.os,h.output,h.size,h.block⟩
structure dJ(w:aC)(aW:Nat)(NU room:Int)(no:aQ a_)(bZ:Nat)(K:aB Key)(ea:aQ a_)(bO:Nat)(C:aB iZ)(E:aB Pe)(pa:aQ a_)(bS:Nat)(ps:aB mW)(ss:aB ld):Prop where
 cell:w.heap[aW]?=some (.cells #[Iv NU,Iv room,.slice no K.length bZ,.slice ea C.length bO,.slice pa ps.length bS] 153 (0,0))
 bH:fJ w (.slice ea C.length bO) C
 len:C.length=E.length
 ins:∀(i:Nat) c e,C[i]?=some c->E[i]?=some e->gP w c e
 typed:∀c∈C,Fj w c
 few:C.length<=1000
 ret:0<=NU/\NU<=1000000000
 TF:∀c,C.getLast?=some c->0<=c.number/\c.number<=1000000000
 TD:K.length<=1000
 Zt:K.length<=bZ
 nodes:ki w no K
 kV:∀a,no=some a->∃cs m,w.heap[a.block]?=some (.cells cs 226 m)
 core:∀k∈K,nw k.op
 ahead:xb K
 rows:∀e∈E,e.so.length=K.length+1
 aU:ij w pa bS ps
 vL:ps.length<=1000
 Zw:ps.length<=bS
 mS:ss.length=ps.length
 zp:∀(i:Nat)(s:ld)(p:mW),ss[i]?=some s->ps[i]?=some p->p.fV=some (Ad s.cW 0)
 EI:∀s∈ss,f_ w s
 apart:Apart ss
 GI:∀p∈ps,p.node<=K.length
theorem gP.jT{w c e}(h:gP w c e)(a d):gP (re w a d) c e:=
 ⟨h.number,h.time,h.low,h.sl,h.EH,h.so,h.al,h.Dk,h.atoms⟩
theorem dJ.jT{w aW a room no bZ K ea bO C E pa bS ps ss}(h:dJ w aW a room no bZ K ea bO C E pa bS ps ss)(b d):dJ (re w b d) aW a room no bZ K ea bO C E pa bS ps ss:=
 ⟨h.cell,h.bH,h.len,λi c e j g=>(h.ins i c e j g).jT b d,λc f=>⟨(h.typed c f).so,(h.typed c f).ao⟩,h.few,h.ret,h.TF,h.TD,h.Zt,h.nodes,h.kV,h.core,h.ahead,h.rows,h.aU,h.vL,h.Zw,h.mS,h.zp,h.EI,h.apart,h.GI⟩
def JJ(aW:Nat)(ea:aQ a_)(ss:aB ld)(b:Nat):Prop:=b=aW\/(∃a,ea=some a/\a.block=b)\/Ms ss b
def dP(w:aC)(P:Nat->Prop)(c:aB TypeId):Prop:=∀b a t m,w.heap[b]?=some (.cells a t m)->t∈c->¬P b
theorem dP.none(w a):dP w (λ_=>False) a:=λ_ _ _ _ _ _ h=>h
theorem dP.less{w P c a}(h:dP w P c)(f:∀t∈a,t∈c):dP w P a:=λb e t m g d=>h b e t m g (f t d)
section
variable{w w':aC}{P:Nat->Prop}
theorem aI.spare(h:aI P w w'):cY P w (re w' w.tape w'.drawn):=⟨h.os,rfl,h.output,h.size,h.block⟩
theorem gP.move{c e}(h:gP w c e)(d:Fj w c)(i:aI P w w')(f:dP w P [4,9]):gP w' c e:=by
 have:=h.spare i.spare (λa b=>by obtain⟨g,m,k⟩:=d.so a b;exact f _ _ _ _ k aE) (λa b=>by obtain⟨g,m,k⟩:=d.ao a b;exact f _ _ _ _ k aE);exact⟨this.number,this.time,this.low,this.sl,this.EH,this.so,this.al,this.Dk,this.atoms⟩
theorem Fj.move{c}(d:Fj w c)(g:aI P w w')(e:dP w P [4,9]):Fj w' c:=by
 have:=d.spare g.spare (λa b=>by obtain⟨f,m,k⟩:=d.so a b;exact e _ _ _ _ k aE) (λa b=>by obtain⟨f,m,k⟩:=d.ao a b;exact e _ _ _ _ k aE);exact⟨this.so,this.ao⟩
theorem aI.get(c:aI P w w'){b o}(h:w.heap[b]?=some o)(a:¬P b):w'.heap[b]?=some o:=(c.block b (aL h) a).trans h
theorem ki.move{no K}(h:ki w no K)(e:∀a,no=some a->∃b m,w.heap[a.block]?=some (.cells b 226 m))(d:aI P w w')(f:dP w P [226]):ki w' no K:=by
 have:=h.spare d.spare (λa c=>by obtain⟨b,m,k⟩:=e a c;exact f _ _ _ _ k aE);exact this
theorem typed.move{no:aQ a_}{t}(e:∀a,no=some a->∃b m,w.heap[a.block]?=some (.cells b t m))(d:aI P w w')(f:dP w P [t]):∀a,no=some a->∃b m,w'.heap[a.block]?=some (.cells b t m):=λa c=>by
 let⟨b,m,k⟩:=e a c
 exact⟨b,m,d.get k (f _ _ _ _ k aE)⟩
theorem ij.move{pa bS ps}(h:ij w pa bS ps)(c:aI P w w')(i:dP w P [183]):ij w' pa bS ps:=by
 obtain h|⟨pb,d,a,g,f,b,e⟩:=h
 .exact .inl h
 .exact .inr ⟨pb,d,a,g,f,c.get b (i _ _ _ _ b aE),e⟩
theorem f_.move{s}(h:f_ w s)(e:aI P w w')(c:dP w P [177,59]):f_ w' s:=by
 refine h.heap λb j a=>e.block b j ?_;obtain rfl|a:=a
 .exact c _ _ _ _ h.1 aE
 .obtain⟨_,⟨d,_⟩|⟨g,cp,k,f,_,i,_⟩⟩:=h.2
  .rw[d]at a;cases a
  .rw[f]at a;cases a;exact c _ _ _ _ i aE
theorem fJ.move{ev C}(h:fJ w ev C)(d:aI P w w')(f:dP w P [159]):fJ w' ev C:=
 eF h λb a=>d.block b (h.lt b a).2 (by obtain⟨c,e⟩:=cE h a;exact f _ _ _ _ e aE)
theorem eQ.move{ao A}(h:eQ w ao A)(c:aI (λ_=>False) w w'):eQ w' ao A:=λa=>by
 let⟨b,off,h1,h2,h3⟩:=h a
 exact⟨b,off,h1,fW h2 c.size,λj d=>by rw[fT (c.block b h2 λx=>x)];exact h3 j d⟩
theorem dJ.move{aW a room no bZ K ea bO C E pa bS ps ss}(h:dJ w aW a room no bZ K ea bO C E pa bS ps ss)(b:aI P w w')(d:dP w P [4,9,226,183,177,59,159,153]):dJ w' aW a room no bZ K ea bO C E pa bS ps ss:=
 {h with
  cell:=b.get h.cell (d _ _ _ _ h.cell aE)
  bH:=h.bH.move b (d.less aE)
  ins:=λi c e g j=>(h.ins i c e g j).move (h.typed c (iA g)) b (d.less aE)
  typed:=λc k=>(h.typed c k).move b (d.less aE)
  nodes:=h.nodes.move h.kV b (d.less aE)
  kV:=typed.move h.kV b (d.less aE)
  aU:=ij.move h.aU b (d.less aE)
  EI:=λs f=>f_.move (h.EI s f) b (d.less aE)}
end
theorem La{a c ps}(f:mW->Bool)(h:eI a c ps):eI a c (ps.map λp=>{p with v:=f p}):=λj p b=>by
 simp at b
 obtain⟨q,d,rfl⟩:=b
 exact h j q d
theorem Lb{w pa bS ps}(f:mW->Bool)(h:ij w pa bS ps):ij w pa bS (ps.map λp=>{p with v:=f p}):=by
 obtain⟨d,b,c⟩|⟨pb,e,a,g,d,b,c⟩:=h
 .exact .inl ⟨d,by rw[b];rfl,c⟩
 .exact .inr ⟨pb,e,a,g,d,b,La f c⟩
theorem nR(s v lo hi w)(h:lo<=v/\v<=hi):Calls prog 124 #[.string s,Iv v,Iv lo,Iv hi] w λe a=>e=.returned .nilIface/\a=w:=by
 go_enter func124,ntmps124;go_wp2;go_ret;exact⟨rfl,rfl⟩
theorem Ny(a room w)(f:0<=a/\a<=100000)(d:1<=room/\room<=60):Calls prog 85 #[Iv a,Iv room] w λe g=>e=.returned (.tuple #[.agg #[Iv a,Iv room,.slice none 0 0,.slice none 0 0],.nilIface])/\Bl w g:=by
 let c:=nR ⟨#[114,101,116,97,105,110]⟩ a 0 100000 (w.alloc (.cells #[Iv 0,Iv 0,.slice none 0 0,.slice none 0 0] 148)) f;go_enter func85,ntmps85;go_wp2_with fail;apply c.mono;rintro e h ⟨rfl,rfl⟩;go_wp2_with fail;apply(nR ⟨#[114,111,111,109]⟩ room 1 60 (w.alloc (.cells #[Iv 0,Iv 0,.slice none 0 0,.slice none 0 0] 148)) d).m0;go_wp2_with fail;let b:(w.alloc (.cells #[Iv a,Iv room,.slice none 0 0,.slice none 0 0] 148)).heap[w.heap.size]?=some (.cells #[Iv a,Iv room,.slice none 0 0,.slice none 0 0] 148 (0,0)):=aP _ _ _ rfl;refine⟨rfl,_,?_,rfl,aT.al _⟩;simp[results,f85,go_sem,loadVar,aD (i:=0) b rfl,aD (i:=1) b rfl,aD (i:=2) b rfl,(aD (i:=3) b rfl)]
theorem LR(a room w)(f:0<=a/\a<=100000)(d:1<=room/\room<=60):Calls prog 45 #[Iv a,Iv room] w λe c=>∃aW,e=.returned (.tuple #[Pt aW,.nilIface])/\w.heap.size<=aW/\c.heap[aW]?=some (.cells #[Iv a,Iv room,.slice none 0 0,.slice none 0 0,.slice none 0 0] 153 (0,0))/\Bl w c:=by
 go_enter func45,ntmps45;go_wp2_with fail;refine(Ny a room w f d).m λg b=>?_;let h:=b.size;go_wp2;go_ret2;exact⟨_,rfl,by first|omega|(simp;omega),by first|exact aP _ _ _ rfl|exact aP _ _ _ aE,by first|exact(b.al _).al _|exact b.al _⟩
theorem XY(a room w)(g:0<=a/\a<=100000)(f:1<=room/\room<=60):Calls prog 23 #[Iv a,Iv room] w λe c=>∃mb aW,e=.returned (.tuple #[Pt mb,Iv 0])/\w.heap.size<=mb/\w.heap.size<=aW/\c.heap[mb]?=some (.cells #[Pt aW] 104 (0,0))/\c.heap[aW]?=some (.cells #[Iv a,Iv room,.slice none 0 0,.slice none 0 0,.slice none 0 0] 153 (0,0))/\Bl w c:=by
 go_enter func23,ntmps23;go_wp2_with fail;apply(LR a room w g f).mono;rintro e h ⟨aW,rfl,hw,d,b⟩;go_wp2;go_ret2;exact⟨_,aW,rfl,b.size,hw,aP _ _ _ rfl,(ib _ _ _ (aL d)).trans d,b.al _⟩
theorem o9(w):Calls prog 40 #[.nilIface] w λe a=>e=.returned (Iv 0)/\a=w:=by
 go_enter func40,ntmps40;go_wp2;go_ret;exact⟨rfl,rfl⟩
theorem MH(w):dI prog 40 #[.nilIface] w λe b=>e=.returned (Iv 0)/\∃a d,b=re w a d:=
 dI.El bE (λe w a d x=>⟨x.1,by obtain⟨_,g,h,rfl⟩:=x;exact⟨a,d,rfl⟩⟩) (λw x=>by cases x.1) λa d=>(o9 (re w a d)).mono λe b ⟨f,c⟩=>⟨f,a,d,c⟩
theorem TC{w mb aW time ao n cap}{D:aC->bQ}(t:w.heap[mb]?=some (.cells #[Pt aW] 104 (0,0)))(s:∀w g d,D w->D (re w g d))
  (h:dI prog 46 #[Pt aW,Iv time,.slice ao n cap] w λe q=>e=.returned .nilIface/\D q):dI prog 24 #[Pt mb,Iv time,.slice ao n cap] w λe q=>e=.returned (Iv 0)/\D q:=by
 let i:=bE;let k:∀l∈([]:aB Item),cX l:=aE;let b:∀(c:Code),∀l∈[Item.code c],cX l:=λc=>bP trivial aE;let p:∀g d,(re w g d).cell? (Ad mb 0)=some (Pt aW):=λg d=>aD (w:=re w g d) t rfl;refine dI.I3 func24 rfl λu a=>?_;simp only[ntmps24,jn,hY,jl,Nat.reduceAdd,Nat.reduceSub,ye,yf,yi,yh,jW,mz];apply aJ.seq i k a;apply aJ.region i (b _) a;simp only[jn,hY,jl,fC,List.range,List.range.loop];apply aJ.val i (w':=w) (v:=Iv 0) rfl (by rfl) (λg d=>run_eq_of ?r0) (b _) a
 case r0=>intro K j;go_simp;exact j
 try walk_nrm
 apply aJ.nil i (b _) a;apply aJ.seq i k a;apply aJ.region i (b _) a;simp only[jn,hY,jl,Nat.reduceAdd,fC,List.range,List.range.loop];apply aJ.val i (w':=w) (v:=(Pt mb)) rfl (by rfl) (λg d=>run_eq_of ?r1) (b _) a
 case r1=>intro K j;go_simp;exact j
 try walk_nrm
 apply aJ.val i (w':=w) (v:=(Pt mb)) rfl (by rfl) (λg d=>run_eq_of ?r2) (b _) a
 case r2=>intro K j;go_simp;exact j
 try walk_nrm
 apply aJ.val i (w':=w) (v:=(Pt mb)) rfl (by rfl) (λg d=>run_eq_of ?r3) (b _) a
 case r3=>intro K j;go_simp;exact j
 try walk_nrm
 apply aJ.val i (w':=w) (v:=(Pt aW)) rfl (by rfl) (λg d=>run_eq_of ?r4) (b _) a
 case r4=>intro K j;have:=p g d;go_simp;exact j
 try walk_nrm
 apply aJ.val i (w':=w) (v:=Iv time) rfl (by rfl) (λg d=>run_eq_of ?r5) (b _) a
 case r5=>intro K j;go_simp;exact j
 try walk_nrm
 apply aJ.val i (w':=w) (v:=.slice ao n cap) rfl (by rfl) (λg d=>run_eq_of ?r6) (b _) a
 case r6=>intro K j;go_simp;exact j
 try walk_nrm
 apply aJ.call i (f:=46) (args:=#[Pt aW,Iv time,.slice ao n cap]) rfl (by rfl) (λg d=>?c7) (b _) a h λe w' x=>⟨_,x.1⟩
 case c7=>rw[run_call_body (f:=46) (args:=#[.tmp 10,.tmp 11,.tmp 12]) (ats:=#[100,3,31]) rfl func46 aG rfl];simp only[F9,gW,sD];rfl
 rintro v r ⟨m,o⟩;cases m
 try walk_nrm
 apply aJ.call i (f:=40) (args:=#[.nilIface]) rfl (by rfl) (λg d=>?c8) (b _) a (MH r) λe w' x=>⟨_,x.1⟩
 case c8=>rw[run_call_body (f:=40) (args:=#[.tmp 13]) (ats:=#[89]) rfl func40 aG rfl];simp only[F9,gW,sD];rfl
 rintro v y ⟨m,g,d,rfl⟩;cases m;refine aJ.other ?_ g d
 try walk_nrm
 apply aJ.val i (w':=r) (v:=Iv 0) rfl (by rfl) (λg d=>run_eq_of ?r9) (b _) a
 case r9=>intro K j;go_simp;exact j
 try walk_nrm
 apply aJ.nil i (b _) a;exact aJ.ret i k a func24 rfl (λg d=>by simp[results,go_sem,f24]) λg d=>⟨rfl,s _ _ _ o⟩
theorem FC(b off n c xs w)(q:xs.length=n*4)(x:n<=1000000)(r:∀j u,xs[j]?=some u->w.cell? (Ad b (off+j))=some u)(t:∀u∈xs,u.oneCell'=true):
  Calls prog 94 #[.slice (some (Ad b off)) n c] w λe m=>∃g,e=.returned g/\m.ownsRow w.heap.size 59 4 g n xs/\Bl w m:=by
 let⟨i0,hi,nk,nt,nH⟩:=eB Go.Proofs.YtpbbmagjhkakgaaGreatDoor.Lf.vp;let p:∀(w:aC)(a:aQ a_)(n c i h:Nat),(binOp .eql 54 (.slice a n c) (.slice none i h)).run prog w=.ok (.bool a.isNone) w:=λw a n c i h=>Cp w _ _ a n c i h underlying54;go_enter func94,ntmps94;go_wp2_with (at_builtin;refine js _ rfl _ _ 54 rfl w.heap.size 59 i0 (.agg #[Iv 0,Iv 0,Iv 0,.bool false]) 4 32 underlying54 hi nk nt nH rfl aG _ _ _ rfl (World.ownsRow_made w #[] 0 aX cD rfl) (Ad b off) n c xs rfl ?T6 ?T7 ?T8 ?T9 ?T_ ?Ua ?_)
 case T6=>exact q
 case T7=>
  intro j u s;rw[oN];exact Lib.cell?_alloc_some _ (r j u s)
 case T8=>exact t
 case T9=>unfold maxLen;omega
 case T_=>omega
 case Ua=>simp
 intro g v f d l;go_wp2;go_ret;refine⟨g,rfl,by simpa using f,?_⟩;exact((cC _ w).alloc aX _).grown d aE (by intro k o;simp[Value.ownBlock]at o;omega)
theorem Ip(n c w):Calls prog 94 #[.slice none n c] w λe g=>e=.returned (.slice none 0 0)/\g=w:=by
 let f:∀(w:aC)(a:aQ a_)(n c d b:Nat),(binOp .eql 54 (.slice a n c) (.slice none d b)).run prog w=.ok (.bool a.isNone) w:=λw a n c d b=>Cp w _ _ a n c d b underlying54;go_enter func94,ntmps94;go_wp2;go_ret;exact⟨rfl,rfl⟩
theorem FB(b off n c xs w)(q:xs.length=n*5)(x:n<=1000000)(r:∀j u,xs[j]?=some u->w.cell? (Ad b (off+j))=some u)(t:∀u∈xs,u.oneCell'=true):
  Calls prog 100 #[.slice (some (Ad b off)) n c] w λe m=>∃g,e=.returned g/\m.ownsRow w.heap.size 183 5 g n xs/\Bl w m:=by
 let⟨i0,hi,nk,nt,nH⟩:=eB lR;let p:∀(w:aC)(a:aQ a_)(n c i h:Nat),(binOp .eql 151 (.slice a n c) (.slice none i h)).run prog w=.ok (.bool a.isNone) w:=λw a n c i h=>Cp w _ _ a n c i h underlying151;go_enter func100,ntmps100;go_wp2_with (at_builtin;refine js _ rfl _ _ 151 rfl w.heap.size 183 i0 (.agg #[.string ⟨#[]⟩,.pointer none,Iv 0,Iv 0,.pointer none]) 5 48 underlying151 hi nk nt nH rfl aG _ _ _ rfl (World.ownsRow_made w #[] 0 aX cD rfl) (Ad b off) n c xs rfl ?T6 ?T7 ?T8 ?T9 ?T_ ?Ua ?_)
 case T6=>exact q
 case T7=>
  intro j u s;rw[oN];exact Lib.cell?_alloc_some _ (r j u s)
 case T8=>exact t
 case T9=>unfold maxLen;omega
 case T_=>omega
 case Ua=>simp
 intro g v f d l;go_wp2;go_ret;refine⟨g,rfl,by simpa using f,?_⟩;exact((cC _ w).alloc aX _).grown d aE (by intro k o;simp[Value.ownBlock]at o;omega)
theorem Io(n c w):Calls prog 100 #[.slice none n c] w λe g=>e=.returned (.slice none 0 0)/\g=w:=by
 let f:∀(w:aC)(a:aQ a_)(n c d b:Nat),(binOp .eql 151 (.slice a n c) (.slice none d b)).run prog w=.ok (.bool a.isNone) w:=λw a n c d b=>Cp w _ _ a n c d b underlying151;go_enter func100,ntmps100;go_wp2;go_ret;exact⟨rfl,rfl⟩
theorem Im(b off n c xs w)(q:xs.length=n*4)(x:n<=1000000)(r:∀j u,xs[j]?=some u->w.cell? (Ad b (off+j))=some u)(t:∀u∈xs,u.oneCell'=true):
  Calls prog 175 #[.slice (some (Ad b off)) n c] w λe m=>∃g,e=.returned g/\m.ownsRow w.heap.size 159 4 g n xs/\Bl w m:=by
 let⟨i0,hi,nk,nt,nH⟩:=eB wk;let p:∀(w:aC)(a:aQ a_)(n c i h:Nat),(binOp .eql 146 (.slice a n c) (.slice none i h)).run prog w=.ok (.bool a.isNone) w:=λw a n c i h=>Cp w _ _ a n c i h underlying146;go_enter func175,ntmps175;go_wp2_with (at_builtin;refine js _ rfl _ _ 146 rfl w.heap.size 159 i0 (.agg #[Iv 0,Iv 0,.slice none 0 0,.slice none 0 0]) 4 64 underlying146 hi nk nt nH rfl aG _ _ _ rfl (World.ownsRow_made w #[] 0 aX cD rfl) (Ad b off) n c xs rfl ?T6 ?T7 ?T8 ?T9 ?T_ ?Ua ?_)
 case T6=>exact q
 case T7=>
  intro j u s;rw[oN];exact Lib.cell?_alloc_some _ (r j u s)
 case T8=>exact t
 case T9=>unfold maxLen;omega
 case T_=>omega
 case Ua=>simp
 intro g v f d l;go_wp2;go_ret;refine⟨g,rfl,by simpa using f,?_⟩;exact((cC _ w).alloc aX _).grown d aE (by intro k o;simp[Value.ownBlock]at o;omega)
theorem J4(n c w):Calls prog 175 #[.slice none n c] w λe g=>e=.returned (.slice none 0 0)/\g=w:=by
 let f:∀(w:aC)(a:aQ a_)(n c d b:Nat),(binOp .eql 146 (.slice a n c) (.slice none d b)).run prog w=.ok (.bool a.isNone) w:=λw a n c d b=>Cp w _ _ a n c d b underlying146;go_enter func175,ntmps175;go_wp2;go_ret;exact⟨rfl,rfl⟩
theorem Dz(b off n c xs w)(q:xs.length=n*6)(x:n<=1000000)(r:∀j u,xs[j]?=some u->w.cell? (Ad b (off+j))=some u)(t:∀u∈xs,u.oneCell'=true):
  Calls prog 177 #[.slice (some (Ad b off)) n c] w λe m=>∃g,e=.returned g/\m.ownsRow w.heap.size 226 6 g n xs/\Bl w m:=by
 let⟨i0,hi,nk,nt,nH⟩:=eB KD;let p:∀(w:aC)(a:aQ a_)(n c i h:Nat),(binOp .eql 95 (.slice a n c) (.slice none i h)).run prog w=.ok (.bool a.isNone) w:=λw a n c i h=>Cp w _ _ a n c i h underlying95;go_enter func177,ntmps177;go_wp2_with (at_builtin;refine js _ rfl _ _ 95 rfl w.heap.size 226 i0 (.agg #[.int .i32 0,.string ⟨#[]⟩,Iv 0,Iv 0,Iv 0,Iv 0]) 6 56 underlying95 hi nk nt nH rfl aG _ _ _ rfl (World.ownsRow_made w #[] 0 aX cD rfl) (Ad b off) n c xs rfl ?T6 ?T7 ?T8 ?T9 ?T_ ?Ua ?_)
 case T6=>exact q
 case T7=>
  intro j u s;rw[oN];exact Lib.cell?_alloc_some _ (r j u s)
 case T8=>exact t
 case T9=>unfold maxLen;omega
 case T_=>omega
 case Ua=>simp
 intro g v f d l;go_wp2;go_ret;refine⟨g,rfl,by simpa using f,?_⟩;exact((cC _ w).alloc aX _).grown d aE (by intro k o;simp[Value.ownBlock]at o;omega)
theorem FA(n c w):Calls prog 177 #[.slice none n c] w λe g=>e=.returned (.slice none 0 0)/\g=w:=by
 let f:∀(w:aC)(a:aQ a_)(n c d b:Nat),(binOp .eql 95 (.slice a n c) (.slice none d b)).run prog w=.ok (.bool a.isNone) w:=λw a n c d b=>Cp w _ _ a n c d b underlying95;go_enter func177,ntmps177;go_wp2;go_ret;exact⟨rfl,rfl⟩
theorem gw{S:TypeId}{w w':aC}(a:∀(k:Nat)(c:aY aF),w.heap[k]?=some (Obj.cells c S (0,0))->w'.heap[k]?=some (Obj.cells c S (0,0))):∀{x:BT c_}{v:aF},bG S 0 w x v->bG S 0 w' x v
 |.nil,_,h=>h
 |.node _ _ _ l r,_,⟨b,g,j,e,i,f,d,m⟩=>⟨b,g,j,e,i,a b _ f,gw a (x:=l) d,gw a (x:=r) m⟩
theorem wM{S:TypeId}{B:Nat}{w:aC}:∀{x:BT c_}{v:aF},bG S B w x v->bG S 0 w x v
 |.nil,_,h=>h
 |.node _ _ _ l r,_,⟨b,d,f,e,_,c,a,g⟩=>⟨b,d,f,e,cD,c,wM (x:=l) a,wM (x:=r) g⟩
theorem V7(x:BT c_)(v:aF)(B tb:Nat)(K:aB Key)(w:aC)(y:bG 143 0 w x v)(o:Good x)(M:sJ B tb w K)(b:K.length+cF (aN x)<=1000000000000):
  Calls prog 43 #[Pt tb,v] w λe C=>e=.returned (Iv (cM K (aN x)).1)/\sJ B tb C (cM K (aN x)).2/\Below B w C:=by
 obtain⟨l,rfl⟩:∃l,v=Value.pointer l:=gU y;let O:∀(w:aC)(r:aQ Nat),(binOp .eql 94 (.map r) (.map none)).run prog w=.ok (.bool r.isNone) w:=λw r=>run_eql_map_nil w _ _ _ r underlying94;let z:=dK o;rcases M with⟨i,rfl,A⟩|⟨mb,H,u⟩
 .let n:w.cell? (Ad tb 0)=some (.map none):=aD i rfl;let J:w.frozen? (Ad tb 0)=false:=cJ i 0;let q:=aL i;let I:tb≠w.heap.size:=aA;let j:(w.setCell (Ad tb 0) (.map (some w.heap.size))).heap.size=w.heap.size:=by simp[World.setCell]
  let c:Only tb w ((w.setCell (Ad tb 0) (.map (some w.heap.size))).alloc (.map #[] 0)):=((Only.refl tb w).setCell (p:=(Ad tb 0)) (.inl rfl) _).alloc _;let D:gj B tb w.heap.size (.slice none 0 0) ((w.setCell (Ad tb 0) (.map (some w.heap.size))).alloc (.map #[] 0)) []:=by
   refine⟨?_,?_,fF _ _ _ _,A,aA⟩
   .rw[ib _ _ _ (by rw[j];exact q)];exact Gq i
   .have:=mC.made (w.setCell (Ad tb 0) (.map (some w.heap.size)));rw[j]at this;exact this
  let t:=gw (λk N m=>c.heap m (by rintro rfl;rw[i]at m;cases m)) y;let E:=I1 x (.pointer l) 0 _ t o cD;let F:(Instr.makeMap 94 none).run prog w=.ok (.map (some w.heap.size)) (w.alloc (.map #[] 0)):=rfl;go_enter func43,ntmps43;go_wp2_with fail;apply E.mono;rintro e s ⟨p,rfl,h,a⟩;go_wp2_with fail;refine(C_ (aN x) (.pointer p) 0 B tb w.heap.size (.slice none 0 0) [] s h (.inr z) (D.below a) b).m λG ⟨g,d,f⟩=>?_;go_wp2;go_ret;refine⟨rfl,.inr ⟨w.heap.size,g,d⟩,?_⟩;exact((c.below A aA).trans (a.mono (by have:=c.size;omega))).trans f.below
 .let n:w.cell? (Ad tb 0)=some (.map (some mb)):=aD u.1 rfl;let L:=u.base;go_enter func43,ntmps43;go_wp2_with fail;apply(I1 x (.pointer l) 0 w y o cD).mono;rintro e s ⟨p,rfl,h,a⟩;go_wp2_with fail;refine(C_ (aN x) (.pointer p) 0 B tb mb H K s h (.inr z) (u.below a) b).m λG ⟨g,d,f⟩=>?_;go_wp2;go_ret;refine⟨rfl,.inr ⟨mb,g,d⟩,?_⟩;exact(a.mono aA).trans f.below
theorem VJ(K):∀u∈mi K,u.oneCell'=true:=by
 intro u a;simp only[mi,HI,iX]at a;obtain⟨l,⟨k,_,rfl⟩,h⟩:=a;exact Tl k u h
theorem Qe(K):(mi K).length=K.length*6:=eN jP 6 (λ_=>rfl) K
theorem Jm(B tb K w)(v:sJ B tb w K)(p:K.length<=1000000):Calls prog 143 #[Pt tb] w λe b=>∃a,e=.returned a/\b.ownsRow w.heap.size 226 6 a K.length (mi K)/\Bl w b:=by
 have c:∀f,w.cell? (Ad tb 1)=some f->w.ownsRow B 226 6 f K.length (mi K)->Calls prog 143 #[Pt tb] w λe b=>∃a,e=.returned a/\b.ownsRow w.heap.size 226 6 a K.length (mi K)/\Bl w b:=by
  intro f y l;have d:=l;obtain⟨_,⟨rfl,k⟩|⟨g,cap,t,rfl,_⟩⟩:=l
  .have m:=ur.1 k;subst m;go_enter func143,ntmps143;go_wp2_with fail;apply(FA 0 0 w).mono;rintro e q ⟨rfl,rfl⟩;go_wp2;go_ret;exact⟨_,rfl,fF _ _ _ _,aT⟩
  .have h:=Dz g 0 K.length cap (mi K) w (Qe K) p (λj u s=>by rw[fC];exact d_ d rfl s) (VJ K);have z:=hid d;generalize mi K=xs at*;generalize K.length=n at*;go_enter func143,ntmps143;go_wp2_with fail;apply h.mono;rintro e q ⟨a,rfl,r,o⟩;go_wp2;go_ret;exact⟨_,rfl,r,o⟩
 obtain⟨i,rfl,x⟩|⟨mb,f,i,_,k,_⟩:=v
 .exact c _ (aD i rfl) (fF _ _ _ _)
 .exact c _ (aD i rfl) k
theorem Nb(aW d b h c nn o n cap)(a:nn=.slice o n cap)(w)(hw:w.heap[aW]?=some (.cells #[d,b,h,.slice none 0 0,c] 153 (0,0))):
  Calls prog 142 #[Pt aW,nn] w λe g=>e=.returned (.tuple #[])/\g.heap[aW]?=some (.cells #[d,b,nn,.slice none 0 0,c] 153 (0,0))/\Only aW w g:=by
 subst a;let j:=cJ hw 2;let c2:=aD (i:=2) hw rfl;let k:=aD (i:=3) hw rfl;go_enter func142,ntmps142;go_wp2;go_loopw [14] (λf wr=>f=Iv 0/\wr=w.setCell (Ad aW 2) (.slice o n cap)) (λf _=>0)
 case atStart=>exact⟨rfl,rfl⟩
 case round=>
  obtain⟨rfl,rfl⟩:=hrel;go_wp2_with fail;apply bodyPost_end (results_none rfl _ _ _) rfl;exact⟨rfl,dR (i:=2) hw,(Only.refl aW w).setCell (p:=(Ad aW 2)) (.inl rfl) _⟩
theorem Fw(aW a b c d ev f w)(hw:w.heap[aW]?=some (.cells #[Iv a,c,d,ev,f] 153 (0,0)))(h:b<=a):
  Calls prog 171 #[Pt aW,Iv b] w λe g=>e=.returned .nilIface/\g=w:=by
 let j:=aD (i:=0) hw rfl;go_enter func171,ntmps171;go_wp2;go_ret;exact⟨rfl,rfl⟩
theorem qe(aW a l o ev r name s x w)(hw:w.heap[aW]?=some (.cells #[.int .i64 a,l,o,ev,r] 153 (0,0)))(y:oh name)(B:s.size<=maxLen)(A:dW w)(u:14<=w.heap.size)(n:cV s=(some x,0))(z:bD x<=a):
  Calls prog 135 #[.pointer (some ⟨aW,0,none⟩),.string name,.string s] w λe j=>∃p,e=.returned (.tuple #[.pointer p,.nilIface])/\bG 143 0 j x (.pointer p)/\Below w.heap.size w j:=by
 have⟨OX,_,Y4,_⟩:=dH n;have g:∀c,Below w.heap.size w c->Calls prog 39 #[.string s] c (OA s c (some x,0)):=λc t=>by
  have:=n9 s c B (A.below t) (by have:=t.size;omega);rw[n]at this;exact this
 go_enter func135,ntmps135;go_wp2_with fail;refine(Gr name y w).m λc d=>?_;go_wp2_with fail;apply(g c d).mono;rintro e E ⟨k,⟨D,v,i,rfl,m,C⟩|⟨_,_,_,_,i,_⟩⟩
 .cases i;obtain⟨q,rfl⟩:=gU m;have b:=d.tr k;have f:=wM m;go_wp2;go_quiet(first
   |(go_at_call_of 42 (Value.pointer q);exact Calls.quiet_of (wG x _ _ _ (f.drewN _) (by omega) OX.win))
   |(go_at_call_of 171 (Value.pointer (some ⟨aW,0,none⟩));exact Calls.quiet_of ((Fw aW a (bD x) l o ev r _ (by exact(b.aS hw)) z).mono (λe j h=>⟨h.1,0,h.2⟩))))
  go_wp2
  all_goals go_ret2
  all_goals exact⟨q,rfl,f.drewN _,b.tr (below_drewN _ _)⟩
 .cases i
def jw(X:Nat->BT c_):Nat->aB Key
 |0=>[]
 |j+1=>(cM (jw X j) (aN (X j))).2
def BO(X:Nat->BT c_)(j:Nat):Int:=(cM (jw X j) (aN (X j))).1
theorem U1(X j):(jw X j).length<=(jw X (j+1)).length:=(n8 (aN (X j)) (jw X j)).1
theorem RX(X i k):(jw X i).length<=(jw X (i+k)).length:=by
 induction k with
 |zero=>exact aX
 |succ k a=>exact gC a (U1 X (i+k))
def jQ(X:Nat->BT c_)(ps:aB mW):aB mW:=ps.mapIdx λj p=>{p with node:=(BO X j).toNat}
theorem tH(X j):0<=BO X j:=(n8 (aN (X j)) (jw X j)).2.2.1
def nA(X:Nat->BT c_)(a:aY aF)(ps:aB mW)(i:Nat):Prop:=∀(j:Nat)(p:mW),ps[j]?=some p->a[j*5]?=some (.string p.name)/\a[j*5+1]?=some (.pointer p.eE)/\(j<i->a[j*5+2]?=some (.int .i64 (BO X j)))/\a[j*5+3]?=some (.int .i64 p.cO)/\a[j*5+4]?=some (.pointer p.fV)
theorem nA.done{X g ps}(h:nA X g ps ps.length):eI g 0 (jQ X ps):=by
 intro j q f;simp only[jQ,Ps]at f;cases i:ps[j]? with
 |none=>rw[i]at f;cases f
 |some p=>
  rw[i]at f;simp at f;subst f;let⟨a,b,c,d,e⟩:=h j p i;simp only[fC];refine⟨a,b,?_,d,e⟩;rw[c ((e_.1 i).1)];congr 2;exact(Int.toNat_of_nonneg (tH X j)).symm
theorem nA.start{X c ps}(h:eI c 0 ps):nA X c ps 0:=by
 intro j p f;let⟨a,b,_,d,e⟩:=h j p f;simp only[fC]at a b d e;exact⟨a,b,λh=>absurd h (zX _),d,e⟩
theorem nA.set{X f ps i}(h:nA X f ps i)(hi:i<ps.length):nA X (f.setIfInBounds (i*5+2) (Iv (BO X i))) ps (i+1):=by
 intro j p l;let⟨a,b,c,d,e⟩:=h j p l;let m:i*5+2<f.size:=by
  let⟨_,_,_,d',_⟩:=h i ps[i] (fG hi);have:=(jM.1 d').1;omega
 let ne:∀k,k≠i*5+2->(f.setIfInBounds (i*5+2) (Iv (BO X i)))[k]?=f[k]?:=λk n=>qv (lx n);refine⟨by rw[ne _ aA];exact a,by rw[ne _ aA];exact b,λo=>?_,by rw[ne _ aA];exact d,by rw[ne _ aA];exact e⟩;by_cases g:j=i
 .subst g;rw[Fb m]
 .rw[ne _ aA];exact c aA
theorem gT{w:aC}{B c size n e v xs}(h:w.ownsRow B e size v n xs)(f:c<=B):w.ownsRow c e size v n xs:=by
 obtain⟨b,d|⟨g,cap,a,k,i,j⟩⟩:=h
 .exact⟨b,.inl d⟩
 .exact⟨b,.inr ⟨g,cap,a,k,gC f i,j⟩⟩
theorem zSt{T:bQ} (h:T:=by
 obtain⟨p,hpi⟩:∃p,ps[i]?=some p:=⟨_,fG (by rw[U0.out];exact hi)⟩;obtain⟨a0,a1,_,a3,a4⟩:=YZ i p hpi;obtain⟨s1,s2,s3⟩:=HS.out i p hpi;have Zz:bG 143 0 wr (X i) (.pointer p.eE):=gw (λk cs hk=>by
  rw[RI.block k (aL hk) (by rintro rfl;rw[Hp.out.1]at hk;cases hk)];exact hk) s1
 have c1:wr.cell? ⟨pb,i*5+1,none⟩=some (.pointer p.eE):=aD Z8 a1;have yZ:=RX X i (n-i);have RG:i+(n-i)=n:=by omega
 rw[RG]at yZ;have hKn:=HK.out;have Zb:=V7 (X i) (.pointer p.eE) w.heap.size w.heap.size (jw X i) wr Zz s2 hT (by omega);obtain⟨a2,e2⟩:∃v,nV[i*5+2]?=some v:=⟨_,su (by have:=(jM.1 a3).1;omega)⟩;have XR:=YZ.set (by rw[U0.out];exact hi);have hnn:=tH X i;have WX:Calls prog 43 #[.pointer (some ⟨w.heap.size,0,none⟩),.pointer p.eE] wr λe w'=>e=.returned (.int .i64 (BO X i))/\sJ w.heap.size w.heap.size w' (jw X (i+1))/\Below w.heap.size wr w':=Zb;clear Zb s1 Zz s2 s3 a0 a1 a3 a4 hT yZ RG hKn;have Hs:Hid (nA X (nV.setIfInBounds (i*5+2) (.int .i64 (BO X i))) ps (i+1)):=XR;clear XR YZ;generalize BO X i=nd at*;go_wp2_with fail;refine WX.m λw1 ⟨hT1,yZ⟩=>?_;have Vv:w1.heap[pb]?=some (.cells nV 183 (0,0)):=(yZ.block pb Z9).trans Z8;have hf:w1.frozen? ⟨pb,i*5+2,none⟩=false:=cJ Vv _;have c2:w1.cell? ⟨pb,i*5+2,none⟩=some a2:=aD Vv e2;clear WX;go_wp2_with fail;go_roundw
 case rel=>
  have ho:Only pb w1 (w1.setCell ⟨pb,i*5+2,none⟩ (.int .i64 nd)):=(Only.refl pb w1).setCell (p:=⟨pb,i*5+2,none⟩) (.inl rfl) _;refine⟨i+1,by go_num,by omega,?_,?_,?_,_,dR Vv,Hs.out⟩
  .rcases hT1 with⟨t1,t2,t3⟩|⟨mb,nv1,t2⟩
   .exact .inl ⟨ho.heap t1 (by omega),t2,t3⟩
   .refine .inr ⟨mb,nv1,t2.heap (λk hk hf=>ho.block k hk ?_)⟩;exact λe=>hf (e▸t2.free Vv (by decide) (by decide))
  .have aaz:cY (λb=>b=pb) w w1:=⟨yZ.os.trans RI.os,yZ.tape.trans RI.tape,yZ.output.trans RI.output,gC RI.size yZ.size,λx hx hp=>(yZ.block x hx).trans (RI.block x hx hp)⟩;exact aaz.trans (cY.qG ho λx hx=>hx)
  .have:=yZ.size;have:=ho.size;omega
 case measure=>exact zm):T:=h
theorem Q7(aW pb cap o m s ev D E G c ps X w)(J:aC->aF->aC->bQ)
  (hw:w.heap[aW]?=some (.cells #[o,m,s,ev,.slice D E G] 153 (0,0))) (hp:w.heap[pb]?=some (.cells c 183 (0,0))) (B:eI c 0 ps) (hn:ps.length<=1000) (F:ps.length<=cap)
  (hS:∀j (p),ps[j]?=some p->bG 143 0 w (X j) (.pointer p.eE)/\Good (X j)/\cF (aN (X j))<=1000000) (hK:(jw X ps.length).length<=40)
  (A:∀W (nn) (nV),W.ownsRow w.heap.size 226 6 nn (jw X ps.length).length (mi (jw X ps.length))->W.heap[aW]?=some (.cells #[o,m,s,ev,Sl pb ps.length cap] 153 (0,0))->W.heap[pb]?=some (.cells nV 183 (0,0))->eI nV 0 (jQ X ps)->cY (λb=>b=aW\/b=pb) w W->
   Calls prog 142 #[Pt aW,nn] W λe w'=>e=.returned (.tuple #[])/\J W nn w'):
  Calls prog 98 #[Pt aW,Sl pb ps.length cap] w λe w'=>e=.returned .nilIface/\∃W nn nV,W.ownsRow w.heap.size 226 6 nn (jw X ps.length).length (mi (jw X ps.length))/\W.heap[aW]?=some (.cells #[o,m,s,ev,Sl pb ps.length cap] 153 (0,0))/\W.heap[pb]?=some (.cells nV 183 (0,0))/\eI nV 0 (jQ X ps)/\cY (λb=>b=aW\/b=pb) w W/\J W nn w':=by
 have r:aW≠pb:=by rintro rfl;rw[hw]at hp;cases hp
 have u:=aL hw;have Z9:=aL hp;have Hp:Hid (w.heap[pb]?=some (.cells c 183 (0,0))/\eI c 0 ps):=⟨hp,B⟩;have L:=hid hw;have I:Hid (∀(W:aC)(nn:aF)(nV:aY aF),W.ownsRow w.heap.size 226 6 nn (jw X ps.length).length (mi (jw X ps.length))->W.heap[aW]?=some (.cells #[o,m,s,ev,Sl pb ps.length cap] 153 (0,0))->W.heap[pb]?=some (.cells nV 183 (0,0))->eI nV 0 (jQ X ps)->cY (λb=>b=aW\/b=pb) w W->
   Calls prog 142 #[Pt aW,nn] W λe w'=>e=.returned (.tuple #[])/\J W nn w'):=A
 have HS:=hid hS;have HK:=hid hK;clear hp B hw A hS hK;generalize h:ps.length=n at*;have U0:=hid h;clear h;go_enter func98,ntmps98;go_wp2_with fail;go_loopw [10] (λz wr=>∃(i:Nat),z=Iv i/\i<=n/\sJ w.heap.size w.heap.size wr (jw X i)/\cY (λb=>b=pb) w wr/\w.heap.size<wr.heap.size/\∃nV,wr.heap[pb]?=some (.cells nV 183 (0,0))/\nA X nV ps i) (λz _=>n-(intOf z).toNat)
 case atStart=>
  exact⟨0,rfl,cD,sJ.new _ w aX,cY.aR (aT.al _),aE,c,(ib _ _ _ Z9).trans Hp.out.1,nA.start Hp.out.2⟩
 case round=>
  obtain⟨i,rfl,H,hT,RI,M,nV,Z8,YZ⟩:=hrel;by_cases hi:i<n
  .exact zSt
  .obtain rfl:i=n:=by omega
   have hC:=Ay w.heap.size w.heap.size (jw X i) wr hT;have f:wr.heap[aW]?=some (.cells #[o,m,s,ev,.slice D E G] 153 (0,0)):=(RI.block aW u r).trans L.out;have hf:wr.frozen? (Ad aW 4)=false:=cJ f 4;have O:=aD (i:=4) f rfl;have hKn:=HK.out;go_wp2_with fail;apply hC.mono;rintro e w1 ⟨rfl,rfl⟩;go_wp2_with fail;have l:=dR (i:=4) (v:=Sl pb i cap) f;simp only[Pv,Cg,Hz]at l;have ho:Only aW w1 (w1.setCell (Ad aW 4) (Sl pb i cap)):=(Only.refl aW w1).setCell (p:=(Ad aW 4)) (.inl rfl) _;have d:cY (λb=>b=aW\/b=pb) w (w1.setCell (Ad aW 4) (Sl pb i cap)):=(RI.mono λx _ hx=>.inr hx).trans (cY.qG ho λx hx=>.inl hx);have y:sJ w.heap.size w.heap.size (w1.setCell (Ad aW 4) (Sl pb i cap)) (jw X i):=by
    rcases hT with⟨t1,t2,t3⟩|⟨mb,nv1,t2⟩
    .exact .inl ⟨ho.heap t1 aA,t2,t3⟩
    .exact .inr ⟨mb,nv1,t2.heap λk hk hf=>ho.block k hk λe=>hf (e▸t2.free f aG aG)⟩
   have g:=ho.heap Z8 (lx r);have t:=nA.done (U0.out▸YZ);generalize w1.setCell (Ad aW 4) (Sl pb i cap)=W at*;apply cA.begin (S:=λ_=>True) (fin:=99) aM;simp only[jn,hY,jl,Nat.reduceAdd,fC];refine cA.tk 0 trivial ?_
   try walk_nrm
   refine cA.tk 1 trivial ?_
   try walk_nrm
   refine cA.tk 2 trivial ?_
   try walk_nrm
   refine cA.o 3 (Md func143 (Jm w.heap.size w.heap.size (jw X i) W.drew (y.below (cC _ W).drew) aA) ?_);rintro e C ⟨nn,rfl,q,yZ⟩;refine⟨_,rfl,λ_=>trivial,?_⟩
   try walk_nrm
   have yZ:=(cC W.heap.size W).drew.trans (yZ.mono (cC W.heap.size W).drew.size);have a:=gT q (gC d.size aE);refine cA.o 4 (Md func142 (I.out C nn nV a (yZ.aS l) (yZ.aS g) t (d.trans (cY.aR yZ))) ?_);rintro e N ⟨rfl,K⟩;refine⟨_,rfl,λ_=>trivial,?_⟩;refine cA.done jU ?_ _
   try walk_nrm
   go_wp2;go_ret;exact⟨rfl,C,nn,nV,a,yZ.aS l,yZ.aS g,t,d.trans (cY.aR yZ),K⟩
theorem Wd(name w):Calls prog 139 #[.slice none 0 0,.string name,.func (.func 140) #[] #[]] w λe c=>e=.returned (.tuple #[Iv 0,.bool false])/\c=w:=by
 go_enter func139,ntmps139;go_wp2;go_loopw [9,10] (λb a wr=>b=Iv 0/\a=Iv 0/\wr=w) (λ_ _ _=>0)
 case atStart=>exact⟨rfl,rfl,rfl⟩
 case round=>
  obtain⟨rfl,rfl,rfl⟩:=hrel;go_wp2;go_ret2;exact⟨rfl,rfl⟩
theorem YS(aW c a b ev name w)(hw:w.heap[aW]?=some (.cells #[c,a,b,ev,.slice none 0 0] 153 (0,0))):
  Calls prog 97 #[Pt aW,.string name] w λe d=>e=.returned (.tuple #[Iv 0,.bool false])/\d=w:=by
 let f:=aD (i:=4) hw rfl;go_enter func97,ntmps97;go_wp2_with fail;apply(Wd name w).m0;go_wp2;go_ret2;exact⟨rfl,rfl⟩
def NH(p:mW):aF:=.agg #[.string p.name,.pointer p.eE,Iv p.node,Iv p.cO,.pointer p.fV]
theorem VF(d xs w)(h:xs.length=5)(l:∀j u,xs[j]?=some u->w.cell? (Ad d j)=some u)(i:∀u∈xs,u.oneCell'=true):
  Calls prog 137 #[.slice none 0 0,Iv 0,Sl d 1 1] w λe g=>∃c,e=.returned c/\g.ownsRow w.heap.size 183 5 c 1 xs/\Bl w g:=by
 let⟨i0,hi,nk,nt,nH⟩:=eB lR;go_enter func137,ntmps137;go_wp2_with (at_builtin;refine js _ rfl _ _ 151 rfl w.heap.size 183 i0 (.agg #[.string ⟨#[]⟩,.pointer none,Iv 0,Iv 0,.pointer none]) 5 48 underlying151 hi nk nt nH rfl aG _ _ _ rfl (fF _ _ _ _) (Ad d 0) 1 1 xs rfl ?T6 ?T7 ?T8 ?T9 ?T_ ?Ua ?_)
 case T6=>exact h
 case T7=>
  intro j u m;rw[oN,fC];exact l j u m
 case T8=>exact i
 case T9=>unfold maxLen;omega
 case T_=>omega
 case Ua=>simp
 intro c o b a f;go_wp2;go_ret;refine⟨c,rfl,by simpa using b,?_⟩;exact(cC _ w).grown a aE (by intro k n;simp[Value.ownBlock]at n)
theorem wh:∀a b c:aB aV,Lib.compareBytes a b<0->Lib.compareBytes b c<0->Lib.compareBytes a c<0
 |[],b,[],d,f=>by cases b<;>simp[Lib.compareBytes]at d f
 |[],b,c::g,d,f=>by simp[Lib.compareBytes]
 |a::al,[],c,d,f=>by simp[Lib.compareBytes]at d
 |a::al,b::h,[],d,f=>by simp[Lib.compareBytes]at f
 |a::al,b::h,c::g,d,f=>by
  unfold Lib.compareBytes at d f⊢
  simp only[UInt8.lt_iff_toNat_lt]at d f⊢
  by_cases x1:a.toNat<b.toNat<;>by_cases x2:b.toNat<a.toNat<;>by_cases x3:b.toNat<c.toNat<;>by_cases i:c.toNat<b.toNat<;>simp only[x1,x2,x3,i,fA,fx]at d f<;>first|omega|skip
  all_goals by_cases e:a.toNat<c.toNat
  all_goals first|(simp only[e,fA];decide)|skip
  all_goals first|omega|skip
  all_goals
   let j:¬c.toNat<a.toNat:=aA
   simp only[e,j,fx]
   exact(wh al h g) d f
theorem J5:∀a b:aB aV,Lib.compareBytes a b=0↔a=b
 |[],[]=>by simp[Lib.compareBytes]
 |[],_::_=>by simp[Lib.compareBytes]
 |_::_,[]=>by simp[Lib.compareBytes]
 |a::al,b::c=>by
  unfold Lib.compareBytes
  simp only[UInt8.lt_iff_toNat_lt,E7]
  by_cases x1:a.toNat<b.toNat
  .have:a≠b:=λh=>by subst h;omega
   simp[x1,this]
  .by_cases x2:b.toNat<a.toNat
   .have:a≠b:=λh=>by subst h;omega
    simp[x1,x2,this]
   .let e:a=b:=by
     apply sC.1;omega
    simp[e,(J5 al c)]
theorem uL:∀a b:aB aV,Lib.compareBytes a b<0↔0<Lib.compareBytes b a
 |[],[]=>by simp[Lib.compareBytes]
 |[],_::_=>by simp[Lib.compareBytes]
 |_::_,[]=>by simp[Lib.compareBytes]
 |a::al,b::c=>by
  unfold Lib.compareBytes
  simp only[UInt8.lt_iff_toNat_lt]
  by_cases x1:a.toNat<b.toNat
  .have:¬b.toNat<a.toNat:=by omega
   simp[x1,this]
  .by_cases x2:b.toNat<a.toNat
   .simp[x1,x2]
   .simp[x1,x2,(uL al c)]
abbrev nW(a b:aZ):Int:=Lib.compareBytes a.data.toList b.data.toList
theorem v_(a b):nW a b=0↔a=b:=by
 rw[nW,J5];constructor
 .intro h;cases a;cases b;exact og _ (Array.toList_inj.1 h)
 .rintro rfl;rfl
def eV(ps:aB mW):Prop:=ps.Pairwise λp q=>nW p.name q.name<0
def dV(name:aZ):aB mW->Nat
 |[]=>0
 |p::ps=>if nW p.name name<0 then dV name ps+1 else 0
def eW(name:aZ)(ps:aB mW):Bool:=match ps[dV name ps]? with
 |some p=>decide (p.name=name)
 |none=>false
theorem pj(name:aZ):∀ps:aB mW,dV name ps<=ps.length
 |[]=>Yz 0
 |p::ps=>by
  have:=pj name ps
  simp only[dV,hY]
  split<;>omega
theorem pn(name:aZ):∀(ps:aB mW)(i:Nat)(p:mW),eV ps->ps[i]?=some p->(nW p.name name<0↔i<dV name ps)
 |[],i,p,_,h=>by simp at h
 |q::ps,0,p,a,h=>by
  simp only[Pr,Jt]at h
  subst h
  simp only[dV]
  split<;>simp_all
 |q::ps,i+1,p,a,h=>by
  simp only[LY]at h
  simp only[dV]
  split
  .rw[(pn name ps i p ((Cf.1 a).2) h)];omega
  .rename_i c
   constructor
   .intro b
    exact absurd (wh _ _ _ ((Cf.1 a).1 p (iA h)) b) c
   .intro b;omega
theorem tV(name ps):eW name ps=true↔∃p,ps[dV name ps]?=some p/\p.name=name:=by
 unfold eW;split<;>simp_all
theorem ER{name ps}(a:eV ps):eW name ps=true↔∃p∈ps,p.name=name:=by
 rw[tV];constructor
 .rintro⟨p,h,e⟩;exact⟨p,iA h,e⟩
 .rintro⟨p,h,e⟩;let⟨i,hi⟩:=L1 h;let f:=pn name ps i p a hi;let g:¬nW p.name name<0:=by rw[(v_ p.name name).2 e];decide
  let k:¬i<dV name ps:=λh=>g (f.2 h);by_cases j:dV name ps=i
  .rw[j];exact⟨p,hi,e⟩
  .let c:dV name ps<i:=by omega
   let b:=Nat.lt_trans c (e_.1 hi).1;let d:=CX.1 a _ _ b (e_.1 hi).1 c;rw[(e_.1 hi).2,e]at d;exact absurd ((pn name ps (dV name ps) _ a (fG b)).1 d) (Nat.lt_irrefl _)
theorem eV.insert{ps p}(c:eV ps)(m:eW p.name ps=false):eV (ps.take (dV p.name ps)++p::ps.drop (dV p.name ps)):=by
 let f:∀q∈ps.take (dV p.name ps),nW q.name p.name<0:=by
  intro q e;let⟨i,hi⟩:=L1 e;rw[Bm]at hi;split at hi
  .exact(pn p.name ps i q c hi).2 (by assumption)
  .cases hi
 let j:∀q∈ps.drop (dV p.name ps),nW p.name q.name<0:=by
  intro q e;let⟨i,hi⟩:=L1 e;rw[uw]at hi;let n:¬nW q.name p.name<0:=λh=>by have:=(pn p.name ps _ q c hi).1 h;omega
  let o:nW q.name p.name≠0:=λh=>by
   let g:=(ER c).2 ⟨q,iA hi,(v_ _ _).1 h⟩;rw[m]at g;cases g
  let l:0<nW q.name p.name:=aA;exact(uL _ _).2 l
 refine Hu.2 ⟨c.sublist (List.take_sublist _ _),Cf.2 ⟨j,c.sublist (List.drop_sublist _ _)⟩,?_⟩;intro a k b d;obtain rfl|d:=gp.1 d
 .exact f a k
 .exact wh _ _ _ (f a k) (j b d)
theorem eV.erase{ps}(a:eV ps)(k):eV (ps.take k++ps.drop (k+1)):=by
 rw[<-List.eraseIdx_eq_take_drop_succ];exact a.sublist (List.eraseIdx_sublist _ _)
end Ev
end Go.Proofs.YtpbbmagjhkakgaaGreatDoor
