import Derived.Test.YtpbbmagjhkakgaaGreatDoorD3
namespace Go.Proofs.YtpbbmagjhkakgaaGreatDoor
set_option maxHeartbeats 4000000
set_option maxRecDepth 100000
namespace Ev
open Tryz Go.RowKit Go.Deep Lf
section
variable{O:Nat->Prop}{S:fX}{n yb:Nat}{ev pv:aF}{C:aB CE}{L:aB CP}{w:aC}
theorem eT.len(h:eT O S yb ev pv C L w):C.length=S.bH.length:=by rw[<-h.hC,ux]
theorem eT.rows(h:eT O S yb ev pv C L w)(q:S.OK n){i:Nat}{e}(p:S.bH[i]?=some e):∃g cap,ev=Sl g S.bH.length cap/\S.bH.length<=cap/\∀j d,S.bH[j]?=some d->(w.cell? (Ad g (j*2))=some (Iv d.1)/\0<=d.1/\d.1<=1000000000000)/\∃ao ac,w.cell? (Ad g (j*2+1))=some (.slice ao d.2.length ac)/\eQ w ao d.2/\d.2.length<=ac/\d.2.length<=10:=by
 let m:=h.len;let hi:=(e_.1 p).1;obtain⟨o,cap,rfl,r,_,l⟩:=bT h.bH;obtain⟨g,rfl,_,_,f⟩:=l aA;refine⟨g,cap,by rw[m],aA,λj d b=>?_⟩;rw[<-h.hC,kY]at b;obtain⟨c,a,rfl⟩:=na.1 b;let⟨a1,a2,a3,_⟩:=h.atoms c (iA a);exact⟨⟨f _ _ (OH (k:=0) a rfl),q.time _ (h.hC▸iX.2 ⟨c,iA a,rfl⟩)⟩,_,_,f _ _ (OH (k:=1) a rfl),a1,a2,a3⟩
theorem QV(h:eT O S yb ev pv C L w)(z:S.OK n)(V:n<=1000000000){b o X:Nat}{a:c_}{l r:BT c_}{M Q:aF}(N:Good (.node b o a l r))(D:ru X w (eO a.op) a.name a.lo a.hi M Q){i:Nat}{e:nz}(f:S.bH[i]?=some e)(y m:aF)(I:Good l->w.ownsRow 0 4 1 y S.bH.length (wZ l S.bH S.bH.length))(P:Good r->w.ownsRow 0 4 1 m S.bH.length (wZ r S.bH S.bH.length)):
  Calls prog 183 #[Pt yb,Pt X,Iv i,y,m] w λe A=>e=.returned (.bool (iP (.node b o a l r) S.bH i))/\Bl w A:=by
 obtain⟨g,cap,rfl,B,u⟩:=h.rows z f;let hi:=(e_.1 f).1;let J:=z.many;let s:∀k,eO a.op=k->mD S yb X k a.name a.lo a.hi g cap w:=λk e=>by
  subst e;exact⟨aD h.cell rfl,B,λj d E=>(u j d E).1,aD D rfl,aD D rfl,aD D rfl,aD D rfl⟩
 let p:∀{x:BT c_}{t:aF},w.ownsRow 0 4 1 t S.bH.length (wZ x S.bH S.bH.length)->∃g cap,t=Sl g S.bH.length cap/\∀j,j<S.bH.length->w.cell? (Ad g j)=some (.bool (iP x S.bH j)):=λK=>by
  let⟨g,cap,e1,_,e2⟩:=UF K aA;exact⟨g,cap,e1,e2⟩
 let fin:∀{q H:Bool},q=H->Calls prog 183 #[Pt yb,Pt X,Iv i,y,m] w (λe A=>e=.returned (.bool q)/\Bl w A)->Calls prog 183 #[Pt yb,Pt X,Iv i,y,m] w (λe A=>e=.returned (.bool H)/\Bl w A):=λe h=>by subst e;exact h
 let v:=oa f;obtain⟨c,_⟩|⟨c,_⟩|⟨c,_,_,_,F,R⟩|⟨c,_,_,_,F,_⟩:=N
 .exact fin (by unfold iP;rw[v,Ly _ _ c]) (N1 f (s 116 (by rw[c];rfl)) y m)
 .let⟨_,ao,ac,q1,q2,q3,q4⟩:=u i e f;exact fin (by unfold iP;rw[v,Lx _ _ c]) (N0 f (s 97 (by rw[c];rfl)) q1 q2 q4 q3 y m)
 .obtain⟨U,T,rfl,up⟩:=p (I F);obtain⟨W,Y,rfl,G⟩:=p (P R);obtain c|c|c:=c
  .exact fin (by unfold iP;rw[v,Pj _ _ c];rfl) (GV f true (s 38 (by rw[c];rfl)) _ _ (up i hi) (G i hi))
  .exact fin (by unfold iP;rw[v,Ya _ _ c];rfl) (GV f false (s 124 (by rw[c];rfl)) _ _ (up i hi) (G i hi))
  .exact fin (Q1 z.inc f c).symm (Ls f aA (s 83 (by rw[c];rfl)) up G)
 .obtain⟨U,T,rfl,up⟩:=p (I F);obtain c|c|c|c:=c
  .exact fin (by unfold iP;rw[v,Pk _ _ c]) (QW f (s 33 (by rw[c];rfl)) _ (up i hi) m)
  .cases i with
   |zero=>exact fin (by unfold iP;rw[v,qi _ _ c];rfl) (F1 f (s 89 (by rw[c];rfl)) _ m)
   |succ i=>
    let E:S.bH[i]?=some S.bH[i]:=fG aA;exact fin (N8 f E c).symm (Je f E aA (s 89 (by rw[c];rfl)) _ (up i aA) m)
  .exact fin (Un z.inc f c).symm (EB f aA true (s 79 (by rw[c];rfl)) up m)
  .exact fin (N7 z.inc f c).symm (EB f aA false (s 72 (by rw[c];rfl)) up m)
end
theorem Ri(x bH i):wZ x bH (i+1)=wZ x bH i++[.bool (iP x bH i)]:=by
 simp[wZ,H2]
theorem rW{w a B size n e v xs}(h:w.ownsRow B e size v n xs)(b:Bl w a):a.ownsRow B e size v n xs:=eF h λk c=>b.block k (h.lt k c).2
theorem lr{w:aC}{B e size n:Nat}{v xs}(h:w.ownsRow B e size v n xs):w.ownsRow 0 e size v n xs:=gT h cD
def Bq(S:fX)(yb:Nat)(x:BT c_)(v:aF)(w:aC):Prop:=
 Calls prog 149 #[Pt yb,v] w λe a=>∃t,e=.returned t/\a.ownsRow w.heap.size 4 1 t S.bH.length (wZ x S.bH S.bH.length)/\Bl w a
theorem N6{O S n yb ev pv C L}(hS:S.OK n)(hn:n<=1000000000):∀x (v) (w),eT O S yb ev pv C L w->bX 0 w x v->Good x->Bq S yb x v w:=by
 intro x
 induction x with
 |nil=>intro v w _ _ y;exact y.elim
 |node A D a l r K I=>
  intro v w h hx y;obtain⟨X,pl,pr,rfl,_,hX,_,hl,hr,E⟩:=wH hx y;obtain⟨i0,Y,a7,a8,T⟩:=eB KC;have ad:=hS.many;unfold Bq;have c:Hid (∀(W:aC)(Q P:aF)(i:Nat),Bl w W->(Good l->W.ownsRow 0 4 1 Q S.bH.length (wZ l S.bH S.bH.length))->(Good r->W.ownsRow 0 4 1 P S.bH.length (wZ r S.bH S.bH.length))->i<S.bH.length->Calls prog 183 #[Pt yb,Pt X,Iv i,Q,P] W λe w'=>e=.returned (.bool (iP (.node A D a l r) S.bH i))/\Bl W w'):=λW Q P i b h1 h2 hi=>
   QV (h.below b) hS hn y (b.aS hX) (fG hi) Q P h1 h2
  have HT:Hid (∀i,wZ (.node A D a l r) S.bH (i+1)=wZ (.node A D a l r) S.bH i++[.bool (iP (.node A D a l r) S.bH i)]):=λi=>Ri _ _ _;have a1:Hid (wZ (.node A D a l r) S.bH 0=[]):=rfl;generalize a6:iP (.node A D a l r) S.bH=sy at*;generalize aa:wZ (.node A D a l r) S.bH=ty at*;clear a6 aa;have R:Hid (∀W,Bl w W->W.cell? (Ad X 4)=some (.pointer pl)/\W.cell? (Ad X 5)=some (.pointer pr)):=λW b=>⟨aD (b.aS hX) rfl,aD (b.aS hX) rfl⟩;obtain⟨o,cap,e1,M,_⟩:=bT h.bH;rw[h.len]at e1 M;have HE:Hid (∀W,Bl w W->W.cell? (Ad yb 2)=some (.slice o S.bH.length cap)):=λW b=>by rw[<-e1];exact aD (b.aS h.cell) rfl
  have IL:Hid (∀W,Bl w W->Good l->Bq S yb l (.pointer pl) W):=λW b y=>K _ W (h.below b) (bX.below hl b) y;have IR:Hid (∀W,Bl w W->Good r->Bq S yb r (.pointer pr) W):=λW b y=>I _ W (h.below b) (bX.below hr b) y;clear K I e1;generalize s:S.bH.length=len at*;go_enter func149,ntmps149;have V:=(R.out w aT).1;have c5:=(R.out w aT).2;rcases E with⟨rfl,rfl,rfl,rfl⟩|⟨gl,rfl,rfl,al,rfl⟩|⟨gl,gr,⟨al,rfl⟩,ar,rfl⟩
  case' inl=>
   have N:Hid (∀j (i:Nat),Bl w j->i<len->_):=λj i b hi=>c.out j (.slice none 0 0) (.slice none 0 0) i b (λh=>h.elim) (λh=>h.elim) hi;clear c;go_wp2_with fail;clear V c5;generalize hW:w=W at N⊢;have f:Bl w W:=hW▸aT
  case' inr.inl=>
   have G:=IL.out w aT gl;unfold Bq at G;go_wp2_with fail;apply G.mono;rintro e W ⟨t,rfl,d,f⟩;obtain⟨d4,Z⟩:=R.out W f;rw[s]at d;have N:Hid (∀j (i:Nat),Bl W j->i<len->_):=λj i b hi=>c.out j t (.slice none 0 0) i (f.tr b) (λ_=>lr (rW d b)) (λh=>h.elim) hi;clear c G V c5;go_wp2_with fail;clear d4 Z
  case' inr.inr=>
   have G:=IL.out w aT gl;unfold Bq at G;go_wp2_with fail;apply G.mono;rintro e H ⟨t,rfl,d,g⟩;obtain⟨d4,Z⟩:=R.out H g;rw[s]at d;have F:=IR.out H g gr;unfold Bq at F;clear G;go_wp2_with fail;apply F.mono;rintro e W ⟨t2,rfl,q,u⟩;rw[s]at q;have f:=g.tr u;have N:Hid (∀j (i:Nat),Bl W j->i<len->_):=λj i b hi=>c.out j t t2 i (f.tr b) (λ_=>lr (rW (rW d u) b)) (λ_=>lr (rW q b)) hi;clear c F V c5 d4 Z;go_wp2_with fail
  all_goals
   go_loopw [8,7] (λiv v wr=>∃i:Nat,iv=Iv i/\i<=len/\wr.ownsRow W.heap.size 4 1 v i (ty i)/\Bl W wr) (λiv _ _=>len-(intOf iv).toNat)
   case atStart=>exact⟨0,rfl,cD,by rw[a1.out];exact fF _ _ _ _,aT⟩
   case round=>
    obtain⟨i,rfl,ae,p,b⟩:=hrel;have c2:=HE.out wr (f.tr b);by_cases hi:i<len
    .have J:=N.out wr i b hi;go_wp2_with fail;refine J.m λH b1=>?_;clear J;have m:=eF p (w':=H) λk hk=>b1.block k (p.lt k hk).2;have g:=b.tr b1;have hz:=g.size;have U:Hid _:=HT.out i;generalize sy i=sv at*;go_wp2_with (at_builtin;refine js _ rfl _ _ 157 rfl W.heap.size 4 i0 (.bool false) 1 1 underlying157 Y a7 a8 T rfl aG _ _ _ rfl (m.alloc _) (Ad H.heap.size 0) 1 1 [.bool sv] rfl rfl (oY H _ _) xr eP aA bI ?_);intro v' w2 z B _;have u:=(g.al _).grown B (gC hz aE) λk e=>(m.lt k e).1;go_wp2_with fail
     try go_big_round
     exact⟨⟨i+1,dU,aA,by rw[U.out];exact z,u⟩,zm⟩
    .obtain rfl:i=len:=by omega
     go_wp2_with fail;go_ret;exact⟨_,rfl,gT p f.size,f.tr b⟩
theorem Th:(prog.info? 199).map (λi=>(i.zero,i.size,i.bytes))=some (some (.agg #[Iv 0,Iv 0,Iv 0,.bool false]),4,32):=aM
def Jq(x:BT c_)(cO:Int)(bH:aB nz)(a k:Nat):aB aF:=kZ ((List.range k).map λj=>Rn x cO bH (a+j))
theorem Hj(x cO bH a k):Jq x cO bH a (k+1)=Jq x cO bH a k++Jz (Rn x cO bH (a+k)):=by
 simp[Jq,kZ,H2]
theorem Ks(w:aC)(x y z u t):∀j q,[x,y,z,u][j]?=some q->(w.alloc (.cells #[x,y,z,u] t)).cell? (((Ad w.heap.size 0):a_).add j)=some q:=by
 intro j q a;have:((Ad w.heap.size 0):a_).add j=(Ad w.heap.size j):=by simp[Addr.add];omega
 rw[this];exact aD (aP w (.cells #[x,y,z,u] t (0,0)) _ rfl) (by simpa using a)
theorem qN{z}(h:-9223372036854775808<=z/\z<=9223372036854775807):IntKind.i64.wrap z=z:=by
 rw[IntKind.wrap_i64];omega
section
variable{O:Nat->Prop}{S:fX}{n yb:Nat}{ev pv:aF}{C:aB CE}{L:aB CP}{w:aC}
theorem xk(h:eT O S yb ev pv C L w)(F:S.OK n)(hn:n<=1000000000)(x)(hg:Good x)(sp)(hx:bX 0 w x (.pointer sp))(name cO so sl sc a)(ha:a<=S.bH.length):
  Calls prog 108 #[Pt yb,.agg #[.string name,.pointer sp,Iv cO,.slice so sl sc],Iv ((a)+1)] w λe U=>∃t,e=.returned t/\U.ownsRow w.heap.size 199 4 t (S.bH.length-a) (Jq x cO S.bH a (S.bH.length-a))/\Bl w U:=by
 have⟨i0,WV,nk,nt,nH⟩:=eB Th;have a1:=F.many;obtain⟨W,m⟩:∃W,W=w.alloc (.cells #[.string name,.pointer sp,Iv cO,.slice so sl sc] 86):=⟨_,rfl⟩;have o:Bl w W:=m▸aT.al _;have A:W.heap[w.heap.size]?=some (.cells #[.string name,.pointer sp,Iv cO,.slice so sl sc] 86 (0,0)):=m▸aP _ _ _ rfl;have Q:=N6 F hn x _ W (h.below o) (bX.below hx o) hg;unfold Bq at Q;have T:Hid (∀c i,Bl w c->i<S.bH.length->∃g cap,ev=Sl g S.bH.length cap/\S.bH.length<=cap/\c.cell? (Ad yb 2)=some (Sl g S.bH.length cap)/\c.cell? (Ad g (i*2))=some (Iv (S.bH.getD i (0,[])).1)):=λc i b hi=>by
  have H:=fG hi;obtain⟨g,cap,rfl,h1,Y⟩:=(h.below b).rows F H;exact⟨g,cap,rfl,h1,aD (h.below b).cell rfl,by rw[qp,H];exact(Y i _ H).1.1⟩
 have N:Hid (∀k,Jq x cO S.bH a (k+1)=Jq x cO S.bH a k++[Iv ((a+k:Nat)+1:Int),Iv (S.bH.getD (a+k) (0,[])).1,Iv cO,.bool (iP x S.bH (a+k))]):=λk=>Hj x cO S.bH a k;have K:Hid (Jq x cO S.bH a 0=[]):=rfl;have G:Hid (∀c,Bl W c->c.cell? (Ad w.heap.size 1)=some (.pointer sp)/\c.cell? (Ad w.heap.size 2)=some (Iv cO)):=λc b=>⟨aD (b.aS A) rfl,aD (b.aS A) rfl⟩;have c1:=(G.out W aT).1;generalize Z:Jq x cO S.bH a=R at*;go_enter func108,ntmps108;go_wp2_with fail;rw[<-m];apply Q.mono;rintro e D ⟨t,rfl,r,s⟩;obtain⟨I,X,rfl,a8,_,E⟩:=bT (lr r);have B:Hid (∀c i,Bl D c->i<S.bH.length->∃g,I=some (Ad g 0)/\c.cell? (Ad g i)=some (.bool (iP x S.bH i))):=λc i b hi=>by
  obtain⟨g,rfl,_,_,h4⟩:=E aA;exact⟨g,rfl,eR b (h4 i _ (by simp[wZ,hi]))⟩
 have d:=o.tr s;generalize y:S.bH.length=len at*;go_wp2;go_loopw [9,8] (λM v wr=>∃k q:Nat,M=Iv ((q:Int)+1)/\q=a+k/\q<=len/\wr.ownsRow D.heap.size 199 4 v k (R k)/\Bl D wr) (λM _ _=>len+1-(intOf M).toNat)
 case atStart=>exact⟨0,a,rfl,aA,aA,by rw[K.out];exact fF _ _ _ _,aT⟩
 case round=>
  obtain⟨k,q,rfl,z,hk,f,b⟩:=hrel;by_cases hi:q<len
  .obtain⟨g,cap,rfl,V,c2,c0⟩:=T.out wr q (d.tr b) hi;obtain⟨tg,rfl,ct⟩:=B.out wr q b hi;have⟨p1,p2⟩:=G.out wr (s.tr b);have j:=N.out k;rw[<-z]at j;replace j:Hid _:=j;generalize(S.bH.getD q (0,[])).1=tm at*;generalize iP x S.bH q=sy at*;have hz:=b.size;have aa:k<=len:=aA;replace z:Hid _:=z;have a7:IntKind.i64.wrap (q:Int)=q:=qN aA;go_wp2_with fail
   go_region_law (refine fS rfl (.tmp 21) (.tmp 40) 84 rfl D.heap.size 199 i0 _ 4 32 underlying84 WV nk nt nH rfl aG _ k (R k) (by simp[Act.eval]) (f.drew.alloc _) (Ad wr.heap.size 0) 1 1 [Iv ((q:Int)+1),Iv tm,Iv cO,.bool sy] (by simp[Act.eval]) rfl (Ks wr.drew _ _ _ _ _) (by intro u P;simp at P;rcases P with rfl|rfl|rfl|rfl<;>rfl) eP aA bI ?_;intro v' w2 l p a6)
   all_goals
    have J:=(b.drew.al _).grown p bI λk e=>(f.lt k e).1;go_wp2
    try go_big_round
    exact⟨⟨k+1,q+1,dU,by rw[z.out];omega,aA,by rw[j.out];exact l,J⟩,zm⟩
  .obtain rfl:q=len:=by omega
   obtain rfl:k=q-a:=aA;clear T B G N z;go_wp2_with fail;go_ret;exact⟨_,rfl,by rw[y];exact gT f d.size,d.tr b⟩
end
theorem yD(t){bH:aB nz}{q e}(h:bH[q]?=some e):lf t (bH.drop q)=if e.1<t then lf t (bH.drop (q+1))+1 else 0:=by
 obtain⟨a,rfl⟩:=e_.1 h;rw[oV a,lf]
section
variable{O:Nat->Prop}{S:fX}{n yb:Nat}{ev pv:aF}{C:aB CE}{L:aB CP}{w:aC}
theorem SM(a:S.OK n)(x):pW S x<=S.bH.length:=by
 unfold pW;split
 .omega
 .have:=DH ((S.bH.getD S.off (0,[])).1+bD x) (S.bH.drop S.off);rw[nQ]at this;obtain h|⟨_,h⟩:=a.last<;>omega
theorem xj(h:eT O S yb ev pv C L w)(D:S.OK n)(hn:n<=1000000000)(x)(Z:Good x)(K:bC x<=12)(hr:0<=bD x/\bD x<=100000)(sp)(N:bX 0 w x (.pointer sp))(name cO so sl sc):
  Calls prog 111 #[Pt yb,.agg #[.string name,.pointer sp,Iv cO,.slice so sl sc]] w λe H=>∃t,e=.returned t/\H.ownsRow w.heap.size 199 4 t (mf S x cO).length (kZ (mf S x cO))/\Bl w H:=by
 have aa:=D.many;obtain⟨W,s⟩:∃W,W=w.alloc (.cells #[.string name,.pointer sp,Iv cO,.slice so sl sc] 86):=⟨_,rfl⟩;have J:Bl w W:=s▸aT.al _;have v:W.heap[w.heap.size]?=some (.cells #[.string name,.pointer sp,Iv cO,.slice so sl sc] 86 (0,0)):=s▸aP _ _ _ rfl;have hC:=xX x (.pointer sp) 0 W (bX.below N J) Z aA;have M:=SM D x;have F:Hid (pW S x=if S.off=0 then S.off else S.off+lf ((S.bH.getD S.off (0,[])).1+bD x) (S.bH.drop S.off)):=by show _=_;unfold pW;split<;>simp_all
 have u:Hid (∀c,Bl w c->Calls prog 108 #[Pt yb,.agg #[.string name,.pointer sp,Iv cO,.slice so sl sc],Iv ((pW S x:Int)+1)] c λe H=>∃t,e=.returned t/\H.ownsRow c.heap.size 199 4 t (mf S x cO).length (kZ (mf S x cO))/\Bl c H):=λc j=>by
  have:=xk (h.below j) D hn x Z sp (bX.below N j) name cO so sl sc (pW S x) M;have y:(mf S x cO).length=S.bH.length-pW S x:=by simp[mf,Wq]
  rw[y];exact this
 obtain⟨o,bO,y,r,_⟩:=bT h.bH;rw[h.len]at y r;have T:Hid (∀c,Bl w c->c.cell? (Ad yb 2)=some (.slice o S.bH.length bO)/\c.cell? (Ad yb 3)=some (Iv ((S.off:Int)+1))):=λc j=>⟨by rw[<-y];exact aD (h.below j).cell rfl,aD (h.below j).cell rfl⟩;have A:Hid (∀c i e,Bl w c->S.bH[i]?=some e->∃g,o=some (Ad g 0)/\c.cell? (Ad g (i*2))=some (Iv e.1)/\0<=e.1/\e.1<=1000000000000):=λc i e j z=>by
  obtain⟨g,cap,Q,h1,h2⟩:=(h.below j).rows D z;rw[y]at Q;cases Q;exact⟨g,rfl,(h2 i e z).1⟩
 have I:Hid (S.off<S.bH.length\/S.off=0):=by rcases D.last with h|⟨_,h⟩<;>simp[h,Hid]
 have c1:W.cell? (Ad w.heap.size 1)=some (.pointer sp):=aD v rfl;have X:=hid λc (j:Bl W c)=>j.aS v;clear h N y;generalize pW S x=res at*;generalize mf S x cO=bk at*;generalize bD x=R at*;generalize a1:S.bH.length=len at*;go_enter func111,ntmps111;go_wp2_with fail;rw[<-s];refine hC.m λV E=>?_;have l:=J.tr E;obtain⟨Y,d3⟩:=T.out V l;clear hC c1 v;go_wp2_with fail;clear Y d3;go_loopw [6] (λU wr=>∃q:Nat,U=Iv ((q:Int)+1)/\q<=len/\Bl V wr/\Hid (res=if S.off=0 then q else q+lf ((S.bH.getD S.off (0,[])).1+R) (S.bH.drop q))) (λU _=>len+1-(intOf U).toNat)
 case atStart=>exact⟨S.off,rfl,by rcases I.out with h|h<;>omega,aT,F⟩
 case round=>
  obtain⟨q,rfl,hq,j,k⟩:=hrel;obtain⟨Y,d3⟩:=T.out wr (l.tr j);have m:=X.out wr (E.tr j);have p0:wr.cell? (Ad w.heap.size 0)=some (.string name):=aD m rfl;have p1:wr.cell? (Ad w.heap.size 1)=some (.pointer sp):=aD m rfl;have p2:wr.cell? (Ad w.heap.size 2)=some (Iv cO):=aD m rfl;have p3:wr.cell? (Ad w.heap.size 3)=some (.slice so sl sc):=aD m rfl;have a:=l.tr j;have ad:IntKind.i64.wrap (q:Int)=q:=qN aA;clear m X T;by_cases a8:q<len
  .have b1:decide ((q:Int)+1<=(len:Int))=true:=kh aA;by_cases G:S.off=0
   .rw[bY G]at k;have b2:decide ((1:Int)<(S.off:Int)+1)=false:=kg aA;rw[k.out]at u;clear k A F I G;generalize(S.off:Int)=f at*;go_wp2_with fail;go_quiet(fail);go_wp2_with fail;apply(u.out _ (a.tr (below_drewN _ _))).mono;rintro e w2 ⟨t,rfl,b,p⟩;go_wp2_with fail;go_ret;exact⟨_,rfl,gT b (a.tr (below_drewN _ _)).size,(a.tr (below_drewN _ _)).tr p⟩
   .rw[bN G]at k;have b2:decide ((1:Int)<(S.off:Int)+1)=true:=kh aA;have a7:S.off<len:=by rcases I.out with h|h<;>omega
    obtain⟨e,z⟩:∃e,S.bH[q]?=some e:=⟨_,fG aA⟩;obtain⟨d,K⟩:∃d,S.bH[S.off]?=some d:=⟨_,fG aA⟩;obtain⟨g,rfl,e0,y,Q⟩:=A.out wr q e a z;obtain⟨g',e3,d0,d1,d4⟩:=A.out wr S.off d a K;cases e3;rw[qp,K]at k;have ae:IntKind.i64.wrap (e.1-R)=e.1-R:=qN aA;have a6:IntKind.i64.wrap (S.off:Int)=S.off:=qN aA;by_cases B:e.1-R<d.1
    .have b3:decide (e.1-R<d.1)=true:=kh B;have HN:Hid (res=if S.off=0 then q+1 else q+1+lf ((S.bH.getD S.off (0,[])).1+R) (S.bH.drop (q+1))):=by
      show _=_;rw[bN G,qp,K,k.out,yD _ z,bY (by show e.1<d.1+R;omega)];simp only[ig];omega
     clear k A F u;go_wp2_with fail;go_quiet(fail);go_wp2_with fail
     try go_big_round
     exact⟨⟨q+1,dU,aA,j.tr (below_drewN _ _),HN⟩,zm⟩
    .have b3:decide (e.1-R<d.1)=false:=kg B;rw[yD _ z,bN (by show¬e.1<d.1+R;omega)]at k;rw[k.out,E8]at u;clear k A F I G;generalize S.off=f at*;go_wp2_with fail;go_quiet(fail);go_wp2_with fail;apply(u.out _ (a.tr (below_drewN _ _))).mono;rintro e w2 ⟨t,rfl,b,p⟩;go_wp2_with fail;go_ret;exact⟨_,rfl,gT b (a.tr (below_drewN _ _)).size,(a.tr (below_drewN _ _)).tr p⟩
  .obtain rfl:q=len:=by omega
   have b1:decide ((q:Int)+1<=(q:Int))=false:=kg aA;have P:res=q:=by rw[k.out,t_ aA];simp[lf]
   rw[P]at u;clear k A F I;generalize(S.off:Int)=f at*;go_wp2_with fail;go_quiet(fail);go_wp2_with fail;apply(u.out _ (a.tr (below_drewN _ _))).mono;rintro e w2 ⟨t,rfl,b,p⟩;go_wp2;go_ret;exact⟨_,rfl,gT b (a.tr (below_drewN _ _)).size,(a.tr (below_drewN _ _)).tr p⟩
end
end Ev
end Go.Proofs.YtpbbmagjhkakgaaGreatDoor
