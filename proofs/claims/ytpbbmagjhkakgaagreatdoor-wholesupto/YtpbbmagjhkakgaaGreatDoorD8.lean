import Derived.Test.YtpbbmagjhkakgaaGreatDoorD5
namespace Go.Proofs.YtpbbmagjhkakgaaGreatDoor
set_option maxHeartbeats 4000000
set_option maxRecDepth 100000
namespace Ev
open Tryz Go.RowKit Go.Deep Lf
section
variable{O:Nat->Prop}{S:f_}{n yb:Nat}{ev pv:aE}{C:aB CE}{L:aB CP}{w:aC}
theorem eT.len(h:eT O S yb ev pv C L w):C.length=S.bH.length:=by rw[<-h.hC,uP]
theorem eT.rows(h:eT O S yb ev pv C L w)(q:S.OK n){i:Nat}{e}(p:S.bH[i]?=some e):∃g cap,ev=Sl g S.bH.length cap/\S.bH.length<=cap/\∀j d,S.bH[j]?=some d->(w.cell? (Ad g (j*2))=some (Iv d.1)/\0<=d.1/\d.1<=1000000000000)/\∃ao ac,w.cell? (Ad g (j*2+1))=some (.slice ao d.2.length ac)/\eQ w ao d.2/\d.2.length<=ac/\d.2.length<=10:=by
 let m:=h.len;let hi:=(eY.1 p).1;obtain⟨o,cap,rfl,r,_,l⟩:=bT h.bH;obtain⟨g,rfl,_,_,f⟩:=l aA;refine⟨g,cap,by rw[m],aA,λj d b=>?_⟩;rw[<-h.hC,lj]at b;obtain⟨c,a,rfl⟩:=nA.1 b;let⟨a1,a2,a3,_⟩:=h.atoms c (iF a);exact⟨⟨f _ _ (Pk (k:=0) a rfl),q.time _ (h.hC▸iZ.2 ⟨c,iF a,rfl⟩)⟩,_,_,f _ _ (Pk (k:=1) a rfl),a1,a2,a3⟩
theorem Rz(h:eT O S yb ev pv C L w)(z:S.OK n)(V:n<=1000000000){b o X:Nat}{a:dD}{l r:BT dD}{M Q:aE}(N:Good (.node b o a l r))(D:rK X w (eO a.op) a.name a.lo a.hi M Q){i:Nat}{e:nM}(f:S.bH[i]?=some e)(y m:aE)(I:Good l->w.ownsRow 0 4 1 y S.bH.length (xt l S.bH S.bH.length))(P:Good r->w.ownsRow 0 4 1 m S.bH.length (xt r S.bH S.bH.length)):
  Calls prog 183 #[Pt yb,Pt X,Iv i,y,m] w λe A=>e=.returned (.bool (iU (.node b o a l r) S.bH i))/\Bl w A:=by
 obtain⟨g,cap,rfl,B,u⟩:=h.rows z f;let hi:=(eY.1 f).1;let J:=z.many;let s:∀k,eO a.op=k->mM S yb X k a.name a.lo a.hi g cap w:=λk e=>by
  subst e;exact⟨aD h.cell rfl,B,λj d E=>(u j d E).1,aD D rfl,aD D rfl,aD D rfl,aD D rfl⟩
 let p:∀{x:BT dD}{t:aE},w.ownsRow 0 4 1 t S.bH.length (xt x S.bH S.bH.length)->∃g cap,t=Sl g S.bH.length cap/\∀j,j<S.bH.length->w.cell? (Ad g j)=some (.bool (iU x S.bH j)):=λK=>by
  let⟨g,cap,e1,_,e2⟩:=Vk K aA;exact⟨g,cap,e1,e2⟩
 let fin:∀{q H:Bool},q=H->Calls prog 183 #[Pt yb,Pt X,Iv i,y,m] w (λe A=>e=.returned (.bool q)/\Bl w A)->Calls prog 183 #[Pt yb,Pt X,Iv i,y,m] w (λe A=>e=.returned (.bool H)/\Bl w A):=λe h=>by subst e;exact h
 let v:=oz f;obtain⟨c,_⟩|⟨c,_⟩|⟨c,_,_,_,F,R⟩|⟨c,_,_,_,F,_⟩:=N
 .exact fin (by unfold iU;rw[v,L6 _ _ c]) (OD f (s 116 (by rw[c];rfl)) y m)
 .let⟨_,ao,ac,q1,q2,q3,q4⟩:=u i e f;exact fin (by unfold iU;rw[v,L5 _ _ c]) (OC f (s 97 (by rw[c];rfl)) q1 q2 q4 q3 y m)
 .obtain⟨U,T,rfl,up⟩:=p (I F);obtain⟨W,Y,rfl,G⟩:=p (P R);obtain c|c|c:=c
  .exact fin (by unfold iU;rw[v,PY _ _ c];rfl) (H3 f true (s 38 (by rw[c];rfl)) _ _ (up i hi) (G i hi))
  .exact fin (by unfold iU;rw[v,Y3 _ _ c];rfl) (H3 f false (s 124 (by rw[c];rfl)) _ _ (up i hi) (G i hi))
  .exact fin (RH z.inc f c).symm (L1 f aA (s 83 (by rw[c];rfl)) up G)
 .obtain⟨U,T,rfl,up⟩:=p (I F);obtain c|c|c|c:=c
  .exact fin (by unfold iU;rw[v,PZ _ _ c]) (RA f (s 33 (by rw[c];rfl)) _ (up i hi) m)
  .cases i with
   |zero=>exact fin (by unfold iU;rw[v,qv _ _ c];rfl) (Gp f (s 89 (by rw[c];rfl)) _ m)
   |succ i=>
    let E:S.bH[i]?=some S.bH[i]:=fH aA;exact fin (OM f E c).symm (JE f E aA (s 89 (by rw[c];rfl)) _ (up i aA) m)
  .exact fin (U2 z.inc f c).symm (E1 f aA true (s 79 (by rw[c];rfl)) up m)
  .exact fin (OL z.inc f c).symm (E1 f aA false (s 72 (by rw[c];rfl)) up m)
end
theorem R3(x bH i):xt x bH (i+1)=xt x bH i++[.bool (iU x bH i)]:=by
 simp[xt,Iy]
theorem sr{w a B size n e v xs}(h:w.ownsRow B e size v n xs)(b:Bl w a):a.ownsRow B e size v n xs:=eF h λk c=>b.block k (h.lt k c).2
theorem lD{w:aC}{B e size n:Nat}{v xs}(h:w.ownsRow B e size v n xs):w.ownsRow 0 e size v n xs:=gY h cC
def BM(S:f_)(yb:Nat)(x:BT dD)(v:aE)(w:aC):Prop:=
 Calls prog 149 #[Pt yb,v] w λe a=>∃t,e=.returned t/\a.ownsRow w.heap.size 4 1 t S.bH.length (xt x S.bH S.bH.length)/\Bl w a
theorem OJ{O S n yb ev pv C L}(hS:S.OK n)(hn:n<=1000000000):∀x (v) (w),eT O S yb ev pv C L w->bX 0 w x v->Good x->BM S yb x v w:=by
 intro x
 induction x with
 |nil=>intro v w _ _ y;exact y.elim
 |node A D a l r K I=>
  intro v w h hx y;obtain⟨X,pl,pr,rfl,_,hX,_,hl,hr,E⟩:=xa hx y;obtain⟨i0,Y,a7,a8,T⟩:=eB La;have ad:=hS.many;unfold BM;have c:Hid (∀(W:aC)(Q P:aE)(i:Nat),Bl w W->(Good l->W.ownsRow 0 4 1 Q S.bH.length (xt l S.bH S.bH.length))->(Good r->W.ownsRow 0 4 1 P S.bH.length (xt r S.bH S.bH.length))->i<S.bH.length->Calls prog 183 #[Pt yb,Pt X,Iv i,Q,P] W λe w'=>e=.returned (.bool (iU (.node A D a l r) S.bH i))/\Bl W w'):=λW Q P i b h1 h2 hi=>
   Rz (h.below b) hS hn y (b.aT hX) (fH hi) Q P h1 h2
  have HT:Hid (∀i,xt (.node A D a l r) S.bH (i+1)=xt (.node A D a l r) S.bH i++[.bool (iU (.node A D a l r) S.bH i)]):=λi=>R3 _ _ _;have a1:Hid (xt (.node A D a l r) S.bH 0=[]):=rfl;generalize a6:iU (.node A D a l r) S.bH=sy at*;generalize aa:xt (.node A D a l r) S.bH=ty at*;clear a6 aa;have R:Hid (∀W,Bl w W->W.cell? (Ad X 4)=some (.pointer pl)/\W.cell? (Ad X 5)=some (.pointer pr)):=λW b=>⟨aD (b.aT hX) rfl,aD (b.aT hX) rfl⟩;obtain⟨o,cap,e1,M,_⟩:=bT h.bH;rw[h.len]at e1 M;have HE:Hid (∀W,Bl w W->W.cell? (Ad yb 2)=some (.slice o S.bH.length cap)):=λW b=>by rw[<-e1];exact aD (b.aT h.cell) rfl
  have IL:Hid (∀W,Bl w W->Good l->BM S yb l (.pointer pl) W):=λW b y=>K _ W (h.below b) (bX.below hl b) y;have IR:Hid (∀W,Bl w W->Good r->BM S yb r (.pointer pr) W):=λW b y=>I _ W (h.below b) (bX.below hr b) y;clear K I e1;generalize s:S.bH.length=len at*;go_enter func149,ntmps149;have V:=(R.out w aV).1;have c5:=(R.out w aV).2;rcases E with⟨rfl,rfl,rfl,rfl⟩|⟨gl,rfl,rfl,al,rfl⟩|⟨gl,gr,⟨al,rfl⟩,ar,rfl⟩
  case' inl=>
   have N:Hid (∀j (i:Nat),Bl w j->i<len->_):=λj i b hi=>c.out j (.slice none 0 0) (.slice none 0 0) i b (λh=>h.elim) (λh=>h.elim) hi;clear c;go_wp2_with fail;clear V c5;generalize hW:w=W at N⊢;have f:Bl w W:=hW▸aV
  case' inr.inl=>
   have G:=IL.out w aV gl;unfold BM at G;go_wp2_with fail;apply G.mono;rintro e W ⟨t,rfl,d,f⟩;obtain⟨d4,Z⟩:=R.out W f;rw[s]at d;have N:Hid (∀j (i:Nat),Bl W j->i<len->_):=λj i b hi=>c.out j t (.slice none 0 0) i (f.tr b) (λ_=>lD (sr d b)) (λh=>h.elim) hi;clear c G V c5;go_wp2_with fail;clear d4 Z
  case' inr.inr=>
   have G:=IL.out w aV gl;unfold BM at G;go_wp2_with fail;apply G.mono;rintro e H ⟨t,rfl,d,g⟩;obtain⟨d4,Z⟩:=R.out H g;rw[s]at d;have F:=IR.out H g gr;unfold BM at F;clear G;go_wp2_with fail;apply F.mono;rintro e W ⟨t2,rfl,q,u⟩;rw[s]at q;have f:=g.tr u;have N:Hid (∀j (i:Nat),Bl W j->i<len->_):=λj i b hi=>c.out j t t2 i (f.tr b) (λ_=>lD (sr (sr d u) b)) (λ_=>lD (sr q b)) hi;clear c F V c5 d4 Z;go_wp2_with fail
  all_goals
   go_loopw [8,7] (λiv v wr=>∃i:Nat,iv=Iv i/\i<=len/\wr.ownsRow W.heap.size 4 1 v i (ty i)/\Bl W wr) (λiv _ _=>len-(intOf iv).toNat)
   case atStart=>exact⟨0,rfl,cC,by rw[a1.out];exact fI _ _ _ _,aV⟩
   case round=>
    obtain⟨i,rfl,ae,p,b⟩:=hrel;have c2:=HE.out wr (f.tr b);by_cases hi:i<len
    .have J:=N.out wr i b hi;go_wp2_with fail;refine J.m λH b1=>?_;clear J;have m:=eF p (w':=H) λk hk=>b1.block k (p.lt k hk).2;have g:=b.tr b1;have hz:=g.size;have U:Hid _:=HT.out i;generalize sy i=sv at*;go_wp2_with (at_builtin;refine jz _ rfl _ _ 157 rfl W.heap.size 4 i0 (.bool false) 1 1 underlying157 Y a7 a8 T rfl aG _ _ _ rfl (m.alloc _) (Ad H.heap.size 0) 1 1 [.bool sv] rfl rfl (pA H _ _) xM eP aA bI ?_);intro v' w2 z B _;have u:=(g.al _).grown B (gH hz aF) λk e=>(m.lt k e).1;go_wp2_with fail
     try go_big_round
     exact⟨⟨i+1,dV,aA,by rw[U.out];exact z,u⟩,zm⟩
    .obtain rfl:i=len:=by omega
     go_wp2_with fail;go_ret;exact⟨_,rfl,gY p f.size,f.tr b⟩
theorem TY:(prog.info? 199).map (λi=>(i.zero,i.size,i.bytes))=some (some (.agg #[Iv 0,Iv 0,Iv 0,.bool false]),4,32):=aL
def JP(x:BT dD)(cP:Int)(bH:aB nM)(a k:Nat):aB aE:=lr ((List.range k).map λj=>R8 x cP bH (a+j))
theorem Ig(x cP bH a k):JP x cP bH a (k+1)=JP x cP bH a k++J3 (R8 x cP bH (a+k)):=by
 simp[JP,lr,Iy]
theorem KX(w:aC)(x y z u t):∀j q,[x,y,z,u][j]?=some q->(w.alloc (.cells #[x,y,z,u] t)).cell? (((Ad w.heap.size 0):bC).add j)=some q:=by
 intro j q a;have:((Ad w.heap.size 0):bC).add j=(Ad w.heap.size j):=by simp[Addr.add];omega
 rw[this];exact aD (aQ w (.cells #[x,y,z,u] t (0,0)) _ rfl) (by simpa using a)
theorem qZ{z}(h:-9223372036854775808<=z/\z<=9223372036854775807):IntKind.i64.wrap z=z:=by
 rw[IntKind.wrap_i64];omega
section
variable{O:Nat->Prop}{S:f_}{n yb:Nat}{ev pv:aE}{C:aB CE}{L:aB CP}{w:aC}
theorem xG(h:eT O S yb ev pv C L w)(F:S.OK n)(hn:n<=1000000000)(x)(hg:Good x)(sp)(hx:bX 0 w x (.pointer sp))(name cP so sl sc a)(ha:a<=S.bH.length):
  Calls prog 108 #[Pt yb,.agg #[.string name,.pointer sp,Iv cP,.slice so sl sc],Iv ((a)+1)] w λe U=>∃t,e=.returned t/\U.ownsRow w.heap.size 199 4 t (S.bH.length-a) (JP x cP S.bH a (S.bH.length-a))/\Bl w U:=by
 have⟨i0,XF,nI,nJ,nS⟩:=eB TY;have a1:=F.many;obtain⟨W,m⟩:∃W,W=w.alloc (.cells #[.string name,.pointer sp,Iv cP,.slice so sl sc] 86):=⟨_,rfl⟩;have o:Bl w W:=m▸aV.al _;have A:W.heap[w.heap.size]?=some (.cells #[.string name,.pointer sp,Iv cP,.slice so sl sc] 86 (0,0)):=m▸aQ _ _ _ rfl;have Q:=OJ F hn x _ W (h.below o) (bX.below hx o) hg;unfold BM at Q;have T:Hid (∀c i,Bl w c->i<S.bH.length->∃g cap,ev=Sl g S.bH.length cap/\S.bH.length<=cap/\c.cell? (Ad yb 2)=some (Sl g S.bH.length cap)/\c.cell? (Ad g (i*2))=some (Iv (S.bH.getD i (0,[])).1)):=λc i b hi=>by
  have H:=fH hi;obtain⟨g,cap,rfl,h1,Y⟩:=(h.below b).rows F H;exact⟨g,cap,rfl,h1,aD (h.below b).cell rfl,by rw[qB,H];exact(Y i _ H).1.1⟩
 have N:Hid (∀k,JP x cP S.bH a (k+1)=JP x cP S.bH a k++[Iv ((a+k:Nat)+1:Int),Iv (S.bH.getD (a+k) (0,[])).1,Iv cP,.bool (iU x S.bH (a+k))]):=λk=>Ig x cP S.bH a k;have K:Hid (JP x cP S.bH a 0=[]):=rfl;have G:Hid (∀c,Bl W c->c.cell? (Ad w.heap.size 1)=some (.pointer sp)/\c.cell? (Ad w.heap.size 2)=some (Iv cP)):=λc b=>⟨aD (b.aT A) rfl,aD (b.aT A) rfl⟩;have c1:=(G.out W aV).1;generalize Z:JP x cP S.bH a=R at*;go_enter func108,ntmps108;go_wp2_with fail;rw[<-m];apply Q.mono;rintro e D ⟨t,rfl,r,s⟩;obtain⟨I,X,rfl,a8,_,E⟩:=bT (lD r);have B:Hid (∀c i,Bl D c->i<S.bH.length->∃g,I=some (Ad g 0)/\c.cell? (Ad g i)=some (.bool (iU x S.bH i))):=λc i b hi=>by
  obtain⟨g,rfl,_,_,h4⟩:=E aA;exact⟨g,rfl,eR b (h4 i _ (by simp[xt,hi]))⟩
 have d:=o.tr s;generalize y:S.bH.length=len at*;go_wp2;go_loopw [9,8] (λM v wr=>∃k q:Nat,M=Iv ((q:Int)+1)/\q=a+k/\q<=len/\wr.ownsRow D.heap.size 199 4 v k (R k)/\Bl D wr) (λM _ _=>len+1-(intOf M).toNat)
 case atStart=>exact⟨0,a,rfl,aA,aA,by rw[K.out];exact fI _ _ _ _,aV⟩
 case round=>
  obtain⟨k,q,rfl,z,hk,f,b⟩:=hrel;by_cases hi:q<len
  .obtain⟨g,cap,rfl,V,c2,c0⟩:=T.out wr q (d.tr b) hi;obtain⟨tg,rfl,ct⟩:=B.out wr q b hi;have⟨p1,p2⟩:=G.out wr (s.tr b);have j:=N.out k;rw[<-z]at j;replace j:Hid _:=j;generalize(S.bH.getD q (0,[])).1=tm at*;generalize iU x S.bH q=sy at*;have hz:=b.size;have aa:k<=len:=aA;replace z:Hid _:=z;have a7:IntKind.i64.wrap (q:Int)=q:=qZ aA;go_wp2_with fail
   go_region_law (refine fW rfl (.tmp 21) (.tmp 40) 84 rfl D.heap.size 199 i0 _ 4 32 underlying84 XF nI nJ nS rfl aG _ k (R k) (by simp[Act.eval]) (f.drew.alloc _) (Ad wr.heap.size 0) 1 1 [Iv ((q:Int)+1),Iv tm,Iv cP,.bool sy] (by simp[Act.eval]) rfl (KX wr.drew _ _ _ _ _) (by intro u P;simp at P;rcases P with rfl|rfl|rfl|rfl<;>rfl) eP aA bI ?_;intro v' w2 l p a6)
   all_goals
    have J:=(b.drew.al _).grown p bI λk e=>(f.lt k e).1;go_wp2
    try go_big_round
    exact⟨⟨k+1,q+1,dV,by rw[z.out];omega,aA,by rw[j.out];exact l,J⟩,zm⟩
  .obtain rfl:q=len:=by omega
   obtain rfl:k=q-a:=aA;clear T B G N z;go_wp2_with fail;go_ret;exact⟨_,rfl,by rw[y];exact gY f d.size,d.tr b⟩
end
theorem yU(t){bH:aB nM}{q e}(h:bH[q]?=some e):ly t (bH.drop q)=if e.1<t then ly t (bH.drop (q+1))+1 else 0:=by
 obtain⟨a,rfl⟩:=eY.1 h;rw[pw a,ly]
section
variable{O:Nat->Prop}{S:f_}{n yb:Nat}{ev pv:aE}{C:aB CE}{L:aB CP}{w:aC}
theorem Ts(a:S.OK n)(x):qf S x<=S.bH.length:=by
 unfold qf;split
 .omega
 .have:=D5 ((S.bH.getD S.off (0,[])).1+bE x) (S.bH.drop S.off);rw[nZ]at this;obtain h|⟨_,h⟩:=a.last<;>omega
theorem xF(h:eT O S yb ev pv C L w)(D:S.OK n)(hn:n<=1000000000)(x)(Z:Good x)(K:bD x<=12)(hr:0<=bE x/\bE x<=100000)(sp)(N:bX 0 w x (.pointer sp))(name cP so sl sc):
  Calls prog 111 #[Pt yb,.agg #[.string name,.pointer sp,Iv cP,.slice so sl sc]] w λe H=>∃t,e=.returned t/\H.ownsRow w.heap.size 199 4 t (mr S x cP).length (lr (mr S x cP))/\Bl w H:=by
 have aa:=D.many;obtain⟨W,s⟩:∃W,W=w.alloc (.cells #[.string name,.pointer sp,Iv cP,.slice so sl sc] 86):=⟨_,rfl⟩;have J:Bl w W:=s▸aV.al _;have v:W.heap[w.heap.size]?=some (.cells #[.string name,.pointer sp,Iv cP,.slice so sl sc] 86 (0,0)):=s▸aQ _ _ _ rfl;have hC:=yq x (.pointer sp) 0 W (bX.below N J) Z aA;have M:=Ts D x;have F:Hid (qf S x=if S.off=0 then S.off else S.off+ly ((S.bH.getD S.off (0,[])).1+bE x) (S.bH.drop S.off)):=by show _=_;unfold qf;split<;>simp_all
 have u:Hid (∀c,Bl w c->Calls prog 108 #[Pt yb,.agg #[.string name,.pointer sp,Iv cP,.slice so sl sc],Iv ((qf S x:Int)+1)] c λe H=>∃t,e=.returned t/\H.ownsRow c.heap.size 199 4 t (mr S x cP).length (lr (mr S x cP))/\Bl c H):=λc j=>by
  have:=xG (h.below j) D hn x Z sp (bX.below N j) name cP so sl sc (qf S x) M;have y:(mr S x cP).length=S.bH.length-qf S x:=by simp[mr,Xc]
  rw[y];exact this
 obtain⟨o,bO,y,r,_⟩:=bT h.bH;rw[h.len]at y r;have T:Hid (∀c,Bl w c->c.cell? (Ad yb 2)=some (.slice o S.bH.length bO)/\c.cell? (Ad yb 3)=some (Iv ((S.off:Int)+1))):=λc j=>⟨by rw[<-y];exact aD (h.below j).cell rfl,aD (h.below j).cell rfl⟩;have A:Hid (∀c i e,Bl w c->S.bH[i]?=some e->∃g,o=some (Ad g 0)/\c.cell? (Ad g (i*2))=some (Iv e.1)/\0<=e.1/\e.1<=1000000000000):=λc i e j z=>by
  obtain⟨g,cap,Q,h1,h2⟩:=(h.below j).rows D z;rw[y]at Q;cases Q;exact⟨g,rfl,(h2 i e z).1⟩
 have I:Hid (S.off<S.bH.length\/S.off=0):=by rcases D.last with h|⟨_,h⟩<;>simp[h,Hid]
 have c1:W.cell? (Ad w.heap.size 1)=some (.pointer sp):=aD v rfl;have X:=hid λc (j:Bl W c)=>j.aT v;clear h N y;generalize qf S x=res at*;generalize mr S x cP=bk at*;generalize bE x=R at*;generalize a1:S.bH.length=len at*;go_enter func111,ntmps111;go_wp2_with fail;rw[<-s];refine hC.m λV E=>?_;have l:=J.tr E;obtain⟨Y,d3⟩:=T.out V l;clear hC c1 v;go_wp2_with fail;clear Y d3;go_loopw [6] (λU wr=>∃q:Nat,U=Iv ((q:Int)+1)/\q<=len/\Bl V wr/\Hid (res=if S.off=0 then q else q+ly ((S.bH.getD S.off (0,[])).1+R) (S.bH.drop q))) (λU _=>len+1-(intOf U).toNat)
 case atStart=>exact⟨S.off,rfl,by rcases I.out with h|h<;>omega,aV,F⟩
 case round=>
  obtain⟨q,rfl,hq,j,k⟩:=hrel;obtain⟨Y,d3⟩:=T.out wr (l.tr j);have m:=X.out wr (E.tr j);have p0:wr.cell? (Ad w.heap.size 0)=some (.string name):=aD m rfl;have p1:wr.cell? (Ad w.heap.size 1)=some (.pointer sp):=aD m rfl;have p2:wr.cell? (Ad w.heap.size 2)=some (Iv cP):=aD m rfl;have p3:wr.cell? (Ad w.heap.size 3)=some (.slice so sl sc):=aD m rfl;have a:=l.tr j;have ad:IntKind.i64.wrap (q:Int)=q:=qZ aA;clear m X T;by_cases a8:q<len
  .have b1:decide ((q:Int)+1<=(len:Int))=true:=jS aA;by_cases G:S.off=0
   .rw[bY G]at k;have b2:decide ((1:Int)<(S.off:Int)+1)=false:=j_ aA;rw[k.out]at u;clear k A F I G;generalize(S.off:Int)=f at*;go_wp2_with fail;go_quiet(fail);go_wp2_with fail;apply(u.out _ (a.tr (below_drewN _ _))).mono;rintro e w2 ⟨t,rfl,b,p⟩;go_wp2_with fail;go_ret;exact⟨_,rfl,gY b (a.tr (below_drewN _ _)).size,(a.tr (below_drewN _ _)).tr p⟩
   .rw[bN G]at k;have b2:decide ((1:Int)<(S.off:Int)+1)=true:=jS aA;have a7:S.off<len:=by rcases I.out with h|h<;>omega
    obtain⟨e,z⟩:∃e,S.bH[q]?=some e:=⟨_,fH aA⟩;obtain⟨d,K⟩:∃d,S.bH[S.off]?=some d:=⟨_,fH aA⟩;obtain⟨g,rfl,e0,y,Q⟩:=A.out wr q e a z;obtain⟨g',e3,d0,d1,d4⟩:=A.out wr S.off d a K;cases e3;rw[qB,K]at k;have ae:IntKind.i64.wrap (e.1-R)=e.1-R:=qZ aA;have a6:IntKind.i64.wrap (S.off:Int)=S.off:=qZ aA;by_cases B:e.1-R<d.1
    .have b3:decide (e.1-R<d.1)=true:=jS B;have HN:Hid (res=if S.off=0 then q+1 else q+1+ly ((S.bH.getD S.off (0,[])).1+R) (S.bH.drop (q+1))):=by
      show _=_;rw[bN G,qB,K,k.out,yU _ z,bY (by show e.1<d.1+R;omega)];simp only[fD];omega
     clear k A F u;go_wp2_with fail;go_quiet(fail);go_wp2_with fail
     try go_big_round
     exact⟨⟨q+1,dV,aA,j.tr (below_drewN _ _),HN⟩,zm⟩
    .have b3:decide (e.1-R<d.1)=false:=j_ B;rw[yU _ z,bN (by show¬e.1<d.1+R;omega)]at k;rw[k.out,FE]at u;clear k A F I G;generalize S.off=f at*;go_wp2_with fail;go_quiet(fail);go_wp2_with fail;apply(u.out _ (a.tr (below_drewN _ _))).mono;rintro e w2 ⟨t,rfl,b,p⟩;go_wp2_with fail;go_ret;exact⟨_,rfl,gY b (a.tr (below_drewN _ _)).size,(a.tr (below_drewN _ _)).tr p⟩
  .obtain rfl:q=len:=by omega
   have b1:decide ((q:Int)+1<=(q:Int))=false:=j_ aA;have P:res=q:=by rw[k.out,ux aA];simp[ly]
   rw[P]at u;clear k A F I;generalize(S.off:Int)=f at*;go_wp2_with fail;go_quiet(fail);go_wp2_with fail;apply(u.out _ (a.tr (below_drewN _ _))).mono;rintro e w2 ⟨t,rfl,b,p⟩;go_wp2;go_ret;exact⟨_,rfl,gY b (a.tr (below_drewN _ _)).size,(a.tr (below_drewN _ _)).tr p⟩
end
end Ev
end Go.Proofs.YtpbbmagjhkakgaaGreatDoor
