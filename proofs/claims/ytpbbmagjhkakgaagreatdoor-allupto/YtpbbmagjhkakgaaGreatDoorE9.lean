import Derived.Test.YtpbbmagjhkakgaaGreatDoorE6
import Derived.Test.YtpbbmagjhkakgaaGreatDoorE7
namespace Go.Proofs.YtpbbmagjhkakgaaGreatDoor
set_option maxHeartbeats 8000000
set_option maxRecDepth 100000
namespace Ev
open Go.Proofs.Tryz Go.RowKit Go.Deep Go.Maps Lf Go.Conc
def V(w0:aC)(wb q m:Nat)(As:aB (Nat×Nat×Nat))(w:aC):Prop:=∃T Ms n E,cH w0 wb T Ms n E m w/\(∀x∈Ms,x.S=x.R)/\n<=q/\Ms.map Mo.UQ=As
def zeroV(k:Int)(s:aZ):aF:=gV k 0 0 0 s ⟨#[]⟩ (.slice none 0 0)
section
variable{w0 w w':aC}{wb q m i:Nat}{As:aB (Nat×Nat×Nat)}{ad:Nat×Nat×Nat}
theorem U.v(h:U w0 wb q m w):∃As,V w0 wb q m As w/\As.length<=m:=by
 let⟨T,Ms,n,E,h1,h2,h3⟩:=h;exact⟨_,⟨T,Ms,n,E,h1,h2,h3,rfl⟩,by simpa using h1.few⟩
theorem V.u(h:V w0 wb q m As w):U w0 wb q m w:=by
 let⟨T,Ms,n,E,h1,h2,h3,_⟩:=h;exact⟨T,Ms,n,E,h1,h2,h3⟩
theorem V.mono{a:Nat}(h:V w0 wb q m As w)(b:q<=a):V w0 wb a m As w:=by
 let⟨T,Ms,n,E,h1,h2,h3,h4⟩:=h;exact⟨T,Ms,n,E,h1,h2,gC h3 b,h4⟩
theorem V.watch(h:V w0 wb q m As w)(hi:As[i]?=some ad)(g:m<=1000000)(s:q<=200000000000)(k:Int)(b:k=10\/k=11\/k=13):Calls prog 36 #[.pointer (some ⟨wb,0,none⟩),.pointer (some ⟨ad.1,0,none⟩),zeroV k ⟨#[]⟩] w λe w'=>e=.returned (.bool true)/\V w0 wb (q+1) m As w':=by
 obtain⟨T,Ms,n,E,o,a,r,rfl⟩:=h;rw[kY]at hi;obtain⟨x,j,rfl⟩:=na.1 hi;apply(Hk o a j g aA k 0 0 0 b ⟨#[]⟩ ⟨#[]⟩ _).mono;rintro e w' ⟨d,f,l,c,t,p⟩;exact⟨d,f,Ms,l,c,p,a,aA,rfl⟩
theorem V.stream(h:V w0 wb q m As w)(hi:As[i]?=some ad)(l:dW w0)(a:dG w0)(j:14<=w0.heap.size)(k:m<1000000)(y:q<=200000000000)(s:aZ)(t:s.size<=2000000):Calls prog 37 #[.pointer (some ⟨wb,0,none⟩),.pointer (some ⟨ad.1,0,none⟩),zeroV 8 s] w λe w'=>e=.returned (.bool true)/\V w0 wb (q+1) m As w':=by
 obtain⟨T,Ms,n,E,r,p,z,rfl⟩:=h;rw[kY]at hi;obtain⟨x,u,rfl⟩:=na.1 hi;apply(zn r p u l a j k aA 8 0 0 0 s ⟨#[]⟩ _ t aG).mono;rintro e w' ⟨d,g,b,c,o,v,f⟩;exact⟨d,g,b,_,c,o,v,aA,f⟩
theorem V.cells(h:V w0 wb q m As w):∃d bS,w.cell? ⟨wb,0,none⟩=some (.slice d As.length bS)/\As.length<=m/\∀(i:Nat) ad,As[i]?=some ad->∃g,d=some ⟨g,0,none⟩/\w.cell? ⟨g,i,none⟩=some (.pointer (some ⟨ad.1,0,none⟩))/\w.cell? ⟨ad.1,1,none⟩=some (.pointer (some ⟨ad.2.2,0,none⟩))/\∃o f c,w.cell? ⟨ad.2.2,4,none⟩=some (.slice o f c)/\f<=8/\∀j,j<f->∃a nm,o=some ⟨a,0,none⟩/\w.cell? ⟨a,j*4,none⟩=some (.string nm)/\nm.size<=2000000:=by
 obtain⟨T,Ms,n,E,b,v,y,rfl⟩:=h;let⟨lT,⟨kv,hX⟩,Za,_⟩:=(b.part 0).1 rfl;obtain⟨d,bS,rfl,_,_,t⟩:=bT Za;refine⟨d,bS,by rw[ux];exact aD hX.cell rfl,by simpa using b.few,λi ad hi=>?_⟩;rw[kY]at hi;obtain⟨x,e,rfl⟩:=na.1 hi;let s:=(e_.1 e).1;let⟨g,e1,_,_,SV⟩:=t aA;let⟨⟨ev,pv,C,L,hR⟩,hS⟩:=((b.part (2*i+2)).2 i x e).2 rfl;obtain⟨o,c,rfl,_,_,r⟩:=bT hR.aU;let u:L.length=x.R.aU.length:=by rw[<-hR.hL,ux]
 refine⟨g,e1,SV i _ (by simp[Le,e,Mo.UQ]),aD (b.pair x (iA e)) rfl,o,L.length,c,aD hR.cell rfl,by have:=hS.few;omega,λj l=>?_⟩;let⟨a,e2,_,_,hc2⟩:=r aA;refine⟨a,L[j].1.name,e2,hc2 _ _ (jx (k:=0) (fG l) rfl),?_⟩;let p:=(hS.each _ (hR.hL▸List.mem_map_of_mem (w_ l))).1;unfold iY at p;simp only[sB,oX]at p;omega
end
noncomputable def lJ:Code:=f12.body.getD .skip
noncomputable def nJ:Code:=match lJ with
 |.seq _ (.seq _ (.seq _ (.seq _ (.seq (.seq _ (.block _ (.loop x))) _))))=>x
 |_=>.skip
noncomputable def UR:Code:=match nJ with
 |.seq x _=>x
 |_=>.skip
noncomputable def O9:aY Oper:=match nJ with
 |.seq _ (.seq (.block _ (.seq (.region _ x _) _)) _)=>x
 |_=>#[]
noncomputable def t12:Code:=match nJ with
 |.seq _ (.seq (.block _ (.seq _ x)) _)=>x
 |_=>.skip
noncomputable def n12:Code:=match nJ with
 |.seq _ (.seq _ x)=>x
 |_=>.skip
theorem Qu:nJ=.seq UR (.seq (.block 1 (.seq (.region 8 O9 false) t12)) n12):=rfl
theorem Wh:iJ O9 5=true:=aM
theorem tJ{A:Act}{l:aB (Nat×aF)}(h:Fx 103 l A):∃u:Nat->aF,(∀j v,look l j=some v->u j=v)/\A=⟨#[u 0,u 1,u 2,u 3,u 4,u 5,u 6,u 7,u 8,u 9,u 10,u 11,u 12,u 13,u 14,u 15,u 16,u 17,u 18,u 19,u 20,u 21,u 22,u 23,u 24,u 25,u 26,u 27,u 28,u 29,u 30,u 31,u 32,u 33,u 34,u 35,u 36,u 37,u 38,u 39,u 40,u 41,u 42,u 43,u 44,u 45,u 46,u 47,u 48,u 49,u 50,u 51,u 52,u 53,u 54,u 55,u 56,u 57,u 58,u 59,u 60,u 61,u 62,u 63,u 64,u 65,u 66,u 67,u 68,u 69,u 70,u 71,u 72,u 73,u 74,u 75,u 76,u 77,u 78,u 79,u 80,u 81,u 82,u 83,u 84,u 85,u 86,u 87,u 88,u 89,u 90,u 91,u 92,u 93,u 94,u 95,u 96,u 97,u 98,u 99,u 100,u 101,u 102],[]⟩:=by
 have⟨KB,hd,hg⟩:=h;refine⟨λj=>A.tmps.getD j undef,λj v h=>by show A.tmps.getD j undef=v;rw[Ma,hg j v h];rfl,?_⟩;have e:=C4 A.tmps 103 KB;have⟨t,d⟩:=A;simp only at*;subst hd;rw[Act.mk.injEq];exact⟨e.trans rfl,rfl⟩
section
variable(px:aQ a_)(len cap wb i:Nat)
def Fh:aB (Nat×aF):=[(0,.slice px len cap),(4,.pointer (some ⟨wb,0,none⟩)),(5,.int .i64 i)]
variable{w0 w:aC}{q m:Nat}{As:aB (Nat×Nat×Nat)}{A:Act}(J:Act->aC->Prop)
theorem Ye(hA:Fx 103 ((3,.bool true)::Fh px len cap wb i) A)(D:V w0 wb q m As w)(hg:dW w0)(G:dG w0)(h7:14<=w0.heap.size)(hm:m<1000000)(hq:q+11*As.length<=199999999999)(z:∀Q f,Fx 103 (Fh px len cap wb i) Q->V w0 wb (q+11*As.length) m As f->J Q f):t12.wp prog (λe a' f=>e=.normal/\J a' f) A w:=by
 have H:=hid λW p (h:V w0 wb p m As W)=>h.cells;have I:=hid λ(k:Int) W p (i:Nat) b (B:(k=10\/k=11\/k=13)) (M:p<=q+11*As.length) (hi:As[i]?=some b) (h:V w0 wb p m As W)=>h.watch hi aA aA k B;have HS:=hid λW p (i:Nat) b (s:aZ) (M:p<=q+11*As.length) (hi:As[i]?=some b) (hs:s.size<=2000000) (h:V w0 wb p m As W)=>h.stream hi hg G h7 hm aA s hs;have Z:Hid (∀W,V w0 wb (q+11*As.length) m As W->Calls prog 38 #[.pointer (some ⟨wb,0,none⟩)] W λe f=>e=.returned (.bool true)/\V w0 wb (q+11*As.length) m As f):=λW h=>by
  have⟨T,Ms,n,E,h1,h2,h3,h4⟩:=h;have⟨lT,⟨y,hX⟩,_⟩:=(h1.part 0).1 rfl;refine(Np hX (by have:=h1.nD.1;omega) λe Y=>by have:=h1.nD.2 e Y;omega).mono ?_;rintro e f ⟨U,X⟩;exact⟨U,T,Ms,n,E,h1.still (aI.aR X),h2,h3,h4⟩
 have N:∀k,k<As.length->∃b,As[k]?=some b:=λk B=>⟨_,fG B⟩;replace D:Hid (V w0 wb (q+11*0) m As w):=D;replace z:Hid _:=z;have a1:As.length<=m:=by obtain⟨_,_,_,h,_⟩:=H.out _ _ D.out;exact h
 obtain⟨u,C,rfl⟩:=tJ hA;simp only[C 0 _ rfl,C 3 _ rfl,C 4 _ rfl,C 5 _ rfl];generalize a6:As.length=F at*;simp only[t12,nJ,lJ,f12,ig];go_wp2;go_loopw [6] (λy wr=>∃k:Nat,y=.int .i64 k/\k<=F/\Hid (V w0 wb (q+11*k) m As wr)) (λy _=>F-(intOf y).toNat)
 case atStart=>exact⟨0,rfl,cD,D⟩
 case round=>
  obtain⟨k,rfl,B,d⟩:=hrel;have⟨po,bS,c0,_,hc⟩:=H.out _ _ d.out;by_cases x:k<F
  .have⟨b,had⟩:=N k x;obtain⟨g,rfl,cx,_⟩:=hc k b had;go_wp2_with fail;refine(I.out 10 wr _ k b (.inl rfl) aA had d.out).m λR a=>?_;replace a:Hid _:=a;go_wp2_with fail;refine(I.out 11 R _ k b (.inr (.inl rfl)) aA had a.out).m λS t=>?_;replace t:Hid _:=t;go_wp2_with fail;refine(I.out 13 S _ k b (.inr (.inr rfl)) aA had t.out).m λw3 l=>?_;replace l:Hid (V w0 wb (q+11*k+3+0) m As w3):=l;go_wp2;go_loopw [11] (λP wq=>∃j:Nat,P=.int .i64 j/\j<=8/\Hid (V w0 wb (q+11*k+3+j) m As wq)) (λP _=>8-(intOf P).toNat)
   case atStart=>exact⟨0,rfl,cD,l⟩
   case round=>
    obtain⟨j,rfl,hj,r⟩:=hrel;have⟨_,_,_,_,hc⟩:=H.out _ _ r.out;have⟨_,_,_,cy,o,np,c,cp,hnp,hnm⟩:=hc k b had;by_cases K:j<np
    .obtain⟨g2,nm,rfl,cn,O⟩:=hnm j K;go_wp2_with fail;refine(HS.out wr _ k b nm aA had O r.out).m λw4 v=>?_;replace v:Hid _:=v;go_wp2
     try go_big_round
     exact⟨⟨j+1,dU,aA,v⟩,zm⟩
    .have L:Hid (V w0 wb (q+11*(k+1)) m As wr):=r.out.mono aA;go_wp2
     try go_big_round
     exact⟨⟨k+1,dU,x,L⟩,zm⟩
  .obtain rfl:F=k:=by omega
   go_wp2_with fail;refine(Z.out wr d.out).m λR a=>?_;replace a:Hid _:=a;go_wp2_with fail
   first|refine z.out _ _ (pX rfl rfl ?_) a.out|refine⟨rfl,z.out _ _ (pX rfl rfl ?_) a.out⟩
   simp only[Fh,qu,iW,uu,uv,oD];exact⟨rfl,rfl,rfl⟩
end
noncomputable def a12:Code:=match lJ with
 |.seq x _=>x
 |_=>.skip
noncomputable def Em:aY Oper:=match lJ with
 |.seq _ (.seq (.region _ x _) _)=>x
 |_=>#[]
noncomputable def Xt:aB Code:=match lJ with
 |.seq _ (.seq _ (.seq x (.seq y _)))=>[x,y]
 |_=>[]
noncomputable def r12:Code:=match lJ with
 |.seq _ (.seq _ (.seq _ (.seq _ (.seq (.seq x _) _))))=>x
 |_=>.skip
noncomputable def z12:Code:=match lJ with
 |.seq _ (.seq _ (.seq _ (.seq _ (.seq _ x))))=>x
 |_=>.skip
theorem PW:f12.body=some (uo [a12] (.seq (.region 1 Em false) (uo Xt (.seq (.seq r12 (.block 0 (.loop nJ))) z12)))):=rfl
def JB(w0:aC)(e:Ending)(a:aC):Prop:=e=.returned (.bool true)/\aI (λb=>w0.heap.size<=b) w0 a
theorem JB.re{w0:aC}(e:Ending)(w':aC)(a:Tape)(d:Nat)(h:JB w0 e w'):JB w0 e (re w' a d):=⟨h.1,h.2.jT a d⟩
section
variable(px:aQ a_)(len cap wb i:Nat)
def RR:aB (Nat×aF):=[(0,.slice px len cap)]
variable{A:Act}{w:aC}(J:Act->aC->Prop)
set_option maxRecDepth 100000
set_option maxHeartbeats 4000000
theorem XG(hi:i<len)(_:len<=1000000)(d:Fx 103 (Fh px len cap wb i) A)(b:∀c,Fx 103 (Fh px len cap wb i) c->J c w):qo prog [UR] J A w:=by
 replace b:Hid _:=b;obtain⟨u,a,rfl⟩:=tJ d;simp only[a 0 _ rfl,a 4 _ rfl,a 5 _ rfl];unfold qo;simp only[UR,nJ,lJ,f12,ig];go_wp2
 try refine⟨rfl,?_⟩
 unfold qo;refine b.out _ (pX rfl rfl ?_);simp only[Fh,qu,iW,uu,uv,oD];exact⟨rfl,rfl,rfl⟩
theorem Xx(_:len<=1000000)(d:Fx 103 (Fh px len cap wb len) A)(a:∀c,Fx 103 (Fh px len cap wb len) c->J c w):nJ.wp prog (λe g f=>e=.exit 0/\J g f) A w:=by
 replace a:Hid _:=a;obtain⟨u,b,rfl⟩:=tJ d;simp only[b 0 _ rfl,b 4 _ rfl,b 5 _ rfl];simp only[nJ,lJ,f12,ig];go_wp2_with fail
 first|refine a.out _ (pX rfl rfl ?_)|refine⟨rfl,a.out _ (pX rfl rfl ?_)⟩
 simp only[Fh,qu,iW,uu,uv,oD];exact⟨rfl,rfl,rfl⟩
theorem XW(_:i<=1000000)(d:Fx 103 (Fh px len cap wb i) A)(a:∀c,Fx 103 (Fh px len cap wb (i+1)) c->J c w):n12.wp prog (λe g f=>e=.normal/\J g f) A w:=by
 replace a:Hid _:=a;obtain⟨u,b,rfl⟩:=tJ d;simp only[b 0 _ rfl,b 4 _ rfl,b 5 _ rfl];simp only[n12,nJ,lJ,f12,ig];go_wp2_with fail
 first|refine a.out _ (pX rfl rfl ?_)|refine⟨rfl,a.out _ (pX rfl rfl ?_)⟩
 simp only[Fh,qu,iW,uu,uv,oD];exact⟨rfl,rfl,rfl⟩
def YB(b a:Nat)(sv:aF):aB (Nat×aF):=[(24,.pointer (some ⟨wb,0,none⟩)),(25,.slice (some ⟨b,a,none⟩) len cap),(26,.int .i64 i),(27,.pointer (some ⟨b,a+i*7,none⟩)),(28,sv)]
theorem Nu(a b:Nat)(x:rp)(hi:i<len)(l:∀j u,(nO x)[j]?=some u->w.cell? ⟨a,b+i*7+j,none⟩=some u)(q:aQ a_)(n s:Nat)(f:x.lv=.slice q n s)(j:Nat)(o:Oper)(p:Nat×aF)(g:O9[j]?=some o)(k:(YB len cap wb i a b (gV x.k x.a x.nn x.mm x.s x.t x.lv))[j]?=some p)(A:Act)(c:Fx 103 ((YB len cap wb i a b (gV x.k x.a x.nn x.mm x.s x.t x.lv)).reverse++Fh (some ⟨a,b,none⟩) len cap wb i) A):
  look ((YB len cap wb i a b (gV x.k x.a x.nn x.mm x.s x.t x.lv)).reverse++Fh (some ⟨a,b,none⟩) len cap wb i) p.1=some p.2/\∀d e,(execOp A.eval o).run prog (re w d e)=.ok (.value p.2) (re w d e):=by
 have m:j<5:=(e_.1 k).1;have D:A.tmps[0]?=some (.slice (some ⟨a,b,none⟩) len cap):=c.get _ _ rfl;have C:A.tmps[4]?=some (.pointer (some ⟨wb,0,none⟩)):=c.get _ _ rfl;have E:A.tmps[5]?=some (.int .i64 i):=c.get _ _ rfl;have t:A.tmps[25]?=some (.slice (some ⟨a,b,none⟩) len cap):=c.get _ _ rfl;have y:A.tmps[26]?=some (.int .i64 i):=c.get _ _ rfl;have r:A.tmps[27]?=some (.pointer (some ⟨a,b+i*7,none⟩)):=c.get _ _ rfl;have h:j=0\/j=1\/j=2\/j=3\/j=4:=aA;simp only[O9,nJ,lJ,f12,ig]at g;rcases h with rfl|rfl|rfl|rfl|rfl<;>cases k<;>simp only[List.getElem?_toArray,Pr,LY,Jt]at g<;>subst g<;>refine⟨rfl,λd e=>?_⟩
 all_goals have MY:∀j u,(nO x)[j]?=some u->(re w d e).cell? ⟨a,b+i*7+j,none⟩=some u:=l
 all_goals generalize re w d e=W at*
 all_goals have d0:W.cell? ⟨a,b+i*7,none⟩=some (.int .i64 x.k):=MY 0 _ rfl
 all_goals have G:=MY 1 _ rfl
 all_goals have z:=MY 2 _ rfl
 all_goals have F:=MY 3 _ rfl
 all_goals have B:=MY 4 _ rfl
 all_goals have H:=MY 5 _ rfl
 all_goals have v:=MY 6 _ rfl
 all_goals rw[f]at v
 all_goals clear c l MY m
 all_goals unfold execOp
 all_goals try(unfold gV;rw[f])
 all_goals go_simp
theorem Xs(a:∀b,Fx 103 (RR px len cap) b->J b w):qo prog [a12] J ⟨#[.slice px len cap]++Array.replicate 102 undef,[]⟩ w:=by
 replace a:Hid _:=a;simp only[a12,lJ,f12,ig,ye,yf,yi,yh,jW,mz];unfold qo;go_wp2
 try refine⟨rfl,?_⟩
 unfold qo;refine a.out _ (pX rfl rfl ?_);simp only[RR,qu,iW,uu,uv,oD];exact rfl
theorem Xu(d:Fx 103 ((3,.bool true)::RR px len cap) A)(a:∀c,Fx 103 ((4,.pointer (some ⟨w.heap.size,0,none⟩))::RR px len cap) c->J c (w.alloc (.cells #[.slice none 0 0,.int .i64 0,.slice none 0 0] 70 (0,0)))):qo prog Xt J A w:=by
 replace a:Hid _:=a;obtain⟨u,b,rfl⟩:=tJ d;simp only[b 0 _ rfl,b 3 _ rfl];simp only[Xt,lJ,f12,ig];unfold qo;go_wp2
 try refine⟨rfl,?_⟩
 unfold qo;go_wp2
 try refine⟨rfl,?_⟩
 unfold qo;refine a.out _ (pX rfl rfl ?_);simp only[RR,qu,iW,uu,uv,oD];exact⟨rfl,rfl⟩
theorem X9(wb:Nat)(d:Fx 103 ((4,.pointer (some ⟨wb,0,none⟩))::RR px len cap) A)(a:∀c,Fx 103 (Fh px len cap wb 0) c->J c w):qo prog [r12] J A w:=by
 replace a:Hid _:=a;obtain⟨u,b,rfl⟩:=tJ d;simp only[b 0 _ rfl,b 4 _ rfl];simp only[r12,lJ,f12,ig];unfold qo;go_wp2
 try refine⟨rfl,?_⟩
 unfold qo;refine a.out _ (pX rfl rfl ?_);simp only[Fh,qu,iW,uu,uv,oD];exact⟨rfl,rfl,rfl⟩
theorem Yo{l:aB (Nat×aF)}{w0:aC}(a:Fx 103 l A)(h:aI (λb=>w0.heap.size<=b) w0 w):z12.wp prog (bodyPost prog f12 (JB w0)) A w:=by
 obtain⟨u,_,rfl⟩:=tJ a;simp only[z12,lJ,f12,ig];go_wp2;go_ret;exact⟨rfl,h⟩
end
def Mc(w0:aC)(px:aQ a_)(len cap wb i:Nat)(A:Act)(w:aC):Prop:=Fx 103 (Fh px len cap wb i) A/\U w0 wb (1441793*i) i w
theorem Mc.re{w0:aC}{px:aQ a_}{len cap wb i:Nat}(A:Act)(w:aC)(a:Tape)(d:Nat)(h:Mc w0 px len cap wb i A w):Mc w0 px len cap wb i A (re w a d):=⟨h.1,h.2.re a d⟩
section
variable{w0 w:aC}{S:aB rp}{px:aQ a_}{cap wb i:Nat}{A:Act}
theorem V_(y:∀i x,S[i]?=some x->Gb w0 x/\∃c g,px=some ⟨c,g,none⟩/\c<w0.heap.size/\∀j u,(nO x)[j]?=some u->w0.cell? ⟨c,g+i*7+j,none⟩=some u)(H:S.length<=131072)(G:dW w0)(p:dG w0)(F:14<=w0.heap.size)(hi:i<S.length)(h:Mc w0 px S.length cap wb i A w):
  gX prog nJ (λe o b=>e=.normal/\Mc w0 px S.length cap wb (i+1) o b) A w:=by
 obtain⟨t,c,g,rfl,r,k⟩:=y i _ (fG hi);generalize S[i]=x at*;have⟨pL,cL,hlv,_⟩:=nI t.1.L;rw[Qu];refine gX.pieces bE [UR] (Mc w0 (some ⟨c,g,none⟩) S.length cap wb i) Mc.re (λf d=>XG _ _ _ _ _ _ hi aA h.1 λl s=>⟨s,h.2.re f d⟩) λA L B=>?_;have I:∀A b,Fx 103 (Fh (some ⟨c,g,none⟩) S.length cap wb i) A/\U w0 wb (1441793*(i+1)) (i+1) b->gX prog n12 (λe o b=>e=.normal/\Mc w0 (some ⟨c,g,none⟩) S.length cap wb (i+1) o b) A b:=λA b h=>
  gX.of_wp bE (λe a w f d x=>⟨x.1,Mc.re _ _ f d x.2⟩) (λa w x=>by cases x.1) λf d=>XW _ _ _ _ _ _ aA h.1 λl s=>⟨s,h.2.re f d⟩
 refine gX.seq bE (gX.block bE (λ_ _ f d h=>gX.re h f d) ?_);refine gX.seq' bE (λl b=>Fx 103 ((3,.bool true)::Fh (some ⟨c,g,none⟩) S.length cap wb i) l/\U w0 wb (1441793*i+1) (i+1) b) ((gX.zF (J:=λl b=>Fx 103 ((3,.bool true)::Fh (some ⟨c,g,none⟩) S.length cap wb i) l/\U w0 wb (1441793*i+1) (i+1) b) (n:=5) (m:=YB S.length cap wb i c g (gV x.k x.a x.nn x.mm x.s x.t x.lv)) (q:=3) (d:=29) rfl B.1 rfl (by simp[YB]) Wh (λj D=>?_) (Nu S.length cap wb i c g x hi (λj u D=>(fT (a:=⟨c,g+i*7+j,none⟩) (B.2.base.block c r (xp.2 r))).trans (k j u D)) pL x.L.length cL hlv) ⟨_,rfl,rfl,rfl,rfl⟩ func35 rfl rfl rfl aG (B.2.step G p F aA aA x t) (λe b h=>⟨_,h.1⟩) ⟨_,rfl,rfl,rfl,rfl⟩ aG ?_).mono ?_) ?_
 .have h:j=0\/j=1\/j=2\/j=3\/j=4:=by omega
  obtain rfl|rfl|rfl|rfl|rfl:=h<;>rfl
 .rintro o v b E t f d;cases E.1;refine⟨t.less ?_,E.2.re f d⟩;simp only[Fh,qu,iW,uu,uv,oD];exact⟨rfl,rfl,rfl,rfl⟩
 .rintro e A b ⟨rfl,h⟩;exact h
 .rintro A M ⟨s,K⟩;refine(gX.of_wp bE (Q:=λe o b=>e=.normal/\Fx 103 (Fh (some ⟨c,g,none⟩) S.length cap wb i) o/\U w0 wb (1441793*(i+1)) (i+1) b) (λe a w f d x=>⟨x.1,x.2.1,x.2.2.re f d⟩) (λa w x=>by cases x.1) λf d=>?_).mono ?_
  .have⟨As,hV,hl⟩:=(K.re f d).v;exact Ye _ _ _ _ _ _ s hV G p F aA aA λl b C z=>⟨C,z.u.mono aA aX⟩
  .rintro e A b ⟨rfl,h⟩;exact I A b h
end
theorem U_{w:aC}(S:aB rp)(v:aF)(T:OB w S v)(o:S.length<=131072)(E:dW w)(j:dG w)(C:14<=w.heap.size):
  dI prog 12 #[v] w (JB w):=by
 obtain⟨px,cap,rfl,r⟩:=T;apply dI.I2 bE JB.re func12 PW;refine gX.pieces bE [a12] (λA w'=>Fx 103 (RR px S.length cap) A/\∃f d,w'=re w f d) (λA w' f d h=>⟨h.1,f,d,by obtain⟨_,_,rfl⟩:=h.2;rfl⟩) (λf d=>Xs px S.length cap _ λq g=>⟨g,f,d,rfl⟩) ?_;rintro A w1 ⟨g,f,d,rfl⟩;obtain⟨Y,F,d0,K,P⟩:Cw Em 0 13 (.call {callee:=.value (.func 34),args:=#[.const (.int .i64 13)],argTypes:=#[3]}):=⟨_,rfl,rfl,rfl,rfl⟩;obtain⟨Z,G,R,M,I⟩:Cw Em 1 3 (.assign (.tmp 13)):=⟨_,rfl,rfl,rfl,rfl⟩;refine gX.seq' bE (λA w'=>Fx 103 ((3,.bool true)::RR px S.length cap) A/\aI (λb=>w.heap.size<=b) w w') ((?_:gX prog (.region 1 Em false) (λe A w'=>e=.normal/\Fx 103 ((3,.bool true)::RR px S.length cap) A/\aI (λb=>w.heap.size<=b) w w') _ _).mono ?_) ?_
 .refine gX.region bE ?_;show kx prog Em _ [0,1] _ _;refine kx.call bE F (by simp[Region.wanted,P]) (λf d=>?_) (dI.re (Vr (last:=13) aG E j C) f d) (λc w' h=>by cases h.1) (λw' h=>by cases h.1) λu y z=>?_
  .rw[run_call_body K func34 rfl rfl,F9];rfl
  cases z.1;rw[d0];let k:=g.put (d:=13) aG (.bool true);refine kx.val bE G I R (λ_ _ _ _ _ h=>by cases h.1) (λ⟨_,_,h,_⟩=>by cases h) (v:=.bool true) (w':=y) (λf e=>?_) (kx.nil bE λf d=>⟨rfl,(k.put aG _).less ?_,z.2.jT f d⟩)
  .unfold execOp;simp only[M,k.ev (x:=.tmp 13) (v:=.bool true) rfl];rfl
  .simp only[RR,qu,iW,uu,uv,oD];exact⟨rfl,rfl⟩
 .rintro e A w' ⟨rfl,h⟩;exact h
 rintro A y ⟨g,s⟩;apply gX.pieces bE Xt (λA w'=>∃wb,Fx 103 ((4,.pointer (some ⟨wb,0,none⟩))::RR px S.length cap) A/\U w wb 0 0 w') (λA w' f d ⟨wb,O,N⟩=>⟨wb,O,N.re f d⟩) λf d=>Xu px S.length cap _ g λq g=>⟨_,g,U.start (s.jT f d)⟩;rintro A W ⟨wb,g,H⟩;refine gX.seq' bE (λA w'=>∃l,Fx 103 l A/\aI (λb=>w.heap.size<=b) w w') (gX.pieces bE [r12] (Mc w px S.length cap wb 0) Mc.re (λf d=>X9 px S.length cap _ wb g λq g=>⟨g,H.re f d⟩) λA X V=>?_) ?_
 .refine(gX.PV bE (λn A w'=>∃i:Nat,n=S.length-i/\i<=S.length/\Mc w px S.length cap wb i A w') (Mc w px S.length cap wb S.length) Mc.re S.length ⟨0,rfl,cD,V⟩ ?_).mono ?_
  .rintro n A D ⟨i,rfl,hi,t⟩;by_cases m:i<S.length
   .refine(V_ r o E j C m t).mono ?_;rintro e A L ⟨rfl,p⟩;exact .inl ⟨rfl,S.length-(i+1),aA,i+1,rfl,m,p⟩
   .obtain rfl:i=S.length:=by omega
    apply(gX.of_wp bE (Q:=λe J w'=>e=.exit 0/\Mc w px S.length cap wb S.length J w') (λe a w f d x=>⟨x.1,Mc.re _ _ f d x.2⟩) (λa w x=>by cases x.1) λf d=>Xx px S.length cap wb _ aA t.1 λq g=>⟨g,t.2.re f d⟩).mono;rintro e A L ⟨rfl,p⟩;exact .inr ⟨rfl,p⟩
  .rintro e A D ⟨rfl,B⟩;exact⟨_,B.1,B.2.base⟩
 .rintro A D ⟨l,g,s⟩;exact gX.of_wp bE (uK JB.re) (λa w h=>by cases h.1) λf d=>Yo g (s.jT f d)
end Ev
end Go.Proofs.YtpbbmagjhkakgaaGreatDoor
