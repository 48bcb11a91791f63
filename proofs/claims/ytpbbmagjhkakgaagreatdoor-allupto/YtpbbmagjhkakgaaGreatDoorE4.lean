import Derived.Test.YtpbbmagjhkakgaaGreatDoorE2
namespace Go.Proofs.YtpbbmagjhkakgaaGreatDoor
set_option maxHeartbeats 8000000
set_option maxRecDepth 100000
namespace Ev
open Go.Proofs.Tryz Go.RowKit Go.Deep Go.Maps Lf
theorem NF{ret room mb aW B w}(h:JS ret room=true)(D:w.heap[mb]?=some (.cells #[Pt aW] 104 (0,0)))(hw:w.heap[aW]?=some (.cells #[Iv ret,Iv room,.slice none 0 0,.slice none 0 0,.slice none 0 0] 153 (0,0)))(z:B<=aW):
  lH (λb=>B<=b) (kF ret room) mb w:=by
 let h:=Fe h;refine⟨⟨aW,none,0,none,0,[],[],none,0,[],[],[]⟩,?_⟩;let g:∀{m:Type}{j:Nat}{a:m},([]:aB m)[j]?≠some a:=λh=>by simp at h
 let f:∀{m:Type}{a:m},a∉([]:aB m):=λh=>by simp at h
 refine{watch:=?_,q8:=⟨rfl,trivial,λj c A=>(g A).elim⟩,perm:=List.Perm.nil,sorted:=List.Pairwise.nil,aU:=⟨rfl,λj u p s d=>(g d).elim⟩,jr:=⟨rfl,λj p x d=>(g d).elim,λx v=>(f v).elim⟩,node:=λj p d=>(g d).elim,own:=⟨z,λa n=>(nomatch n),λs r=>(f r).elim,λc l=>(f l).elim⟩,vz:=D};exact{cell:=hw,bH:=fF _ _ _ _,len:=rfl,ins:=λi c e d=>(g d).elim,typed:=λc l=>(f l).elim,few:=cD,ret:=⟨h.1,by show ret<=_;omega⟩,TF:=λc l=>(nomatch l),TD:=cD,Zt:=aX,nodes:=λq=>absurd rfl q,kV:=λa n=>(nomatch n),core:=λk o=>(f o).elim,ahead:=λi k o=>(g o).elim,rows:=λe y=>(f y).elim,aU:=.inl ⟨rfl,rfl,rfl⟩,vL:=cD,Zw:=aX,mS:=rfl,zp:=λi s p d=>(g d).elim,EI:=λs r=>(f r).elim,apart:=λi j s t d=>(g d).elim,GI:=λp C=>(f C).elim}
theorem RA{w W}(b:Below (w.alloc (.cells #[Iv 0,Iv 0,.slice none 0 0,.slice none 0 0] 148)).heap.size (w.alloc (.cells #[Iv 0,Iv 0,.slice none 0 0,.slice none 0 0] 148)) W):∃V,V=(((W.setCell (Ad w.heap.size 0) (Iv 0)).setCell (Ad w.heap.size 1) (Iv 0)).setCell (Ad w.heap.size 2) (.slice none 0 0)).setCell (Ad w.heap.size 3) (.slice none 0 0)/\V.cell? (Ad w.heap.size 0)=some (Iv 0)/\V.cell? (Ad w.heap.size 1)=some (Iv 0)/\V.cell? (Ad w.heap.size 2)=some (.slice none 0 0)/\V.cell? (Ad w.heap.size 3)=some (.slice none 0 0)/\Bl w V:=by
 let a:=dR (i:=3) (v:=Value.slice none 0 0) (dR (i:=2) (v:=Value.slice none 0 0) (dR (i:=1) (v:=Iv 0) (dR (i:=0) (v:=Iv 0) (b.aS (aP _ _ _ rfl)))));exact⟨_,rfl,aD a rfl,aD a rfl,aD a rfl,aD a rfl,(((((cC _ w).al _).tr b).setCell aX _).setCell aX _|>.setCell aX _).setCell aX _⟩
theorem K7(a room w)(h:JS a room=false):Calls prog 85 #[Iv a,Iv room] w λe t=>∃b,e=.returned (.tuple #[.agg #[Iv 0,Iv 0,.slice none 0 0,.slice none 0 0],.iface 287 (.pointer (some b))])/\Bl w t:=by
 let h:=Hn h;let k:=hid λW (d:Below (w.alloc (.cells #[Iv 0,Iv 0,.slice none 0 0,.slice none 0 0] 148)).heap.size (w.alloc (.cells #[Iv 0,Iv 0,.slice none 0 0,.slice none 0 0] 148)) W)=>d.aS (aP _ _ _ rfl);let j:=hid λW (d:Below (w.alloc (.cells #[Iv 0,Iv 0,.slice none 0 0,.slice none 0 0] 148)).heap.size (w.alloc (.cells #[Iv 0,Iv 0,.slice none 0 0,.slice none 0 0] 148)) W)=>RA d;by_cases p:0<=a/\a<=100000
 .go_enter func85,ntmps85;go_wp2_with fail;apply(nR ⟨#[114,101,116,97,105,110]⟩ a 0 100000 (w.alloc (.cells #[Iv 0,Iv 0,.slice none 0 0,.slice none 0 0] 148)) p).mono;rintro e g ⟨rfl,rfl⟩;go_wp2_with fail;apply(pI ⟨#[114,111,111,109]⟩ room 1 60 (w.alloc (.cells #[Iv 0,Iv 0,.slice none 0 0,.slice none 0 0] 148)) aA).mono;rintro e g ⟨b,rfl,d⟩;let c:=k.out g d;let s:=cJ c 0;let o:=cJ c 1;let l:=cJ c 2;let m:=cJ c 3;let n:=aD (i:=0) c rfl;let r:=aD (i:=1) c rfl;let u:=aD (i:=2) c rfl;let q:=aD (i:=3) c rfl;let⟨V,f,v0,v1,v2,v3,hbV⟩:=j.out g d;replace f:Hid _:=f;go_wp2_with fail;rw[<-f.out];refine⟨rfl,_,?_,⟨b,rfl,hbV⟩⟩;simp[results,f85,go_sem,loadVar,v0,v1,v2,v3]
 .go_enter func85,ntmps85;go_wp2_with fail;apply(pI ⟨#[114,101,116,97,105,110]⟩ a 0 100000 (w.alloc (.cells #[Iv 0,Iv 0,.slice none 0 0,.slice none 0 0] 148)) aA).mono;rintro e g ⟨b,rfl,d⟩;let c:=k.out g d;let s:=cJ c 0;let o:=cJ c 1;let l:=cJ c 2;let m:=cJ c 3;let n:=aD (i:=0) c rfl;let r:=aD (i:=1) c rfl;let u:=aD (i:=2) c rfl;let q:=aD (i:=3) c rfl;let⟨V,f,v0,v1,v2,v3,hbV⟩:=j.out g d;replace f:Hid _:=f;go_wp2_with fail;rw[<-f.out];refine⟨rfl,_,?_,⟨b,rfl,hbV⟩⟩;simp[results,f85,go_sem,loadVar,v0,v1,v2,v3]
theorem K_(ret room w)(o:dW w)(d:dG w):
  Calls prog 23 #[Iv ret,Iv room] w λe c=>Bl w c/\((JS ret room=false/\e=.returned (.tuple #[.pointer none,Iv 13]))\/(JS ret room=true/\∃mb,e=.returned (.tuple #[Pt mb,Iv 0])/\w.heap.size<=mb/\lH (λb=>w.heap.size<=b) (kF ret room) mb c)):=by
 cases f:JS ret room with
 |true=>
  let h:=Fe f;apply(XY ret room w ⟨h.1,h.2.1⟩ h.2.2).mono;rintro e c ⟨mb,aW,rfl,n,j,q,m,p⟩;exact⟨p,.inr ⟨rfl,mb,rfl,n,NF f q m j⟩⟩
 |false=>
  let l:Hid (∀W b,Bl w W->Calls prog 40 #[.iface 287 (.pointer (some b))] W λe c=>e=.returned (Iv 13)/\Bl W c):=λW b a=>jX _ 13 W (o.below a) (d.keep a.block) (rD (by simp[rN]) (by simp[leaves]));let k:Calls prog 45 #[Iv ret,Iv room] w λe c=>∃b,e=.returned (.tuple #[.pointer none,.iface 287 (.pointer (some b))])/\Bl w c:=by
   go_enter func45,ntmps45;go_wp2_with fail;apply(K7 ret room w f).mono;rintro e i ⟨b,rfl,a⟩;go_wp2;go_ret2;exact⟨b,rfl,by first|exact a.al _|exact a⟩
  go_enter func23,ntmps23;go_wp2_with fail;apply k.mono;rintro e i ⟨b,rfl,a⟩;go_wp2_with fail;refine(l.out i b a).m λr g=>?_;go_wp2;go_ret2;exact⟨a.tr g,.inl ⟨trivial,rfl⟩⟩
theorem Tf:(prog.info? 74).map (λi=>(i.zero,i.size,i.bytes))=some (some (.pointer none),1,8):=aM
section
variable{wb n m m' i:Nat}{T:Nat->Nat}{Ms:aB Mo}{E:aB mB}{w0 w w':aC}{x:Mo}
theorem cH.up(h:cH w0 wb T Ms n E m w)(b:m<=m'):cH w0 wb T Ms n E m' w:=
 {h with part:=λc=>⟨(h.part c).1,λi x a=>⟨λe=>⟨(((h.part c).2 i x a).1 e).1,(((h.part c).2 i x a).1 e).2.mono b⟩,λe=>⟨(((h.part c).2 i x a).2 e).1,(((h.part c).2 i x a).2 e).2.mono b⟩⟩⟩,few:=gC h.few b}
def Ga(w0:aC)(wb n m' len:Nat)(E:aB mB)(e:Ending)(w':aC):Prop:=e=.returned (.bool true)/\∃b a,cH w0 wb b a n E m' w'/\(∀x∈a,x.S=x.R)/\a.length<=len+1
theorem Tz(h:cH w0 wb T Ms n E m w)(J:∀x∈Ms,x.S=x.R)(G:dW w0)(I:dG w0)(h7:14<=w0.heap.size)(hm:m<=1000000)(a nn mm:Int)(s t:aZ)(lv:aF):
  Calls prog 55 #[Pt wb,gV 4 a nn mm s t lv] w (Ga w0 wb n (m+1) Ms.length E):=by
 have⟨lT,⟨kv,hX⟩,Za,_⟩:=(h.part 0).1 rfl;have a1:=h.few;have A:=(cC w.heap.size w).al (.cells #[Iv 4,Iv a,Iv nn,Iv mm,.string s,.string t,lv] 73 (0,0));have X:=aP w (.cells #[Iv 4,Iv a,Iv nn,Iv mm,.string s,.string t,lv] 73 (0,0)) _ rfl;have Z:=h.still (aI.aR A);have O:=K_ nn mm _ (Z.Kt G h7) (Z.BF I);have j:Hid (∀W,Bl w W->Ga w0 wb n (m+1) Ms.length E (.returned (.bool true)) W):=λW hb=>⟨rfl,T,Ms,(h.still (aI.aR hb)).up (rj m),J,rj _⟩;unfold gV;cases v:JS nn mm with
 |false=>
  go_enter func55,ntmps55;go_wp2_with fail;apply O.mono;rintro e c ⟨i,⟨_,rfl⟩|⟨k,_⟩⟩
  case inr=>rw[v]at k;cases k
  have f:=i.aS X;have R:c.cell? (Ad w.heap.size 2)=some (Iv nn):=aD f rfl;have d3:c.cell? (Ad w.heap.size 3)=some (Iv mm):=aD f rfl;have C:=Ey nn mm c;go_wp2_with fail;apply C.mono;rintro e d ⟨g,⟨_,rfl⟩|⟨k,_⟩⟩
  case inr=>rw[v]at k;cases k
  clear C;have hQ:=hid (j.out d ((A.tr i).tr g));clear A i g j R d3 v;go_wp2_with fail;refine(wC 13 _).m λq e3=>?_;obtain rfl:=e3.symm;go_wp2_with fail;go_ret;exact hQ.out
 |true=>
  obtain⟨i0,N,P,S,V⟩:=eB Tf;have B:=Fe v;have hS:(kF nn mm).OK 0:=Dg ⟨B.1,B.2.1⟩ B.2.2;have HF:Hid (∀(c d q p:aC)(mb pb:Nat)(r:aF),Bl w c->lH (λb=>w.heap.size<=b) (kF nn mm) mb c->Bl c d->uC (λb=>c.heap.size<=b) (kF nn mm) c.heap.size d->Bl d q->q.heap[pb]?=some (.cells #[Pt mb,Pt c.heap.size] 82 (0,0))->q.grownBy p lT.ownBlock->p.ownsRow 0 74 1 r (Ms.length+1) (Ms.map Le++[Pt pb])->(r.ownBlock=lT.ownBlock\/r.ownBlock=some q.heap.size)->Ga w0 wb n (m+1) Ms.length E (.returned (.bool true)) (p.setCell (Ad wb 0) r)/\p.frozen? (Ad wb 0)=false/\p.cell? (Ad wb 0)=some lT):=λc d q p mb pb r i L g z Q hp G B hv=>by
   obtain⟨T',h'⟩:=h.more hX hS i L g z Q hp G B hv;have hc:p.heap[wb]?=some (.cells #[lT,Iv (n:Int),kv] 70 (0,0)):=(G.block wb (by have:=aL hX.cell;have:=i.size;have:=g.size;have:=Q.size;omega) λe=>kW Za hX.cell aG e.symm).trans (Q.aS (g.aS (i.aS hX.cell)));refine⟨⟨rfl,T',_,h',λy K=>?_,aE⟩,cJ hc 0,aD hc rfl⟩;rcases i_.1 K with K|K
   .exact J y K
   .cases sA.1 K;rfl
  have H:=hX.cell;clear Z h hX I G j B hS;go_enter func55,ntmps55;go_wp2_with fail;apply O.mono;rintro e c ⟨i,⟨k,_⟩|⟨_,mb,rfl,a8,L⟩⟩
  case inl=>rw[v]at k;cases k
  have f:=i.aS X;have R:c.cell? (Ad w.heap.size 2)=some (Iv nn):=aD f rfl;have d3:c.cell? (Ad w.heap.size 3)=some (Iv mm):=aD f rfl;have C:=Ey nn mm c;have D:=hid (L.mono λb hb=>gC A.size hb);clear O X f L;go_wp2_with fail;apply C.mono;rintro e d ⟨g,⟨k,_⟩|⟨_,rfl,z⟩⟩
  case inl=>rw[v]at k;cases k
  replace z:Hid _:=z;have M:=A.tr i;have F:=fN (fN Za M) g;have u:=g.aS (M.aS H);have c0:d.cell? (Ad wb 0)=some lT:=aD u rfl;have a7:=aL u;have HG:=hid λ(q:aC)(p:aC)(pb:Nat)(r:aF)=>HF.out c d q p mb pb r M D.out g z.out;clear C v HF Za H u M A i g D z R d3;generalize c.heap.size=yb at*;go_wp2_with (at_builtin;refine wpList_append_own_at _ rfl _ _ 67 rfl 0 74 i0 _ 1 8 underlying67 N P S V rfl aG _ _ _ rfl ((F.alloc _).alloc _) (Ad (d.heap.size+1) 0) 1 1 [Pt d.heap.size] rfl rfl (by have:=oZ (d.alloc (.cells #[Pt mb,Pt yb] 82)) [Pt d.heap.size] 74;simpa using this) xr eP aA cD ?_);intro v5 w5 l o _ U;have⟨Y,q2,q3⟩:=HG.out _ w5 d.heap.size v5 ((aT.al _).al _) ((aT.al _).aS (aP d _ _ rfl)) o l (by simpa using U);replace Y:Hid (Ga w0 wb n (m+1) Ms.length E (.returned (.bool true)) (w5.setCell (Ad wb 0) v5)):=Y;obtain⟨g5,a6,rfl,_⟩:=fO l aA;go_wp2;go_ret;exact Y.out
end
section
variable{Lw:Nat->Prop}{wb n:Nat}{lT kv:aF}{E:aB mB}{w:aC}
theorem QA(h:k_ Lw wb lT kv n E w)(hn:n<1000000000000)(hE:E.length<=1000000000000)(l k L)(C:w.ownsRow 0 9 1 l L.length (cI L))(M:w.ownsRow 0 9 1 k L.length (cI L))(x:∀g,l.ownBlock=some g->¬Lw g)(G:L.length<=1000):
  Calls prog 60 #[Pt wb,l,k] w λe z=>e=.returned (.bool true)/\∃E',(E'.length<=4/\∀e∈E',e.n=n+1)/\H7 (λb=>(Lw b\/l.ownBlock=some b)\/w.heap.size<=b) wb lT (n+1) (E++E') z/\aI (λb=>Lw b\/l.ownBlock=some b) w z:=by
 obtain⟨lo,t,rfl,Q,U,c⟩:=bT C;obtain⟨Y,kc,rfl,R,T,d⟩:=bT M;have H:Hid (∀i:Nat,i<L.length->∃v p o,lo=some (Ad p 0)/\Y=some (Ad o 0)/\w.cell? (Ad p i)=some (.string v)/\w.cell? (Ad o i)=some (.string v)):=λi hi=>by
  obtain⟨p,B,_,_,a⟩:=c aA;obtain⟨o,e2,_,_,b⟩:=d aA;have s:(cI L)[i]?=some (.string L[i]):=by simp[cI,hi]
  exact⟨_,p,o,B,e2,a _ _ s,b _ _ s⟩
 have HT:Hid (∀W:aC,Calls prog 73 #[Iv ((n:Int)+1)] W λe z=>e=.returned (.string ⟨(oL (n+1)).toArray⟩)/\Bl W z):=λW=>EO (n+1) W;have r:(cI L).length=L.length*(xh (n+1)).length:=by simp[cI,xh]
 have HS:Hid (∀(W:aC)(i:Nat),i<L.length->W.ownsRow 0 9 1 (.slice lo L.length t) L.length (half (xh (n+1)) i (cI L))->∃g a,lo=some (Ad g 0)/\∀u,Bl W u->u.cell? (Ad g i)=some (.string a)/\u.frozen? (Ad g i)=false/\∀V,u.setCell (Ad g i) (.string ⟨(oL (n+1)).toArray⟩)=V->V.ownsRow 0 9 1 (.slice lo L.length t) L.length (half (xh (n+1)) (i+1) (cI L))/\aI (λb=>(.slice lo L.length t:aF).ownBlock=some b) W V):=λW i hi N=>by
  have F:=N;obtain⟨_,⟨B,e2⟩|⟨g,cap,S,B,_⟩⟩:=F
  .omega
  cases B;have s:=Kv (n+1) i L L[i] (fG hi);refine⟨g,L[i],rfl,λu O=>?_⟩;have j:=fN N O;refine⟨(j.cellAt i aA).trans s.1,j.frozenAt _,?_⟩;rintro V rfl;exact⟨by rw[<-s.2];exact(j.stored i _).1,(aI.aR O).trans ((gJ _ g _ _).mono λb _ e=>by rw[e];rfl)⟩
 obtain⟨J,I,f,HG⟩:=h.gv3 x C r G (λv=>⟨n+1,.slice none 0 0,v⟩) λv=>⟨rfl,.inr ⟨rfl,rfl,rfl,rfl⟩⟩;have c1:w.cell? (Ad wb 1)=some (Iv (n:Int)):=aD h.cell rfl;have f1:w.frozen? (Ad wb 1)=false:=cJ h.cell 1;clear c d h C M r x;generalize L.length=ll at*;obtain⟨iV,Z2,Vx,Vy,Vz⟩:=eB nT;obtain⟨iK,hiK,Ze,Zf,Zg⟩:=eB AW;go_enter func60,ntmps60;go_wp2_with fail;go_loopw [7,8] (λK m wr=>∃i:Nat,K=.bool true/\m=Iv i/\i<=ll/\∃q,wr=w.drewN q) (λ_ m _=>ll-(intOf m).toNat)
 case atStart=>exact⟨0,rfl,rfl,cD,0,rfl⟩
 case round=>
  obtain⟨i,rfl,rfl,D,q,rfl⟩:=hrel;by_cases hi:i<ll
  .obtain⟨v,p,o,rfl,rfl,x0,y0⟩:=H.out i hi;clear H HS J I f HT;have Z:(v.toList==v.toList)=true:=Cl _;go_wp2_with fail;go_quiet(fail);go_wp2_with fail
   try go_big_round
   exact⟨⟨i+1,rfl,dU,hi,_,rfl⟩,zm⟩
  .obtain rfl:ll=i:=by omega
   clear H;have hF:=J.out q;have hK:=I.out q;have US:=f.out q;replace hF:Hid _:=hF;replace hK:Hid _:=hK;replace US:Hid _:=US;clear J I f;go_wp2_with fail;generalize(w.drewN q).setCell (Ad wb 1) (Iv ((n:Int)+1))=P at*;go_loopw [10] (λm wr=>∃i:Nat,m=Iv i/\i<=ll/\aI (λb=>(.slice lo ll t:aF).ownBlock=some b) P wr/\wr.ownsRow 0 9 1 (.slice lo ll t) ll (half (xh (n+1)) i (cI L))) (λm _=>ll-(intOf m).toNat)
   case atStart=>exact⟨0,rfl,cD,aI.refl _ _,US.out⟩
   case round=>
    obtain⟨i,rfl,D,hO,pZ⟩:=hrel;by_cases hi:i<ll
    .obtain⟨g,a,X,y⟩:=HS.out wr i hi pZ;subst X;replace y:Hid _:=y;replace hO:Hid _:=hO;clear HS pZ hF hK US;go_wp2_with fail;refine(HT.out _).m λw2 b2=>?_;obtain⟨a1,a2,A⟩:=y.out w2 b2;replace A:Hid _:=A;clear y HT;go_wp2_with fail
     try go_big_round
     exact⟨⟨i+1,dU,hi,hO.out.trans (A.out _ rfl).2,(A.out _ rfl).1⟩,zm⟩
    .have hU:=underlying31;have Vu:=@VT (n+1);exact zgv
end
section
variable{wb n m m' i:Nat}{T:Nat->Nat}{Ms:aB Mo}{E:aB mB}{w0 w w':aC}{x:Mo}
theorem cH.names(h:cH w0 wb T Ms n E m w)(z:n<=200000000000)(l k:aF)(L:aB aZ)(f:w.ownsRow 0 9 1 l L.length (cI L))(q:w.ownsRow 0 9 1 k L.length (cI L))(c:∀g,l.ownBlock=some g->T g=0/\w0.heap.size<=g/\∀e∈E,e.gv.ownBlock≠some g/\e.tv.ownBlock≠some g)(a:L.length<=1000):
  Calls prog 60 #[Pt wb,l,k] w λe w'=>e=.returned (.bool true)/\∃d j,cH w0 wb d Ms (n+1) j m w':=by
 obtain⟨P,v,y,i,s,x⟩:=h.fresh f aG c;let o:=h.nD.1;refine(QA i aA aA l k L f q s a).m λw' ⟨j,b,p,u⟩=>?_;obtain⟨d,t⟩:=h.lists (i.mono λ_=>.inl) u x p ⟨bI,λe r=>(i_.1 r).imp id (b.2 e)⟩;exact⟨rfl,d,_,t⟩
def pH(w0:aC)(wb n m:Nat)(Ms:aB Mo)(e:Ending)(w':aC):Prop:=e=.returned (.bool true)/\∃c a b,a<=n+1/\cH w0 wb c Ms a b m w'
theorem Hk(h:cH w0 wb T Ms n E m w)(r:∀x∈Ms,x.S=x.R)(hi:Ms[i]?=some x)(hm:m<=1000000)(hn:n<=200000000000)(k a nn mm:Int)(hk:k=10\/k=11\/k=13)(s t:aZ)(lv:aF):
  Calls prog 36 #[Pt wb,Pt x.pb,gV k a nn mm s t lv] w (pH w0 wb n m Ms):=by
 have H:=iA hi;obtain⟨⟨l,Z⟩,o⟩:=((h.part (2*i+1)).2 i x hi).1 rfl;obtain⟨⟨ev,pv,C,L,B⟩,_⟩:=((h.part (2*i+2)).2 i x hi).2 rfl;rw[<-r x H]at B;have j:=h.pair x H;have c:=(cC w.heap.size w).al (.cells #[Iv k,Iv a,Iv nn,Iv mm,.string s,.string t,lv] 73 (0,0));have HM:∀W,Bl w W->∃l P,dN P x.S x.mb l W:=λW b=>by
  obtain⟨l,h⟩:=lH.move ⟨l,Z⟩ (aI.aR b (P:=λ_=>False)) (λ_ _ x=>x) (dP.none _ _);exact⟨l,_,h⟩
 have HP:Hid (∀W,Bl w W->W.cell? (Ad x.pb 0)=some (Pt x.mb)/\W.cell? (Ad x.pb 1)=some (Pt x.yb)):=λW b=>⟨aD (b.aS j) rfl,aD (b.aS j) rfl⟩;have O:Hid (∀W,Bl w W->pH w0 wb n m Ms (.returned (.bool true)) W):=λW b=>⟨rfl,T,n,E,rj n,h.still (aI.aR b)⟩;have aa:w.heap.size<(w.alloc (.cells #[Iv k,Iv a,Iv nn,Iv mm,.string s,.string t,lv] 73 (0,0))).heap.size:=aE;obtain⟨p0,p1⟩:=HP.out _ c;unfold gV;rcases hk with rfl|rfl|rfl
 .have u:Hid (∀W,Bl w W->Calls prog 33 #[Pt x.mb] W λe w'=>∃v M,e=.returned v/\w'.ownsRow W.heap.size 9 1 v M.length (cI M)/\lz M/\M.Perm (x.S.aU.map (·.name))/\Bl W w'):=λW b=>by
   obtain⟨l,P,h⟩:=HM W b;exact QK h
  have A:=hid λW (b:Bl w W)=>QU (B.below b) o;have C3:Hid (∀(K D:aC)(I y:aF)(p d:aB aZ),Bl w K->Bl K D->K.ownsRow w.heap.size 9 1 I p.length (cI p)->lz p->p.Perm (x.S.aU.map (·.name))->D.ownsRow K.heap.size 9 1 y d.length (cI d)->lz d->d.Perm (x.S.aU.map (·.name))->Calls prog 60 #[Pt wb,I,y] D (pH w0 wb n m Ms)):=λK D I y p d G f F V p1 Q Y X=>by
   obtain rfl:=EJ V Y (p1.trans X.symm);have a7:=o.few;have S:=p1.length_eq;have hI:=h.still (aI.aR (G.tr f));refine(hI.names hn I y p (fN (F.mono cD) f) (Q.mono cD) (λg hg=>?_) (by simp at S;omega)).mono λe w' ⟨U,T',E',h'⟩=>⟨U,T',_,E',aX,h'⟩;have a8:=F.lt g hg;have:=h.base.size;refine⟨F8 λa1=>?_,aA,λe he=>⟨λb=>?_,λb=>?_⟩⟩
   .have:=h.dom g a1;omega
   .have:=h.Bu e he g (.inl b);omega
   .have:=h.Bu e he g (.inr b);omega
  clear h Z B j HM O r H hi o;generalize x.mb=mb at*;generalize x.yb=yb at*;generalize x.pb=pb at*;generalize x.S.aU.map (·.name)=N at*;go_enter func36,ntmps36;go_wp2_with fail;apply(u.out _ c).mono;rintro e w1 ⟨I,p,rfl,F,V,R,G⟩;obtain⟨a6,J⟩:=HP.out _ (c.tr G);obtain⟨o1,c1,rfl,_⟩:=bT (F.mono cD);have bb:=c.tr G;have hT:Hid (∀(D:aC)(y:aF)(d:aB aZ),_):=λD y d f=>C3.out w1 D _ y p d bb f (F.mono c.size) V R;clear u C3 p0 p1 HP c G F V R;generalize p.length=l1 at*;go_wp2_with fail;apply(A.out _ bb).mono;rintro e w2 ⟨y,d,rfl,Q,Y,X,f⟩;obtain⟨o2,c2,rfl,_⟩:=bT (Q.mono cD);have hF:=hid (hT.out w2 _ d f Q Y X);clear hT A Q Y X f bb a6 J;generalize d.length=l2 at*;go_wp2_with fail;apply hF.out.mono;intro e w3 z;obtain rfl:e=.returned (.bool true):=z.1;replace z:Hid (pH w0 wb n m Ms (.returned (.bool true)) w3):=z;clear hF;go_wp2_with fail;go_ret;exact z.out
 .have u:Hid (∀W,Bl w W->Calls prog 26 #[Pt x.mb] W λe w'=>e=.returned (Iv (y_ x.S:Nat))/\w'=W):=λW b=>by
   obtain⟨l,P,h⟩:=HM W b;exact QI h o
  have A:=hid λW (b:Bl w W)=>QT (B.below b) o aA;clear h Z B j HM r H hi o;generalize x.mb=mb at*;generalize x.yb=yb at*;generalize x.pb=pb at*;generalize(y_ x.S:Int)=q at*;go_enter func36,ntmps36;go_wp2_with fail;refine(u.out _ c).m λw1 U=>?_;obtain rfl:=U.symm;clear u;go_wp2_with fail;refine(A.out _ c).m λw2 f=>?_;have z:=hid (O.out _ (c.tr f));clear A O;go_wp2_with fail;go_ret;exact z.out
 .have u:Hid (∀W,Bl w W->Calls prog 30 #[Pt x.mb] W λe w'=>e=.returned (Iv (E1 x.S:Nat))/\w'=W):=λW b=>by
   obtain⟨l,P,h⟩:=HM W b;exact GN h o
  have A:Hid (∀W,Bl w W->Calls prog 58 #[Pt x.yb,Iv (-1),.pointer none] W λe w'=>e=.returned (Iv (E1 x.S:Nat))/\Bl W w'):=λW b=>by
   have:=A8 (B.below b) o (-1) none none rfl
   rwa[Gg,Option.toList_none,Ht]at this
  clear h Z B j HM r H hi o;generalize x.mb=mb at*;generalize x.yb=yb at*;generalize x.pb=pb at*;generalize(E1 x.S:Int)=q at*;go_enter func36,ntmps36;go_wp2_with fail;refine(u.out _ c).m λw1 U=>?_;obtain rfl:=U.symm;clear u;go_wp2_with fail;refine(A.out _ c).m λw2 f=>?_;have z:=hid (O.out _ (c.tr f));clear A O;go_wp2_with fail;go_ret;exact z.out
end
theorem bX.OW{w d:aC}(a:∀{b:Nat}{c:aY aF}{m},w.heap[b]?=some (.cells c 252 m)->d.heap[b]?=some (.cells c 252 m)):∀{x:BT c_}{v:aF},bX 0 w x v->bX 0 d x v
 |.nil,_,h=>h
 |.node _ _ _ _ _,_,⟨b,j,l,e,i,k,f,g⟩=>⟨b,j,l,e,i,a k,bX.OW a f,bX.OW a g⟩
section
variable{O:Nat->Prop}{S:fX}{n yb:Nat}{ev pv:aF}{C:aB CE}{L:aB CP}{w:aC}
theorem eT.Ih(h:eT O S yb ev pv C L w){i j:Nat}{a b}(hi:L[i]?=some a)(m:L[j]?=some b)(f:i≠j):∀g,a.2.2.ownBlock=some g->b.2.2.ownBlock≠some g:=by
 obtain⟨d,rfl⟩:=e_.1 hi;obtain⟨c,rfl⟩:=e_.1 m;obtain e|e:=Nat.lt_or_gt_of_ne f
 .exact CX.1 h.apart i j d c e
 .exact λg k l=>CX.1 h.apart j i c d e g l k
theorem eT.grow{g cap}(h:eT O S yb ev (Sl g L.length cap) C L w)(Z:(S.aU.map (·.name)).Nodup){k c}(I:L[k]?=some c){f}(Y:∀p,(f p).name=p.name/\(f p).x=p.x/\(f p).cO=p.cO){z}(J:aI (λb=>c.2.2.ownBlock=some b) w z){v'}(F:z.ownsRow 0 199 4 v' (f c.1).str.length (kZ (f c.1).str))(T:∀b,v'.ownBlock=some b->c.2.2.ownBlock=some b\/w.heap.size<=b):
  eT (λb=>O b\/w.heap.size<=b) (S.upd c.1.name f) yb ev (Sl g L.length cap) C (L.set k (f c.1,c.2.1,v')) (z.setCell (Ad g (k*4+3)) v')/\aI O w (z.setCell (Ad g (k*4+3)) v'):=by
 let xf:=fH z (Ad g (k*4+3)) v';let A:=iA I;let D:∀{t y m b},w.heap[b]?=some (.cells y t m)->t≠199->c.2.2.ownBlock≠some b:=λq U e=>by
  let⟨cg,sF⟩:=cE (h.fV c A) e;rw[q]at sF;cases sF;exact U rfl
 let⟨cg,sF⟩:=cE h.aU (g:=g) rfl;let B:∀{t y m b},z.heap[b]?=some (.cells y t m)->t≠86->b≠g:=λq U e=>by
  subst e;rw[(J.get sF (D sF aG))]at q;cases q;exact U rfl
 let own:∀{base size n:Nat}{e:TypeId}{v:aF}{xs:aB aF},w.ownsRow base e size v n xs->e≠199->e≠86->(z.setCell (Ad g (k*4+3)) v').ownsRow base e size v n xs:=λq Q E=>by
  let G:=cG q J λb o=>by obtain⟨y,K⟩:=cE q o;exact D K Q
  exact cG G xf λb o=>by obtain⟨y,K⟩:=cE G o;exact B K E
 let get:∀{b:Nat}{t:TypeId}{y:aY aF}{m},w.heap[b]?=some (.cells y t m)->t≠199->t≠86->(z.setCell (Ad g (k*4+3)) v').heap[b]?=some (.cells y t m):=λq Q E=>by
  let G:=J.get q (D q Q);exact xf.get G (B G E)
 let u:∀{x:BT c_}{v:aF},bX 0 w x v->bX 0 (z.setCell (Ad g (k*4+3)) v') x v:=λhx=>bX.OW (λq=>get q aG aG) hx;let H:∀l∈L,∀b,l.2.2.ownBlock=some b->b<w.heap.size:=λl s b o=>((h.fV l s).lt b o).2;let other:∀{j:Nat}{l:CP},(L.set k (f c.1,c.2.1,v'))[j]?=some l->(j=k/\l=(f c.1,c.2.1,v'))\/(j≠k/\L[j]?=some l):=λ{j l} r=>by
  by_cases e:j=k
  .subst e;rw[rh (e_.1 I).1]at r;exact .inl ⟨rfl,(oW r).symm⟩
  .rw[yj λx=>e x.symm]at r;exact .inr ⟨e,r⟩
 refine⟨⟨get h.cell aG aG,h.hC,?_,own h.bH aG aG,?_,λd hd=>?_,λl s=>?_,λl s=>?_,?_,.inl h.own.1,λb o=>.inl (h.own.2.1 b o),λb o=>.inl (h.own.2.2.1 b o),λl s b o=>?_⟩,(J.mono λb _ e=>h.own.2.2.2 c A b e).trans (xf.mono λb _ e=>by rw[e];exact h.own.2.2.1 g rfl)⟩
 .rw[xq,h.hL];exact wN Z (by rw[<-h.hL,kY,I];rfl)
 .have:=iQ (cG h.aU J λb o=>by cases o;exact D sF aG) (k*4+3) v';rw[Ff];let e:uy (L.set k (f c.1,c.2.1,v'))=(uy L).set (k*4+3) v':=vh Jx 4 (λ_=>rfl) 3 aG v' L k c _ I (by simp[Jx,Y]);rw[e];exact this
 .let⟨a1,a2,a3,a4⟩:=h.atoms d hd;let Y_:∀a,d.2.1=some a->(z.setCell (Ad g (k*4+3)) v').heap[a.block]?=w.heap[a.block]?:=λa M=>by
   let⟨y,m,k⟩:=(a4 a M).2;rw[k];exact get k aG aG
  refine⟨λR=>?_,a2,a3,λa M=>⟨.inl (a4 a M).1,by rw[Y_ a M];exact(a4 a M).2⟩⟩;let⟨b,off,b1,b2,b3⟩:=a1 R;exact⟨b,off,b1,fW b2 (gC J.size xf.size),λj r=>by rw[fT (a:=(Ad b (off+j))) (Y_ (Ad b off) b1)];exact b3 j r⟩
 .obtain s|rfl:=Bh s
  .exact u (h.eE l s)
  .show bX 0 _ (f c.1).x c.2.1;rw[(Y c.1).2.1];exact u (h.eE c A)
 .let⟨j,r⟩:=Ae.1 s;obtain⟨_,rfl⟩|⟨V,r⟩:=other r
  .exact cG F xf λb o=>by obtain⟨y,K⟩:=cE F o;exact B K aG
  .let G:=cG (h.fV l (iA r)) J λb o e=>h.Ih I r (λx=>V x.symm) b e o;exact cG G xf λb o=>by obtain⟨y,K⟩:=cE G o;exact B K aG
 .refine CX.2 λi j hi r a6 b q E=>?_;rcases other (fG hi)with⟨W,N⟩|⟨W,N⟩<;>rcases other (fG r)with⟨X,P⟩|⟨X,P⟩
  .omega
  .rw[N]at q;obtain e|e:=T b q
   .exact h.Ih I P (λx=>X x.symm) b e E
   .have:=H _ (iA P) b E;omega
  .rw[P]at E;obtain e|e:=T b E
   .exact h.Ih I N (λx=>W x.symm) b e q
   .have:=H _ (iA N) b q;omega
  .exact h.Ih N P aA b q E
 .obtain s|rfl:=Bh s
  .exact .inl (h.own.2.2.2 l s b o)
  .exact(T b o).imp (h.own.2.2.2 c A b) id
theorem eT.took(h:eT O S yb ev pv C L w){t A ao}{ac q:Nat}{i w2}(s:aI (λb=>b=yb\/ev.ownBlock=some b) w w2)(D:w2.heap[yb]?=some (.cells #[Iv S.ret,Iv S.room,i,Iv ((q)+1),pv] 79 (0,0)))
  (z:w2.ownsRow 0 193 2 i (C.length+1) (Sq C++[Iv t,.slice ao A.length ac])) (x:∀b,i.ownBlock=some b->ev.ownBlock=some b\/w.heap.size<=b)
  (f:eQ w2 ao A/\A.length<=ac/\A.length<=10/\∀a,ao=some a->w.heap.size<=a.block/\∃o m,w2.heap[a.block]?=some (.cells o 9 m)):
  eT (λb=>O b\/w.heap.size<=b) {S with bH:=S.bH++[(t,A)],off:=q} yb i pv (C++[((t,A),ao,ac)]) L w2:=by
 let j:∀{t o m b},w.heap[b]?=some (.cells o t m)->t≠193->t≠79->¬(b=yb\/ev.ownBlock=some b):=λc B u e=>by
  obtain rfl|e:=e
  .rw[h.cell]at c;cases c;exact u rfl
  .let⟨cg,sF⟩:=cE h.bH e;rw[c]at sF;cases sF;exact B rfl
 let own:∀{base size n:Nat}{e:TypeId}{v:aF}{xs:aB aF},w.ownsRow base e size v n xs->e≠193->e≠79->w2.ownsRow base e size v n xs:=λc y F=>cG c s λb g=>by obtain⟨o,E⟩:=cE c g;exact j E y F
 refine⟨D,by rw[l8,h.hC];rfl,h.hL,?_,own h.aU aG aG,λd p=>?_,λl r=>bX.OW (λc=>s.get c (j c aG aG)) (h.eE l r),λl r=>own (h.fV l r) aG aG,h.apart,.inl h.own.1,λb g=>(x b g).imp (h.own.2.1 b) id,λb g=>.inl (h.own.2.2.1 b g),λl r b g=>.inl (h.own.2.2.2 l r b g)⟩
 .let e:Sq (C++[((t,A),ao,ac)])=Sq C++[Iv t,.slice ao A.length ac]:=by simp[Sq,ZQ]
  rw[e,kt];exact z
 .obtain p|p:=i_.1 p
  .let⟨a1,a2,a3,a4⟩:=h.atoms d p;let g:∀a,d.2.1=some a->¬(a.block=yb\/ev.ownBlock=some a.block):=λa f=>by
    let⟨o,m,k⟩:=(a4 a f).2;exact j k aG aG
   refine⟨a1.spare s g,a2,a3,λa f=>⟨.inl (a4 a f).1,?_⟩⟩;let⟨o,m,k⟩:=(a4 a f).2;exact⟨o,m,s.get k (g a f)⟩
  .simp at p;subst p;exact⟨f.1,f.2.1,f.2.2.1,λa c=>⟨.inr (f.2.2.2 a c).1,(f.2.2.2 a c).2⟩⟩
end
theorem XS:(prog.info? 193).map (λi=>(i.zero,i.size,i.bytes))=some (some (.agg #[Iv 0,.slice none 0 0]),2,32):=aM
theorem Uz{w a o r}(h:(w.alloc o).grownBy a r):aI (λb=>r=some b) w a:=⟨h.os,h.output,gC aE h.size,λb d c=>(h.block b bI λe=>c e.symm).trans (ib _ _ _ d)⟩
theorem Ra{w a o}(h:(w.drew.alloc o).grownBy a (some w.heap.size)):aI (λ_=>False) w a:=(vR (w:=w) h).mono λb c e=>by cases e;omega
theorem eT.strs{O S yb ev pv C L w W}(h:eT O S yb ev pv C L w)(g:aI (λb=>b=yb) w W){a A}(i:eQ w (some a) A){j u}(d:(cI A)[j]?=some u)(o):(W.drew.alloc o).cell? (a.add j)=some u:=by
 have c:j<A.length:=by have:=(e_.1 d).1;rwa[vZ]at this
 have⟨b,off,e,hb,hc⟩:=i (by intro e;rw[e]at c;simp at c);cases e;have hu':u=.string (A.getD j ByteArray.empty):=by simp[cI,c]at d;rw[<-d];simp[List.getD,c]
 have f:b≠yb:=λe=>by
  obtain⟨l,_,rfl,_⟩:=bT h.bH;obtain⟨n,_,rfl,_⟩:=bT h.aU;have:=hc j c;rw[e]at this;simp only[World.cell?,h.cell]at this;generalize off+j=k at this;obtain _|_|_|_|_|k:=k<;>simp at this
 have m:((Ad b off):a_).add j=(Ad b (off+j)):=by simp[Addr.add]
 rw[m,hu',sq W.drew _ (Ad b (off+j)) (fW hb g.size)];show W.cell? _=_;rw[fT (a:=(Ad b (off+j))) (g.block b hb f)];exact hc j c
theorem Oo{w:aC}{B cap:Nat}{o:aQ a_}{A:aB aZ}(h:w.ownsRow B 9 1 (.slice o A.length cap) A.length (cI A)):eQ w o A:=λa=>by
 let⟨g,aaS,e,h1,h2,_⟩:=fO h (List.length_pos_iff.2 a)
 injection e with e1 _ _
 subst e1
 refine⟨g,0,rfl,h2,λj b=>d_ h rfl ?_⟩
 simp[cI,b]
section
variable{O:Nat->Prop}{S:fX}{n yb:Nat}{ev pv:aF}{C:aB CE}{L:aB CP}{w:aC}
theorem eT.ZE(h:eT O S yb ev pv C L w){W x n:aC}{A:aB aZ}{y:aQ a_}{d q:Nat}{t:Int}{m:aF}(P:A.length<=10)(G:aI (λb=>b=yb) w W)(B:W.heap[yb]?=some (.cells #[Iv S.ret,Iv S.room,ev,Iv ((q:Int)+1),pv] 79 (0,0)))
  (c:x.ownsRow W.heap.size 9 1 (.slice y A.length d) A.length (cI A)) (o:aI (λ_=>False) W x)
  (i:n.ownsRow 0 193 2 m (C.length+1) (Sq C++[Iv t,.slice y A.length d])) (p:aI (λb=>ev.ownBlock=some b) x n) (z:m.ownBlock=ev.ownBlock\/∃k,m.ownBlock=some k/\x.heap.size<=k):
  (∃E ac,eT (λb=>O b\/w.heap.size<=b) {S with bH:=S.bH++[(t,A)],off:=q} yb E pv (C++[((t,A),y,ac)]) L (n.setCell (Ad yb 2) m))/\aI O w (n.setCell (Ad yb 2) m):=by
 let xf:=fH n (Ad yb 2) m;let r:=h.cell;let N:=aL r;let v:ev.ownBlock≠some yb:=λe=>by
  obtain⟨I,f⟩:=cE h.bH e;rw[r]at f;cases f
 let Q:=G.size;let M:=o.size;let j:aI (λb=>b=yb\/ev.ownBlock=some b) w (n.setCell (Ad yb 2) m):=
  (((G.mono λb _ e=>.inl e).trans (o.mono λb _ e=>e.elim)).trans (p.mono λb _ e=>.inr e)).trans (xf.mono λb _ e=>.inl e)
 let u:∀b,ev.ownBlock=some b->b<w.heap.size:=λb l=>(h.bH.lt b l).2;let s:n.heap[yb]?=some (.cells #[Iv S.ret,Iv S.room,ev,Iv ((q:Int)+1),pv] 79 (0,0)):=p.get (o.get B id) v;let Tc:(n.setCell (Ad yb 2) m).ownsRow W.heap.size 9 1 (.slice y A.length d) A.length (cI A):=by
  let D:=cG c p λb l e=>by have:=(c.lt b l).1;have:=u b e;omega
  exact cG D xf λb l e=>by have:=(c.lt b l).1;have e:b=yb:=e;omega
 refine⟨⟨m,d,h.took (w2:=n.setCell (Ad yb 2) m) j ?_ ?_ (λb l=>?_) ⟨Oo Tc,?_,P,λa F=>?_⟩⟩,j.mono λb _ e=>?_⟩
 .exact dR s
 .exact cG i xf λb l e=>by
   obtain⟨I,f⟩:=cE i l;let e:b=yb:=e;rw[e,s]at f;cases f
 .rcases z with e|⟨k,e,R⟩
  .exact .inl (e▸l)
  .rw[e]at l;cases l;exact .inr aA
 .obtain⟨_,_,e,J,_⟩:=bT (lr c);injection e with _ _ e3;rw[e3];exact J
 .obtain⟨_,⟨e,_⟩|⟨g,_,H,e,K,D,_⟩⟩:=Tc
  .injection e with e1 _ _;rw[F]at e1;cases e1
  .injection e with e1 _ _;rw[F]at e1;cases e1;exact⟨gC Q K,_,_,D⟩
 .obtain rfl|e:=e
  .exact h.own.1
  .exact h.own.2.1 b e
end
def vC(bH:aB nz)(i:Nat)(p:Ag):Ag:={p with str:=p.str++[Rn p.x p.cO bH i]}
def p9(S:fX)(t:Int)(A:aB aZ)(k:Nat):fX:=
 {S with bH:=S.bH++[(t,A)],off:=rU S t,aU:=(S.aU.take k).map (vC (S.bH++[(t,A)]) S.bH.length)++S.aU.drop k}
variable{S:fX}{n k:Nat}{t:Int}{A:aB aZ}
theorem TB:p9 S t A 0={S with bH:=S.bH++[(t,A)],off:=rU S t}:=by simp[p9]
theorem VS(h:S.aU.length<=k):p9 S t A k=S.take t A:=by
 unfold p9 fX.take;rw[rf h,t_ h,Ht];rfl
theorem rR:(p9 S t A k).aU.map (·.name)=S.aU.map (·.name):=by
 have:(S.aU.take k).map ((·.name)∘vC (S.bH++[(t,A)]) S.bH.length)=(S.aU.take k).map (·.name):=E6 λ_ _=>rfl;rw[p9,l8,Co,this,<-l8,yg]
theorem O4{p}(h:S.aU[k]?=some p):(p9 S t A k).aU[k]?=some p:=by
 show((S.aU.take k).map _++S.aU.drop k)[k]?=_;rw[sr bI];simp[List.length_take,Nat.min_eq_left (Nat.le_of_lt ((List.getElem?_eq_some_iff.1 h).1)),h]
theorem TA{p}(c:(S.aU.map (·.name)).Nodup)(h:S.aU[k]?=some p):(p9 S t A k).upd p.name (vC (S.bH++[(t,A)]) S.bH.length)=p9 S t A (k+1):=by
 unfold fX.upd;rw[<-(wN (f:=vC (S.bH++[(t,A)]) S.bH.length) (l:=(p9 S t A k).aU) (by rw[rR];exact c) (O4 (t:=t) (A:=A) h))];let b:(p9 S t A k).aU.set k (vC (S.bH++[(t,A)]) S.bH.length p)=(p9 S t A (k+1)).aU:=by
  show((S.aU.take k).map _++S.aU.drop k).set k _=(S.aU.take (k+1)).map _++S.aU.drop (k+1);rw[E5 _ _ bI];simp only[ux,kR,Ch (L8 ((e_.1 h).1)),E9];obtain⟨a,rfl⟩:=e_.1 h;rw[oV a,ym,h,l8,nc];rfl
 rw[b];rfl
theorem Xn(h:S.OK n)(m:eJ S t A=0):(p9 S t A k).OK (n+1):=by
 let i:=H9 h m;let r:(p9 S t A k).aU.map (·.x)=(S.take t A).aU.map (·.x):=by
  let e:(S.take t A).aU=S.aU.map (vC (S.bH++[(t,A)]) S.bH.length):=rfl;let s:(S.aU.take k).map ((·.x)∘vC (S.bH++[(t,A)]) S.bH.length)=(S.aU.take k).map (·.x):=E6 λ_ _=>rfl;let l:S.aU.map ((·.x)∘vC (S.bH++[(t,A)]) S.bH.length)=S.aU.map (·.x):=E6 λ_ _=>rfl;rw[e,p9,l8,Co,Co,s,l,<-l8,yg]
 refine⟨i.ret,i.room,i.inc,i.time,i.many,i.kept,i.last,i.ZT,by rw[rR];exact h.nodup,?_,λp j=>?_,by rw[r];exact i.nodes⟩
 .have:=og List.length (rR (S:=S) (t:=t) (A:=A) (k:=k));simp only[ux]at this;rw[this];exact h.few
 .obtain j|j:=i_.1 j
  .obtain⟨q,o,rfl⟩:=iX.1 j;exact i.each _ (iX.2 ⟨q,F_ o,rfl⟩)
  .let⟨a,b,c,d,e,f,g⟩:=h.each p (sx j);exact⟨a,b,c,d,e,aA,g⟩
end Ev
namespace Ev
open Go.Proofs.Tryz Go.RowKit Go.Deep Lf Go.Maps Go.Conc
theorem ev9{S t A}(h:t<0\/1000000000000<t\/nZ S t=true):eJ S t A=9:=bY h
theorem YN{S t A}(h:¬(t<0\/1000000000000<t\/nZ S t=true))(a:ft A=false):eJ S t A=10:=by unfold eJ;rw[bN h,bY a]
theorem YO{S t A}(h:¬(t<0\/1000000000000<t\/nZ S t=true))(c:ft A=true){p}(b:p∈S.aU)(a:30<=p.str.length):eJ S t A=11:=by
 unfold eJ;rw[bN h,bN (by rw[c];decide),bY];exact zY.2 ⟨p,b,by simpa using a⟩
theorem XC{S t A}(h:¬(t<0\/1000000000000<t\/nZ S t=true))(c:ft A=true)(a:∀p∈S.aU,p.str.length<30):eJ S t A=if S.room<(S.bH.length:Int)+1-rU S t then 12 else 0:=by
 unfold eJ;rw[bN h,bN (by rw[c];decide),bN];simp only[zY,oX,not_exists,not_and];intro p b;have:=a p b;omega
theorem Qp{S t}(h:S.bH.length=0):nZ S t=false:=by unfold nZ;rw[ur.1 h];rfl
theorem Gt{S t e}(h:S.bH[S.bH.length-1]?=some e):nZ S t=decide (t<=e.1):=by unfold nZ;rw[RE,h]
theorem P9{S t A z}(h:eJ S t A=z)(a:z≠0):jc S t A=S:=by unfold jc;rw[bN (h▸a)]
section
variable{O:Nat->Prop}{S:fX}{n yb:Nat}{ev pv:aF}{C:aB CE}{L:aB CP}{w:aC}
theorem NV(h:eT O S yb ev pv C L w)(I:S.OK n)(hn:n<1000000000)(t ao A ax)(hA:eQ w ao A)(F:ao=none->ax=0)(dn:∀s∈A,s.size<=1000000000):
  Calls prog 62 #[Pt yb,Iv t,.slice ao A.length ax] w λe w'=>e=.returned (Iv (eJ S t A))/\uC (λb=>O b\/w.heap.size<=b) (jc S t A) yb w'/\aI O w w':=by
 have dv:=I.many;have o:Hid (∀W z,Bl w W->eJ S t A=z->z≠0->uC (λb=>O b\/w.heap.size<=b) (jc S t A) yb W/\aI O w W):=λW z d h1 h2=>⟨by rw[P9 h1 h2];exact⟨_,_,_,_,(h.below d).mono λ_ d=>.inl d⟩,aI.aR d⟩;have ag:=h.len;obtain⟨eo,bO,rfl,a7,_⟩:=bT h.bH;have HE:Hid (∀W,Bl w W->W.cell? (Ad yb 2)=some (.slice eo S.bH.length bO)):=λW d=>by rw[<-ag];exact aD (h.below d).cell rfl
 have HR:Hid (∀W i e,Bl w W->S.bH[i]?=some e->∃g,eo=some (Ad g 0)/\W.cell? (Ad g (i*2))=some (Iv e.1)/\0<=e.1/\e.1<=1000000000000):=λW i e d he=>by
  obtain⟨g,cap,e2,h1,h2⟩:=(h.below d).rows I he;injection e2 with e3 _ _;exact⟨g,e3,(h2 i e he).1⟩
 obtain⟨po,bS,rfl,ba,_⟩:=bT h.aU;have c8:=h.mS;have HP:Hid (∀W,Bl w W->W.cell? (Ad yb 4)=some (.slice po S.aU.length bS)):=λW d=>by rw[<-c8];exact aD (h.below d).cell rfl
 have HS:Hid (∀W k p,Bl w W->S.aU[k]?=some p->∃g so sc,po=some (Ad g 0)/\W.cell? (Ad g (k*4+3))=some (.slice so p.str.length sc)/\p.str.length<=30):=λW k p d hp=>by
  obtain⟨c,hc,rfl⟩:=h.get hp;have hk:=(e_.1 hc).1;obtain⟨so,sc,e1,_⟩:=bT (h.fV c (iA hc));obtain⟨cn,cm,e2,_,_,hf⟩:=bT (h.below d).aU;injection e2 with e3 _ _;obtain⟨g,rfl,_,_,hf⟩:=hf aA;exact⟨g,so,sc,e3,by rw[<-e1];exact hf _ _ (jx hc rfl),(I.each _ (iA hp)).2.2.2.2.2.2⟩
 have HM:Hid (∀W,Bl w W->W.cell? (Ad yb 0)=some (Iv S.ret)/\W.cell? (Ad yb 1)=some (Iv S.room)/\W.cell? (Ad yb 3)=some (Iv ((S.off:Int)+1))):=λW d=>⟨aD (h.below d).cell rfl,aD (h.below d).cell rfl,aD (h.below d).cell rfl⟩;have c2:=HE.out w aT;rw[ag]at a7;rw[c8]at ba;have dx:=I.few;have ec:=I.ret;have dr:=I.room;have b5:S.off<=S.bH.length:=by rcases I.last with h|⟨_,h⟩<;>omega
 by_cases M:t<0\/1000000000000<t\/nZ S t=true
 .have h9:=ev9 (A:=A) M;have E:=o.out w 9 aT h9 aG;rw[h9];replace E:Hid _:=E;rcases M with d|d|d
  .clear I h ag;go_enter func62,ntmps62;go_wp2_with fail;go_ret;exact⟨rfl,E.out⟩
  .have da:¬t<0:=by omega
   go_enter func62,ntmps62;go_wp2_with fail;go_ret;exact⟨rfl,E.out⟩
  .have ed:0<S.bH.length:=by
    rcases Bj S.bH.length with e|e
    .rw[Qp e]at d;cases d
    .exact e
   obtain⟨l,hl⟩:∃l,S.bH[S.bH.length-1]?=some l:=⟨_,fG aA⟩;rw[Gt hl]at d;have d:=Fe d;obtain⟨g,rfl,hc,ey,fc⟩:=HR.out w _ l aT hl;by_cases h0:t<0
   .go_enter func62,ntmps62;go_wp2_with fail;go_ret;exact⟨rfl,E.out⟩
   .have h1:¬1000000000000<t:=by omega
    obtain⟨m,hm⟩:∃m,S.bH.length=m+1:=⟨S.bH.length-1,aA⟩;rw[hm]at c2 a7 hc;rw[Nat.add_sub_cancel]at hc;clear I h ag HR HE o;go_enter func62,ntmps62;go_wp2_with fail;go_ret;exact⟨rfl,E.out⟩
 .have HB:Hid (¬(t<0\/1000000000000<t\/nZ S t=true)):=M;have er:¬t<0:=aA;have fb:¬1000000000000<t:=aA;obtain⟨al,X⟩:∃al,A.length=al:=⟨_,rfl⟩;have R:Hid (∀W,Bl w W->ft A=false->eJ S t A=10/\uC (λb=>O b\/w.heap.size<=b) (jc S t A) yb W/\aI O w W):=λW d h1=>⟨YN M h1,o.out W 10 d (YN M h1) aG⟩;have G:Hid (A.length=al):=X;have a6:Hid (∀W i,Bl w W->i<al->∃b off,ao=some (Ad b off)/\W.cell? (Ad b (off+i))=some (.string (A.getD i ByteArray.empty))):=λW i d hi=>by
   obtain⟨b,off,h1,h2,h3⟩:=hA (by intro e;rw[e]at X;simp at X;omega);exact⟨b,off,h1,eR d (h3 i aA)⟩
  have az:Hid (∀W i,i<al->Calls prog 107 #[.string (A.getD i ByteArray.empty)] W λe w'=>e=.returned (.bool (iY (A.getD i ByteArray.empty)))/\Bl W w'):=λW i hi=>GR _ W (dn _ (by rw[qp,fG aA];exact w_ _));have ay:Hid (10<al->ft A=false):=λh=>by unfold ft;rw[X,kg aA];rfl
  rw[X];have bl:S.bH.length=0\/∃m g l,S.bH.length=m+1/\eo=some (Ad g 0)/\w.cell? (Ad g (m*2))=some (Iv l)/\l<t:=by
   rcases Bj S.bH.length with e|e
   .exact .inl e
   .obtain⟨l,hl⟩:∃l,S.bH[S.bH.length-1]?=some l:=⟨_,fG aA⟩;obtain⟨g,e1,hc,_,_⟩:=HR.out w _ l aT hl;refine .inr ⟨S.bH.length-1,g,l.1,aA,e1,hc,?_⟩;have:=mt (λx=>Or.inr (Or.inr x)) M;rw[Gt hl]at this;simp at this;omega
  obtain⟨r,bp⟩:∃r,S.bH.length=r:=⟨_,rfl⟩;have ar:Hid (S.bH.length=r):=bp;rw[bp]at c2 a7 bl;have ej:r<=1000000000:=aA;obtain⟨pl,bj⟩:∃pl,S.aU.length=pl:=⟨_,rfl⟩;have bk:Hid (S.aU.length=pl):=bj;rw[bj]at ba HP dx;rw[bp]at HE b5;clear bp ag dv X dn c8 bj;go_enter func62,ntmps62
  go_upto_region 2 with fail
  go_cut [42]from 20 (λv wx=>v=.bool false/\Hid (w=wx))
  case first=>
   rcases bl with h0|⟨m,g,l,h0,rfl,hc,eu⟩
   case' inl=>have da:¬(0:Int)<r:=aA
   case' inr=>
    have da:(0:Int)<r:=aA;rw[show m=r-1 by omega]at hc;have b3:decide (t<=l)=false:=kg aA
   all_goals
    clear h0 HR HE o h I az hA F HP HS HM a6 R ay;go_wp2_with fail
    go_meet
    exact⟨rfl,rfl⟩
  case rest=>
   obtain⟨rfl,bw⟩:=hcut;have bw:=bw.out;subst bw;clear bl c2;by_cases df:10<al
   .have E:=R.out w aT (ay.out df);replace E:Hid _:=E;clear HR HE o h I R a6 az;go_wp2_with fail;go_ret;exact⟨iC E.out.1.symm,E.out.2⟩
   go_wp2_with fail;go_loopw [8] (λiv wr=>∃i:Nat,iv=Iv i/\i<=al/\Bl w wr/\Hid ((∀s∈A.take i,iY s=true)/\(A.take i).Nodup)) (λiv _=>al-(intOf iv).toNat)
   case atStart=>exact⟨0,rfl,cD,aT,aE,aE⟩
   case round=>
    obtain⟨i,rfl,dz,d,hG⟩:=hrel;by_cases hi:i<al
    .obtain⟨ab,dh,rfl,cw⟩:=a6.out wr i d hi;have ak:=az.out wr i hi;obtain⟨s,hs⟩:∃s,A[i]?=some s:=⟨_,fG (by rw[G.out];exact hi)⟩;rw[qp,hs,ig]at cw ak;replace hs:Hid _:=hs;cases ai:iY s with
     |false=>
      have aj:Hid (ft A=false):=by
       show _=_;unfold ft;rw[show A.all iY=false from by rw[List.all_eq_false];exact⟨_,iA hs.out,by rw[ai];decide⟩];simp
      rw[ai]at ak;clear ai HR HE o h I a6 az hA F;go_wp2_with fail;refine ak.m λY a8=>?_;have E:=R.out Y (d.tr a8) aj.out;replace E:Hid _:=E;clear R ak;go_wp2_with fail;go_ret;exact⟨iC E.out.1.symm,E.out.2⟩
     |true=>
      rw[ai]at ak;clear HR HE o h I az hA F ay;go_wp2_with fail;refine ak.m λY a8=>?_;replace ai:Hid _:=ai;clear ak cw;have cr:Hid (∀W j x,Bl w W->A[j]?=some x->W.cell? (Ad ab (dh+j))=some (.string x)):=λW j x d Q=>by
       obtain⟨b,off,e1,e2⟩:=a6.out W j d (by rw[<-G.out];exact(e_.1 Q).1);cases e1
       rwa[qp,Q]at e2
      go_wp2_with fail;go_loopw [10] (λjv wq=>∃j:Nat,jv=Iv j/\j<=i/\Bl w wq/\Hid (s∉A.take j)) (λjv _=>i-(intOf jv).toNat)
      case atStart=>exact⟨0,rfl,cD,d.tr a8,by show _∉_;simp⟩
      case round=>
       obtain⟨j,rfl,fj,H,hJ⟩:=hrel;by_cases hj:j<i
       .obtain⟨x,Q⟩:∃x,A[j]?=some x:=⟨_,fG (by rw[G.out];omega)⟩;have fo:=cr.out wr i s H hs.out;have fg:=cr.out wr j x H Q;by_cases b7:s=x
        .subst b7;have aj:Hid (ft A=false):=by
          show _=_;unfold ft;have:decide A.Nodup=false:=kg λhd=>by
           have:=(List.getElem?_inj (by rw[G.out];omega) hd).1 (Q.trans hs.out.symm);omega
          rw[this];simp
         have E:Hid (∀n,_):=λn=>R.out (wr.drewN n) (H.tr (below_drewN _ _)) aj.out;replace Q:Hid _:=Q;have hq:(s.toList==s.toList)=true:=Cl _;clear a6 R;go_wp2_with fail;go_quiet(fail);go_wp2_with fail;go_ret;exact⟨iC (E.out nq).1.symm,(E.out nq).2⟩
        .have hq:=Mz b7;replace Q:Hid _:=Q;replace b7:Hid _:=b7;clear a6 R;go_wp2_with fail;go_quiet(fail);go_wp2_with fail;go_roundw
         case rel=>exact⟨j+1,dU,aA,H.tr (below_drewN _ _),by
          show _∉_;rw[ym,Q.out];simp only[Option.toList_some,i_,sA,not_or];exact⟨hJ.out,b7.out⟩⟩
         case measure=>exact zm
       .obtain rfl:j=i:=by omega
        clear a6 R;go_wp2_with fail;go_roundw
        case rel=>exact⟨j+1,dU,aA,H,by
         rw[ym,hs.out];refine⟨λx Q=>?_,L5.2 ⟨hG.out.2,aE,λa ha b d e=>?_⟩⟩
         .simp at Q;rcases Q with Q|rfl
          .exact hG.out.1 x Q
          .exact ai.out
         .simp at d;subst d e;exact hJ.out ha⟩
        case measure=>exact zm
    .obtain rfl:i=al:=by omega
     have aj:Hid (ft A=true):=by
      show _=_;unfold ft;have:=hG.out;rw[rf (by rw[G.out];exact aX)]at this;rw[G.out,kh (by omega:i<=10),yn.2 this.1,kh this.2];rfl
     clear a6 az R ay hG hi dz;go_wp2_with fail;go_loopw [11] (λkv wr=>∃k:Nat,kv=Iv k/\k<=pl/\Bl w wr/\Hid (∀p∈S.aU.take k,p.str.length<30)) (λkv _=>pl-(intOf kv).toNat)
     case atStart=>exact⟨0,rfl,cD,d,λp hp=>by simp at hp⟩
     case round=>
      obtain⟨k,rfl,fa,aq,hK⟩:=hrel;have c4:=HP.out wr aq;by_cases hk:k<pl
      .obtain⟨p,hp⟩:∃p,S.aU[k]?=some p:=⟨_,fG (by rw[bk.out];exact hk)⟩;obtain⟨pg,so,sc,rfl,eh,ef⟩:=HS.out wr k p aq hp;replace hp:Hid _:=hp;by_cases hf:30<=p.str.length
       .have E:=o.out wr 11 aq (YO HB.out aj.out (iA hp.out) hf) aG;have bz:=YO HB.out aj.out (iA hp.out) hf;replace E:Hid _:=E;replace bz:Hid _:=bz;clear HR HE o h I hA F HP HS HM;go_wp2_with fail;go_ret;exact⟨iC bz.out.symm,E.out⟩
       .have dq:Hid (∀p∈S.aU.take (k+1),p.str.length<30):=λx Q=>by
         rw[ym,hp.out]at Q;simp at Q;rcases Q with Q|rfl
         .exact hK.out x Q
         .omega
        clear HR HE o h I hA F HP HS HM;go_wp2_with fail
        try go_big_round
        exact⟨⟨k+1,dU,aA,aq,dq⟩,zm⟩
      .obtain rfl:k=pl:=by omega
       have HL:=XC HB.out aj.out λp hp=>hK.out p (by rw[rf (by rw[bk.out];exact aX)];exact hp);replace HL:Hid _:=HL;obtain⟨m0,m1,m3⟩:=HM.out wr aq;have cz:Hid (rU S t=S.off+lf (t-S.ret) (S.bH.drop S.off)):=rfl;obtain⟨f,c7⟩:∃f,S.off=f:=⟨_,rfl⟩;have HQ:Hid (rU S t=f+lf (t-S.ret) (S.bH.drop f)):=by rw[<-c7];exact cz
       rw[c7]at b5 m3;clear c7 cz hK;go_wp2_with fail;go_loopw [12] (λiv wr=>∃q:Nat,iv=Iv ((q:Int)+1)/\q<=r/\Bl w wr/\Hid (rU S t=q+lf (t-S.ret) (S.bH.drop q))) (λiv _=>r+1-(intOf iv).toNat)
       case atStart=>exact⟨f,rfl,b5,aq,HQ⟩
       case round=>
        clear m0 m1 m3 HQ c4;obtain⟨q,rfl,hq,H,HQ⟩:=hrel;obtain⟨m0,m1,m3⟩:=HM.out wr H;have c2:=HE.out wr H;have ei:IntKind.i64.wrap (q:Int)=q:=qN aA;have en:IntKind.i64.wrap (t-S.ret)=t-S.ret:=qN aA;obtain⟨b,U⟩:∃b:Bool,(S.bH[q]?=none/\b=false)\/∃e,S.bH[q]?=some e/\b=decide (e.1<t-S.ret):=by
         cases S.bH[q]? with
         |none=>exact⟨_,.inl ⟨rfl,rfl⟩⟩
         |some e=>exact⟨_,.inr ⟨e,rfl,rfl⟩⟩
        replace U:Hid _:=U
        go_upto_region 23 with fail
        go_cut [116]from 96 to 118 (λv wx=>v=.bool b/\Bl w wx)
        case first=>
         rcases U.out with⟨h1,rfl⟩|⟨e,he,rfl⟩
         .have:q=r:=by have:=Ho.1 h1;have:=ar.out;omega
          have b1:decide ((q:Int)+1<=r)=false:=kg aA;clear HR HE o h I hA F HP HS HM HL h1 U HQ this;go_quiet(fail);go_wp2_with fail
          go_meet
          exact⟨rfl,H.tr (below_drewN _ _)⟩
         .have:q<r:=by have:=(e_.1 he).1;have:=ar.out;omega
          obtain⟨eg,ee,e0,e1,e2⟩:=HR.out wr q e H he;subst ee;have b1:decide ((q:Int)+1<=r)=true:=kh aA;clear HR HE o h I hA F HP HS HM HL he U HQ;go_quiet(fail);go_wp2_with fail
          go_meet
          exact⟨rfl,H.tr (below_drewN _ _)⟩
        case rest=>
         obtain⟨rfl,T⟩:=hcut;clear c2 m0 m1 m3;cases b with
         |true=>
          have af:Hid (q+1<=r/\rU S t=q+1+lf (t-S.ret) (S.bH.drop (q+1))):=by
           rcases U.out with⟨_,h1⟩|⟨e,he,h1⟩
           .cases h1
           .rw[HQ.out,yD _ he,bY (Fe h1.symm)];exact⟨by have:=(e_.1 he).1;have:=ar.out;omega,aA⟩
          clear HR HE o h I hA F HP HS HM HL HQ U;go_wp2_with fail;go_roundw
          case rel=>
           exact⟨q+1,dU,af.out.1,T,af.out.2⟩
          case measure=>simp only[intOf];have:=af.out.1;omega
         |false=>
          have af:rU S t=q:=by
           rcases U.out with⟨h1,_⟩|⟨e,he,h1⟩
           .rw[HQ.out,t_ (Ho.1 h1)];rfl
           .rw[HQ.out,yD _ he,bN (Hn h1.symm)];rfl
          rw[af,ar.out]at HL;replace HL:Hid _:=HL;replace af:Hid _:=af;obtain⟨m0,m1,m3⟩:=HM.out wc T;by_cases ct:S.room<(r:Int)+1-q
          .have bn:eJ S t A=12:=by rw[HL.out,bY ct]
           have E:=o.out wc 12 T bn aG;replace E:Hid _:=E;replace bn:Hid _:=bn;clear HR HE o h I hA F HP HS HM HL HQ U;go_wp2_with fail;go_ret;exact⟨iC bn.out.symm,E.out⟩
          .have bd:eJ S t A=0:=by rw[HL.out,bN ct]
           have f3:wc.frozen? (Ad yb 3)=false:=cJ (h.below T).cell 3;replace bd:Hid _:=bd;replace I:Hid _:=I;replace hA:Hid _:=hA;replace F:Hid _:=F;have bh:aI (λb=>b=yb) w (wc.setCell (Ad yb 3) (Iv ((q:Int)+1))):=(aI.aR T).trans (fH wc (Ad yb 3) _);have bc:Hid _:=dR (i:=3) (v:=Iv ((q:Int)+1)) (h.below T).cell;have bb:Hid _:=cG (h.below T).bH (fH wc (Ad yb 3) (Iv ((q:Int)+1))) λb d e=>by
            obtain⟨cg,K⟩:=cE (h.below T).bH d;have e:b=yb:=e;rw[e,(h.below T).cell]at K;cases K
           replace bh:Hid _:=bh;replace h:Hid _:=h;clear HR HE o HP HS HM HL HQ U M a7 aq H d
           go_upto_region 28 with fail
           generalize wc.setCell (Ad yb 3) (Iv ((q:Int)+1))=W at*;go_cut []from 133 (λwx=>(∃b4 o3 ac,eT (λb=>O b\/w.heap.size<=b) {S with bH:=S.bH++[(t,A)],off:=q} yb b4 (.slice po L.length bS) (C++[((t,A),o3,ac)]) L wx)/\aI O w wx)
           case first=>
            have bo:C.length=r:=h.out.len.trans ar.out;have HT:Hid (∀w3 D o3 a1 P,w3.ownsRow W.heap.size 9 1 (.slice o3 A.length a1) A.length (cI A)->aI (λ_=>False) W w3->D.ownsRow 0 193 2 P (r+1) (Sq C++[Iv t,.slice o3 i a1])->aI (λb=>(Value.slice eo r bO).ownBlock=some b) w3 D->(P.ownBlock=(Value.slice eo r bO).ownBlock\/∃k,P.ownBlock=some k/\w3.heap.size<=k)->(∃b4 o3 ac,eT (λb=>O b\/w.heap.size<=b) {S with bH:=S.bH++[(t,A)],off:=q} yb b4 (.slice po L.length bS) (C++[((t,A),o3,ac)]) L (D.setCell (Ad yb 2) P))/\aI O w (D.setCell (Ad yb 2) P)):=λw3 D o3 a1 P k1 k2 k3 k4 k5=>by
             have e:=G.out;rw[<-e,<-bo]at k3;rw[<-bo]at k4 k5;obtain⟨⟨b4,ac,Z⟩,b0⟩:=h.out.ZE aA bh.out bc.out k1 k2 k3 k4 k5;exact⟨⟨b4,o3,ac,Z⟩,b0⟩
            rw[bo]at bc bb;have hy:W.heap[yb]?=some (.cells #[Iv S.ret,Iv S.room,.slice eo r bO,Iv ((q:Int)+1),.slice po L.length bS] 79 (0,0)):=bc.out;have y2:W.cell? (Ad yb 2)=some (.slice eo r bO):=aD hy rfl;have ew:W.frozen? (Ad yb 2)=false:=cJ hy 2;have dy:=aL hy;have dw:(W.alloc (.cells #[] 9)).cell? (Ad yb 2)=some (.slice eo r bO):=(sq W _ (Ad yb 2) dy).trans y2;replace hy:Hid _:=hy;clear bo bc;obtain⟨iS,ca,cj,ck,bx⟩:=eB nT;obtain⟨iE,dd,de,db,dm⟩:=eB XS;have au:(Value.slice eo r bO).ownBlock≠some yb:=λe=>by
             obtain⟨cg,K⟩:=cE bb.out e;rw[hy.out]at K;cases K
            replace au:Hid _:=au;have aw:=Cr (base:=W.heap.size) (e:=9) (size:=1) W.drew #[] 0 aX eP rfl;cases ao with
            |none=>
             obtain rfl:i=0:=by rw[<-G.out];by_cases e:A=[];(· rw[e];rfl);(· obtain⟨_,_,e,_⟩:=hA.out e;cases e)
             obtain rfl:ax=0:=F.out rfl;have dt:A=[]:=ur.1 G.out;subst dt;have ah:aI (λ_=>False) W (W.alloc (.cells #[] 9)):=⟨rfl,rfl,aE,λb d _=>ib W _ _ d⟩;have aw:=Cr (base:=W.heap.size) (e:=9) (size:=1) W #[] 0 aX eP rfl;have bu:((W.alloc (.cells #[] 9)).alloc (.cells #[Iv t,Sl W.heap.size 0 0] 193)).drew.ownsRow 0 193 2 (.slice eo r bO) r (Sq C):=((cG bb.out ah λ_ _ e=>e).alloc _).drew;have J:=ah.get hy.out id;have e9:((W.alloc (.cells #[] 9)).alloc (.cells #[Iv t,Sl W.heap.size 0 0] 193)).cell? (Ad yb 2)=some (.slice eo r bO):=(sq _ _ (Ad yb 2) (aL J)).trans dw;replace J:Hid _:=J;have cf:∀(j:Nat)(u:aF),[Iv t,Sl W.heap.size 0 0][j]?=some u->((W.alloc (.cells #[] 9)).alloc (.cells #[Iv t,Sl W.heap.size 0 0] 193)).drew.cell? (((Ad (W.heap.size+1) 0):a_).add j)=some u:=λj u hu=>by
              have:=ry (W.alloc (.cells #[] 9)) (Iv t) (Sl W.heap.size 0 0) 193 j u hu;simpa using this
             have cd:=λD P=>HT.out (W.alloc (.cells #[] 9)) D (some (Ad W.heap.size 0)) 0 P aw ah;replace cd:Hid _:=cd;clear HT aw
             go_region_law (refine fS rfl (.tmp 137) (.tmp 143) 76 rfl 0 193 iE _ 2 32 underlying76 dd de db dm rfl aG _ r (Sq C) (by simp[Act.eval]) bu (Ad (W.heap.size+1) 0) 1 1 [Iv t,Sl W.heap.size 0 0] (by simp[Act.eval]) rfl cf (by intro u hu;simp at hu;rcases hu with rfl|rfl<;>rfl) eP aA aE ?_;intro P D y B bg;obtain⟨o5,bt,rfl,_⟩:=bT y;have b8:=vR B;have aa:=b8.get J.out au.out;have y5:D.cell? (Ad yb 2)=some (.slice eo r bO):=aD aa rfl;have du:D.frozen? (Ad yb 2)=false:=cJ aa 2;replace aa:Hid _:=aa)
             all_goals
              go_wp2_with fail
              go_meet
              exact cd.out _ _ y b8 (bg.imp id λe=>⟨_,e,aE⟩)
            |some a=>
             have e4:∀(j:Nat)(u:aF),(cI A)[j]?=some u->(W.drew.alloc (.cells #[] 9)).cell? (a.add j)=some u:=λj u hu=>h.out.strs bh.out hA.out hu _
             go_region_law (first|(refine fS rfl (.tmp 139) (.tmp 140) 31 rfl W.heap.size 9 iS _ 1 16 underlying31 ca cj ck bx rfl aG _ 0 [] (by simp[Act.eval]) aw a i ax (cI A) (by simp[Act.eval]) (by rw[vZ,G.out];omega) e4 (Gf A) eP aA aE ?_;intro v3 w3 N bm fh;rw[fC,jW,<-G.out]at N;obtain⟨o3,a1,rfl,_⟩:=bT (lr N);have ah:=Ra bm;have bu:=cG bb.out ah (λ_ _ e=>e);have J:=ah.get hy.out id;have y3:w3.cell? (Ad yb 2)=some (.slice eo r bO):=aD J rfl;have ep:w3.frozen? (Ad yb 2)=false:=cJ J 2;have e9:(w3.alloc (.cells #[Iv t,.slice o3 i a1] 193)).cell? (Ad yb 2)=some (.slice eo r bO):=(sq w3 _ (Ad yb 2) (aL J)).trans y3;replace J:Hid _:=J;replace N:Hid _:=N;rw[G.out])|(refine fS rfl (.tmp 137) (.tmp 143) 76 rfl 0 193 iE _ 2 32 underlying76 dd de db dm rfl aG _ r (Sq C) (by simp[Act.eval]) (bu.alloc _) (Ad w3.heap.size 0) 1 1 [Iv t,.slice o3 i a1] (by simp[Act.eval]) rfl (ry w3 _ _ _) (by intro u hu;simp at hu;rcases hu with rfl|rfl<;>rfl) eP aA aE ?_;intro P D y B bg;obtain⟨o5,bt,rfl,_⟩:=bT y;have b8:=Uz B;have aa:=b8.get J.out au.out;have y5:D.cell? (Ad yb 2)=some (.slice eo r bO):=aD aa rfl;have du:D.frozen? (Ad yb 2)=false:=cJ aa 2;replace aa:Hid _:=aa))
             all_goals
              go_wp2_with fail
              go_meet
              exact HT.out _ _ _ _ _ N.out ah y b8 (bg.imp id λe=>⟨_,e,aE⟩)
           case rest=>
            obtain⟨⟨fe,o3,ac,Z⟩,b0⟩:=hcut;have dk:Hid _:=I.out.nodup;have cu:Hid (∀k,(p9 S t A k).OK (n+1)):=λk=>Xn I.out bd.out;have e5:Hid (jc S t A=S.take t A):=bY bd.out;have di:Hid (uC (λb=>O b\/w.heap.size<=b) (p9 S t A 0) yb wc):=⟨_,_,_,_,by rw[TB,af.out];exact Z⟩;replace b0:Hid _:=b0;obtain⟨i0,ca,cj,ck,bx⟩:=eB Th;clear Z bh bc bb h hA F I m0 m1 m3 f3 T;go_wp2_with fail;go_loopw [13] (λkv wr=>∃j:Nat,kv=Iv j/\j<=k/\Hid (uC (λb=>O b\/w.heap.size<=b) (p9 S t A j) yb wr)/\Hid (aI O w wr)) (λkv _=>k-(intOf kv).toNat)
            case atStart=>exact⟨0,rfl,cD,di,b0⟩
            case round=>
             clear di b0;obtain⟨j,rfl,ek,hM,cl⟩:=hrel;obtain⟨b4,fi,C',L',Z⟩:=hM.out;obtain⟨cn,cm,rfl,e8,_,ad⟩:=bT Z.aU;have cq:L'.length=k:=by
              have:=og List.length (rR (S:=S) (t:=t) (A:=A) (k:=j));simp only[ux]at this;rw[Z.mS,this,bk.out]
             rw[cq]at e8;have y4:wr.cell? (Ad yb 4)=some (.slice cn k cm):=by rw[<-cq];exact aD Z.cell rfl
             by_cases hj:j<k
             .obtain⟨p,hp⟩:∃p,S.aU[j]?=some p:=⟨_,fG (by rw[bk.out];exact hj)⟩;obtain⟨c,hc,dj⟩:=Z.get (O4 (t:=t) (A:=A) hp);have b9:=iA hc;obtain⟨pg,rfl,eb,_,ad⟩:=ad aA;obtain⟨sp,b6⟩:=tN (Z.eE c b9);have c6:=Z.eE c b9;rw[b6]at c6;have V:=Z.fV c b9;obtain⟨so,sc,cc,_⟩:=bT V;obtain⟨sl,b2⟩:∃sl,c.1.str.length=sl:=⟨_,rfl⟩;have an:=(cu.out j).each c.1 (by rw[<-Z.hL];exact iX.2 ⟨c,b9,rfl⟩);have e6:sl<=30:=b2▸an.2.2.2.2.2.2;have c0:wr.cell? (Ad pg (j*4))=some (.string c.1.name):=ad _ _ (jx (k:=0) hc rfl);have c1:wr.cell? (Ad pg (j*4+1))=some (.pointer sp):=by rw[<-b6];exact ad _ _ (jx (k:=1) hc rfl)
              have c2:wr.cell? (Ad pg (j*4+2))=some (Iv c.1.cO):=ad _ _ (jx (k:=2) hc rfl);have c3:wr.cell? (Ad pg (j*4+3))=some (.slice so sl sc):=by rw[<-b2,<-cc];exact ad _ _ (jx (k:=3) hc rfl)
              have br:(p9 S t A j).bH.length=r+1:=by rw[<-ar.out];show(S.bH++[(t,A)]).length=_;simp
              have HV:=xk Z (cu.out j) aA c.1.x an.2.1.1 sp c6 c.1.name c.1.cO so sl sc r aA;rw[br,Nat.add_sub_cancel_left]at HV;obtain⟨vd,cb⟩:∃vd,Rn c.1.x c.1.cO (S.bH++[(t,A)]) S.bH.length=vd:=⟨_,rfl⟩;have cv:Jq c.1.x c.1.cO (p9 S t A j).bH r 1=Jz vd:=by rw[Hj,<-cb,ar.out];rfl
              rw[cv]at HV;replace HV:Hid _:=HV;replace V:Hid _:=V;have HX:Hid _:=Z;have ae:c.2.2=.slice so sl sc:=by rw[cc,b2]
              have HG:Hid (∀Y D P,Bl wr Y->Y.drew.grownBy D (Value.slice so sl sc).ownBlock->D.ownsRow 0 199 4 P (sl+1) (kZ c.1.str++Jz vd)->(P.ownBlock=(Value.slice so sl sc).ownBlock\/P.ownBlock=some Y.heap.size)->uC (λb=>O b\/w.heap.size<=b) (p9 S t A (j+1)) yb (D.setCell (Ad pg (j*4+3)) P)/\aI O w (D.setCell (Ad pg (j*4+3)) P)):=λY D P k1 k2 k3 k4=>by
               have hs:aI (λb=>c.2.2.ownBlock=some b) wr D:=(aI.aR k1).trans ⟨k2.os,k2.output,k2.size,λb d hp=>k2.block b d λe=>hp (by rw[ae];exact e.symm)⟩;have e1:(vC (S.bH++[(t,A)]) S.bH.length c.1).str=c.1.str++[vd]:=by show _++[_]=_;rw[cb]
               obtain⟨cy,dp⟩:=Z.grow (by rw[rR];exact dk.out) hc (f:=vC (S.bH++[(t,A)]) S.bH.length) (λp=>⟨rfl,rfl,rfl⟩) hs (v':=P) (by
                rw[e1,kt,b2];have e2:kZ (c.1.str++[vd])=kZ c.1.str++Jz vd:=by simp[kZ]
                rw[e2];exact k3) (λb d=>by
                rcases k4 with e|e
                .exact .inl (by rw[ae,<-e];exact d)
                .rw[e]at d;cases d;exact .inr k1.size)
               have e3:(p9 S t A j).upd c.1.name (vC (S.bH++[(t,A)]) S.bH.length)=p9 S t A (j+1):=by rw[dj];exact TA dk.out hp
               rw[e3]at cy;have hz:=cl.out.size;exact⟨⟨_,_,_,_,cy.mono λb d=>d.elim id λh=>.inr aA⟩,((cl.out.mono λb _ h=>Or.inl h).trans dp).mono λb d h=>h.elim id λh=>aA⟩
              have Hg:Hid (∀Y D,Bl wr Y->Y.drew.grownBy D (Value.slice so sl sc).ownBlock->D.cell? (Ad yb 4)=some (Sl pg k cm)/\D.cell? (Ad pg (j*4+3))=some (.slice so sl sc)/\D.frozen? (Ad pg (j*4+3))=false):=λY D k1 k2=>by
               have dc:∀{b:Nat}{t:TypeId}{cs:aY aF}{m:Nat×Nat},wr.heap[b]?=some (.cells cs t m)->t≠199->D.heap[b]?=wr.heap[b]?:=λ{b t cs m} d ht=>by
                rw[k2.block b (fW (aL d) k1.size) λe=>by
                 obtain⟨cg,K⟩:=cE V.out (by rw[ae];exact e.symm);rw[d]at K;cases K;exact ht rfl]
                exact k1.block b (aL d)
               obtain⟨cg,K⟩:=cE Z.aU (g:=pg) rfl;have e1:=dc Z.cell aG;have e2:=dc K aG;exact⟨(fT (a:=(Ad yb 4)) e1).trans y4,(fT (a:=(Ad pg (j*4+3))) e2).trans c3,cJ (e2.trans K) _⟩
              have bf:Hid (∀Y,Bl wr Y->Y.ownsRow 0 199 4 (.slice so sl sc) sl (kZ c.1.str)):=λY k1=>by
               have:=rW V.out k1;rw[b2]at this
               rwa[ae]at this
              clear Z ad hp b9 c6 b6 cc ae an br cv cb b2 dj hc;go_wp2_with fail;apply kq HV.out;rintro e Y ⟨t',rfl,bs,a8⟩;obtain⟨g2,cx,rfl,_,ez,_⟩:=fO bs aA;have cf:∀(j:Nat)(u:aF),(Jz vd)[j]?=some u->Y.drew.cell? (((Ad g2 0):a_).add j)=some u:=λj u hu=>by
               rw[show((Ad g2 0):a_).add j=(Ad g2 j)from by by_cases h:j=0<;>simp[Addr.add,h]];exact d_ bs rfl hu
              replace bf:=bf.out Y a8;have ds:Hid _:=λD=>Hg.out Y D a8;have e7:Hid _:=λD P=>HG.out Y D P a8;have d4:=eR a8 y4;have d3:=eR a8 c3;clear HV HX hM HG Hg V c0 c1 c2 c3 y4;go_wp2_with fail
              go_region_law (refine fS rfl (.tmp 179) (.tmp 180) 84 rfl 0 199 i0 _ 4 32 underlying84 ca cj ck bx rfl aG _ sl (kZ c.1.str) (by simp[Act.eval]) bf.drew (Ad g2 0) 1 cx (Jz vd) (by simp[Act.eval]) rfl cf (λu hu=>Dc [vd] u (by simpa[kZ]using hu)) eP aA aE ?_;intro P D y B bg;obtain⟨o5,bt,rfl,_⟩:=bT y;have bq:=ds.out D B;have z4:=bq.1;have z3:=bq.2.1;have fl:=bq.2.2;clear bq)
              all_goals
               go_wp2_with fail
               try go_big_round
               exact⟨⟨j+1,dU,hj,e7.out _ _ B y bg⟩,zm⟩
             .obtain rfl:j=k:=by omega
              have hF:Hid (uC (λb=>O b\/w.heap.size<=b) (jc S t A) yb wr/\aI O w wr):=by
               have:=hM.out;rw[VS (by rw[bk.out];exact aX)]at this;exact⟨by rw[e5.out];exact this,cl.out⟩
              clear Z ad hM;go_wp2_with fail;go_ret;exact⟨iC bd.out.symm,hF.out⟩
end
def look:aB (Nat×aF)->Nat->aQ aF
 |[],_=>none
 |p::l,j=>if j=p.1 then some p.2 else look l j
structure Fx(N:Nat)(l:aB (Nat×aF))(A:Act):Prop where
 size:A.tmps.size=N
 defers:A.defers=[]
 get:∀j v,look l j=some v->A.tmps[j]?=some v
def ZS(l:aB (Nat×aF)):Operand->aQ aF
 |.tmp j=>look l j
 |.const v=>some v
 |_=>none
def SE(l:aB (Nat×aF)):aB Operand->aQ (aB aF)
 |[]=>some []
 |x::xs=>match ZS l x,SE l xs with
  |some v,some vs=>some (v::vs)
  |_,_=>none
theorem Fx.put{N l A}(h:Fx N l A){d}(b:d<N)(v):Fx N ((d,v)::l) (A.put (some d) v):=by
 let p:=QN A d v (h.size▸b);refine⟨p.1.trans h.size,p.2.1.trans h.defers,λj u a=>?_⟩;unfold look at a;by_cases e:j=d
 .subst e;rw[bY rfl]at a;cases a;exact p.2.2.1
 .rw[bN e]at a;rw[p.2.2.2 j e];exact h.get j u a
theorem Fx.ev{N l A}(h:Fx N l A){x v}(a:ZS l x=some v):A.eval x=v:=by
 cases x with
 |tmp j=>exact SD (h.get j v a)
 |const u=>cases a;rfl
 |global g=>cases a
 |func f=>cases a
theorem Fx.bH{N:Nat}{l:aB (Nat×aF)}{A:Act}(h:Fx N l A):∀{xs:aB Operand}{vs:aB aF},SE l xs=some vs->xs.map A.eval=vs
 |[],_,e=>by cases e;rfl
 |x::xs,vs,e=>by
  unfold SE at e
  cases b:ZS l x with
  |none=>rw[b]at e;cases e
  |some v=>
   rw[b]at e
   cases a:SE l xs with
   |none=>rw[a]at e;cases e
   |some us=>
    rw[a]at e
    cases e
    rw[gW,h.ev b,h.bH a]
theorem Ec{j:Nat}{v:aF}:∀{m:aB (Nat×aF)},look m j=some v->∃p∈m,p=(j,v)
 |[],h=>by cases h
 |p::m,h=>by
  unfold look at h
  by_cases e:j=p.1
  .rw[bY e]at h
   cases h
   exact⟨p,CZ ..,by rw[e]⟩
  .rw[bN e]at h
   let⟨q,h1,h2⟩:=Ec h
   exact⟨q,sw _ h1,h2⟩
theorem Fx.less{N l m A}(h:Fx N l A)(a:∀p∈m,look l p.1=some p.2):Fx N m A:=by
 refine⟨h.size,h.defers,λj v c=>?_⟩;obtain⟨p,b,rfl⟩:=Ec c;exact h.get j v (a _ b)
section
variable{K:bU->aC->Prop}{b:Frame}{k:aB Item}{cs:aB Frame}{A:Act}{w:aC}{ops:aY Oper}{i d N:Nat}{rest:aB Nat}{v:aF}{l:aB (Nat×aF)}
end
def FY:aB (Nat×aF)->Act->Act
 |[],a=>a
 |p::m,a=>FY m (a.put (some p.1) p.2)
theorem Eu:∀(m:aB (Nat×aF))(a:Act),(FY m a).tmps.size=a.tmps.size/\(FY m a).defers=a.defers/\∀s,(∀p∈m,p.1≠s)->(FY m a).tmps[s]?=a.tmps[s]?
 |[],a=>⟨rfl,rfl,λ_ _=>rfl⟩
 |p::m,a=>by
  let⟨h1,h2,h3⟩:=Eu m (a.put (some p.1) p.2)
  refine⟨h1.trans (by simp[Act.put]),h2,λs b=>?_⟩
  rw[FY,h3 s λq c=>b q (sw _ c)]
  simp[Act.put,qv (b p (CZ ..))]
theorem Fx.FY{N:Nat}:∀{m l:aB (Nat×aF)}{a:Act},Fx N l a->(∀p∈m,p.1<N)->Fx N (m.reverse++l) (FY m a)
 |[],_,_,h,_=>h
 |p::m,l,a,h,b=>by
  have:=Fx.FY (m:=m) (h.put (b p (CZ ..)) p.2) λq c=>b q (sw _ c)
  rw[List.reverse_cons,nc]
  exact this
theorem pX{N l A}(c:A.tmps.size=N)(a:A.defers=[])(h:∀p∈l,A.tmps[p.1]?=some p.2):Fx N l A:=
 ⟨c,a,λj v d=>by obtain⟨p,b,rfl⟩:=Ec d;exact h _ b⟩
theorem gX.zF{g U id N n d q}{l m:aB (Nat×aF)}{a w}{J:Act->aC->bQ}{f E args H vs R}(hm:prog.follows .mixedOrders=true)(hA:Fx N l a)(L:m.length=n)(G:∀p∈m,p.1<N)(K:iJ g n=true)(M:∀i,i<n->Br g i=(m[i]?).map (·.1))
  (W:∀(i:Nat)(o)(p),g[i]?=some o->m[i]?=some p->∀A,Fx N (m.reverse++l) A->look (m.reverse++l) p.1=some p.2/\∀j e,(execOp A.eval o).run prog (re w j e)=.ok (.value p.2) (re w j e))
  (X:Cw g n d (.call {callee:=.value (.func f),args,argTypes:=H})) (hf:prog.funcs[f]?=some E) (u:(E.name== "runtime.NumGoroutine")=false) (z:E.body.isNone=false) (t:SE (m.reverse++l) args.toList=some vs) (B:d<N) (hC:dI prog f vs.toArray w R) (T:∀e r,R e r->∃v,e=.returned v)
  (Z:Cw g (n+1) q (.assign (.tmp d))) (F:q<N) (S:∀C v r,R (.returned v) r->Fx N ((q,v)::(d,v)::(m.reverse++l)) C->∀j d,J C (re r j d)):gX prog (.region id g U) (λe C r=>e=.normal/\J C r) a w:=by
 let⟨oc,c1,c2,c3,c4⟩:=X;let y:=hA.FY (m:=m) G;let I:=Eu m a;refine gX.NT bE hm n (FY m a) K ⟨I.1,I.2.1⟩ (λs Y=>(I.2.2 s λp D e=>?_).symm) (λi o hi P=>?_) c1 (λj e=>?_) hC T (λh=>?_) (λc a w j d h=>by cases h.1) λv r V b k cs z=>?_
 .let⟨i,hi⟩:=L1 D;let Q:=(e_.1 hi).1;exact Y i aA (by rw[M i aA,hi,<-e];rfl)
 .let D:m[i]?=some (m[i]'aA):=fG aA;let⟨h1,h2⟩:=W i o _ P D _ y;let O:=M i hi;rw[D,Br,P]at O;exact⟨_,_,O,y.get _ _ h1,h2⟩
 .rw[run_call_body c3 hf u z,<-y.bH t,<-Array.toList_map,Array.toArray_toList]
 .let⟨_,_,h,_⟩:=h;cases h
 .rw[c2];apply aJ.asg bE Z ((y.put B v).ev (x:=.tmp d) (v:=v) (by simp[ZS,look])) z.items z.frames;exact kx.nil bE (λj e=>⟨rfl,S _ v r V ((y.put B v).put F v) j e⟩) b k cs z
end Ev
end Go.Proofs.YtpbbmagjhkakgaaGreatDoor
