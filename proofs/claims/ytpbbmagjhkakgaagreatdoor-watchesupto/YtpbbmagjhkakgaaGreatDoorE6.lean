import Derived.Test.YtpbbmagjhkakgaaGreatDoorE4
namespace Go.Proofs.YtpbbmagjhkakgaaGreatDoor
set_option maxHeartbeats 8000000
set_option maxRecDepth 100000
namespace Ev
open Go.Proofs.Tryz Go.RowKit Go.Deep Go.Maps Lf
theorem Og{ret room mb aY B w}(h:Kk ret room=true)(D:w.heap[mb]?=some (.cells #[Pt aY] 104 (0,0)))(hw:w.heap[aY]?=some (.cells #[Iv ret,Iv room,.slice none 0 0,.slice none 0 0,.slice none 0 0] 153 (0,0)))(z:B<=aY):
  lR (λb=>B<=b) (kJ ret room) mb w:=by
 let h:=yC h;refine⟨⟨aY,none,0,none,0,[],[],none,0,[],[],[]⟩,?_⟩;let g:∀{m:Type}{j:Nat}{a:m},([]:aB m)[j]?≠some a:=λh=>by simp at h
 let f:∀{m:Type}{a:m},a∉([]:aB m):=λh=>by simp at h
 refine{watch:=?_,ry:=⟨rfl,trivial,λj c A=>(g A).elim⟩,perm:=List.Perm.nil,sorted:=List.Pairwise.nil,aW:=⟨rfl,λj u p s d=>(g d).elim⟩,jy:=⟨rfl,λj p x d=>(g d).elim,λx v=>(f v).elim⟩,node:=λj p d=>(g d).elim,own:=⟨z,λa n=>(nomatch n),λs r=>(f r).elim,λc l=>(f l).elim⟩,vU:=D};exact{cell:=hw,bH:=fI _ _ _ _,len:=rfl,ins:=λi c e d=>(g d).elim,typed:=λc l=>(f l).elim,few:=cC,ret:=⟨h.1,by show ret<=_;omega⟩,Uo:=λc l=>(nomatch l),Um:=cC,ncp:=aZ,nodes:=λq=>absurd rfl q,ld:=λa n=>(nomatch n),core:=λk o=>(f o).elim,ahead:=λi k o=>(g o).elim,rows:=λe y=>(f y).elim,aW:=.inl ⟨rfl,rfl,rfl⟩,wm:=cC,pcp:=aZ,na:=rfl,zS:=λi s p d=>(g d).elim,E8:=λs r=>(f r).elim,apart:=λi j s t d=>(g d).elim,Hr:=λp C=>(f C).elim}
theorem Sj{w W}(b:Below (w.alloc (.cells #[Iv 0,Iv 0,.slice none 0 0,.slice none 0 0] 148)).heap.size (w.alloc (.cells #[Iv 0,Iv 0,.slice none 0 0,.slice none 0 0] 148)) W):∃V,V=(((W.setCell (Ad w.heap.size 0) (Iv 0)).setCell (Ad w.heap.size 1) (Iv 0)).setCell (Ad w.heap.size 2) (.slice none 0 0)).setCell (Ad w.heap.size 3) (.slice none 0 0)/\V.cell? (Ad w.heap.size 0)=some (Iv 0)/\V.cell? (Ad w.heap.size 1)=some (Iv 0)/\V.cell? (Ad w.heap.size 2)=some (.slice none 0 0)/\V.cell? (Ad w.heap.size 3)=some (.slice none 0 0)/\Bl w V:=by
 let a:=dS (i:=3) (v:=Value.slice none 0 0) (dS (i:=2) (v:=Value.slice none 0 0) (dS (i:=1) (v:=Iv 0) (dS (i:=0) (v:=Iv 0) (b.aT (aQ _ _ _ rfl)))));exact⟨_,rfl,aD a rfl,aD a rfl,aD a rfl,aD a rfl,(((((cD _ w).al _).tr b).setCell aZ _).setCell aZ _|>.setCell aZ _).setCell aZ _⟩
theorem LG(a room w)(h:Kk a room=false):Calls prog 85 #[Iv a,Iv room] w λe t=>∃b,e=.returned (.tuple #[.agg #[Iv 0,Iv 0,.slice none 0 0,.slice none 0 0],.iface 287 (.pointer (some b))])/\Bl w t:=by
 let h:=Cy h;let k:=hid λW (d:Below (w.alloc (.cells #[Iv 0,Iv 0,.slice none 0 0,.slice none 0 0] 148)).heap.size (w.alloc (.cells #[Iv 0,Iv 0,.slice none 0 0,.slice none 0 0] 148)) W)=>d.aT (aQ _ _ _ rfl);let j:=hid λW (d:Below (w.alloc (.cells #[Iv 0,Iv 0,.slice none 0 0,.slice none 0 0] 148)).heap.size (w.alloc (.cells #[Iv 0,Iv 0,.slice none 0 0,.slice none 0 0] 148)) W)=>Sj d;by_cases p:0<=a/\a<=100000
 .go_enter func85,ntmps85;go_wp2_with fail;apply(n5 ⟨#[114,101,116,97,105,110]⟩ a 0 100000 (w.alloc (.cells #[Iv 0,Iv 0,.slice none 0 0,.slice none 0 0] 148)) p).mono;rintro e g ⟨rfl,rfl⟩;go_wp2_with fail;apply(pU ⟨#[114,111,111,109]⟩ room 1 60 (w.alloc (.cells #[Iv 0,Iv 0,.slice none 0 0,.slice none 0 0] 148)) aA).mono;rintro e g ⟨b,rfl,d⟩;let c:=k.out g d;let s:=cK c 0;let o:=cK c 1;let l:=cK c 2;let m:=cK c 3;let n:=aD (i:=0) c rfl;let r:=aD (i:=1) c rfl;let u:=aD (i:=2) c rfl;let q:=aD (i:=3) c rfl;let⟨V,f,v0,v1,v2,v3,hbV⟩:=j.out g d;replace f:Hid _:=f;go_wp2_with fail;rw[<-f.out];refine⟨rfl,_,?_,⟨b,rfl,hbV⟩⟩;simp[results,f85,go_sem,loadVar,v0,v1,v2,v3]
 .go_enter func85,ntmps85;go_wp2_with fail;apply(pU ⟨#[114,101,116,97,105,110]⟩ a 0 100000 (w.alloc (.cells #[Iv 0,Iv 0,.slice none 0 0,.slice none 0 0] 148)) aA).mono;rintro e g ⟨b,rfl,d⟩;let c:=k.out g d;let s:=cK c 0;let o:=cK c 1;let l:=cK c 2;let m:=cK c 3;let n:=aD (i:=0) c rfl;let r:=aD (i:=1) c rfl;let u:=aD (i:=2) c rfl;let q:=aD (i:=3) c rfl;let⟨V,f,v0,v1,v2,v3,hbV⟩:=j.out g d;replace f:Hid _:=f;go_wp2_with fail;rw[<-f.out];refine⟨rfl,_,?_,⟨b,rfl,hbV⟩⟩;simp[results,f85,go_sem,loadVar,v0,v1,v2,v3]
theorem LI(ret room w)(o:dP w)(d:cZ w):
  Calls prog 23 #[Iv ret,Iv room] w λe c=>Bl w c/\((Kk ret room=false/\e=.returned (.tuple #[.pointer none,Iv 13]))\/(Kk ret room=true/\∃mb,e=.returned (.tuple #[Pt mb,Iv 0])/\w.heap.size<=mb/\lR (λb=>w.heap.size<=b) (kJ ret room) mb c)):=by
 cases f:Kk ret room with
 |true=>
  let h:=yC f;apply(YN ret room w ⟨h.1,h.2.1⟩ h.2.2).mono;rintro e c ⟨mb,aY,rfl,n,j,q,m,p⟩;exact⟨p,.inr ⟨rfl,mb,rfl,n,Og f q m j⟩⟩
 |false=>
  let l:Hid (∀W b,Bl w W->Calls prog 40 #[.iface 287 (.pointer (some b))] W λe c=>e=.returned (Iv 13)/\Bl W c):=λW b a=>j' _ 13 W (o.below a) (d.keep a.block) (rQ (by simp[r_]) (by simp[leaves]));let k:Calls prog 45 #[Iv ret,Iv room] w λe c=>∃b,e=.returned (.tuple #[.pointer none,.iface 287 (.pointer (some b))])/\Bl w c:=by
   go_enter func45,ntmps45;go_wp2_with fail;apply(LG ret room w f).mono;rintro e i ⟨b,rfl,a⟩;go_wp2;go_ret2;exact⟨b,rfl,by first|exact a.al _|exact a⟩
  go_enter func23,ntmps23;go_wp2_with fail;apply k.mono;rintro e i ⟨b,rfl,a⟩;go_wp2_with fail;refine(l.out i b a).m λr g=>?_;go_wp2;go_ret2;exact⟨a.tr g,.inl ⟨trivial,rfl⟩⟩
theorem TW:(prog.info? 74).map (λi=>(i.zero,i.size,i.bytes))=some (some (.pointer none),1,8):=aL
section
variable{wb n m m' i:Nat}{T:Nat->Nat}{Ms:aB Mo}{E:aB mK}{w0 w w':aC}{x:Mo}
theorem cH.up(h:cH w0 wb T Ms n E m w)(b:m<=m'):cH w0 wb T Ms n E m' w:=
 {h with part:=λc=>⟨(h.part c).1,λi x a=>⟨λe=>⟨(((h.part c).2 i x a).1 e).1,(((h.part c).2 i x a).1 e).2.mono b⟩,λe=>⟨(((h.part c).2 i x a).2 e).1,(((h.part c).2 i x a).2 e).2.mono b⟩⟩⟩,few:=gH h.few b}
def GG(w0:aC)(wb n m' len:Nat)(E:aB mK)(e:Ending)(w':aC):Prop:=e=.returned (.bool true)/\∃b a,cH w0 wb b a n E m' w'/\(∀x∈a,x.S=x.R)/\a.length<=len+1
theorem Ui(h:cH w0 wb T Ms n E m w)(J:∀x∈Ms,x.S=x.R)(G:dP w0)(I:cZ w0)(h7:14<=w0.heap.size)(hm:m<=1000000)(a nn mm:Int)(s t:a_)(lv:aE):
  Calls prog 55 #[Pt wb,fV 4 a nn mm s t lv] w (GG w0 wb n (m+1) Ms.length E):=by
 have⟨lN,⟨kv,hX⟩,Z_,_⟩:=(h.part 0).1 rfl;have a1:=h.few;have A:=(cD w.heap.size w).al (.cells #[Iv 4,Iv a,Iv nn,Iv mm,.string s,.string t,lv] 73 (0,0));have X:=aQ w (.cells #[Iv 4,Iv a,Iv nn,Iv mm,.string s,.string t,lv] 73 (0,0)) _ rfl;have Z:=h.still (aH.aS A);have O:=LI nn mm _ (Z.KY G h7) (Z.B0 I);have j:Hid (∀W,Bl w W->GG w0 wb n (m+1) Ms.length E (.returned (.bool true)) W):=λW hb=>⟨rfl,T,Ms,(h.still (aH.aS hb)).up (qA m),J,qA _⟩;unfold fV;cases v:Kk nn mm with
 |false=>
  go_enter func55,ntmps55;go_wp2_with fail;apply O.mono;rintro e c ⟨i,⟨_,rfl⟩|⟨k,_⟩⟩
  case inr=>rw[v]at k;cases k
  have f:=i.aT X;have R:c.cell? (Ad w.heap.size 2)=some (Iv nn):=aD f rfl;have d3:c.cell? (Ad w.heap.size 3)=some (Iv mm):=aD f rfl;have C:=EY nn mm c;go_wp2_with fail;apply C.mono;rintro e d ⟨g,⟨_,rfl⟩|⟨k,_⟩⟩
  case inr=>rw[v]at k;cases k
  clear C;have hQ:=hid (j.out d ((A.tr i).tr g));clear A i g j R d3 v;go_wp2_with fail;refine(wV 13 _).m λq e3=>?_;obtain rfl:=e3.symm;go_wp2_with fail;go_ret;exact hQ.out
 |true=>
  obtain⟨i0,N,P,S,V⟩:=eB TW;have B:=yC v;have hS:(kJ nn mm).OK 0:=DC ⟨B.1,B.2.1⟩ B.2.2;have HF:Hid (∀(c d q p:aC)(mb pb:Nat)(r:aE),Bl w c->lR (λb=>w.heap.size<=b) (kJ nn mm) mb c->Bl c d->uU (λb=>c.heap.size<=b) (kJ nn mm) c.heap.size d->Bl d q->q.heap[pb]?=some (.cells #[Pt mb,Pt c.heap.size] 82 (0,0))->q.grownBy p lN.ownBlock->p.ownsRow 0 74 1 r (Ms.length+1) (Ms.map LN++[Pt pb])->(r.ownBlock=lN.ownBlock\/r.ownBlock=some q.heap.size)->GG w0 wb n (m+1) Ms.length E (.returned (.bool true)) (p.setCell (Ad wb 0) r)/\p.frozen? (Ad wb 0)=false/\p.cell? (Ad wb 0)=some lN):=λc d q p mb pb r i L g z Q hp G B hv=>by
   obtain⟨T',h'⟩:=h.more hX hS i L g z Q hp G B hv;have hc:p.heap[wb]?=some (.cells #[lN,Iv (n:Int),kv] 70 (0,0)):=(G.block wb (by have:=aN hX.cell;have:=i.size;have:=g.size;have:=Q.size;omega) λe=>lf Z_ hX.cell aG e.symm).trans (Q.aT (g.aT (i.aT hX.cell)));refine⟨⟨rfl,T',_,h',λy K=>?_,aF⟩,cK hc 0,aD hc rfl⟩;rcases jc.1 K with K|K
   .exact J y K
   .cases sO.1 K;rfl
  have H:=hX.cell;clear Z h hX I G j B hS;go_enter func55,ntmps55;go_wp2_with fail;apply O.mono;rintro e c ⟨i,⟨k,_⟩|⟨_,mb,rfl,a8,L⟩⟩
  case inl=>rw[v]at k;cases k
  have f:=i.aT X;have R:c.cell? (Ad w.heap.size 2)=some (Iv nn):=aD f rfl;have d3:c.cell? (Ad w.heap.size 3)=some (Iv mm):=aD f rfl;have C:=EY nn mm c;have D:=hid (L.mono λb hb=>gH A.size hb);clear O X f L;go_wp2_with fail;apply C.mono;rintro e d ⟨g,⟨k,_⟩|⟨_,rfl,z⟩⟩
  case inl=>rw[v]at k;cases k
  replace z:Hid _:=z;have M:=A.tr i;have F:=fQ (fQ Z_ M) g;have u:=g.aT (M.aT H);have c0:d.cell? (Ad wb 0)=some lN:=aD u rfl;have a7:=aN u;have HG:=hid λ(q:aC)(p:aC)(pb:Nat)(r:aE)=>HF.out c d q p mb pb r M D.out g z.out;clear C v HF Z_ H u M A i g D z R d3;generalize c.heap.size=yb at*;go_wp2_with (at_builtin;refine wpList_append_own_at _ rfl _ _ 67 rfl 0 74 i0 _ 1 8 underlying67 N P S V rfl aG _ _ _ rfl ((F.alloc _).alloc _) (Ad (d.heap.size+1) 0) 1 1 [Pt d.heap.size] rfl rfl (by have:=pC (d.alloc (.cells #[Pt mb,Pt yb] 82)) [Pt d.heap.size] 74;simpa using this) xM eP aA cC ?_);intro v5 w5 l o _ U;have⟨Y,q2,q3⟩:=HG.out _ w5 d.heap.size v5 ((aV.al _).al _) ((aV.al _).aT (aQ d _ _ rfl)) o l (by simpa using U);replace Y:Hid (GG w0 wb n (m+1) Ms.length E (.returned (.bool true)) (w5.setCell (Ad wb 0) v5)):=Y;obtain⟨g5,a6,rfl,_⟩:=fS l aA;go_wp2;go_ret;exact Y.out
end
section
variable{Lw:Nat->Prop}{wb n:Nat}{lN kv:aE}{E:aB mK}{w:aC}
theorem Ra(h:lu Lw wb lN kv n E w)(hn:n<1000000000000)(hE:E.length<=1000000000000)(l k L)(C:w.ownsRow 0 9 1 l L.length (cJ L))(M:w.ownsRow 0 9 1 k L.length (cJ L))(x:∀g,l.ownBlock=some g->¬Lw g)(G:L.length<=1000):
  Calls prog 60 #[Pt wb,l,k] w λe z=>e=.returned (.bool true)/\∃E',(E'.length<=4/\∀e∈E',e.n=n+1)/\IE (λb=>(Lw b\/l.ownBlock=some b)\/w.heap.size<=b) wb lN (n+1) (E++E') z/\aH (λb=>Lw b\/l.ownBlock=some b) w z:=by
 obtain⟨lo,t,rfl,Q,U,c⟩:=bT C;obtain⟨Y,kc,rfl,R,T,d⟩:=bT M;have H:Hid (∀i:Nat,i<L.length->∃v p o,lo=some (Ad p 0)/\Y=some (Ad o 0)/\w.cell? (Ad p i)=some (.string v)/\w.cell? (Ad o i)=some (.string v)):=λi hi=>by
  obtain⟨p,B,_,_,a⟩:=c aA;obtain⟨o,e2,_,_,b⟩:=d aA;have s:(cJ L)[i]?=some (.string L[i]):=by simp[cJ,hi]
  exact⟨_,p,o,B,e2,a _ _ s,b _ _ s⟩
 have HT:Hid (∀W:aC,Calls prog 73 #[Iv ((n:Int)+1)] W λe z=>e=.returned (.string ⟨(oW (n+1)).toArray⟩)/\Bl W z):=λW=>Fc (n+1) W;have r:(cJ L).length=L.length*(xD (n+1)).length:=by simp[cJ,xD]
 have HS:Hid (∀(W:aC)(i:Nat),i<L.length->W.ownsRow 0 9 1 (.slice lo L.length t) L.length (half (xD (n+1)) i (cJ L))->∃g a,lo=some (Ad g 0)/\∀u,Bl W u->u.cell? (Ad g i)=some (.string a)/\u.frozen? (Ad g i)=false/\∀V,u.setCell (Ad g i) (.string ⟨(oW (n+1)).toArray⟩)=V->V.ownsRow 0 9 1 (.slice lo L.length t) L.length (half (xD (n+1)) (i+1) (cJ L))/\aH (λb=>(.slice lo L.length t:aE).ownBlock=some b) W V):=λW i hi N=>by
  have F:=N;obtain⟨_,⟨B,e2⟩|⟨g,cap,S,B,_⟩⟩:=F
  .omega
  cases B;have s:=K3 (n+1) i L L[i] (fH hi);refine⟨g,L[i],rfl,λu O=>?_⟩;have j:=fQ N O;refine⟨(j.cellAt i aA).trans s.1,j.frozenAt _,?_⟩;rintro V rfl;exact⟨by rw[<-s.2];exact(j.stored i _).1,(aH.aS O).trans ((gO _ g _ _).mono λb _ e=>by rw[e];rfl)⟩
 obtain⟨J,I,f,HG⟩:=h.gv3 x C r G (λv=>⟨n+1,.slice none 0 0,v⟩) λv=>⟨rfl,.inr ⟨rfl,rfl,rfl,rfl⟩⟩;have c1:w.cell? (Ad wb 1)=some (Iv (n:Int)):=aD h.cell rfl;have f1:w.frozen? (Ad wb 1)=false:=cK h.cell 1;clear c d h C M r x;generalize L.length=ll at*;obtain⟨iV,hiV,Wi,Wj,Wk⟩:=eB n8;obtain⟨iK,hiK,aac,aad,aae⟩:=eB Bf;go_enter func60,ntmps60;go_wp2_with fail;go_loopw [7,8] (λK m wr=>∃i:Nat,K=.bool true/\m=Iv i/\i<=ll/\∃q,wr=w.drewN q) (λ_ m _=>ll-(intOf m).toNat)
 case atStart=>exact⟨0,rfl,rfl,cC,0,rfl⟩
 case round=>
  obtain⟨i,rfl,rfl,D,q,rfl⟩:=hrel;by_cases hi:i<ll
  .obtain⟨v,p,o,rfl,rfl,x0,y0⟩:=H.out i hi;clear H HS J I f HT;have Z:(v.toList==v.toList)=true:=CI _;go_wp2_with fail;go_quiet(fail);go_wp2_with fail
   try go_big_round
   exact⟨⟨i+1,rfl,dV,hi,_,rfl⟩,zm⟩
  .obtain rfl:ll=i:=by omega
   clear H;have hF:=J.out q;have hK:=I.out q;have Vz:=f.out q;replace hF:Hid _:=hF;replace hK:Hid _:=hK;replace Vz:Hid _:=Vz;clear J I f;go_wp2_with fail;generalize(w.drewN q).setCell (Ad wb 1) (Iv ((n:Int)+1))=P at*;go_loopw [10] (λm wr=>∃i:Nat,m=Iv i/\i<=ll/\aH (λb=>(.slice lo ll t:aE).ownBlock=some b) P wr/\wr.ownsRow 0 9 1 (.slice lo ll t) ll (half (xD (n+1)) i (cJ L))) (λm _=>ll-(intOf m).toNat)
   case atStart=>exact⟨0,rfl,cC,aH.refl _ _,Vz.out⟩
   case round=>
    obtain⟨i,rfl,D,hO,qi⟩:=hrel;by_cases hi:i<ll
    .obtain⟨g,a,X,y⟩:=HS.out wr i hi qi;subst X;replace y:Hid _:=y;replace hO:Hid _:=hO;clear HS qi hF hK Vz;go_wp2_with fail;refine(HT.out _).m λw2 b2=>?_;obtain⟨a1,a2,A⟩:=y.out w2 b2;replace A:Hid _:=A;clear y HT;go_wp2_with fail
     try go_big_round
     exact⟨⟨i+1,dV,hi,hO.out.trans (A.out _ rfl).2,(A.out _ rfl).1⟩,zm⟩
    .have hU:=underlying31;have Wd:=@WD (n+1);exact zgv
end
section
variable{wb n m m' i:Nat}{T:Nat->Nat}{Ms:aB Mo}{E:aB mK}{w0 w w':aC}{x:Mo}
theorem cH.names(h:cH w0 wb T Ms n E m w)(z:n<=200000000000)(l k:aE)(L:aB a_)(f:w.ownsRow 0 9 1 l L.length (cJ L))(q:w.ownsRow 0 9 1 k L.length (cJ L))(c:∀g,l.ownBlock=some g->T g=0/\w0.heap.size<=g/\∀e∈E,e.gv.ownBlock≠some g/\e.tv.ownBlock≠some g)(a:L.length<=1000):
  Calls prog 60 #[Pt wb,l,k] w λe w'=>e=.returned (.bool true)/\∃d j,cH w0 wb d Ms (n+1) j m w':=by
 obtain⟨P,v,y,i,s,x⟩:=h.fresh f aG c;let o:=h.mR.1;refine(Ra i aA aA l k L f q s a).m λw' ⟨j,b,p,u⟩=>?_;obtain⟨d,t⟩:=h.lists (i.mono λ_=>.inl) u x p ⟨bI,λe r=>(jc.1 r).imp id (b.2 e)⟩;exact⟨rfl,d,_,t⟩
def pT(w0:aC)(wb n m:Nat)(Ms:aB Mo)(e:Ending)(w':aC):Prop:=e=.returned (.bool true)/\∃c a b,a<=n+1/\cH w0 wb c Ms a b m w'
theorem Ih(h:cH w0 wb T Ms n E m w)(r:∀x∈Ms,x.S=x.R)(hi:Ms[i]?=some x)(hm:m<=1000000)(hn:n<=200000000000)(k a nn mm:Int)(hk:k=10\/k=11\/k=13)(s t:a_)(lv:aE):
  Calls prog 36 #[Pt wb,Pt x.pb,fV k a nn mm s t lv] w (pT w0 wb n m Ms):=by
 have H:=iF hi;obtain⟨⟨l,Z⟩,o⟩:=((h.part (2*i+1)).2 i x hi).1 rfl;obtain⟨⟨ev,pv,C,L,B⟩,_⟩:=((h.part (2*i+2)).2 i x hi).2 rfl;rw[<-r x H]at B;have j:=h.pair x H;have c:=(cD w.heap.size w).al (.cells #[Iv k,Iv a,Iv nn,Iv mm,.string s,.string t,lv] 73 (0,0));have HM:∀W,Bl w W->∃l P,dN P x.S x.mb l W:=λW b=>by
  obtain⟨l,h⟩:=lR.move ⟨l,Z⟩ (aH.aS b (P:=λ_=>False)) (λ_ _ x=>x) (dQ.none _ _);exact⟨l,_,h⟩
 have HP:Hid (∀W,Bl w W->W.cell? (Ad x.pb 0)=some (Pt x.mb)/\W.cell? (Ad x.pb 1)=some (Pt x.yb)):=λW b=>⟨aD (b.aT j) rfl,aD (b.aT j) rfl⟩;have O:Hid (∀W,Bl w W->pT w0 wb n m Ms (.returned (.bool true)) W):=λW b=>⟨rfl,T,n,E,qA n,h.still (aH.aS b)⟩;have aa:w.heap.size<(w.alloc (.cells #[Iv k,Iv a,Iv nn,Iv mm,.string s,.string t,lv] 73 (0,0))).heap.size:=aF;obtain⟨p0,p1⟩:=HP.out _ c;unfold fV;rcases hk with rfl|rfl|rfl
 .have u:Hid (∀W,Bl w W->Calls prog 33 #[Pt x.mb] W λe w'=>∃v M,e=.returned v/\w'.ownsRow W.heap.size 9 1 v M.length (cJ M)/\lI M/\M.Perm (x.S.aW.map (·.name))/\Bl W w'):=λW b=>by
   obtain⟨l,P,h⟩:=HM W b;exact Rm h
  have A:=hid λW (b:Bl w W)=>Ry (B.below b) o;have C3:Hid (∀(K D:aC)(I y:aE)(p d:aB a_),Bl w K->Bl K D->K.ownsRow w.heap.size 9 1 I p.length (cJ p)->lI p->p.Perm (x.S.aW.map (·.name))->D.ownsRow K.heap.size 9 1 y d.length (cJ d)->lI d->d.Perm (x.S.aW.map (·.name))->Calls prog 60 #[Pt wb,I,y] D (pT w0 wb n m Ms)):=λK D I y p d G f F V p1 Q Y X=>by
   obtain rfl:=E9 V Y (p1.trans X.symm);have a7:=o.few;have S:=p1.length_eq;have hI:=h.still (aH.aS (G.tr f));refine(hI.names hn I y p (fQ (F.mono cC) f) (Q.mono cC) (λg hg=>?_) (by simp at S;omega)).mono λe w' ⟨U,T',E',h'⟩=>⟨U,T',_,E',aZ,h'⟩;have a8:=F.lt g hg;have:=h.base.size;refine⟨GB λa1=>?_,aA,λe he=>⟨λb=>?_,λb=>?_⟩⟩
   .have:=h.dom g a1;omega
   .have:=h.BQ e he g (.inl b);omega
   .have:=h.BQ e he g (.inr b);omega
  clear h Z B j HM O r H hi o;generalize x.mb=mb at*;generalize x.yb=yb at*;generalize x.pb=pb at*;generalize x.S.aW.map (·.name)=N at*;go_enter func36,ntmps36;go_wp2_with fail;apply(u.out _ c).mono;rintro e w1 ⟨I,p,rfl,F,V,R,G⟩;obtain⟨a6,J⟩:=HP.out _ (c.tr G);obtain⟨o1,c1,rfl,_⟩:=bT (F.mono cC);have bb:=c.tr G;have hT:Hid (∀(D:aC)(y:aE)(d:aB a_),_):=λD y d f=>C3.out w1 D _ y p d bb f (F.mono c.size) V R;clear u C3 p0 p1 HP c G F V R;generalize p.length=l1 at*;go_wp2_with fail;apply(A.out _ bb).mono;rintro e w2 ⟨y,d,rfl,Q,Y,X,f⟩;obtain⟨o2,c2,rfl,_⟩:=bT (Q.mono cC);have hF:=hid (hT.out w2 _ d f Q Y X);clear hT A Q Y X f bb a6 J;generalize d.length=l2 at*;go_wp2_with fail;apply hF.out.mono;intro e w3 z;obtain rfl:e=.returned (.bool true):=z.1;replace z:Hid (pT w0 wb n m Ms (.returned (.bool true)) w3):=z;clear hF;go_wp2_with fail;go_ret;exact z.out
 .have u:Hid (∀W,Bl w W->Calls prog 26 #[Pt x.mb] W λe w'=>e=.returned (Iv (zH x.S:Nat))/\w'=W):=λW b=>by
   obtain⟨l,P,h⟩:=HM W b;exact Rk h o
  have A:=hid λW (b:Bl w W)=>Rx (B.below b) o aA;clear h Z B j HM r H hi o;generalize x.mb=mb at*;generalize x.yb=yb at*;generalize x.pb=pb at*;generalize(zH x.S:Int)=q at*;go_enter func36,ntmps36;go_wp2_with fail;refine(u.out _ c).m λw1 U=>?_;obtain rfl:=U.symm;clear u;go_wp2_with fail;refine(A.out _ c).m λw2 f=>?_;have z:=hid (O.out _ (c.tr f));clear A O;go_wp2_with fail;go_ret;exact z.out
 .have u:Hid (∀W,Bl w W->Calls prog 30 #[Pt x.mb] W λe w'=>e=.returned (Iv (Fw x.S:Nat))/\w'=W):=λW b=>by
   obtain⟨l,P,h⟩:=HM W b;exact HI h o
  have A:Hid (∀W,Bl w W->Calls prog 58 #[Pt x.yb,Iv (-1),.pointer none] W λe w'=>e=.returned (Iv (Fw x.S:Nat))/\Bl W w'):=λW b=>by
   have:=Br (B.below b) o (-1) none none rfl
   rwa[GM,Option.toList_none,CL]at this
  clear h Z B j HM r H hi o;generalize x.mb=mb at*;generalize x.yb=yb at*;generalize x.pb=pb at*;generalize(Fw x.S:Int)=q at*;go_enter func36,ntmps36;go_wp2_with fail;refine(u.out _ c).m λw1 U=>?_;obtain rfl:=U.symm;clear u;go_wp2_with fail;refine(A.out _ c).m λw2 f=>?_;have z:=hid (O.out _ (c.tr f));clear A O;go_wp2_with fail;go_ret;exact z.out
end
theorem bX.Py{w d:aC}(a:∀{b:Nat}{c:aU aE}{m},w.heap[b]?=some (.cells c 252 m)->d.heap[b]?=some (.cells c 252 m)):∀{x:BT dD}{v:aE},bX 0 w x v->bX 0 d x v
 |.nil,_,h=>h
 |.node _ _ _ _ _,_,⟨b,j,l,e,i,k,f,g⟩=>⟨b,j,l,e,i,a k,bX.Py a f,bX.Py a g⟩
section
variable{O:Nat->Prop}{S:f_}{n yb:Nat}{ev pv:aE}{C:aB CE}{L:aB CP}{w:aC}
theorem eT.IW(h:eT O S yb ev pv C L w){i j:Nat}{a b}(hi:L[i]?=some a)(m:L[j]?=some b)(f:i≠j):∀g,a.2.2.ownBlock=some g->b.2.2.ownBlock≠some g:=by
 obtain⟨d,rfl⟩:=eY.1 hi;obtain⟨c,rfl⟩:=eY.1 m;obtain e|e:=Nat.lt_or_gt_of_ne f
 .exact Dg.1 h.apart i j d c e
 .exact λg k l=>Dg.1 h.apart j i c d e g l k
theorem eT.grow{g cap}(h:eT O S yb ev (Sl g L.length cap) C L w)(Z:(S.aW.map (·.name)).Nodup){k c}(I:L[k]?=some c){f}(Y:∀p,(f p).name=p.name/\(f p).x=p.x/\(f p).cP=p.cP){z}(J:aH (λb=>c.2.2.ownBlock=some b) w z){v'}(F:z.ownsRow 0 199 4 v' (f c.1).str.length (lr (f c.1).str))(T:∀b,v'.ownBlock=some b->c.2.2.ownBlock=some b\/w.heap.size<=b):
  eT (λb=>O b\/w.heap.size<=b) (S.upd c.1.name f) yb ev (Sl g L.length cap) C (L.set k (f c.1,c.2.1,v')) (z.setCell (Ad g (k*4+3)) v')/\aH O w (z.setCell (Ad g (k*4+3)) v'):=by
 let xB:=fJ z (Ad g (k*4+3)) v';let A:=iF I;let D:∀{t y m b},w.heap[b]?=some (.cells y t m)->t≠199->c.2.2.ownBlock≠some b:=λq U e=>by
  let⟨cg,sS⟩:=cE (h.fY c A) e;rw[q]at sS;cases sS;exact U rfl
 let⟨cg,sS⟩:=cE h.aW (g:=g) rfl;let B:∀{t y m b},z.heap[b]?=some (.cells y t m)->t≠86->b≠g:=λq U e=>by
  subst e;rw[(J.get sS (D sS aG))]at q;cases q;exact U rfl
 let own:∀{base size n:Nat}{e:TypeId}{v:aE}{xs:aB aE},w.ownsRow base e size v n xs->e≠199->e≠86->(z.setCell (Ad g (k*4+3)) v').ownsRow base e size v n xs:=λq Q E=>by
  let G:=cG q J λb o=>by obtain⟨y,K⟩:=cE q o;exact D K Q
  exact cG G xB λb o=>by obtain⟨y,K⟩:=cE G o;exact B K E
 let get:∀{b:Nat}{t:TypeId}{y:aU aE}{m},w.heap[b]?=some (.cells y t m)->t≠199->t≠86->(z.setCell (Ad g (k*4+3)) v').heap[b]?=some (.cells y t m):=λq Q E=>by
  let G:=J.get q (D q Q);exact xB.get G (B G E)
 let u:∀{x:BT dD}{v:aE},bX 0 w x v->bX 0 (z.setCell (Ad g (k*4+3)) v') x v:=λhx=>bX.Py (λq=>get q aG aG) hx;let H:∀l∈L,∀b,l.2.2.ownBlock=some b->b<w.heap.size:=λl s b o=>((h.fY l s).lt b o).2;let other:∀{j:Nat}{l:CP},(L.set k (f c.1,c.2.1,v'))[j]?=some l->(j=k/\l=(f c.1,c.2.1,v'))\/(j≠k/\L[j]?=some l):=λ{j l} r=>by
  by_cases e:j=k
  .subst e;rw[rF (eY.1 I).1]at r;exact .inl ⟨rfl,(nD r).symm⟩
  .rw[yA λx=>e x.symm]at r;exact .inr ⟨e,r⟩
 refine⟨⟨get h.cell aG aG,h.hC,?_,own h.bH aG aG,?_,λd hd=>?_,λl s=>?_,λl s=>?_,?_,.inl h.own.1,λb o=>.inl (h.own.2.1 b o),λb o=>.inl (h.own.2.2.1 b o),λl s b o=>?_⟩,(J.mono λb _ e=>h.own.2.2.2 c A b e).trans (xB.mono λb _ e=>by rw[e];exact h.own.2.2.1 g rfl)⟩
 .rw[xL,h.hL];exact xg Z (by rw[<-h.hL,lj,I];rfl)
 .have:=iW (cG h.aW J λb o=>by cases o;exact D sS aG) (k*4+3) v';rw[FK];let e:uQ (L.set k (f c.1,c.2.1,v'))=(uQ L).set (k*4+3) v':=vJ J1 4 (λ_=>rfl) 3 aG v' L k c _ I (by simp[J1,Y]);rw[e];exact this
 .let⟨a1,a2,a3,a4⟩:=h.atoms d hd;let Z8:∀a,d.2.1=some a->(z.setCell (Ad g (k*4+3)) v').heap[a.block]?=w.heap[a.block]?:=λa M=>by
   let⟨y,m,k⟩:=(a4 a M).2;rw[k];exact get k aG aG
  refine⟨λR=>?_,a2,a3,λa M=>⟨.inl (a4 a M).1,by rw[Z8 a M];exact(a4 a M).2⟩⟩;let⟨b,off,b1,b2,b3⟩:=a1 R;exact⟨b,off,b1,fZ b2 (gH J.size xB.size),λj r=>by rw[fP (a:=(Ad b (off+j))) (Z8 (Ad b off) b1)];exact b3 j r⟩
 .obtain s|rfl:=BD s
  .exact u (h.eE l s)
  .show bX 0 _ (f c.1).x c.2.1;rw[(Y c.1).2.1];exact u (h.eE c A)
 .let⟨j,r⟩:=Aw.1 s;obtain⟨_,rfl⟩|⟨V,r⟩:=other r
  .exact cG F xB λb o=>by obtain⟨y,K⟩:=cE F o;exact B K aG
  .let G:=cG (h.fY l (iF r)) J λb o e=>h.IW I r (λx=>V x.symm) b e o;exact cG G xB λb o=>by obtain⟨y,K⟩:=cE G o;exact B K aG
 .refine Dg.2 λi j hi r a6 b q E=>?_;rcases other (fH hi)with⟨W,N⟩|⟨W,N⟩<;>rcases other (fH r)with⟨X,P⟩|⟨X,P⟩
  .omega
  .rw[N]at q;obtain e|e:=T b q
   .exact h.IW I P (λx=>X x.symm) b e E
   .have:=H _ (iF P) b E;omega
  .rw[P]at E;obtain e|e:=T b E
   .exact h.IW I N (λx=>W x.symm) b e q
   .have:=H _ (iF N) b q;omega
  .exact h.IW N P aA b q E
 .obtain s|rfl:=BD s
  .exact .inl (h.own.2.2.2 l s b o)
  .exact(T b o).imp (h.own.2.2.2 c A b) id
theorem eT.took(h:eT O S yb ev pv C L w){t A ao}{ac q:Nat}{i w2}(s:aH (λb=>b=yb\/ev.ownBlock=some b) w w2)(D:w2.heap[yb]?=some (.cells #[Iv S.ret,Iv S.room,i,Iv ((q)+1),pv] 79 (0,0)))
  (z:w2.ownsRow 0 193 2 i (C.length+1) (S_ C++[Iv t,.slice ao A.length ac])) (x:∀b,i.ownBlock=some b->ev.ownBlock=some b\/w.heap.size<=b)
  (f:eQ w2 ao A/\A.length<=ac/\A.length<=10/\∀a,ao=some a->w.heap.size<=a.block/\∃o m,w2.heap[a.block]?=some (.cells o 9 m)):
  eT (λb=>O b\/w.heap.size<=b) {S with bH:=S.bH++[(t,A)],off:=q} yb i pv (C++[((t,A),ao,ac)]) L w2:=by
 let j:∀{t o m b},w.heap[b]?=some (.cells o t m)->t≠193->t≠79->¬(b=yb\/ev.ownBlock=some b):=λc B u e=>by
  obtain rfl|e:=e
  .rw[h.cell]at c;cases c;exact u rfl
  .let⟨cg,sS⟩:=cE h.bH e;rw[c]at sS;cases sS;exact B rfl
 let own:∀{base size n:Nat}{e:TypeId}{v:aE}{xs:aB aE},w.ownsRow base e size v n xs->e≠193->e≠79->w2.ownsRow base e size v n xs:=λc y F=>cG c s λb g=>by obtain⟨o,E⟩:=cE c g;exact j E y F
 refine⟨D,by rw[ml,h.hC];rfl,h.hL,?_,own h.aW aG aG,λd p=>?_,λl r=>bX.Py (λc=>s.get c (j c aG aG)) (h.eE l r),λl r=>own (h.fY l r) aG aG,h.apart,.inl h.own.1,λb g=>(x b g).imp (h.own.2.1 b) id,λb g=>.inl (h.own.2.2.1 b g),λl r b g=>.inl (h.own.2.2.2 l r b g)⟩
 .let e:S_ (C++[((t,A),ao,ac)])=S_ C++[Iv t,.slice ao A.length ac]:=by simp[S_,ceV]
  rw[e,ky];exact z
 .obtain p|p:=jc.1 p
  .let⟨a1,a2,a3,a4⟩:=h.atoms d p;let g:∀a,d.2.1=some a->¬(a.block=yb\/ev.ownBlock=some a.block):=λa f=>by
    let⟨o,m,k⟩:=(a4 a f).2;exact j k aG aG
   refine⟨a1.spare s g,a2,a3,λa f=>⟨.inl (a4 a f).1,?_⟩⟩;let⟨o,m,k⟩:=(a4 a f).2;exact⟨o,m,s.get k (g a f)⟩
  .simp at p;subst p;exact⟨f.1,f.2.1,f.2.2.1,λa c=>⟨.inr (f.2.2.2 a c).1,(f.2.2.2 a c).2⟩⟩
end
theorem YF:(prog.info? 193).map (λi=>(i.zero,i.size,i.bytes))=some (some (.agg #[Iv 0,.slice none 0 0]),2,32):=aL
theorem Ve{w a o r}(h:(w.alloc o).grownBy a r):aH (λb=>r=some b) w a:=⟨h.os,h.output,gH aF h.size,λb d c=>(h.block b bI λe=>c e.symm).trans (ij _ _ _ d)⟩
theorem RU{w a o}(h:(w.drew.alloc o).grownBy a (some w.heap.size)):aH (λ_=>False) w a:=(wD (w:=w) h).mono λb c e=>by cases e;omega
theorem eT.strs{O S yb ev pv C L w W}(h:eT O S yb ev pv C L w)(g:aH (λb=>b=yb) w W){a A}(i:eQ w (some a) A){j u}(d:(cJ A)[j]?=some u)(o):(W.drew.alloc o).cell? (a.add j)=some u:=by
 have c:j<A.length:=by have:=(eY.1 d).1;rwa[wL]at this
 have⟨b,off,e,hb,hc⟩:=i (by intro e;rw[e]at c;simp at c);cases e;have hu':u=.string (A.getD j ByteArray.empty):=by simp[cJ,c]at d;rw[<-d];simp[List.getD,c]
 have f:b≠yb:=λe=>by
  obtain⟨l,_,rfl,_⟩:=bT h.bH;obtain⟨n,_,rfl,_⟩:=bT h.aW;have:=hc j c;rw[e]at this;simp only[World.cell?,h.cell]at this;generalize off+j=k at this;obtain _|_|_|_|_|k:=k<;>simp at this
 have m:((Ad b off):bC).add j=(Ad b (off+j)):=by simp[Addr.add]
 rw[m,hu',sJ W.drew _ (Ad b (off+j)) (fZ hb g.size)];show W.cell? _=_;rw[fP (a:=(Ad b (off+j))) (g.block b hb f)];exact hc j c
theorem O3{w:aC}{B cap:Nat}{o:aR bC}{A:aB a_}(h:w.ownsRow B 9 1 (.slice o A.length cap) A.length (cJ A)):eQ w o A:=λa=>by
 let⟨g,abg,e,h1,h2,_⟩:=fS h (List.length_pos_iff.2 a)
 injection e with e1 _ _
 subst e1
 refine⟨g,0,rfl,h2,λj b=>d_ h rfl ?_⟩
 simp[cJ,b]
section
variable{O:Nat->Prop}{S:f_}{n yb:Nat}{ev pv:aE}{C:aB CE}{L:aB CP}{w:aC}
theorem eT.aax(h:eT O S yb ev pv C L w){W x n:aC}{A:aB a_}{y:aR bC}{d q:Nat}{t:Int}{m:aE}(P:A.length<=10)(G:aH (λb=>b=yb) w W)(B:W.heap[yb]?=some (.cells #[Iv S.ret,Iv S.room,ev,Iv ((q:Int)+1),pv] 79 (0,0)))
  (c:x.ownsRow W.heap.size 9 1 (.slice y A.length d) A.length (cJ A)) (o:aH (λ_=>False) W x)
  (i:n.ownsRow 0 193 2 m (C.length+1) (S_ C++[Iv t,.slice y A.length d])) (p:aH (λb=>ev.ownBlock=some b) x n) (z:m.ownBlock=ev.ownBlock\/∃k,m.ownBlock=some k/\x.heap.size<=k):
  (∃E ac,eT (λb=>O b\/w.heap.size<=b) {S with bH:=S.bH++[(t,A)],off:=q} yb E pv (C++[((t,A),y,ac)]) L (n.setCell (Ad yb 2) m))/\aH O w (n.setCell (Ad yb 2) m):=by
 let xB:=fJ n (Ad yb 2) m;let r:=h.cell;let N:=aN r;let v:ev.ownBlock≠some yb:=λe=>by
  obtain⟨I,f⟩:=cE h.bH e;rw[r]at f;cases f
 let Q:=G.size;let M:=o.size;let j:aH (λb=>b=yb\/ev.ownBlock=some b) w (n.setCell (Ad yb 2) m):=
  (((G.mono λb _ e=>.inl e).trans (o.mono λb _ e=>e.elim)).trans (p.mono λb _ e=>.inr e)).trans (xB.mono λb _ e=>.inl e)
 let u:∀b,ev.ownBlock=some b->b<w.heap.size:=λb l=>(h.bH.lt b l).2;let s:n.heap[yb]?=some (.cells #[Iv S.ret,Iv S.room,ev,Iv ((q:Int)+1),pv] 79 (0,0)):=p.get (o.get B id) v;let TS:(n.setCell (Ad yb 2) m).ownsRow W.heap.size 9 1 (.slice y A.length d) A.length (cJ A):=by
  let D:=cG c p λb l e=>by have:=(c.lt b l).1;have:=u b e;omega
  exact cG D xB λb l e=>by have:=(c.lt b l).1;have e:b=yb:=e;omega
 refine⟨⟨m,d,h.took (w2:=n.setCell (Ad yb 2) m) j ?_ ?_ (λb l=>?_) ⟨O3 TS,?_,P,λa F=>?_⟩⟩,j.mono λb _ e=>?_⟩
 .exact dS s
 .exact cG i xB λb l e=>by
   obtain⟨I,f⟩:=cE i l;let e:b=yb:=e;rw[e,s]at f;cases f
 .rcases z with e|⟨k,e,R⟩
  .exact .inl (e▸l)
  .rw[e]at l;cases l;exact .inr aA
 .obtain⟨_,_,e,J,_⟩:=bT (lD c);injection e with _ _ e3;rw[e3];exact J
 .obtain⟨_,⟨e,_⟩|⟨g,_,H,e,K,D,_⟩⟩:=TS
  .injection e with e1 _ _;rw[F]at e1;cases e1
  .injection e with e1 _ _;rw[F]at e1;cases e1;exact⟨gH Q K,_,_,D⟩
 .obtain rfl|e:=e
  .exact h.own.1
  .exact h.own.2.1 b e
end
def vV(bH:aB nM)(i:Nat)(p:Az):Az:={p with str:=p.str++[R8 p.x p.cP bH i]}
def ql(S:f_)(t:Int)(A:aB a_)(k:Nat):f_:=
 {S with bH:=S.bH++[(t,A)],off:=sq S t,aW:=(S.aW.take k).map (vV (S.bH++[(t,A)]) S.bH.length)++S.aW.drop k}
variable{S:f_}{n k:Nat}{t:Int}{A:aB a_}
theorem Uk:ql S t A 0={S with bH:=S.bH++[(t,A)],off:=sq S t}:=by simp[ql]
theorem WC(h:S.aW.length<=k):ql S t A k=S.take t A:=by
 unfold ql f_.take;rw[rD h,ux h,CL];rfl
theorem sj:(ql S t A k).aW.map (·.name)=S.aW.map (·.name):=by
 have:(S.aW.take k).map ((·.name)∘vV (S.bH++[(t,A)]) S.bH.length)=(S.aW.take k).map (·.name):=FC λ_ _=>rfl;rw[ql,ml,CM,this,<-ml,yz]
theorem PG{p}(h:S.aW[k]?=some p):(ql S t A k).aW[k]?=some p:=by
 show((S.aW.take k).map _++S.aW.drop k)[k]?=_;rw[sK bI];simp[List.length_take,Nat.min_eq_left (Nat.le_of_lt ((List.getElem?_eq_some_iff.1 h).1)),h]
theorem Uj{p}(c:(S.aW.map (·.name)).Nodup)(h:S.aW[k]?=some p):(ql S t A k).upd p.name (vV (S.bH++[(t,A)]) S.bH.length)=ql S t A (k+1):=by
 unfold f_.upd;rw[<-(xg (f:=vV (S.bH++[(t,A)]) S.bH.length) (l:=(ql S t A k).aW) (by rw[sj];exact c) (PG (t:=t) (A:=A) h))];let b:(ql S t A k).aW.set k (vV (S.bH++[(t,A)]) S.bH.length p)=(ql S t A (k+1)).aW:=by
  show((S.aW.take k).map _++S.aW.drop k).set k _=(S.aW.take (k+1)).map _++S.aW.drop (k+1);rw[FB _ _ bI];simp only[uP,kV,CD (MI ((eY.1 h).1)),FF];obtain⟨a,rfl⟩:=eY.1 h;rw[pw a,yD,h,ml,nC];rfl
 rw[b];rfl
theorem X6(h:S.OK n)(m:eJ S t A=0):(ql S t A k).OK (n+1):=by
 let i:=II h m;let r:(ql S t A k).aW.map (·.x)=(S.take t A).aW.map (·.x):=by
  let e:(S.take t A).aW=S.aW.map (vV (S.bH++[(t,A)]) S.bH.length):=rfl;let s:(S.aW.take k).map ((·.x)∘vV (S.bH++[(t,A)]) S.bH.length)=(S.aW.take k).map (·.x):=FC λ_ _=>rfl;let l:S.aW.map ((·.x)∘vV (S.bH++[(t,A)]) S.bH.length)=S.aW.map (·.x):=FC λ_ _=>rfl;rw[e,ql,ml,CM,CM,s,l,<-ml,yz]
 refine⟨i.ret,i.room,i.inc,i.time,i.many,i.kept,i.last,i.far,by rw[sj];exact h.nodup,?_,λp j=>?_,by rw[r];exact i.nodes⟩
 .have:=oB List.length (sj (S:=S) (t:=t) (A:=A) (k:=k));simp only[uP]at this;rw[this];exact h.few
 .obtain j|j:=jc.1 j
  .obtain⟨q,o,rfl⟩:=iZ.1 j;exact i.each _ (iZ.2 ⟨q,GC o,rfl⟩)
  .let⟨a,b,c,d,e,f,g⟩:=h.each p (sN j);exact⟨a,b,c,d,e,aA,g⟩
end Ev
namespace Ev
open Go.Proofs.Tryz Go.RowKit Go.Deep Lf Go.Maps Go.Conc
theorem ev9{S t A}(h:t<0\/1000000000000<t\/om S t=true):eJ S t A=9:=bY h
theorem ZL{S t A}(h:¬(t<0\/1000000000000<t\/om S t=true))(a:fu A=false):eJ S t A=10:=by unfold eJ;rw[bN h,bY a]
theorem ZM{S t A}(h:¬(t<0\/1000000000000<t\/om S t=true))(c:fu A=true){p}(b:p∈S.aW)(a:30<=p.str.length):eJ S t A=11:=by
 unfold eJ;rw[bN h,bN (by rw[c];decide),bY];exact Ap.2 ⟨p,b,by simpa using a⟩
theorem Yo{S t A}(h:¬(t<0\/1000000000000<t\/om S t=true))(c:fu A=true)(a:∀p∈S.aW,p.str.length<30):eJ S t A=if S.room<(S.bH.length:Int)+1-sq S t then 12 else 0:=by
 unfold eJ;rw[bN h,bN (by rw[c];decide),bN];simp only[Ap,pz,not_exists,not_and];intro p b;have:=a p b;omega
theorem Q1{S t}(h:S.bH.length=0):om S t=false:=by unfold om;rw[uJ.1 h];rfl
theorem Ha{S t e}(h:S.bH[S.bH.length-1]?=some e):om S t=decide (t<=e.1):=by unfold om;rw[Sm,h]
theorem QJ{S t A z}(h:eJ S t A=z)(a:z≠0):jf S t A=S:=by unfold jf;rw[bN (h▸a)]
section
variable{O:Nat->Prop}{S:f_}{n yb:Nat}{ev pv:aE}{C:aB CE}{L:aB CP}{w:aC}
theorem Oy(h:eT O S yb ev pv C L w)(I:S.OK n)(hn:n<1000000000)(t ao A ax)(hA:eQ w ao A)(F:ao=none->ax=0)(dn:∀s∈A,s.size<=1000000000):
  Calls prog 62 #[Pt yb,Iv t,.slice ao A.length ax] w λe w'=>e=.returned (Iv (eJ S t A))/\uU (λb=>O b\/w.heap.size<=b) (jf S t A) yb w'/\aH O w w':=by
 have dv:=I.many;have o:Hid (∀W z,Bl w W->eJ S t A=z->z≠0->uU (λb=>O b\/w.heap.size<=b) (jf S t A) yb W/\aH O w W):=λW z d h1 h2=>⟨by rw[QJ h1 h2];exact⟨_,_,_,_,(h.below d).mono λ_ d=>.inl d⟩,aH.aS d⟩;have ag:=h.len;obtain⟨eo,bO,rfl,a7,_⟩:=bT h.bH;have HE:Hid (∀W,Bl w W->W.cell? (Ad yb 2)=some (.slice eo S.bH.length bO)):=λW d=>by rw[<-ag];exact aD (h.below d).cell rfl
 have HR:Hid (∀W i e,Bl w W->S.bH[i]?=some e->∃g,eo=some (Ad g 0)/\W.cell? (Ad g (i*2))=some (Iv e.1)/\0<=e.1/\e.1<=1000000000000):=λW i e d he=>by
  obtain⟨g,cap,e2,h1,h2⟩:=(h.below d).rows I he;injection e2 with e3 _ _;exact⟨g,e3,(h2 i e he).1⟩
 obtain⟨po,bS,rfl,ba,_⟩:=bT h.aW;have c8:=h.na;have HP:Hid (∀W,Bl w W->W.cell? (Ad yb 4)=some (.slice po S.aW.length bS)):=λW d=>by rw[<-c8];exact aD (h.below d).cell rfl
 have HS:Hid (∀W k p,Bl w W->S.aW[k]?=some p->∃g so sc,po=some (Ad g 0)/\W.cell? (Ad g (k*4+3))=some (.slice so p.str.length sc)/\p.str.length<=30):=λW k p d hp=>by
  obtain⟨c,hc,rfl⟩:=h.get hp;have hk:=(eY.1 hc).1;obtain⟨so,sc,e1,_⟩:=bT (h.fY c (iF hc));obtain⟨cn,cm,e2,_,_,hf⟩:=bT (h.below d).aW;injection e2 with e3 _ _;obtain⟨g,rfl,_,_,hf⟩:=hf aA;exact⟨g,so,sc,e3,by rw[<-e1];exact hf _ _ (jC hc rfl),(I.each _ (iF hp)).2.2.2.2.2.2⟩
 have HM:Hid (∀W,Bl w W->W.cell? (Ad yb 0)=some (Iv S.ret)/\W.cell? (Ad yb 1)=some (Iv S.room)/\W.cell? (Ad yb 3)=some (Iv ((S.off:Int)+1))):=λW d=>⟨aD (h.below d).cell rfl,aD (h.below d).cell rfl,aD (h.below d).cell rfl⟩;have c2:=HE.out w aV;rw[ag]at a7;rw[c8]at ba;have dx:=I.few;have ec:=I.ret;have dr:=I.room;have b5:S.off<=S.bH.length:=by rcases I.last with h|⟨_,h⟩<;>omega
 by_cases M:t<0\/1000000000000<t\/om S t=true
 .have h9:=ev9 (A:=A) M;have E:=o.out w 9 aV h9 aG;rw[h9];replace E:Hid _:=E;rcases M with d|d|d
  .clear I h ag;go_enter func62,ntmps62;go_wp2_with fail;go_ret;exact⟨rfl,E.out⟩
  .have da:¬t<0:=by omega
   go_enter func62,ntmps62;go_wp2_with fail;go_ret;exact⟨rfl,E.out⟩
  .have ed:0<S.bH.length:=by
    rcases BG S.bH.length with e|e
    .rw[Q1 e]at d;cases d
    .exact e
   obtain⟨l,hl⟩:∃l,S.bH[S.bH.length-1]?=some l:=⟨_,fH aA⟩;rw[Ha hl]at d;have d:=yC d;obtain⟨g,rfl,hc,ey,fc⟩:=HR.out w _ l aV hl;by_cases h0:t<0
   .go_enter func62,ntmps62;go_wp2_with fail;go_ret;exact⟨rfl,E.out⟩
   .have h1:¬1000000000000<t:=by omega
    obtain⟨m,hm⟩:∃m,S.bH.length=m+1:=⟨S.bH.length-1,aA⟩;rw[hm]at c2 a7 hc;rw[Nat.add_sub_cancel]at hc;clear I h ag HR HE o;go_enter func62,ntmps62;go_wp2_with fail;go_ret;exact⟨rfl,E.out⟩
 .have HB:Hid (¬(t<0\/1000000000000<t\/om S t=true)):=M;have er:¬t<0:=aA;have fb:¬1000000000000<t:=aA;obtain⟨al,X⟩:∃al,A.length=al:=⟨_,rfl⟩;have R:Hid (∀W,Bl w W->fu A=false->eJ S t A=10/\uU (λb=>O b\/w.heap.size<=b) (jf S t A) yb W/\aH O w W):=λW d h1=>⟨ZL M h1,o.out W 10 d (ZL M h1) aG⟩;have G:Hid (A.length=al):=X;have a6:Hid (∀W i,Bl w W->i<al->∃b off,ao=some (Ad b off)/\W.cell? (Ad b (off+i))=some (.string (A.getD i ByteArray.empty))):=λW i d hi=>by
   obtain⟨b,off,h1,h2,h3⟩:=hA (by intro e;rw[e]at X;simp at X;omega);exact⟨b,off,h1,eR d (h3 i aA)⟩
  have az:Hid (∀W i,i<al->Calls prog 107 #[.string (A.getD i ByteArray.empty)] W λe w'=>e=.returned (.bool (ja (A.getD i ByteArray.empty)))/\Bl W w'):=λW i hi=>HZ _ W (dn _ (by rw[qB,fH aA];exact xu _));have ay:Hid (10<al->fu A=false):=λh=>by unfold fu;rw[X,j_ aA];rfl
  rw[X];have bl:S.bH.length=0\/∃m g l,S.bH.length=m+1/\eo=some (Ad g 0)/\w.cell? (Ad g (m*2))=some (Iv l)/\l<t:=by
   rcases BG S.bH.length with e|e
   .exact .inl e
   .obtain⟨l,hl⟩:∃l,S.bH[S.bH.length-1]?=some l:=⟨_,fH aA⟩;obtain⟨g,e1,hc,_,_⟩:=HR.out w _ l aV hl;refine .inr ⟨S.bH.length-1,g,l.1,aA,e1,hc,?_⟩;have:=mt (λx=>Or.inr (Or.inr x)) M;rw[Ha hl]at this;simp at this;omega
  obtain⟨r,bp⟩:∃r,S.bH.length=r:=⟨_,rfl⟩;have ar:Hid (S.bH.length=r):=bp;rw[bp]at c2 a7 bl;have ej:r<=1000000000:=aA;obtain⟨pl,bj⟩:∃pl,S.aW.length=pl:=⟨_,rfl⟩;have bk:Hid (S.aW.length=pl):=bj;rw[bj]at ba HP dx;rw[bp]at HE b5;clear bp ag dv X dn c8 bj;go_enter func62,ntmps62
  go_upto_region 2 with fail
  go_cut [42]from 20 (λv wx=>v=.bool false/\Hid (w=wx))
  case first=>
   rcases bl with h0|⟨m,g,l,h0,rfl,hc,eu⟩
   case' inl=>have da:¬(0:Int)<r:=aA
   case' inr=>
    have da:(0:Int)<r:=aA;rw[show m=r-1 by omega]at hc;have b3:decide (t<=l)=false:=j_ aA
   all_goals
    clear h0 HR HE o h I az hA F HP HS HM a6 R ay;go_wp2_with fail
    go_meet
    exact⟨rfl,rfl⟩
  case rest=>
   obtain⟨rfl,bw⟩:=hcut;have bw:=bw.out;subst bw;clear bl c2;by_cases df:10<al
   .have E:=R.out w aV (ay.out df);replace E:Hid _:=E;clear HR HE o h I R a6 az;go_wp2_with fail;go_ret;exact⟨iH E.out.1.symm,E.out.2⟩
   go_wp2_with fail;go_loopw [8] (λiv wr=>∃i:Nat,iv=Iv i/\i<=al/\Bl w wr/\Hid ((∀s∈A.take i,ja s=true)/\(A.take i).Nodup)) (λiv _=>al-(intOf iv).toNat)
   case atStart=>exact⟨0,rfl,cC,aV,aF,aF⟩
   case round=>
    obtain⟨i,rfl,dz,d,hG⟩:=hrel;by_cases hi:i<al
    .obtain⟨ab,dh,rfl,cw⟩:=a6.out wr i d hi;have ak:=az.out wr i hi;obtain⟨s,hs⟩:∃s,A[i]?=some s:=⟨_,fH (by rw[G.out];exact hi)⟩;rw[qB,hs,fD]at cw ak;replace hs:Hid _:=hs;cases ai:ja s with
     |false=>
      have aj:Hid (fu A=false):=by
       show _=_;unfold fu;rw[show A.all ja=false from by rw[List.all_eq_false];exact⟨_,iF hs.out,by rw[ai];decide⟩];simp
      rw[ai]at ak;clear ai HR HE o h I a6 az hA F;go_wp2_with fail;refine ak.m λY a8=>?_;have E:=R.out Y (d.tr a8) aj.out;replace E:Hid _:=E;clear R ak;go_wp2_with fail;go_ret;exact⟨iH E.out.1.symm,E.out.2⟩
     |true=>
      rw[ai]at ak;clear HR HE o h I az hA F ay;go_wp2_with fail;refine ak.m λY a8=>?_;replace ai:Hid _:=ai;clear ak cw;have cr:Hid (∀W j x,Bl w W->A[j]?=some x->W.cell? (Ad ab (dh+j))=some (.string x)):=λW j x d Q=>by
       obtain⟨b,off,e1,e2⟩:=a6.out W j d (by rw[<-G.out];exact(eY.1 Q).1);cases e1
       rwa[qB,Q]at e2
      go_wp2_with fail;go_loopw [10] (λjv wq=>∃j:Nat,jv=Iv j/\j<=i/\Bl w wq/\Hid (s∉A.take j)) (λjv _=>i-(intOf jv).toNat)
      case atStart=>exact⟨0,rfl,cC,d.tr a8,by show _∉_;simp⟩
      case round=>
       obtain⟨j,rfl,fj,H,hJ⟩:=hrel;by_cases hj:j<i
       .obtain⟨x,Q⟩:∃x,A[j]?=some x:=⟨_,fH (by rw[G.out];omega)⟩;have fo:=cr.out wr i s H hs.out;have fg:=cr.out wr j x H Q;by_cases b7:s=x
        .subst b7;have aj:Hid (fu A=false):=by
          show _=_;unfold fu;have:decide A.Nodup=false:=j_ λhd=>by
           have:=(List.getElem?_inj (by rw[G.out];omega) hd).1 (Q.trans hs.out.symm);omega
          rw[this];simp
         have E:Hid (∀n,_):=λn=>R.out (wr.drewN n) (H.tr (below_drewN _ _)) aj.out;replace Q:Hid _:=Q;have hq:(s.toList==s.toList)=true:=CI _;clear a6 R;go_wp2_with fail;go_quiet(fail);go_wp2_with fail;go_ret;exact⟨iH (E.out nq).1.symm,(E.out nq).2⟩
        .have hq:=Na b7;replace Q:Hid _:=Q;replace b7:Hid _:=b7;clear a6 R;go_wp2_with fail;go_quiet(fail);go_wp2_with fail;go_roundw
         case rel=>exact⟨j+1,dV,aA,H.tr (below_drewN _ _),by
          show _∉_;rw[yD,Q.out];simp only[Option.toList_some,jc,sO,not_or];exact⟨hJ.out,b7.out⟩⟩
         case measure=>exact zm
       .obtain rfl:j=i:=by omega
        clear a6 R;go_wp2_with fail;go_roundw
        case rel=>exact⟨j+1,dV,aA,H,by
         rw[yD,hs.out];refine⟨λx Q=>?_,MF.2 ⟨hG.out.2,aF,λa ha b d e=>?_⟩⟩
         .simp at Q;rcases Q with Q|rfl
          .exact hG.out.1 x Q
          .exact ai.out
         .simp at d;subst d e;exact hJ.out ha⟩
        case measure=>exact zm
    .obtain rfl:i=al:=by omega
     have aj:Hid (fu A=true):=by
      show _=_;unfold fu;have:=hG.out;rw[rD (by rw[G.out];exact aZ)]at this;rw[G.out,jS (by omega:i<=10),yE.2 this.1,jS this.2];rfl
     clear a6 az R ay hG hi dz;go_wp2_with fail;go_loopw [11] (λkv wr=>∃k:Nat,kv=Iv k/\k<=pl/\Bl w wr/\Hid (∀p∈S.aW.take k,p.str.length<30)) (λkv _=>pl-(intOf kv).toNat)
     case atStart=>exact⟨0,rfl,cC,d,λp hp=>by simp at hp⟩
     case round=>
      obtain⟨k,rfl,fa,aq,hK⟩:=hrel;have c4:=HP.out wr aq;by_cases hk:k<pl
      .obtain⟨p,hp⟩:∃p,S.aW[k]?=some p:=⟨_,fH (by rw[bk.out];exact hk)⟩;obtain⟨pg,so,sc,rfl,eh,ef⟩:=HS.out wr k p aq hp;replace hp:Hid _:=hp;by_cases hf:30<=p.str.length
       .have E:=o.out wr 11 aq (ZM HB.out aj.out (iF hp.out) hf) aG;have bz:=ZM HB.out aj.out (iF hp.out) hf;replace E:Hid _:=E;replace bz:Hid _:=bz;clear HR HE o h I hA F HP HS HM;go_wp2_with fail;go_ret;exact⟨iH bz.out.symm,E.out⟩
       .have dq:Hid (∀p∈S.aW.take (k+1),p.str.length<30):=λx Q=>by
         rw[yD,hp.out]at Q;simp at Q;rcases Q with Q|rfl
         .exact hK.out x Q
         .omega
        clear HR HE o h I hA F HP HS HM;go_wp2_with fail
        try go_big_round
        exact⟨⟨k+1,dV,aA,aq,dq⟩,zm⟩
      .obtain rfl:k=pl:=by omega
       have HL:=Yo HB.out aj.out λp hp=>hK.out p (by rw[rD (by rw[bk.out];exact aZ)];exact hp);replace HL:Hid _:=HL;obtain⟨m0,m1,m3⟩:=HM.out wr aq;have cz:Hid (sq S t=S.off+ly (t-S.ret) (S.bH.drop S.off)):=rfl;obtain⟨f,c7⟩:∃f,S.off=f:=⟨_,rfl⟩;have HQ:Hid (sq S t=f+ly (t-S.ret) (S.bH.drop f)):=by rw[<-c7];exact cz
       rw[c7]at b5 m3;clear c7 cz hK;go_wp2_with fail;go_loopw [12] (λiv wr=>∃q:Nat,iv=Iv ((q:Int)+1)/\q<=r/\Bl w wr/\Hid (sq S t=q+ly (t-S.ret) (S.bH.drop q))) (λiv _=>r+1-(intOf iv).toNat)
       case atStart=>exact⟨f,rfl,b5,aq,HQ⟩
       case round=>
        clear m0 m1 m3 HQ c4;obtain⟨q,rfl,hq,H,HQ⟩:=hrel;obtain⟨m0,m1,m3⟩:=HM.out wr H;have c2:=HE.out wr H;have ei:IntKind.i64.wrap (q:Int)=q:=qZ aA;have en:IntKind.i64.wrap (t-S.ret)=t-S.ret:=qZ aA;obtain⟨b,U⟩:∃b:Bool,(S.bH[q]?=none/\b=false)\/∃e,S.bH[q]?=some e/\b=decide (e.1<t-S.ret):=by
         cases S.bH[q]? with
         |none=>exact⟨_,.inl ⟨rfl,rfl⟩⟩
         |some e=>exact⟨_,.inr ⟨e,rfl,rfl⟩⟩
        replace U:Hid _:=U
        go_upto_region 23 with fail
        go_cut [116]from 96 to 118 (λv wx=>v=.bool b/\Bl w wx)
        case first=>
         rcases U.out with⟨h1,rfl⟩|⟨e,he,rfl⟩
         .have:q=r:=by have:=Ik.1 h1;have:=ar.out;omega
          have b1:decide ((q:Int)+1<=r)=false:=j_ aA;clear HR HE o h I hA F HP HS HM HL h1 U HQ this;go_quiet(fail);go_wp2_with fail
          go_meet
          exact⟨rfl,H.tr (below_drewN _ _)⟩
         .have:q<r:=by have:=(eY.1 he).1;have:=ar.out;omega
          obtain⟨eg,ee,e0,e1,e2⟩:=HR.out wr q e H he;subst ee;have b1:decide ((q:Int)+1<=r)=true:=jS aA;clear HR HE o h I hA F HP HS HM HL he U HQ;go_quiet(fail);go_wp2_with fail
          go_meet
          exact⟨rfl,H.tr (below_drewN _ _)⟩
        case rest=>
         obtain⟨rfl,T⟩:=hcut;clear c2 m0 m1 m3;cases b with
         |true=>
          have af:Hid (q+1<=r/\sq S t=q+1+ly (t-S.ret) (S.bH.drop (q+1))):=by
           rcases U.out with⟨_,h1⟩|⟨e,he,h1⟩
           .cases h1
           .rw[HQ.out,yU _ he,bY (yC h1.symm)];exact⟨by have:=(eY.1 he).1;have:=ar.out;omega,aA⟩
          clear HR HE o h I hA F HP HS HM HL HQ U;go_wp2_with fail;go_roundw
          case rel=>
           exact⟨q+1,dV,af.out.1,T,af.out.2⟩
          case measure=>simp only[intOf];have:=af.out.1;omega
         |false=>
          have af:sq S t=q:=by
           rcases U.out with⟨h1,_⟩|⟨e,he,h1⟩
           .rw[HQ.out,ux (Ik.1 h1)];rfl
           .rw[HQ.out,yU _ he,bN (Cy h1.symm)];rfl
          rw[af,ar.out]at HL;replace HL:Hid _:=HL;replace af:Hid _:=af;obtain⟨m0,m1,m3⟩:=HM.out wc T;by_cases ct:S.room<(r:Int)+1-q
          .have bn:eJ S t A=12:=by rw[HL.out,bY ct]
           have E:=o.out wc 12 T bn aG;replace E:Hid _:=E;replace bn:Hid _:=bn;clear HR HE o h I hA F HP HS HM HL HQ U;go_wp2_with fail;go_ret;exact⟨iH bn.out.symm,E.out⟩
          .have bd:eJ S t A=0:=by rw[HL.out,bN ct]
           have f3:wc.frozen? (Ad yb 3)=false:=cK (h.below T).cell 3;replace bd:Hid _:=bd;replace I:Hid _:=I;replace hA:Hid _:=hA;replace F:Hid _:=F;have bh:aH (λb=>b=yb) w (wc.setCell (Ad yb 3) (Iv ((q:Int)+1))):=(aH.aS T).trans (fJ wc (Ad yb 3) _);have bc:Hid _:=dS (i:=3) (v:=Iv ((q:Int)+1)) (h.below T).cell;have bb:Hid _:=cG (h.below T).bH (fJ wc (Ad yb 3) (Iv ((q:Int)+1))) λb d e=>by
            obtain⟨cg,K⟩:=cE (h.below T).bH d;have e:b=yb:=e;rw[e,(h.below T).cell]at K;cases K
           replace bh:Hid _:=bh;replace h:Hid _:=h;clear HR HE o HP HS HM HL HQ U M a7 aq H d
           go_upto_region 28 with fail
           generalize wc.setCell (Ad yb 3) (Iv ((q:Int)+1))=W at*;go_cut []from 133 (λwx=>(∃b4 o3 ac,eT (λb=>O b\/w.heap.size<=b) {S with bH:=S.bH++[(t,A)],off:=q} yb b4 (.slice po L.length bS) (C++[((t,A),o3,ac)]) L wx)/\aH O w wx)
           case first=>
            have bo:C.length=r:=h.out.len.trans ar.out;have HT:Hid (∀w3 D o3 a1 P,w3.ownsRow W.heap.size 9 1 (.slice o3 A.length a1) A.length (cJ A)->aH (λ_=>False) W w3->D.ownsRow 0 193 2 P (r+1) (S_ C++[Iv t,.slice o3 i a1])->aH (λb=>(Value.slice eo r bO).ownBlock=some b) w3 D->(P.ownBlock=(Value.slice eo r bO).ownBlock\/∃k,P.ownBlock=some k/\w3.heap.size<=k)->(∃b4 o3 ac,eT (λb=>O b\/w.heap.size<=b) {S with bH:=S.bH++[(t,A)],off:=q} yb b4 (.slice po L.length bS) (C++[((t,A),o3,ac)]) L (D.setCell (Ad yb 2) P))/\aH O w (D.setCell (Ad yb 2) P)):=λw3 D o3 a1 P k1 k2 k3 k4 k5=>by
             have e:=G.out;rw[<-e,<-bo]at k3;rw[<-bo]at k4 k5;obtain⟨⟨b4,ac,Z⟩,b0⟩:=h.out.aax aA bh.out bc.out k1 k2 k3 k4 k5;exact⟨⟨b4,o3,ac,Z⟩,b0⟩
            rw[bo]at bc bb;have hy:W.heap[yb]?=some (.cells #[Iv S.ret,Iv S.room,.slice eo r bO,Iv ((q:Int)+1),.slice po L.length bS] 79 (0,0)):=bc.out;have y2:W.cell? (Ad yb 2)=some (.slice eo r bO):=aD hy rfl;have ew:W.frozen? (Ad yb 2)=false:=cK hy 2;have dy:=aN hy;have dw:(W.alloc (.cells #[] 9)).cell? (Ad yb 2)=some (.slice eo r bO):=(sJ W _ (Ad yb 2) dy).trans y2;replace hy:Hid _:=hy;clear bo bc;obtain⟨iS,ca,cj,ck,bx⟩:=eB n8;obtain⟨iE,dd,de,db,dm⟩:=eB YF;have au:(Value.slice eo r bO).ownBlock≠some yb:=λe=>by
             obtain⟨cg,K⟩:=cE bb.out e;rw[hy.out]at K;cases K
            replace au:Hid _:=au;have aw:=CQ (base:=W.heap.size) (e:=9) (size:=1) W.drew #[] 0 aZ eP rfl;cases ao with
            |none=>
             obtain rfl:i=0:=by rw[<-G.out];by_cases e:A=[];(· rw[e];rfl);(· obtain⟨_,_,e,_⟩:=hA.out e;cases e)
             obtain rfl:ax=0:=F.out rfl;have dt:A=[]:=uJ.1 G.out;subst dt;have ah:aH (λ_=>False) W (W.alloc (.cells #[] 9)):=⟨rfl,rfl,aF,λb d _=>ij W _ _ d⟩;have aw:=CQ (base:=W.heap.size) (e:=9) (size:=1) W #[] 0 aZ eP rfl;have bu:((W.alloc (.cells #[] 9)).alloc (.cells #[Iv t,Sl W.heap.size 0 0] 193)).drew.ownsRow 0 193 2 (.slice eo r bO) r (S_ C):=((cG bb.out ah λ_ _ e=>e).alloc _).drew;have J:=ah.get hy.out id;have e9:((W.alloc (.cells #[] 9)).alloc (.cells #[Iv t,Sl W.heap.size 0 0] 193)).cell? (Ad yb 2)=some (.slice eo r bO):=(sJ _ _ (Ad yb 2) (aN J)).trans dw;replace J:Hid _:=J;have cf:∀(j:Nat)(u:aE),[Iv t,Sl W.heap.size 0 0][j]?=some u->((W.alloc (.cells #[] 9)).alloc (.cells #[Iv t,Sl W.heap.size 0 0] 193)).drew.cell? (((Ad (W.heap.size+1) 0):bC).add j)=some u:=λj u hu=>by
              have:=rM (W.alloc (.cells #[] 9)) (Iv t) (Sl W.heap.size 0 0) 193 j u hu;simpa using this
             have cd:=λD P=>HT.out (W.alloc (.cells #[] 9)) D (some (Ad W.heap.size 0)) 0 P aw ah;replace cd:Hid _:=cd;clear HT aw
             go_region_law (refine fW rfl (.tmp 137) (.tmp 143) 76 rfl 0 193 iE _ 2 32 underlying76 dd de db dm rfl aG _ r (S_ C) (by simp[Act.eval]) bu (Ad (W.heap.size+1) 0) 1 1 [Iv t,Sl W.heap.size 0 0] (by simp[Act.eval]) rfl cf (by intro u hu;simp at hu;rcases hu with rfl|rfl<;>rfl) eP aA aF ?_;intro P D y B bg;obtain⟨o5,bt,rfl,_⟩:=bT y;have b8:=wD B;have aa:=b8.get J.out au.out;have y5:D.cell? (Ad yb 2)=some (.slice eo r bO):=aD aa rfl;have du:D.frozen? (Ad yb 2)=false:=cK aa 2;replace aa:Hid _:=aa)
             all_goals
              go_wp2_with fail
              go_meet
              exact cd.out _ _ y b8 (bg.imp id λe=>⟨_,e,aF⟩)
            |some a=>
             have e4:∀(j:Nat)(u:aE),(cJ A)[j]?=some u->(W.drew.alloc (.cells #[] 9)).cell? (a.add j)=some u:=λj u hu=>h.out.strs bh.out hA.out hu _
             go_region_law (first|(refine fW rfl (.tmp 139) (.tmp 140) 31 rfl W.heap.size 9 iS _ 1 16 underlying31 ca cj ck bx rfl aG _ 0 [] (by simp[Act.eval]) aw a i ax (cJ A) (by simp[Act.eval]) (by rw[wL,G.out];omega) e4 (GL A) eP aA aF ?_;intro v3 w3 N bm fh;rw[fE,jq,<-G.out]at N;obtain⟨o3,a1,rfl,_⟩:=bT (lD N);have ah:=RU bm;have bu:=cG bb.out ah (λ_ _ e=>e);have J:=ah.get hy.out id;have y3:w3.cell? (Ad yb 2)=some (.slice eo r bO):=aD J rfl;have ep:w3.frozen? (Ad yb 2)=false:=cK J 2;have e9:(w3.alloc (.cells #[Iv t,.slice o3 i a1] 193)).cell? (Ad yb 2)=some (.slice eo r bO):=(sJ w3 _ (Ad yb 2) (aN J)).trans y3;replace J:Hid _:=J;replace N:Hid _:=N;rw[G.out])|(refine fW rfl (.tmp 137) (.tmp 143) 76 rfl 0 193 iE _ 2 32 underlying76 dd de db dm rfl aG _ r (S_ C) (by simp[Act.eval]) (bu.alloc _) (Ad w3.heap.size 0) 1 1 [Iv t,.slice o3 i a1] (by simp[Act.eval]) rfl (rM w3 _ _ _) (by intro u hu;simp at hu;rcases hu with rfl|rfl<;>rfl) eP aA aF ?_;intro P D y B bg;obtain⟨o5,bt,rfl,_⟩:=bT y;have b8:=Ve B;have aa:=b8.get J.out au.out;have y5:D.cell? (Ad yb 2)=some (.slice eo r bO):=aD aa rfl;have du:D.frozen? (Ad yb 2)=false:=cK aa 2;replace aa:Hid _:=aa))
             all_goals
              go_wp2_with fail
              go_meet
              exact HT.out _ _ _ _ _ N.out ah y b8 (bg.imp id λe=>⟨_,e,aF⟩)
           case rest=>
            obtain⟨⟨fe,o3,ac,Z⟩,b0⟩:=hcut;have dk:Hid _:=I.out.nodup;have cu:Hid (∀k,(ql S t A k).OK (n+1)):=λk=>X6 I.out bd.out;have e5:Hid (jf S t A=S.take t A):=bY bd.out;have di:Hid (uU (λb=>O b\/w.heap.size<=b) (ql S t A 0) yb wc):=⟨_,_,_,_,by rw[Uk,af.out];exact Z⟩;replace b0:Hid _:=b0;obtain⟨i0,ca,cj,ck,bx⟩:=eB TY;clear Z bh bc bb h hA F I m0 m1 m3 f3 T;go_wp2_with fail;go_loopw [13] (λkv wr=>∃j:Nat,kv=Iv j/\j<=k/\Hid (uU (λb=>O b\/w.heap.size<=b) (ql S t A j) yb wr)/\Hid (aH O w wr)) (λkv _=>k-(intOf kv).toNat)
            case atStart=>exact⟨0,rfl,cC,di,b0⟩
            case round=>
             clear di b0;obtain⟨j,rfl,ek,hM,cl⟩:=hrel;obtain⟨b4,fi,C',L',Z⟩:=hM.out;obtain⟨cn,cm,rfl,e8,_,ad⟩:=bT Z.aW;have cq:L'.length=k:=by
              have:=oB List.length (sj (S:=S) (t:=t) (A:=A) (k:=j));simp only[uP]at this;rw[Z.na,this,bk.out]
             rw[cq]at e8;have y4:wr.cell? (Ad yb 4)=some (.slice cn k cm):=by rw[<-cq];exact aD Z.cell rfl
             by_cases hj:j<k
             .obtain⟨p,hp⟩:∃p,S.aW[j]?=some p:=⟨_,fH (by rw[bk.out];exact hj)⟩;obtain⟨c,hc,dj⟩:=Z.get (PG (t:=t) (A:=A) hp);have b9:=iF hc;obtain⟨pg,rfl,eb,_,ad⟩:=ad aA;obtain⟨sp,b6⟩:=uf (Z.eE c b9);have c6:=Z.eE c b9;rw[b6]at c6;have V:=Z.fY c b9;obtain⟨so,sc,cc,_⟩:=bT V;obtain⟨sl,b2⟩:∃sl,c.1.str.length=sl:=⟨_,rfl⟩;have an:=(cu.out j).each c.1 (by rw[<-Z.hL];exact iZ.2 ⟨c,b9,rfl⟩);have e6:sl<=30:=b2▸an.2.2.2.2.2.2;have c0:wr.cell? (Ad pg (j*4))=some (.string c.1.name):=ad _ _ (jC (k:=0) hc rfl);have c1:wr.cell? (Ad pg (j*4+1))=some (.pointer sp):=by rw[<-b6];exact ad _ _ (jC (k:=1) hc rfl)
              have c2:wr.cell? (Ad pg (j*4+2))=some (Iv c.1.cP):=ad _ _ (jC (k:=2) hc rfl);have c3:wr.cell? (Ad pg (j*4+3))=some (.slice so sl sc):=by rw[<-b2,<-cc];exact ad _ _ (jC (k:=3) hc rfl)
              have br:(ql S t A j).bH.length=r+1:=by rw[<-ar.out];show(S.bH++[(t,A)]).length=_;simp
              have HV:=xG Z (cu.out j) aA c.1.x an.2.1.1 sp c6 c.1.name c.1.cP so sl sc r aA;rw[br,Nat.add_sub_cancel_left]at HV;obtain⟨vd,cb⟩:∃vd,R8 c.1.x c.1.cP (S.bH++[(t,A)]) S.bH.length=vd:=⟨_,rfl⟩;have cv:JP c.1.x c.1.cP (ql S t A j).bH r 1=J3 vd:=by rw[Ig,<-cb,ar.out];rfl
              rw[cv]at HV;replace HV:Hid _:=HV;replace V:Hid _:=V;have HX:Hid _:=Z;have ae:c.2.2=.slice so sl sc:=by rw[cc,b2]
              have HG:Hid (∀Y D P,Bl wr Y->Y.drew.grownBy D (Value.slice so sl sc).ownBlock->D.ownsRow 0 199 4 P (sl+1) (lr c.1.str++J3 vd)->(P.ownBlock=(Value.slice so sl sc).ownBlock\/P.ownBlock=some Y.heap.size)->uU (λb=>O b\/w.heap.size<=b) (ql S t A (j+1)) yb (D.setCell (Ad pg (j*4+3)) P)/\aH O w (D.setCell (Ad pg (j*4+3)) P)):=λY D P k1 k2 k3 k4=>by
               have hs:aH (λb=>c.2.2.ownBlock=some b) wr D:=(aH.aS k1).trans ⟨k2.os,k2.output,k2.size,λb d hp=>k2.block b d λe=>hp (by rw[ae];exact e.symm)⟩;have e1:(vV (S.bH++[(t,A)]) S.bH.length c.1).str=c.1.str++[vd]:=by show _++[_]=_;rw[cb]
               obtain⟨cy,dp⟩:=Z.grow (by rw[sj];exact dk.out) hc (f:=vV (S.bH++[(t,A)]) S.bH.length) (λp=>⟨rfl,rfl,rfl⟩) hs (v':=P) (by
                rw[e1,ky,b2];have e2:lr (c.1.str++[vd])=lr c.1.str++J3 vd:=by simp[lr]
                rw[e2];exact k3) (λb d=>by
                rcases k4 with e|e
                .exact .inl (by rw[ae,<-e];exact d)
                .rw[e]at d;cases d;exact .inr k1.size)
               have e3:(ql S t A j).upd c.1.name (vV (S.bH++[(t,A)]) S.bH.length)=ql S t A (j+1):=by rw[dj];exact Uj dk.out hp
               rw[e3]at cy;have hz:=cl.out.size;exact⟨⟨_,_,_,_,cy.mono λb d=>d.elim id λh=>.inr aA⟩,((cl.out.mono λb _ h=>Or.inl h).trans dp).mono λb d h=>h.elim id λh=>aA⟩
              have Hg:Hid (∀Y D,Bl wr Y->Y.drew.grownBy D (Value.slice so sl sc).ownBlock->D.cell? (Ad yb 4)=some (Sl pg k cm)/\D.cell? (Ad pg (j*4+3))=some (.slice so sl sc)/\D.frozen? (Ad pg (j*4+3))=false):=λY D k1 k2=>by
               have dc:∀{b:Nat}{t:TypeId}{cs:aU aE}{m:Nat×Nat},wr.heap[b]?=some (.cells cs t m)->t≠199->D.heap[b]?=wr.heap[b]?:=λ{b t cs m} d ht=>by
                rw[k2.block b (fZ (aN d) k1.size) λe=>by
                 obtain⟨cg,K⟩:=cE V.out (by rw[ae];exact e.symm);rw[d]at K;cases K;exact ht rfl]
                exact k1.block b (aN d)
               obtain⟨cg,K⟩:=cE Z.aW (g:=pg) rfl;have e1:=dc Z.cell aG;have e2:=dc K aG;exact⟨(fP (a:=(Ad yb 4)) e1).trans y4,(fP (a:=(Ad pg (j*4+3))) e2).trans c3,cK (e2.trans K) _⟩
              have bf:Hid (∀Y,Bl wr Y->Y.ownsRow 0 199 4 (.slice so sl sc) sl (lr c.1.str)):=λY k1=>by
               have:=sr V.out k1;rw[b2]at this
               rwa[ae]at this
              clear Z ad hp b9 c6 b6 cc ae an br cv cb b2 dj hc;go_wp2_with fail;apply ku HV.out;rintro e Y ⟨t',rfl,bs,a8⟩;obtain⟨g2,cx,rfl,_,ez,_⟩:=fS bs aA;have cf:∀(j:Nat)(u:aE),(J3 vd)[j]?=some u->Y.drew.cell? (((Ad g2 0):bC).add j)=some u:=λj u hu=>by
               rw[show((Ad g2 0):bC).add j=(Ad g2 j)from by by_cases h:j=0<;>simp[Addr.add,h]];exact d_ bs rfl hu
              replace bf:=bf.out Y a8;have ds:Hid _:=λD=>Hg.out Y D a8;have e7:Hid _:=λD P=>HG.out Y D P a8;have d4:=eR a8 y4;have d3:=eR a8 c3;clear HV HX hM HG Hg V c0 c1 c2 c3 y4;go_wp2_with fail
              go_region_law (refine fW rfl (.tmp 179) (.tmp 180) 84 rfl 0 199 i0 _ 4 32 underlying84 ca cj ck bx rfl aG _ sl (lr c.1.str) (by simp[Act.eval]) bf.drew (Ad g2 0) 1 cx (J3 vd) (by simp[Act.eval]) rfl cf (λu hu=>Dw [vd] u (by simpa[lr]using hu)) eP aA aF ?_;intro P D y B bg;obtain⟨o5,bt,rfl,_⟩:=bT y;have bq:=ds.out D B;have z4:=bq.1;have z3:=bq.2.1;have fl:=bq.2.2;clear bq)
              all_goals
               go_wp2_with fail
               try go_big_round
               exact⟨⟨j+1,dV,hj,e7.out _ _ B y bg⟩,zm⟩
             .obtain rfl:j=k:=by omega
              have hF:Hid (uU (λb=>O b\/w.heap.size<=b) (jf S t A) yb wr/\aH O w wr):=by
               have:=hM.out;rw[WC (by rw[bk.out];exact aZ)]at this;exact⟨by rw[e5.out];exact this,cl.out⟩
              clear Z ad hM;go_wp2_with fail;go_ret;exact⟨iH bd.out.symm,hF.out⟩
end
def look:aB (Nat×aE)->Nat->aR aE
 |[],_=>none
 |p::l,j=>if j=p.1 then some p.2 else look l j
structure Fx(N:Nat)(l:aB (Nat×aE))(A:Act):Prop where
 size:A.tmps.size=N
 defers:A.defers=[]
 get:∀j v,look l j=some v->A.tmps[j]?=some v
def evl(l:aB (Nat×aE)):Operand->aR aE
 |.tmp j=>look l j
 |.const v=>some v
 |_=>none
def Tj(l:aB (Nat×aE)):aB Operand->aR (aB aE)
 |[]=>some []
 |x::xs=>match evl l x,Tj l xs with
  |some v,some vs=>some (v::vs)
  |_,_=>none
theorem Fx.put{N l A}(h:Fx N l A){d}(b:d<N)(v):Fx N ((d,v)::l) (A.put (some d) v):=by
 let p:=Rq A d v (h.size▸b);refine⟨p.1.trans h.size,p.2.1.trans h.defers,λj u a=>?_⟩;unfold look at a;by_cases e:j=d
 .subst e;rw[bY rfl]at a;cases a;exact p.2.2.1
 .rw[bN e]at a;rw[p.2.2.2 j e];exact h.get j u a
theorem Fx.ev{N l A}(h:Fx N l A){x v}(a:evl l x=some v):A.eval x=v:=by
 cases x with
 |tmp j=>exact Ti (h.get j v a)
 |const u=>cases a;rfl
 |global g=>cases a
 |func f=>cases a
theorem Fx.bH{N:Nat}{l:aB (Nat×aE)}{A:Act}(h:Fx N l A):∀{xs:aB Operand}{vs:aB aE},Tj l xs=some vs->xs.map A.eval=vs
 |[],_,e=>by cases e;rfl
 |x::xs,vs,e=>by
  unfold Tj at e
  cases b:evl l x with
  |none=>rw[b]at e;cases e
  |some v=>
   rw[b]at e
   cases a:Tj l xs with
   |none=>rw[a]at e;cases e
   |some us=>
    rw[a]at e
    cases e
    rw[hY,h.ev b,h.bH a]
theorem EB{j:Nat}{v:aE}:∀{m:aB (Nat×aE)},look m j=some v->∃p∈m,p=(j,v)
 |[],h=>by cases h
 |p::m,h=>by
  unfold look at h
  by_cases e:j=p.1
  .rw[bY e]at h
   cases h
   exact⟨p,Di ..,by rw[e]⟩
  .rw[bN e]at h
   let⟨q,h1,h2⟩:=EB h
   exact⟨q,sM _ h1,h2⟩
theorem Fx.less{N l m A}(h:Fx N l A)(a:∀p∈m,look l p.1=some p.2):Fx N m A:=by
 refine⟨h.size,h.defers,λj v c=>?_⟩;obtain⟨p,b,rfl⟩:=EB c;exact h.get j v (a _ b)
section
variable{K:bU->aC->Prop}{b:Frame}{k:aB Item}{cs:aB Frame}{A:Act}{w:aC}{ops:aU Oper}{i d N:Nat}{rest:aB Nat}{v:aE}{l:aB (Nat×aE)}
end
def Gm:aB (Nat×aE)->Act->Act
 |[],a=>a
 |p::m,a=>Gm m (a.put (some p.1) p.2)
theorem EV:∀(m:aB (Nat×aE))(a:Act),(Gm m a).tmps.size=a.tmps.size/\(Gm m a).defers=a.defers/\∀s,(∀p∈m,p.1≠s)->(Gm m a).tmps[s]?=a.tmps[s]?
 |[],a=>⟨rfl,rfl,λ_ _=>rfl⟩
 |p::m,a=>by
  let⟨h1,h2,h3⟩:=EV m (a.put (some p.1) p.2)
  refine⟨h1.trans (by simp[Act.put]),h2,λs b=>?_⟩
  rw[Gm,h3 s λq c=>b q (sM _ c)]
  simp[Act.put,qF (b p (Di ..))]
theorem Fx.Gm{N:Nat}:∀{m l:aB (Nat×aE)}{a:Act},Fx N l a->(∀p∈m,p.1<N)->Fx N (m.reverse++l) (Gm m a)
 |[],_,_,h,_=>h
 |p::m,l,a,h,b=>by
  have:=Fx.Gm (m:=m) (h.put (b p (Di ..)) p.2) λq c=>b q (sM _ c)
  rw[List.reverse_cons,nC]
  exact this
theorem i_{N l A}(c:A.tmps.size=N)(a:A.defers=[])(h:∀p∈l,A.tmps[p.1]?=some p.2):Fx N l A:=
 ⟨c,a,λj v d=>by obtain⟨p,b,rfl⟩:=EB d;exact h _ b⟩
theorem eX.ud{g U id N n d q}{l m:aB (Nat×aE)}{a w}{J:Act->aC->bQ}{f E args H vs R}(hm:prog.follows .mixedOrders=true)(hA:Fx N l a)(L:m.length=n)(G:∀p∈m,p.1<N)(K:gN g n=true)(M:∀i,i<n->BN g i=(m[i]?).map (·.1))
  (W:∀(i:Nat)(o)(p),g[i]?=some o->m[i]?=some p->∀A,Fx N (m.reverse++l) A->look (m.reverse++l) p.1=some p.2/\∀j e,(execOp A.eval o).run prog (re w j e)=.ok (.value p.2) (re w j e))
  (X:ra g n d (.call {callee:=.value (.func f),args,argTypes:=H})) (hf:prog.funcs[f]?=some E) (u:(E.name== "runtime.NumGoroutine")=false) (z:E.body.isNone=false) (t:Tj (m.reverse++l) args.toList=some vs) (B:d<N) (hC:cI prog f vs.toArray w R) (T:∀e r,R e r->∃v,e=.returned v)
  (Z:ra g (n+1) q (.assign (.tmp d))) (F:q<N) (S:∀C v r,R (.returned v) r->Fx N ((q,v)::(d,v)::(m.reverse++l)) C->∀j d,J C (re r j d)):eX prog (.region id g U) (λe C r=>e=.normal/\J C r) a w:=by
 let⟨oc,c1,c2,c3,c4⟩:=X;let y:=hA.Gm (m:=m) G;let I:=EV m a;refine eX.Ow aK hm n (Gm m a) K ⟨I.1,I.2.1⟩ (λs Y=>(I.2.2 s λp D e=>?_).symm) (λi o hi P=>?_) c1 (λj e=>?_) hC T (λh=>?_) (λc a w j d h=>by cases h.1) λv r V b k cs z=>?_
 .let⟨i,hi⟩:=MB D;let Q:=(eY.1 hi).1;exact Y i aA (by rw[M i aA,hi,<-e];rfl)
 .let D:m[i]?=some (m[i]'aA):=fH aA;let⟨h1,h2⟩:=W i o _ P D _ y;let O:=M i hi;rw[D,BN,P]at O;exact⟨_,_,O,y.get _ _ h1,h2⟩
 .rw[run_call_body c3 hf u z,<-y.bH t,<-Array.toList_map,Array.toArray_toList]
 .let⟨_,_,h,_⟩:=h;cases h
 .rw[c2];apply aJ.asg aK Z ((y.put B v).ev (x:=.tmp d) (v:=v) (by simp[evl,look])) z.items z.frames;exact iq.nil aK (λj e=>⟨rfl,S _ v r V ((y.put B v).put F v) j e⟩) b k cs z
end Ev
end Go.Proofs.YtpbbmagjhkakgaaGreatDoor
