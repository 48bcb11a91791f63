import Derived.Test.YtpbbmagjhkakgaaGreatDoorD5
import Derived.Test.YtpbbmagjhkakgaaGreatDoorD6
import Derived.Test.YtpbbmagjhkakgaaGreatDoorD7
import Derived.Test.YtpbbmagjhkakgaaGreatDoorD8
namespace Go.Proofs.YtpbbmagjhkakgaaGreatDoor
set_option maxHeartbeats 4000000
set_option maxRecDepth 100000
namespace Ev
open Go.Proofs.Tryz Go.RowKit Go.Deep Lf
theorem xW{B:Nat}{w:aC}:∀{x:BT c_}{v:aF},bX B w x v->bX 0 w x v
 |.nil,_,h=>h
 |.node _ _ _ _ _,_,⟨b,d,g,e,_,f,a,c⟩=>⟨b,d,g,e,cD,f,xW a,xW c⟩
section
variable{O:Nat->Prop}{S:fX}{n yb:Nat}{ev pv:aF}{C:aB CE}{L:aB CP}{w:aC}
def RU(w:aC)(res:aQ (BT c_)×Int)(e:Ending)(a:aC):Prop:=
 Bl w a/\((∃x p,res=(some x,0)/\e=.returned (.tuple #[.pointer (some p),Iv 0])/\bX 0 a x (.pointer (some p)))\/(∃z,res=(none,z)/\z≠0/\e=.returned (.tuple #[.pointer none,Iv z])))
theorem Ez(h:eT O S yb ev pv C L w)(B:S.OK n)(name a:aZ)(E:name.size<=1000000000)(D:a.size<=2000000):
  Calls prog 109 #[Pt yb,.string name,.string a] w (RU w (kG S name a)):=by
 have o:=GR name w E;have z:=B.ret;cases c:iY name with
 |false=>
  have i:kG S name a=(none,3):=by simp[kG,c]
  rw[i];rw[c]at o;go_enter func109,ntmps109;go_wp2_with fail;refine o.m λv f=>?_;go_wp2;go_ret2;exact⟨f,.inr ⟨3,rfl,aG,rfl⟩⟩
 |true=>
  rw[c]at o;have s:Hid (∀W,Calls prog 144 #[.string a] W (JL W (cV a))):=λW=>by rw[<-Da];exact wI a W D
  go_enter func109,ntmps109;go_wp2_with fail;refine o.m λv f=>?_;go_wp2_with fail;apply(s.out v).mono;rintro e g ⟨m,⟨x,p,j,rfl,y⟩|⟨j,rfl⟩|⟨j,rfl⟩⟩
  .have⟨gx,_,hd,_⟩:=dH j;obtain⟨p,rfl⟩:∃q,p=some q:=by
    cases x with
    |nil=>exact gx.elim
    |node _ _ _ _ _=>obtain⟨b,_,_,e,_⟩:=y;cases e;exact⟨_,rfl⟩
   have d:=f.tr m;have k:=xW y;have u:=hid λW (t:Bl g W)=>xX x _ 0 W (bX.below k t) gx aA;have F:Hid (∀W,Bl g W->W.cell? (Ad yb 0)=some (Iv S.ret)):=λW t=>aD (h.below (d.tr t)).cell rfl;go_wp2
   go_region_held (λW=>W.cell? (Ad yb 0)=some (Iv S.ret))
    ((refine F.out _ ?_;first|exact aT.drew|exact(cC g.heap.size g).drew.trans l))
    ((go_at_call 146;refine(u.out _ ?_).mono ?_;exact aT.drew;rintro e G ⟨rfl,l⟩))
   all_goals
    have XJ:=(cC g.heap.size g).drew.trans l;have r:Hid (kG S name a=if S.ret<bD x then(none,4)else(some x,0)):=by show _=_;simp[kG,c,j]
    generalize bD x=R at*;by_cases A:S.ret<R
    .rw[bY A]at r;go_wp2;go_ret2;rw[r.out];exact⟨d.tr XJ,.inr ⟨4,rfl,aG,rfl⟩⟩
    .rw[bN A]at r;go_wp2;go_ret2;rw[r.out];exact⟨d.tr XJ,.inl ⟨x,p,rfl,rfl,bX.below k XJ⟩⟩
  all_goals
   go_wp2;go_ret2;exact⟨f.tr m,.inr ⟨_,by simp[kG,c,j],aG,rfl⟩⟩
def sM(l:aB Ag)(i:Nat)(but:Int):aB (BT c_):=match l with
 |[]=>[]
 |p::l=>if(i:Int)=but then sM l (i+1) but else p.x::sM l (i+1) but
def E3(xs:aB (BT c_))(T:aB (aB aV)):aB (aB aV):=xs.foldl (λL x=>dC L (aN x)) T
theorem j7:∀(x:BT c_)(L:aB (aB aV)),(dC L x).length<=L.length+cF x
 |.nil,L=>by simp[dC]
 |.node b o a l r,L=>by
  let d:=j7 l L
  let c:=j7 r (dC L l)
  unfold dC
  split<;>simp[cF]<;>omega
def WD(w:aC)(sp:aQ a_):aQ (BT c_)->Prop
 |none=>sp=none
 |some x=>(∃q,sp=some q)/\bX 0 w x (.pointer sp)/\Good x/\bC x<=12
theorem A8(h:eT O S yb ev pv C L w)(Y:S.OK n)(a:Int)(j:aQ (BT c_))(sp:aQ a_)(A:WD w sp j):
  Calls prog 58 #[Pt yb,Iv a,.pointer sp] w λe t=>e=.returned (Iv (iI (sM S.aU 0 a++j.toList):Nat))/\Bl w t:=by
 have V:L.length=S.aU.length:=by rw[<-h.hL,ux]
 have X:=Y.few;obtain⟨o,bS,rfl,a8,_,p⟩:=bT h.aU;have HE:Hid (∀W,Bl w W->W.cell? (Ad yb 4)=some (.slice o L.length bS)):=λW b=>aD (h.below b).cell rfl;have HL:Hid (∀(i:Nat)(c:CP) W,Bl w W->L[i]?=some c->∃g q,o=some (Ad g 0)/\W.cell? (Ad g (i*4+1))=some (.pointer q)/\bX 0 W c.1.x (.pointer q)/\Good c.1.x/\bC c.1.x<=12):=λi c W b m=>by
  obtain⟨g,rfl,_,_,P⟩:=p (by have:=(e_.1 m).1;omega);have R:=iA m;have⟨q,Q⟩:=tN (h.eE c R);have Z:=Y.each c.1 (h.hL▸iX.2 ⟨c,R,rfl⟩);refine⟨g,q,rfl,?_,?_,Z.2.1.1,Z.2.2.1⟩
  .rw[<-Q];exact eR b (P _ _ (jx (k:=1) m rfl))
  .rw[<-Q];exact bX.below (h.eE c R) b
 have I:Hid (∀(i:Nat)(c:CP),L[i]?=some c->sM (S.aU.drop i) i a=if(i:Int)=a then sM (S.aU.drop (i+1)) (i+1) a else c.1.x::sM (S.aU.drop (i+1)) (i+1) a):=λi c m=>by
  have e1:S.aU[i]?=some c.1:=by rw[<-h.hL,kY,m];rfl
  obtain⟨hi,e2⟩:=e_.1 e1;rw[oV hi,sM,e2]
 have step:Hid (∀(x:BT c_)(q:aQ a_)(T:aB (aB aV))(H:aF)(W:aC),bX 0 W x (.pointer q)->Good x->bC x<=12->W.ownsRow w.heap.size 9 1 H T.length (strs T)->w.heap.size<=W.heap.size->T.length<=1000000->Calls prog 106 #[.pointer q] W λe t=>∃r,e=.returned (.pointer r)/\Bl W t/\Calls prog 105 #[H,.pointer r] t λe E=>Bl t E/\∃G,e=.returned G/\E.ownsRow w.heap.size 9 1 G (dC T (aN x)).length (strs (dC T (aN x)))):=λx q T H W A hg hd hT B V=>by
  apply(GO x (.pointer q) 0 W A hg cD).mono;rintro e t ⟨r,rfl,hr,b⟩;have N:=rS hd;exact⟨r,rfl,b,G_ (aN x) (.pointer r) H 0 w.heap.size T t hr (dK hg) aA (rW hT b) (gC B b.size) aA⟩
 have D:Hid (iI (sM S.aU 0 a++j.toList)=(E3 j.toList (E3 (sM (S.aU.drop 0) 0 a) [])).length):=by show _=_;simp[iI,tT,E3]
 generalize iI (sM S.aU 0 a++j.toList)=res at*;have M:L.length<=8:=aA;have HD:Hid (sM (S.aU.drop L.length) L.length a=[]):=by show _=_;rw[V,List.drop_length];rfl
 have K:Hid (∀W,Bl w W->WD W sp j):=λW b=>by
  cases j with
  |none=>exact A
  |some x=>exact⟨A.1,bX.below A.2.1 b,A.2.2⟩
 generalize a7:L.length=len at*;go_enter func58,ntmps58;go_wp2;go_loopw [8,7] (λU v wr=>∃(i:Nat)(T:aB (aB aV)),U=Iv i/\i<=len/\wr.ownsRow w.heap.size 9 1 v T.length (strs T)/\T.length<=i*16384/\Bl w wr/\Hid (res=(E3 j.toList (E3 (sM (S.aU.drop i) i a) T)).length)) (λU _ _=>len-(intOf U).toNat)
 case atStart=>exact⟨0,[],rfl,cD,fF _ _ _ _,cD,aT,D⟩
 case round=>
  obtain⟨i,T,rfl,a1,f,aa,b,l⟩:=hrel;have c4:=HE.out wr b;by_cases hi:i<len
  .obtain⟨c,m⟩:∃c,L[i]?=some c:=⟨_,fG aA⟩;rw[I.out i c m]at l;by_cases z:(i:Int)=a
   .rw[bY z]at l;subst z;go_wp2
    try go_big_round
    exact⟨⟨i+1,T,dU,hi,f,aA,b,l⟩,zm⟩
   .rw[bN z]at l;obtain⟨g,q,rfl,Q,u,J,F⟩:=HL.out i c wr b m;have a6:=j7 (aN c.1.x) T;have N:=rS F;go_wp2_with fail;apply(step.out _ q T _ wr u J F f b.size aA).mono;rintro e w1 ⟨r,rfl,s,B⟩;go_wp2_with fail;apply B.mono;rintro e w2 ⟨y,G,rfl,d⟩;go_wp2
    try go_big_round
    exact⟨⟨i+1,dC T (aN c.1.x),dU,hi,d,aA,(b.tr s).tr y,l⟩,zm⟩
  .obtain rfl:i=len:=by omega
   rw[HD.out]at l;have hX:=K.out wr b;cases j with
   |none=>
    obtain rfl:sp=none:=hX;obtain⟨so,sc,rfl,_⟩:=bT (lr f);go_wp2;go_ret;exact⟨iC (by rw[l.out];rfl),b⟩
   |some x=>
    obtain⟨⟨q,rfl⟩,u,J,F⟩:=hX;go_wp2_with fail;apply(step.out x (some q) T _ wr u J F f b.size aA).mono;rintro e w1 ⟨r,rfl,s,B⟩;go_wp2_with fail;apply B.mono;rintro e w2 ⟨y,G,rfl,d⟩;obtain⟨so,sc,rfl,_⟩:=bT (lr d);go_wp2;go_ret;exact⟨iC (by rw[l.out];rfl),(b.tr s).tr y⟩
end
theorem Gg{l}:∀i,sM l i (-1)=l.map (·.x):=by
 induction l with
 |nil=>intro i;rfl
 |cons a l b=>intro i;rw[sM,bN aA,b];rfl
theorem vR{w a o r}(h:(w.alloc o).drew.grownBy a r):aI (λb=>r=some b) w a:=
 ⟨h.os,h.output,gC aE h.size,λb d c=>(h.block b bI λe=>c e.symm).trans (ib w _ _ d)⟩
section
variable{O:Nat->Prop}{S:fX}{n yb:Nat}{ev pv:aF}{C:aB CE}{L:aB CP}{w:aC}
theorem AZ(h:eT O S yb ev pv C L w):dP w (λb=>pv.ownBlock=some b) [252]:=λb d t m c a e=>by
 let⟨cg,sF⟩:=cE h.aU e
 rw[c]at sF
 cases sF
 simp at a
def H4(O:Nat->Prop)(yb:Nat)(w:aC)(res:aB Vd×Int×fX)(e:Ending)(a:aC):Prop:=
 ∃v,e=.returned (.tuple #[v,Iv res.2.1])/\a.ownsRow 0 199 4 v res.1.length (kZ res.1)/\uC (λb=>O b\/w.heap.size<=b) res.2.2 yb a/\aI O w a
theorem Dj(h:eT O S yb ev pv C L w){b}(a:Bl w b)(z):H4 O yb w ([],z,S) (.returned (.tuple #[.slice none 0 0,Iv z])) b:=
 ⟨_,rfl,fF _ _ _ _,⟨_,_,_,_,(h.below a).mono λ_ a=>.inl a⟩,aI.aR a⟩
theorem Uc(h:eT O S yb ev pv C L w)(T:S.OK n)(hn:n<1000000000)(name d)(hs:name.size<=1000000000)(ht:d.size<=2000000):
  Calls prog 65 #[Pt yb,.string name,.string d] w (H4 O yb w (kK S name d)):=by
 have Y:=Ez h T name d hs ht;have hA:=hid λW (r:Bl w W)=>zv (h.below r) T name;have af:=h.mS;have hf:=T.few;obtain⟨po,bS,rfl,ay,_⟩:=bT h.aU;have HY:Hid (∀W,Bl w W->W.cell? (Ad yb 4)=some (.slice po L.length bS)/\W.frozen? (Ad yb 4)=false):=λW r=>⟨aD (h.below r).cell rfl,cJ (h.below r).cell _⟩;have A:=hid λW z (r:Bl w W)=>Dj h r z;go_enter func65,ntmps65;go_wp2_with fail;apply Y.mono;rintro e w1 ⟨f,⟨x,p,M,rfl,hx⟩|⟨z,M,hz,rfl⟩⟩
 .obtain⟨g1,g2,g3⟩:=nG M;obtain⟨r1,r2,r3,_⟩:=dH g2;have I:=hA.out w1 f;rcases vY name S.aU 0 with⟨K,h2⟩|⟨k,q,K,h2,h3,h4⟩
  .rw[h2]at I;go_wp2_with fail;apply I.mono;rintro e w2 ⟨rfl,rfl⟩;obtain⟨y1,_⟩:=HY.out w2 f;have F:S.has name=false:=by
    cases hh:S.has name with
    |false=>rfl
    |true=>obtain⟨p,hp,e⟩:=oT.1 hh;exact absurd e (get_none.1 K p hp)
   by_cases h8:8<=S.aU.length
   .have c:kK S name d=([],7,S):=by unfold kK;rw[M];simp[F,h8]
    clear hA Y;go_wp2_with fail;go_ret2;rw[c];exact A.out _ 7 f
   .have X:=A8 (h.below f) T (-1) (some x) (some p) ⟨⟨p,rfl⟩,hx,r1,r3⟩;rw[Gg]at X;have X:=hid X;have a1:=hid λW (r:Bl w2 W)=>bX.below hx r;generalize au:iI (S.aU.map (·.x)++(some x).toList)=nd at*;have S9:iI (S.aU.map (·.x)++[x])=nd:=au;clear hA Y hx;go_wp2_with fail;apply kq X.out;rintro e j ⟨rfl,P⟩;have i:=f.tr P;obtain⟨y3,f3⟩:=HY.out j i;by_cases aa:40<nd
    .have c:kK S name d=([],8,S):=by unfold kK;rw[M];simp only;rw[bN (by rw[F];decide),bN h8,bY (S9▸aa)]
     go_wp2_with fail;go_ret2;rw[c];exact A.out _ 8 i
    .have c:kK S name d=(mf S x 1,0,{S with aU:=S.aU++[⟨name,x,1,[]⟩]}):=by unfold kK;rw[M];simp only;rw[bN (by rw[F];decide),bN h8,bN (S9▸aa)]
     have Jy:=Mi T name d;rw[c]at Jy;obtain⟨W,H⟩:∃W,W=j.alloc (.cells #[.string name,.pointer (some p),Iv 1,.slice none 0 0] 86):=⟨_,rfl⟩;have Q:Bl j W:=H▸aT.al _;have E:W.heap[j.heap.size]?=some (.cells #[.string name,.pointer (some p),Iv 1,.slice none 0 0] 86 (0,0)):=H▸aP _ _ _ rfl;have B:=i.tr Q;obtain⟨i0,an,ar,aw,ah⟩:=eB Tg;have ag:=(h.below B).aU;have ak:yb<W.heap.size:=fW (aL h.cell) B.size;have aq:j.heap.size<W.heap.size:=aL E;obtain⟨y4,f4⟩:=HY.out W B;have u0:W.cell? (Ad j.heap.size 0)=some (.string name):=aD E rfl;have u1:W.cell? (Ad j.heap.size 1)=some (.pointer (some p)):=aD E rfl;have u2:W.cell? (Ad j.heap.size 2)=some (Iv 1):=aD E rfl;have u3:W.cell? (Ad j.heap.size 3)=some (.slice none 0 0):=aD E rfl;have R:∀b,(Value.slice po L.length bS).ownBlock=some b->b<w.heap.size:=λb r=>(h.aU.lt b r).2;have U:∀{b cs m},w.heap[b]?=some (.cells cs 79 m)->(Value.slice po L.length bS).ownBlock≠some b:=λK e=>by
      obtain⟨cg,ae⟩:=cE h.aU e;rw[K]at ae;cases ae
     have ax:Hid (∀{G:aC}{o:Obj},(W.drew.alloc o).grownBy G (Value.slice po L.length bS).ownBlock->G.heap[yb]?=W.heap[yb]?/\G.heap[j.heap.size]?=W.heap[j.heap.size]?):=λ{G o} hg=>⟨by
       rw[hg.block yb bI λe=>U h.cell e.symm];exact ib W.drew _ _ ak,by
       rw[hg.block _ bI λe=>by have:=R _ e.symm;have:=i.size;omega];exact ib W.drew _ _ aq⟩
     replace R:Hid _:=R;go_wp2_with fail;rw[<-H];clear y3 f3 X U H
     go_region_law (refine fS rfl (.tmp 44) (.tmp 46) 77 rfl 0 86 i0 _ 4 56 underlying77 an ar aw ah rfl aG _ L.length (uy L) (by simp[Act.eval,af]) (ag.drew.alloc _) (Ad W.heap.size 0) 1 1 [.string name,.pointer (some p),Iv 1,.slice none 0 0] (by simp[Act.eval]) rfl (Ks W.drew _ _ _ _ _) (by intro u J;simp at J;rcases J with rfl|rfl|rfl|rfl<;>rfl) eP aA aE ?_;intro v' G s v Z;have hq:=ax.out v;have y5:=(fT (a:=(Ad yb 4)) hq.1).trans y4;have f5:=(World.frozen?_of_block (a:=(Ad yb 4)) hq.1).trans f4;obtain⟨o5,y,rfl,_⟩:=bT s)
     all_goals
      have N:=vR v;have a8:aI (λb=>(Value.slice po L.length bS).ownBlock=some b) w G:=(aI.aR B).trans N;have aj:=h.store a8 (S':={S with aU:=S.aU++[⟨name,x,1,[]⟩]}) ⟨rfl,rfl,rfl,rfl⟩ (UU:=.slice o5 (L.length+1) y) (L':=L++[(⟨name,x,1,[]⟩,.pointer (some p),.slice none 0 0)]) (by rw[l8,h.hL];rfl) (by
        have e:uy (L++[((⟨name,x,1,[]⟩:Ag),Value.pointer (some p),Value.slice none 0 0)])=uy L++[.string name,.pointer (some p),Iv 1,.slice none 0 0]:=by simp[uy,Jx]
        rw[e,kt];exact s) (λb r=>by
        rcases Z with e|e
        .exact .inl (e▸r)
        .rw[r]at e;cases e;have:=B.size;exact .inr bI) (λl D=>by
        rcases i_.1 D with D|D
        .exact .inl ⟨l,D,rfl,rfl⟩
        .simp at D;subst D;exact .inr ⟨rfl,rfl⟩) (λl D=>by
        rcases i_.1 D with D|D
        .exact fQ a8 (AZ h) (h.eE l D)
        .simp at D;subst D;exact fQ ((aI.aR (P.tr Q)).trans N) (AZ (h.below f)) (a1.out w2 aT)) (Hu.2 ⟨h.apart,List.pairwise_singleton _ _,λa _ b r g _ e=>by simp at r;subst r;cases e⟩)
      obtain⟨⟨az,UU,C',L',hX⟩,a6⟩:=aj;rw[af]at hX a6;have J:(G.setCell (Ad yb 4) (.slice o5 (S.aU.length+1) y)).heap[j.heap.size]?=some (.cells #[.string name,.pointer (some p),Iv 1,.slice none 0 0] 86 (0,0)):=by
       rw[mn _ _ _ _ (by show j.heap.size≠yb;have:=aL h.cell;have:=i.size;omega),hq.2];exact E
      have ai:bX 0 (G.setCell (Ad yb 4) (.slice o5 (S.aU.length+1) y)) x (.pointer (some p)):=by
       refine fQ (fH G (Ad yb 4) _) (λb cs t m K h3 e=>?_) (fQ ((aI.aR (P.tr Q)).trans N) (AZ (h.below f)) (a1.out w2 aT));have e:b=yb:=e;subst e;rw[hq.1,(h.below B).cell]at K;cases K;simp at h3
      generalize G.setCell (Ad yb 4) (.slice o5 (S.aU.length+1) y)=V at*;have t0:V.cell? (Ad j.heap.size 0)=some (.string name):=aD J rfl;have t1:V.cell? (Ad j.heap.size 1)=some (.pointer (some p)):=aD J rfl;have t2:V.cell? (Ad j.heap.size 2)=some (Iv 1):=aD J rfl;have t3:V.cell? (Ad j.heap.size 3)=some (.slice none 0 0):=aD J rfl;have hB:=xj hX Jy aA x r1 r3 ⟨eM (.inl r1),by have:=T.ret;omega⟩ (some p) ai name 1 none 0 0;have HB:=hid hB;clear hB s v Z J u0 u1 u2 u3 y4 f4 y5 f5 hq;go_wp2_with fail;apply kq HB.out;rintro e w6 ⟨t,rfl,ad,a7⟩;go_wp2_with fail;go_ret2;rw[c];exact⟨_,rfl,lr ad,⟨_,_,_,_,hX.below a7⟩,a6.trans (aI.aR a7)⟩
  .have c:kK S name d=([],5,S):=by
    unfold kK;rw[M];simp only;rw[bY];exact oT.2 ⟨q,iA K,h2⟩
   rw[h4,fC]at I;go_wp2_with fail;apply I.m0;clear hA Y;go_wp2_with fail;go_ret2;rw[c];exact A.out _ 5 f
 .have c:kK S name d=([],z,S):=by unfold kK;rw[M]
  clear hA Y;go_wp2_with fail;go_ret2;rw[c];exact A.out _ z f
end
end Ev
end Go.Proofs.YtpbbmagjhkakgaaGreatDoor
