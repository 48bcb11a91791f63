import Derived.Test.YtpbbmagjhkakgaaGreatDoorD7
import Derived.Test.YtpbbmagjhkakgaaGreatDoorD8
import Derived.Test.YtpbbmagjhkakgaaGreatDoorD9
import Derived.Test.YtpbbmagjhkakgaaGreatDoorE1
namespace Go.Proofs.YtpbbmagjhkakgaaGreatDoor
set_option maxHeartbeats 4000000
set_option maxRecDepth 100000
namespace Ev
open Go.Proofs.Tryz Go.RowKit Go.Deep Lf
theorem yp{B:Nat}{w:aC}:∀{x:BT dD}{v:aE},bX B w x v->bX 0 w x v
 |.nil,_,h=>h
 |.node _ _ _ _ _,_,⟨b,d,g,e,_,f,a,c⟩=>⟨b,d,g,e,cC,f,yp a,yp c⟩
section
variable{O:Nat->Prop}{S:f_}{n yb:Nat}{ev pv:aE}{C:aB CE}{L:aB CP}{w:aC}
def SF(w:aC)(res:aR (BT dD)×Int)(e:Ending)(a:aC):Prop:=
 Bl w a/\((∃x p,res=(some x,0)/\e=.returned (.tuple #[.pointer (some p),Iv 0])/\bX 0 a x (.pointer (some p)))\/(∃z,res=(none,z)/\z≠0/\e=.returned (.tuple #[.pointer none,Iv z])))
theorem EZ(h:eT O S yb ev pv C L w)(B:S.OK n)(name a:a_)(E:name.size<=1000000000)(D:a.size<=2000000):
  Calls prog 109 #[Pt yb,.string name,.string a] w (SF w (kK S name a)):=by
 have o:=HZ name w E;have z:=B.ret;cases c:ja name with
 |false=>
  have i:kK S name a=(none,3):=by simp[kK,c]
  rw[i];rw[c]at o;go_enter func109,ntmps109;go_wp2_with fail;refine o.m λv f=>?_;go_wp2;go_ret2;exact⟨f,.inr ⟨3,rfl,aG,rfl⟩⟩
 |true=>
  rw[c]at o;have s:Hid (∀W,Calls prog 144 #[.string a] W (Kd W (cW a))):=λW=>by rw[<-Du];exact xb a W D
  go_enter func109,ntmps109;go_wp2_with fail;refine o.m λv f=>?_;go_wp2_with fail;apply(s.out v).mono;rintro e g ⟨m,⟨x,p,j,rfl,y⟩|⟨j,rfl⟩|⟨j,rfl⟩⟩
  .have⟨gx,_,hd,_⟩:=dI j;obtain⟨p,rfl⟩:∃q,p=some q:=by
    cases x with
    |nil=>exact gx.elim
    |node _ _ _ _ _=>obtain⟨b,_,_,e,_⟩:=y;cases e;exact⟨_,rfl⟩
   have d:=f.tr m;have k:=yp y;have u:=hid λW (t:Bl g W)=>yq x _ 0 W (bX.below k t) gx aA;have F:Hid (∀W,Bl g W->W.cell? (Ad yb 0)=some (Iv S.ret)):=λW t=>aD (h.below (d.tr t)).cell rfl;go_wp2
   go_region_held (λW=>W.cell? (Ad yb 0)=some (Iv S.ret))
    ((refine F.out _ ?_;first|exact aV.drew|exact(cD g.heap.size g).drew.trans l))
    ((go_at_call 146;refine(u.out _ ?_).mono ?_;exact aV.drew;rintro e G ⟨rfl,l⟩))
   all_goals
    have Yx:=(cD g.heap.size g).drew.trans l;have r:Hid (kK S name a=if S.ret<bE x then(none,4)else(some x,0)):=by show _=_;simp[kK,c,j]
    generalize bE x=R at*;by_cases A:S.ret<R
    .rw[bY A]at r;go_wp2;go_ret2;rw[r.out];exact⟨d.tr Yx,.inr ⟨4,rfl,aG,rfl⟩⟩
    .rw[bN A]at r;go_wp2;go_ret2;rw[r.out];exact⟨d.tr Yx,.inl ⟨x,p,rfl,rfl,bX.below k Yx⟩⟩
  all_goals
   go_wp2;go_ret2;exact⟨f.tr m,.inr ⟨_,by simp[kK,c,j],aG,rfl⟩⟩
def s8(l:aB Az)(i:Nat)(but:Int):aB (BT dD):=match l with
 |[]=>[]
 |p::l=>if(i:Int)=but then s8 l (i+1) but else p.x::s8 l (i+1) but
def Fz(xs:aB (BT dD))(T:aB (aB aX)):aB (aB aX):=xs.foldl (λL x=>dE L (aO x)) T
theorem ki:∀(x:BT dD)(L:aB (aB aX)),(dE L x).length<=L.length+cF x
 |.nil,L=>by simp[dE]
 |.node b o a l r,L=>by
  let d:=ki l L
  let c:=ki r (dE L l)
  unfold dE
  split<;>simp[cF]<;>omega
def Xp(w:aC)(sp:aR bC):aR (BT dD)->Prop
 |none=>sp=none
 |some x=>(∃q,sp=some q)/\bX 0 w x (.pointer sp)/\Good x/\bD x<=12
theorem Br(h:eT O S yb ev pv C L w)(Y:S.OK n)(a:Int)(j:aR (BT dD))(sp:aR bC)(A:Xp w sp j):
  Calls prog 58 #[Pt yb,Iv a,.pointer sp] w λe t=>e=.returned (Iv (iN (s8 S.aW 0 a++j.toList):Nat))/\Bl w t:=by
 have V:L.length=S.aW.length:=by rw[<-h.hL,uP]
 have X:=Y.few;obtain⟨o,bS,rfl,a8,_,p⟩:=bT h.aW;have HE:Hid (∀W,Bl w W->W.cell? (Ad yb 4)=some (.slice o L.length bS)):=λW b=>aD (h.below b).cell rfl;have HL:Hid (∀(i:Nat)(c:CP) W,Bl w W->L[i]?=some c->∃g q,o=some (Ad g 0)/\W.cell? (Ad g (i*4+1))=some (.pointer q)/\bX 0 W c.1.x (.pointer q)/\Good c.1.x/\bD c.1.x<=12):=λi c W b m=>by
  obtain⟨g,rfl,_,_,P⟩:=p (by have:=(eY.1 m).1;omega);have R:=iF m;have⟨q,Q⟩:=uf (h.eE c R);have Z:=Y.each c.1 (h.hL▸iZ.2 ⟨c,R,rfl⟩);refine⟨g,q,rfl,?_,?_,Z.2.1.1,Z.2.2.1⟩
  .rw[<-Q];exact eR b (P _ _ (jC (k:=1) m rfl))
  .rw[<-Q];exact bX.below (h.eE c R) b
 have I:Hid (∀(i:Nat)(c:CP),L[i]?=some c->s8 (S.aW.drop i) i a=if(i:Int)=a then s8 (S.aW.drop (i+1)) (i+1) a else c.1.x::s8 (S.aW.drop (i+1)) (i+1) a):=λi c m=>by
  have e1:S.aW[i]?=some c.1:=by rw[<-h.hL,lj,m];rfl
  obtain⟨hi,e2⟩:=eY.1 e1;rw[pw hi,s8,e2]
 have step:Hid (∀(x:BT dD)(q:aR bC)(T:aB (aB aX))(H:aE)(W:aC),bX 0 W x (.pointer q)->Good x->bD x<=12->W.ownsRow w.heap.size 9 1 H T.length (strs T)->w.heap.size<=W.heap.size->T.length<=1000000->Calls prog 106 #[.pointer q] W λe t=>∃r,e=.returned (.pointer r)/\Bl W t/\Calls prog 105 #[H,.pointer r] t λe E=>Bl t E/\∃G,e=.returned G/\E.ownsRow w.heap.size 9 1 G (dE T (aO x)).length (strs (dE T (aO x)))):=λx q T H W A hg hd hT B V=>by
  apply(HJ x (.pointer q) 0 W A hg cC).mono;rintro e t ⟨r,rfl,hr,b⟩;have N:=sk hd;exact⟨r,rfl,b,H7 (aO x) (.pointer r) H 0 w.heap.size T t hr (dK hg) aA (sr hT b) (gH B b.size) aA⟩
 have D:Hid (iN (s8 S.aW 0 a++j.toList)=(Fz j.toList (Fz (s8 (S.aW.drop 0) 0 a) [])).length):=by show _=_;simp[iN,um,Fz]
 generalize iN (s8 S.aW 0 a++j.toList)=res at*;have M:L.length<=8:=aA;have HD:Hid (s8 (S.aW.drop L.length) L.length a=[]):=by show _=_;rw[V,List.drop_length];rfl
 have K:Hid (∀W,Bl w W->Xp W sp j):=λW b=>by
  cases j with
  |none=>exact A
  |some x=>exact⟨A.1,bX.below A.2.1 b,A.2.2⟩
 generalize a7:L.length=len at*;go_enter func58,ntmps58;go_wp2;go_loopw [8,7] (λU v wr=>∃(i:Nat)(T:aB (aB aX)),U=Iv i/\i<=len/\wr.ownsRow w.heap.size 9 1 v T.length (strs T)/\T.length<=i*16384/\Bl w wr/\Hid (res=(Fz j.toList (Fz (s8 (S.aW.drop i) i a) T)).length)) (λU _ _=>len-(intOf U).toNat)
 case atStart=>exact⟨0,[],rfl,cC,fI _ _ _ _,cC,aV,D⟩
 case round=>
  obtain⟨i,T,rfl,a1,f,aa,b,l⟩:=hrel;have c4:=HE.out wr b;by_cases hi:i<len
  .obtain⟨c,m⟩:∃c,L[i]?=some c:=⟨_,fH aA⟩;rw[I.out i c m]at l;by_cases z:(i:Int)=a
   .rw[bY z]at l;subst z;go_wp2
    try go_big_round
    exact⟨⟨i+1,T,dV,hi,f,aA,b,l⟩,zm⟩
   .rw[bN z]at l;obtain⟨g,q,rfl,Q,u,J,F⟩:=HL.out i c wr b m;have a6:=ki (aO c.1.x) T;have N:=sk F;go_wp2_with fail;apply(step.out _ q T _ wr u J F f b.size aA).mono;rintro e w1 ⟨r,rfl,s,B⟩;go_wp2_with fail;apply B.mono;rintro e w2 ⟨y,G,rfl,d⟩;go_wp2
    try go_big_round
    exact⟨⟨i+1,dE T (aO c.1.x),dV,hi,d,aA,(b.tr s).tr y,l⟩,zm⟩
  .obtain rfl:i=len:=by omega
   rw[HD.out]at l;have hX:=K.out wr b;cases j with
   |none=>
    obtain rfl:sp=none:=hX;obtain⟨so,sc,rfl,_⟩:=bT (lD f);go_wp2;go_ret;exact⟨iH (by rw[l.out];rfl),b⟩
   |some x=>
    obtain⟨⟨q,rfl⟩,u,J,F⟩:=hX;go_wp2_with fail;apply(step.out x (some q) T _ wr u J F f b.size aA).mono;rintro e w1 ⟨r,rfl,s,B⟩;go_wp2_with fail;apply B.mono;rintro e w2 ⟨y,G,rfl,d⟩;obtain⟨so,sc,rfl,_⟩:=bT (lD d);go_wp2;go_ret;exact⟨iH (by rw[l.out];rfl),(b.tr s).tr y⟩
end
theorem GM{l}:∀i,s8 l i (-1)=l.map (·.x):=by
 induction l with
 |nil=>intro i;rfl
 |cons a l b=>intro i;rw[s8,bN aA,b];rfl
theorem wD{w a o r}(h:(w.alloc o).drew.grownBy a r):aH (λb=>r=some b) w a:=
 ⟨h.os,h.output,gH aF h.size,λb d c=>(h.block b bI λe=>c e.symm).trans (ij w _ _ d)⟩
section
variable{O:Nat->Prop}{S:f_}{n yb:Nat}{ev pv:aE}{C:aB CE}{L:aB CP}{w:aC}
theorem Bi(h:eT O S yb ev pv C L w):dQ w (λb=>pv.ownBlock=some b) [252]:=λb d t m c a e=>by
 let⟨cg,sS⟩:=cE h.aW e
 rw[c]at sS
 cases sS
 simp at a
def IA(O:Nat->Prop)(yb:Nat)(w:aC)(res:aB Vd×Int×f_)(e:Ending)(a:aC):Prop:=
 ∃v,e=.returned (.tuple #[v,Iv res.2.1])/\a.ownsRow 0 199 4 v res.1.length (lr res.1)/\uU (λb=>O b\/w.heap.size<=b) res.2.2 yb a/\aH O w a
theorem DH(h:eT O S yb ev pv C L w){b}(a:Bl w b)(z):IA O yb w ([],z,S) (.returned (.tuple #[.slice none 0 0,Iv z])) b:=
 ⟨_,rfl,fI _ _ _ _,⟨_,_,_,_,(h.below a).mono λ_ a=>.inl a⟩,aH.aS a⟩
theorem UP(h:eT O S yb ev pv C L w)(T:S.OK n)(hn:n<1000000000)(name d)(hs:name.size<=1000000000)(ht:d.size<=2000000):
  Calls prog 65 #[Pt yb,.string name,.string d] w (IA O yb w (kO S name d)):=by
 have Y:=EZ h T name d hs ht;have hA:=hid λW (r:Bl w W)=>zW (h.below r) T name;have af:=h.na;have hf:=T.few;obtain⟨po,bS,rfl,ay,_⟩:=bT h.aW;have HY:Hid (∀W,Bl w W->W.cell? (Ad yb 4)=some (.slice po L.length bS)/\W.frozen? (Ad yb 4)=false):=λW r=>⟨aD (h.below r).cell rfl,cK (h.below r).cell _⟩;have A:=hid λW z (r:Bl w W)=>DH h r z;go_enter func65,ntmps65;go_wp2_with fail;apply Y.mono;rintro e w1 ⟨f,⟨x,p,M,rfl,hx⟩|⟨z,M,hz,rfl⟩⟩
 .obtain⟨g1,g2,g3⟩:=nR M;obtain⟨r1,r2,r3,_⟩:=dI g2;have I:=hA.out w1 f;rcases wK name S.aW 0 with⟨K,h2⟩|⟨k,q,K,h2,h3,h4⟩
  .rw[h2]at I;go_wp2_with fail;apply I.mono;rintro e w2 ⟨rfl,rfl⟩;obtain⟨y1,_⟩:=HY.out w2 f;have F:S.has name=false:=by
    cases hh:S.has name with
    |false=>rfl
    |true=>obtain⟨p,hp,e⟩:=pj.1 hh;exact absurd e (get_none.1 K p hp)
   by_cases h8:8<=S.aW.length
   .have c:kO S name d=([],7,S):=by unfold kO;rw[M];simp[F,h8]
    clear hA Y;go_wp2_with fail;go_ret2;rw[c];exact A.out _ 7 f
   .have X:=Br (h.below f) T (-1) (some x) (some p) ⟨⟨p,rfl⟩,hx,r1,r3⟩;rw[GM]at X;have X:=hid X;have a1:=hid λW (r:Bl w2 W)=>bX.below hx r;generalize au:iN (S.aW.map (·.x)++(some x).toList)=nd at*;have TP:iN (S.aW.map (·.x)++[x])=nd:=au;clear hA Y hx;go_wp2_with fail;apply ku X.out;rintro e j ⟨rfl,P⟩;have i:=f.tr P;obtain⟨y3,f3⟩:=HY.out j i;by_cases aa:40<nd
    .have c:kO S name d=([],8,S):=by unfold kO;rw[M];simp only;rw[bN (by rw[F];decide),bN h8,bY (TP▸aa)]
     go_wp2_with fail;go_ret2;rw[c];exact A.out _ 8 i
    .have c:kO S name d=(mr S x 1,0,{S with aW:=S.aW++[⟨name,x,1,[]⟩]}):=by unfold kO;rw[M];simp only;rw[bN (by rw[F];decide),bN h8,bN (TP▸aa)]
     have J2:=MT T name d;rw[c]at J2;obtain⟨W,H⟩:∃W,W=j.alloc (.cells #[.string name,.pointer (some p),Iv 1,.slice none 0 0] 86):=⟨_,rfl⟩;have Q:Bl j W:=H▸aV.al _;have E:W.heap[j.heap.size]?=some (.cells #[.string name,.pointer (some p),Iv 1,.slice none 0 0] 86 (0,0)):=H▸aQ _ _ _ rfl;have B:=i.tr Q;obtain⟨i0,an,ar,aw,ah⟩:=eB TX;have ag:=(h.below B).aW;have ak:yb<W.heap.size:=fZ (aN h.cell) B.size;have aq:j.heap.size<W.heap.size:=aN E;obtain⟨y4,f4⟩:=HY.out W B;have u0:W.cell? (Ad j.heap.size 0)=some (.string name):=aD E rfl;have u1:W.cell? (Ad j.heap.size 1)=some (.pointer (some p)):=aD E rfl;have u2:W.cell? (Ad j.heap.size 2)=some (Iv 1):=aD E rfl;have u3:W.cell? (Ad j.heap.size 3)=some (.slice none 0 0):=aD E rfl;have R:∀b,(Value.slice po L.length bS).ownBlock=some b->b<w.heap.size:=λb r=>(h.aW.lt b r).2;have U:∀{b cs m},w.heap[b]?=some (.cells cs 79 m)->(Value.slice po L.length bS).ownBlock≠some b:=λK e=>by
      obtain⟨cg,ae⟩:=cE h.aW e;rw[K]at ae;cases ae
     have ax:Hid (∀{G:aC}{o:Obj},(W.drew.alloc o).grownBy G (Value.slice po L.length bS).ownBlock->G.heap[yb]?=W.heap[yb]?/\G.heap[j.heap.size]?=W.heap[j.heap.size]?):=λ{G o} hg=>⟨by
       rw[hg.block yb bI λe=>U h.cell e.symm];exact ij W.drew _ _ ak,by
       rw[hg.block _ bI λe=>by have:=R _ e.symm;have:=i.size;omega];exact ij W.drew _ _ aq⟩
     replace R:Hid _:=R;go_wp2_with fail;rw[<-H];clear y3 f3 X U H
     go_region_law (refine fW rfl (.tmp 44) (.tmp 46) 77 rfl 0 86 i0 _ 4 56 underlying77 an ar aw ah rfl aG _ L.length (uQ L) (by simp[Act.eval,af]) (ag.drew.alloc _) (Ad W.heap.size 0) 1 1 [.string name,.pointer (some p),Iv 1,.slice none 0 0] (by simp[Act.eval]) rfl (KX W.drew _ _ _ _ _) (by intro u J;simp at J;rcases J with rfl|rfl|rfl|rfl<;>rfl) eP aA aF ?_;intro v' G s v Z;have hq:=ax.out v;have y5:=(fP (a:=(Ad yb 4)) hq.1).trans y4;have f5:=(World.frozen?_of_block (a:=(Ad yb 4)) hq.1).trans f4;obtain⟨o5,y,rfl,_⟩:=bT s)
     all_goals
      have N:=wD v;have a8:aH (λb=>(Value.slice po L.length bS).ownBlock=some b) w G:=(aH.aS B).trans N;have aj:=h.store a8 (S':={S with aW:=S.aW++[⟨name,x,1,[]⟩]}) ⟨rfl,rfl,rfl,rfl⟩ (VB:=.slice o5 (L.length+1) y) (L':=L++[(⟨name,x,1,[]⟩,.pointer (some p),.slice none 0 0)]) (by rw[ml,h.hL];rfl) (by
        have e:uQ (L++[((⟨name,x,1,[]⟩:Az),Value.pointer (some p),Value.slice none 0 0)])=uQ L++[.string name,.pointer (some p),Iv 1,.slice none 0 0]:=by simp[uQ,J1]
        rw[e,ky];exact s) (λb r=>by
        rcases Z with e|e
        .exact .inl (e▸r)
        .rw[r]at e;cases e;have:=B.size;exact .inr bI) (λl D=>by
        rcases jc.1 D with D|D
        .exact .inl ⟨l,D,rfl,rfl⟩
        .simp at D;subst D;exact .inr ⟨rfl,rfl⟩) (λl D=>by
        rcases jc.1 D with D|D
        .exact fU a8 (Bi h) (h.eE l D)
        .simp at D;subst D;exact fU ((aH.aS (P.tr Q)).trans N) (Bi (h.below f)) (a1.out w2 aV)) (Io.2 ⟨h.apart,List.pairwise_singleton _ _,λa _ b r g _ e=>by simp at r;subst r;cases e⟩)
      obtain⟨⟨az,VB,C',L',hX⟩,a6⟩:=aj;rw[af]at hX a6;have J:(G.setCell (Ad yb 4) (.slice o5 (S.aW.length+1) y)).heap[j.heap.size]?=some (.cells #[.string name,.pointer (some p),Iv 1,.slice none 0 0] 86 (0,0)):=by
       rw[mE _ _ _ _ (by show j.heap.size≠yb;have:=aN h.cell;have:=i.size;omega),hq.2];exact E
      have ai:bX 0 (G.setCell (Ad yb 4) (.slice o5 (S.aW.length+1) y)) x (.pointer (some p)):=by
       refine fU (fJ G (Ad yb 4) _) (λb cs t m K h3 e=>?_) (fU ((aH.aS (P.tr Q)).trans N) (Bi (h.below f)) (a1.out w2 aV));have e:b=yb:=e;subst e;rw[hq.1,(h.below B).cell]at K;cases K;simp at h3
      generalize G.setCell (Ad yb 4) (.slice o5 (S.aW.length+1) y)=V at*;have t0:V.cell? (Ad j.heap.size 0)=some (.string name):=aD J rfl;have t1:V.cell? (Ad j.heap.size 1)=some (.pointer (some p)):=aD J rfl;have t2:V.cell? (Ad j.heap.size 2)=some (Iv 1):=aD J rfl;have t3:V.cell? (Ad j.heap.size 3)=some (.slice none 0 0):=aD J rfl;have hB:=xF hX J2 aA x r1 r3 ⟨eM (.inl r1),by have:=T.ret;omega⟩ (some p) ai name 1 none 0 0;have HB:=hid hB;clear hB s v Z J u0 u1 u2 u3 y4 f4 y5 f5 hq;go_wp2_with fail;apply ku HB.out;rintro e w6 ⟨t,rfl,ad,a7⟩;go_wp2_with fail;go_ret2;rw[c];exact⟨_,rfl,lD ad,⟨_,_,_,_,hX.below a7⟩,a6.trans (aH.aS a7)⟩
  .have c:kO S name d=([],5,S):=by
    unfold kO;rw[M];simp only;rw[bY];exact pj.2 ⟨q,iF K,h2⟩
   rw[h4,fE]at I;go_wp2_with fail;apply I.m0;clear hA Y;go_wp2_with fail;go_ret2;rw[c];exact A.out _ 5 f
 .have c:kO S name d=([],z,S):=by unfold kO;rw[M]
  clear hA Y;go_wp2_with fail;go_ret2;rw[c];exact A.out _ z f
end
end Ev
end Go.Proofs.YtpbbmagjhkakgaaGreatDoor
