import Derived.Test.YtpbbmagjhkakgaaGreatDoorC9
namespace Go.Proofs.YtpbbmagjhkakgaaGreatDoor
set_option maxHeartbeats 4000000
set_option maxRecDepth 100000
namespace Ev
open Tryz Go.RowKit Go.Deep Lf
theorem vY(name:aZ):∀(l:aB Ag)(i:Nat),(l.find? (λp=>decide (p.name=name))=none/\OG name l i=-1)\/∃k p,l[k]?=some p/\p.name=name/\l.find? (λp=>decide (p.name=name))=some p/\OG name l i=((i+k:Nat):Int)
 |[],i=>.inl ⟨rfl,rfl⟩
 |q::l,i=>by
  by_cases h:q.name=name
  .exact .inr ⟨0,q,rfl,h,by rw[List.find?_cons_of_pos (by simpa using h)],by rw[OG,bY h];rfl⟩
  .rw[List.find?_cons_of_neg (by simpa using h),OG,bN h]
   obtain a|⟨k,p,a,b,d,c⟩:=vY name l (i+1)
   .exact .inl a
   .exact .inr ⟨k+1,p,a,b,d,by rw[c];omega⟩
theorem wN{l:aB Ag}(b:(l.map (·.name)).Nodup){f:Ag->Ag}:∀{k:Nat}{p},l[k]?=some p->l.set k (f p)=l.map λq=>if q.name=p.name then f q else q:=by
 induction l with
 |nil=>intro k p h;simp at h
 |cons a l d=>
  intro k p h;rw[gW,HU]at b;cases k with
  |zero=>
   simp at h;subst h;rw[Cg,gW,bY rfl];congr 1;refine((E6 (g:=id) λq c=>?_).trans (List.map_id l)).symm;rw[bN]
   .rfl
   .exact λe=>b.1 (iX.2 ⟨q,c,e⟩)
  |succ k=>
   let h':l[k]?=some p:=by simpa using h
   rw[Hz,gW,d b.2 h',bN];intro e;exact b.1 (iX.2 ⟨p,iA h',e.symm⟩)
theorem vh{d:Type}(f:d->aB aF)(n:Nat)(c:∀a,(f a).length=n)(j:Nat)(g:j<n)(v:aF):∀(L:aB d)(i:Nat)(a b:d),L[i]?=some a->f b=(f a).set j v->((L.set i b).map f).flatten=(L.map f).flatten.set (i*n+j) v
 |[],i,_,_,h,_=>by simp at h
 |x::L,0,a,b,h,e=>by
  simp at h;subst h
  simp only[Cg,gW,Cj,Nat.zero_mul,fC]
  rw[List.set_append_left _ _ (by rw[c];exact g),e]
 |x::L,i+1,a,b,h,e=>by
  simp only[Hz,gW,Cj]
  rw[E5 _ _ (by rw[c,Nat.succ_mul];omega),c,(vh f n c j g v L i a b (by simpa using h) e)]
  congr 2
  rw[Nat.succ_mul];omega
section
variable{O:Nat->Prop}{S:fX}{n yb:Nat}{ev pv:aF}{C:aB CE}{L:aB CP}{w:aC}
theorem eT.mS(h:eT O S yb ev pv C L w):L.length=S.aU.length:=by rw[<-h.hL,ux]
theorem eT.get(h:eT O S yb ev pv C L w){k:Nat}{p}(a:S.aU[k]?=some p):∃c,L[k]?=some c/\c.1=p:=by
 rw[<-h.hL,kY]at a;let⟨c,hc,e⟩:=na.1 a;exact⟨c,hc,e⟩
theorem eT.mono{j}(h:eT O S yb ev pv C L w)(e:∀b,O b->j b):eT j S yb ev pv C L w:=
 {h with
  atoms:=λc f=>⟨(h.atoms c f).1,(h.atoms c f).2.1,(h.atoms c f).2.2.1,λa i=>⟨e _ ((h.atoms c f).2.2.2 a i).1,((h.atoms c f).2.2.2 a i).2⟩⟩
  own:=⟨e _ h.own.1,λg d=>e g (h.own.2.1 g d),λg d=>e g (h.own.2.2.1 g d),λl k g d=>e g (h.own.2.2.2 l k g d)⟩}
theorem Lu(h:eT O S yb ev pv C L w)(m:S.OK n)(name):
  Calls prog 67 #[Pt yb,.string name] w λe q=>∃v,e=.returned (.tuple #[v,Iv (gm S name).2])/\q.ownsRow 0 199 4 v (gm S name).1.length (kZ (gm S name).1)/\q=w:=by
 let d:=zv h m name;obtain⟨i,l⟩|⟨k,p,i,l,t,s⟩:=vY name S.aU 0
 .let f:gm S name=([],6):=by unfold gm fX.get;rw[i]
  rw[l]at d;rw[f];go_enter func67,ntmps67;go_wp2_with fail;apply d.mono;rintro e y ⟨rfl,rfl⟩;go_wp2;go_ret2;exact⟨_,rfl,fF _ _ _ _,rfl⟩
 .let f:gm S name=(p.str,0):=by unfold gm fX.get;rw[t]
  rw[s,fC]at d;rw[f];obtain⟨c,j,rfl⟩:=h.get i;obtain⟨o,cap,rfl,r,_,a⟩:=bT h.aU;let u:=(e_.1 j).1;obtain⟨g,rfl,_,_,a⟩:=a aA;let b:=h.fV c (iA j);let⟨so,ZA,Qh,_⟩:=bT b;let z:w.cell? (Ad yb 4)=some (Sl g L.length cap):=aD h.cell rfl;let A:w.cell? (Ad g (k*4+3))=some (.slice so c.1.str.length ZA):=Qh▸a _ _ (jx (k:=3) j rfl);let B:=m.few;let x:=h.mS;let aaA:Hid (w.ownsRow 0 199 4 (.slice so c.1.str.length ZA) c.1.str.length (kZ c.1.str)):=Qh▸b;go_enter func67,ntmps67;go_wp2_with fail;apply d.m0;go_wp2;go_ret2;exact⟨_,rfl,aaA.out,rfl⟩
theorem eT.change{x P:Nat->bQ}{q:fX}{f:aF}{j:aB CP}{p:aC}(h:eT O S yb ev pv C L w)(D:aI P w p)(y:∀b,O b->x b)(G:dP w P [193,9,252,199])
  (t:p.heap[yb]?=some (.cells #[Iv S.ret,Iv S.room,ev,Iv ((S.off:Int)+1),f] 79 (0,0))) (E:q.ret=S.ret/\q.room=S.room/\q.bH=S.bH/\q.off=S.off) (hL:j.map (·.1)=q.aU)
  (I:p.ownsRow 0 86 4 f j.length (uy j)) (B:∀g,f.ownBlock=some g->x g)
  (F:∀l∈j,(∃r∈L,l.2.2=r.2.2/\l.1.str=r.1.str)\/(p.ownsRow 0 199 4 l.2.2 l.1.str.length (kZ l.1.str)/\∀g,l.2.2.ownBlock=some g->x g)) (A:∀l∈j,bX 0 p l.1.x l.2.1)
  (i:j.Pairwise λa b=>∀g,a.2.2.ownBlock=some g->b.2.2.ownBlock≠some g):eT x q yb ev f C j p:=by
 let⟨E,e2,e3,e4⟩:=E;let own:∀{base size n:Nat}{e:TypeId}{v:aF}{xs:aB aF},w.ownsRow base e size v n xs->e∈[(193:TypeId),9,252,199]->p.ownsRow base e size v n xs:=λd s=>cG d D λg o=>by
  let⟨cur,t⟩:=cE d o;exact G _ _ _ _ t s
 refine⟨by rw[E,e2,e4];exact t,by rw[e3];exact h.hC,hL,own h.bH aE,I,λc t=>?_,A,λl z=>?_,i,y _ h.own.1,λg o=>y g (h.own.2.1 g o),B,λl z g o=>?_⟩
 .let⟨a1,a2,a3,a4⟩:=h.atoms c t;let u:∀a,c.2.1=some a->¬P a.block:=λa i=>by
   let⟨cs,m,k⟩:=(a4 a i).2;exact G _ _ _ _ k aE
  refine⟨a1.spare D u,a2,a3,λa i=>⟨y _ (a4 a i).1,?_⟩⟩;let⟨cs,m,k⟩:=(a4 a i).2;exact⟨cs,m,D.get k (u a i)⟩
 .obtain⟨r,d,s,H⟩|⟨d,_⟩:=F l z
  .rw[s,H];exact own (h.fV r d) aE
  .exact d
 .obtain⟨r,d,s,_⟩|⟨_,d⟩:=F l z
  .rw[s]at o;exact y g (h.own.2.2.2 r d g o)
  .exact d g o
theorem fH(w a v):aI (λb=>b=a.block) w (w.setCell a v):=⟨rfl,rfl,aE,λb _ c=>mn _ _ _ _ c⟩
theorem iQ{w:aC}{base size n g cap e xs}(h:w.ownsRow base e size (Sl g n cap) n xs)(i v):(w.setCell (Ad g i) v).ownsRow base e size (Sl g n cap) n (xs.set i v):=(h.stored i v).1
theorem eT.put{g cap}(h:eT O S yb ev (Sl g L.length cap) C L w)(I:(S.aU.map (·.name)).Nodup){k c}(E:L[k]?=some c){f}(H:∀p,(f p).name=p.name/\(f p).x=p.x/\(f p).cO=p.cO){x}(d:Bl w x){v'}(o:x.ownsRow w.heap.size 199 4 v' (f c.1).str.length (kZ (f c.1).str)):
  uC (λb=>O b\/w.heap.size<=b) (S.upd c.1.name f) yb (x.setCell (Ad g (k*4+3)) v')/\aI O w (x.setCell (Ad g (k*4+3)) v'):=by
 let u:=h.below d;let y:=fH x (Ad g (k*4+3)) v';let⟨cg,sF⟩:=cE u.aU (g:=g) rfl;let B:∀t,t≠86->dP x (λb=>b=g) [t]:=λt D b A J m n q e=>by
  subst e;rw[sF]at n;cases n;simp at q;exact D q.symm
 let r:∀{t A m b},x.heap[b]?=some (.cells A t m)->t≠86->b≠g:=λn D=>B _ D _ _ _ _ n aE;let a:∀b,v'.ownBlock=some b->w.heap.size<=b:=λb d=>(o.lt b d).1;let v:∀l∈L,∀b,l.2.2.ownBlock=some b->b<w.heap.size:=λl s b d=>((h.fV l s).lt b d).2;refine⟨⟨ev,_,C,L.set k (f c.1,c.2.1,v'),u.change y (λb d=>.inl d) ?_ ((y.block yb (aL u.cell) (r u.cell aG)).trans u.cell) ⟨rfl,rfl,rfl,rfl⟩ ?_ ?_ (λb d=>.inl (h.own.2.2.1 b d)) (λl s=>?_) (λl s=>?_) ?_⟩,?_⟩
 .intro b A t m n q e;simp only[gp,iW,oF]at q;obtain z|z|z|z:=q<;>exact r n (by rw[z];decide) e
 .rw[xq,h.hL];exact wN I (by rw[<-h.hL,kY,E];rfl)
 .have:=iQ u.aU (k*4+3) v';rw[Ff];let e:uy (L.set k (f c.1,c.2.1,v'))=(uy L).set (k*4+3) v':=vh Jx 4 (λ_=>rfl) 3 aG v' L k c _ E (by simp[Jx,H]);rw[e];exact this
 .obtain s|rfl:=Bh s
  .exact .inl ⟨l,s,rfl,rfl⟩
  .refine .inr ⟨cG (gT o cD) y λb d=>?_,λb d=>.inr (a b d)⟩;let⟨A,n⟩:=cE o d;exact r n aG
 .obtain s|rfl:=Bh s
  .exact fQ y (B _ aG) (u.eE l s)
  .show bX 0 _ (f c.1).x c.2.1;rw[(H c.1).2.1];exact fQ y (B _ aG) (u.eE c (iA E))
 .refine CX.2 λi j hi F G b n q=>?_;rw[List.getElem_set]at n q;simp only[Ff]at hi F;split at n<;>split at q
  .omega
  .have:=v _ (w_ F) b q;have:=a b n;omega
  .have:=v _ (w_ hi) b n;have:=a b q;omega
  .exact CX.1 h.apart i j hi F G b n q
 .exact(aI.aR d).trans (y.mono λb _ e=>by rw[e];exact(h.own.2.2.1 g rfl))
theorem Uk{w:aC}{e size n cap a xs}(h:w.ownsRow 0 e size (.slice (some a) n cap) n xs):∃g,a=(Ad g 0)/\g<w.heap.size/\∀j x,xs[j]?=some x->w.cell? (Ad g j)=some x:=by
 let h':=h;obtain⟨_,⟨b,_⟩|⟨g,cap,f,b,_,d,_⟩⟩:=h
 .cases b
 .cases b;exact⟨g,rfl,aL d,λj x c=>d_ h' rfl c⟩
theorem Gp{w a:aC}{o g}(h:(w.drew.alloc o).grownBy a (some w.heap.size))(b:g<w.heap.size):a.heap[g]?=w.heap[g]?:=by
 rw[h.block g bI bI];exact ib w.drew _ _ b
theorem VB:(prog.info? 199).map (λi=>(i.zero,i.size,i.bytes))=some (some (.agg #[Iv 0,Iv 0,Iv 0,.bool false]),4,32):=aM
theorem LP(l k):(kZ l).drop (k*4)=kZ (l.drop k):=by
 induction k generalizing l with
 |zero=>simp
 |succ k b=>
  cases l with
  |nil=>simp[kZ]
  |cons a l=>
   let e:kZ (a::l)=Jz a++kZ l:=by simp[kZ]
   rw[e,Pu,<-b l,show(k+1)*4=(Jz a).length+k*4 by simp[Jz];omega,List.drop_append,t_ aA,Nat.add_sub_cancel_left];rfl
theorem Dc(l):∀u∈kZ l,u.oneCell'=true:=by
 intro u a;simp only[kZ,HI,iX]at a;obtain⟨_,⟨v,_,rfl⟩,a⟩:=a;simp[Jz]at a;obtain rfl|rfl|rfl|rfl:=a<;>rfl
theorem Ub(h:eT O S yb ev pv C L w)(G:S.OK n)(name m):
  Calls prog 70 #[Pt yb,.string name,Iv m] w λe w'=>e=.returned (Iv (qR S name m).1)/\uC (λb=>O b\/w.heap.size<=b) (qR S name m).2 yb w'/\aI O w w':=by
 have E:=zv h G name;obtain⟨U,R⟩|⟨k,p,U,R,h3,h4⟩:=vY name S.aU 0
 .have H:qR S name m=(6,S):=by unfold qR fX.get;rw[U]
  rw[R]at E;rw[H];go_enter func70,ntmps70;go_wp2_with fail;apply E.mono;rintro e B ⟨rfl,rfl⟩;go_wp2;go_ret;exact⟨rfl,⟨_,_,_,_,h.mono λb I=>.inl I⟩,aI.refl _ _⟩
 .obtain⟨c,K,rfl⟩:=h.get U;rw[h4,fC]at E;have r:=h.fV c (iA K);obtain⟨o,cap,rfl,a1,_,z⟩:=bT h.aU;have ad:=(e_.1 K).1;obtain⟨g,rfl,F,_,z⟩:=z aA;have⟨so,l,Qh,hsc,_,aaX⟩:=bT r;have c4:w.cell? (Ad yb 4)=some (Sl g L.length cap):=aD h.cell rfl;have c3:w.cell? (Ad g (k*4+3))=some (.slice so c.1.str.length l):=Qh▸z _ _ (jx (k:=3) K rfl);have f3:w.frozen? (Ad g (k*4+3))=false:=h.aU.frozenAt _;have hf:=G.few;have ae:=h.mS;have X:=(G.each c.1 (iA U)).2.2.2.2.2.2;by_cases s:m<0\/(c.1.str.length:Int)<m
  .have H:qR S name m=(13,S):=by unfold qR fX.get;rw[h3];simp only[bY s]
   rw[H];go_enter func70,ntmps70;go_wp2_with fail;apply E.mono;rintro e B ⟨rfl,rfl⟩;obtain W|W:=s
   .go_wp2;go_ret;exact⟨rfl,⟨_,_,_,_,h.mono λb I=>.inl I⟩,aI.refl _ _⟩
   .have a7:¬m<0:=by omega
    go_wp2_with fail;go_ret;exact⟨rfl,⟨_,_,_,_,h.mono λb I=>.inl I⟩,aI.refl _ _⟩
  .have H:qR S name m=(0,S.upd name λp=>{p with str:=p.str.drop m.toNat}):=by unfold qR fX.get;rw[h3];simp only[bN s]
   rw[H];obtain⟨j,rfl⟩:∃j:Nat,m=j:=⟨m.toNat,aA⟩;have aa:j<=c.1.str.length:=aA;have⟨i0,WV,nk,nt,nH⟩:=eB VB;have v:=Cr (base:=w.heap.size) (e:=199) (size:=4) w.drew #[] 0 aX eP rfl;cases so with
   |none=>
    have J:c.1.str.length=0:=by
     rw[Qh]at r;obtain⟨_,e⟩|⟨_,_,_,e,_⟩:=r.2
     .exact e
     .cases e
    obtain rfl:j=0:=aA;have x:g<w.drew.heap.size:=F;have N:=aL h.cell;have T:=h.put G.nodup K (f:=λp=>{p with str:=p.str.drop 0}) (λp=>⟨rfl,rfl,rfl⟩) ((cC w.heap.size w).drew.al (.cells #[] 199)) (v':=Sl w.heap.size 0 0) (by rw[vU,ur.1 J];exact v);rw[R,World.setCell_alloc_past _ _ _ _ x]at T;replace T:Hid _:=T;rw[J]at c3 hsc X;go_enter func70,ntmps70;go_wp2_with fail;apply kq E;rintro e B ⟨rfl,rfl⟩;go_wp2
    go_region
    all_goals
     go_wp2;go_ret;exact⟨rfl,T.out⟩
   |some sa=>
    rw[Qh]at r;obtain⟨A,rfl,Y,Z⟩:=Uk r;obtain⟨D,a6,M⟩:∃D,(if l=j then some ((Ad A 0):a_)else some (Ad A (j*4)))=some (Ad A D)/\∀i u,(kZ (c.1.str.drop j))[i]?=some u->w.cell? (Ad A (D+i))=some u:=by
     by_cases e:l=j
     .refine⟨0,by rw[bY e],λi u y=>?_⟩;rw[t_ aA]at y;simp[kZ]at y
     .refine⟨j*4,by rw[bN e],λi u y=>Z _ _ ?_⟩;rw[<-LP,uw]at y;exact y
    have V:Hid (∀i u,(kZ (c.1.str.drop j))[i]?=some u->(w.drew.alloc (.cells #[] 199)).cell? (((Ad A D):a_).add i)=some u):=λi u y=>by
     rw[oN,sq w.drew _ (Ad A (D+i)) Y];exact M i u y
    have P:Hid ((kZ (c.1.str.drop j)).length=(c.1.str.length-j)*4):=by show _=_;rw[kZ,eN Jz 4 λ_=>rfl,nQ]
    have x:=F;have N:=aL h.cell;go_enter func70,ntmps70;go_wp2_with fail;apply kq E;rintro e B ⟨rfl,rfl⟩;go_wp2_with fail;generalize c.1.str.length=sl at*
    go_region_law (refine fS rfl (.tmp 33) (.tmp 43) 84 rfl B.heap.size 199 i0 _ 4 32 underlying84 WV nk nt nH rfl aG _ 0 [] (by simp[Act.eval,Act.put]) v (Ad A D) (sl-j) (l-j) (kZ (c.1.str.drop j)) (by simp[Act.eval,Act.put]) P.out V.out (Dc _) eP aA aE ?_;intro v' w2 q d a8;have t:=Gp d x;have d4:=(fT (a:=(Ad yb 4)) (Gp d N)).trans c4;have d3:=(fT (a:=(Ad g (k*4+3))) t).trans c3;have df:=(World.frozen?_of_block (a:=(Ad g (k*4+3))) t).trans f3;obtain⟨o5,Q,rfl,_⟩:=bT (gT q cD))
    all_goals
     have:=h.put G.nodup K (f:=λp=>{p with str:=p.str.drop j}) (λp=>⟨rfl,rfl,rfl⟩) (((cC B.heap.size B).al _).drew.grown d aE λk e=>by cases e;exact aX) (v':=.slice o5 (0+(sl-j)) Q) (by
      have e:(c.1.str.drop j).length=0+(sl-j):=by have:=P.out;rw[kZ,eN Jz 4 λ_=>rfl]at this;omega
      rw[e];exact q)
     rw[R,fC]at this;go_wp2;go_ret;exact⟨rfl,this⟩
end
end Ev
end Go.Proofs.YtpbbmagjhkakgaaGreatDoor
