import Derived.Test.YtpbbmagjhkakgaaGreatDoorD2
import Derived.Test.YtpbbmagjhkakgaaGreatDoorD3
import Derived.Test.YtpbbmagjhkakgaaGreatDoorD4
namespace Go.Proofs.YtpbbmagjhkakgaaGreatDoor
set_option maxHeartbeats 4000000
set_option maxRecDepth 100000
namespace Ev
open Tryz Go.RowKit Go.Deep Go.Maps Lf Go.Conc
def sK(sp:aQ a_)(p:mW):mW:={p with eE:=sp,cO:=p.cO+1}
theorem I9{b ps i p}(sp)(d:eI b 0 ps)(hi:ps[i]?=some p):eI ((b.setIfInBounds (i*5+1) (.pointer sp)).setIfInBounds (i*5+3) (Iv (p.cO+1))) 0 (ps.set i (sK sp p)):=by
 intro j q c;let⟨b0,b1,b2,b3,b4⟩:=d i p hi;simp only[fC]at b0 b1 b2 b3 b4⊢;let e:=(jM.1 b4).1;by_cases a:j=i
 .subst a;rw[rh ((e_.1 hi).1)]at c;cases c;refine⟨?_,?_,?_,?_,?_⟩
  .rw[qv aA,qv aA];exact b0
  .rw[qv aA,Fb aA];rfl
  .rw[qv aA,qv aA];exact b2
  .rw[Fb bI];rfl
  .rw[qv aA,qv aA];exact b4
 .rw[yj (lx a)]at c;let⟨a0,a1,a2,a3,a4⟩:=d j q c;simp only[fC]at a0 a1 a2 a3 a4;refine⟨?_,?_,?_,?_,?_⟩<;>rw[qv aA,qv aA]<;>assumption
theorem Mp(name s x){aW a room no bZ K ea bO C E pa bS ps ss w}(h:dJ w aW a room no bZ K ea bO C E pa bS ps ss)(F:eV ps)(o:∀p∈ps,0<=p.cO/\p.cO<=1000000)(Z:oh name)(hm:s.size<=maxLen)(hg:dW w)(R:14<=w.heap.size)(hr:cV s=(some x,0))(hR:bD x<=a)(i)(hi:dV name ps=i)(p)(O:ps[i]?=some p)(H:eW name ps=true)(Q:aF->aC->bQ)
  (l:∀sp (g f b) (W),Bl w W->w.heap.size<=g->W.heap[g]?=some (.cells b 183 (0,0))->eI b 0 (ps.set i (sK sp p))->ps.length<=f->bG 143 0 W x (.pointer sp)->Calls prog 98 #[Pt aW,Sl g ps.length f] W λe L=>∃v,e=.returned v/\Q v L):
  Calls prog 96 #[Pt aW,.string name,.string s] w λe L=>∃v,e=.returned (.tuple #[Iv (i),v])/\Q v L:=by
 have aa:=h.vL;have S:=qe aW a (Iv room) _ _ _ name s x w h.cell Z hm hg R hr hR;have hf:Hid (∀W,Bl w W->Calls prog 97 #[Pt aW,.string name] W λe L=>e=.returned (.tuple #[Iv (i:Int),.bool true])/\Bl W L):=λW y=>by
  have:=mJ aW (Iv a) (Iv room) _ _ pa bS ps name W (y.aS h.cell) (ij.move h.aU (aI.aR (P:=λ_=>False) y) (dP.none _ _)) F aA;rw[hi,H]at this;exact this
 have a7:i<ps.length:=(e_.1 O).1;have X:=hid λW (y:Bl w W)=>qT W pa bS ps (ij.move h.aU (aI.aR (P:=λ_=>False) y) (dP.none _ _)) aA;have Hc:Hid (∀W,Bl w W->W.cell? (Ad aW 4)=some (.slice pa ps.length bS)):=λW y=>aD (y.aS h.cell) rfl;have hv:=o p (iA O);have q:=hid l;have D:Hid (∀(W:aC)(B g f:Nat),W.ownsRow B 183 5 (Sl g ps.length f) ps.length (gS ps)->∃b:aY aF,B<=g/\W.heap[g]?=some (.cells b 183 (0,0))/\ps.length<=f/\eI b 0 ps):=λW B g f c=>by
  obtain⟨b,q1,A,V,J,_⟩:=Lq c;exact⟨b,q1,A,V,J⟩
 have Hp:=hid O;generalize gS ps=fp at*;clear h F hi H o O l hg hr hR Z;generalize a8:ps.length=n at*;go_enter func96,ntmps96;go_wp2_with fail;apply S.mono;rintro e w1 ⟨sp,rfl,u,I⟩;have u:=hid u;go_wp2_with fail;refine(hf.out w1 I).m λw2 j=>?_;have d:=I.tr j;have c4:=Hc.out w2 d;go_wp2_with fail;apply(X.out w2 d).mono;rintro e r ⟨v',rfl,c,t⟩;have m:=d.tr t;obtain⟨r1,⟨_,r2⟩|⟨g,f,a6,rfl,r3,_⟩⟩:=id c
 .omega
 obtain⟨b,q1,A,V,J⟩:=D.out r _ g f c;obtain⟨b0,b1,b2,T,b4⟩:=J i p Hp.out;simp only[fC]at b0 b1 b2 T b4;have a1:=d.size;have d1:=aD A b1;have d3:=aD A T;have f1:r.frozen? (Ad g (i*5+1))=false:=cJ A _;have M:=dR (i:=i*5+1) (v:=.pointer sp) A;have d3':(r.setCell (Ad g (i*5+1)) (.pointer sp)).cell? (Ad g (i*5+3))=some (Iv p.cO):=aD M (by rw[qv aA];exact T);have f3:(r.setCell (Ad g (i*5+1)) (.pointer sp)).frozen? (Ad g (i*5+3))=false:=cJ M _;have g3:=dR (i:=i*5+3) (v:=Iv (p.cO+1)) M;have z:Only g r ((r.setCell (Ad g (i*5+1)) (.pointer sp)).setCell (Ad g (i*5+3)) (Iv (p.cO+1))):=((Only.refl g r).setCell (p:=(Ad g (i*5+1))) (.inl rfl) _).setCell (p:=(Ad g (i*5+3))) (.inl rfl) _;have G:=m.trans ⟨z.os,z.tape,z.output,z.size,λk N=>z.block k (by have:=m.size;omega) aA⟩;have U:=q.out sp g f _ _ G aA g3 (I9 sp J Hp.out) V (gw (λk cs N=>by
  rw[z.block k (fW (aL N) (gC j.size t.size)) (by have:=aL N;have:=j.size;omega)];exact(j.tr t).aS N) u.out)
 clear q c J g3 M G;go_wp2_with fail;apply U.mono;rintro e w4 ⟨v,rfl,Y⟩;replace Y:Hid _:=Y;go_wp2_with fail;go_ret2;exact⟨v,rfl,Y.out⟩
def H5(aW:Nat)(d room:Int)(ea:aQ a_)(bO:Nat)(C:aB iZ)(E:aB Pe)(xs:aB (BT c_))(h:aB mW)(ss:aB ld)(i:Nat)(cO:Int)(w k:aC)(v:aF):Prop:=
 ∃(no:aQ a_)(bZ:Nat)(g:aB iZ)(pb bS:Nat)(f:iZ->Bool),dJ k aW d room no bZ (jw (iU xs) h.length) ea bO g (kU (jw (iU xs) h.length) E C.length) (some (Ad pb 0)) bS (jQ (iU xs) h) ss/\w.heap.size<=pb/\eX k (jQ (iU xs) h) xs/\g.length=C.length/\(∀(i:Nat) c c0,g[i]?=some c->C[i]?=some c0->c.number=c0.number/\c.time=c0.time/\c.ao=c0.ao)/\cY (λb=>b=aW\/∃a,ea=some a/\a.block=b) w k/\
  (∀(j:Nat) c e,g[j]?=some c->(kU (jw (iU xs) h.length) E C.length)[j]?=some e->f c=e.at (BO (iU xs) i))/\k.ownsRow w.heap.size 59 4 v (gN (bD (iU xs i)) g).length (yy f cO (gN (bD (iU xs i)) g))
theorem Dp{aW a room ea bO C E xs g ss w b}(h:After aW a room ea bO C E xs g ss w b)(i q)(hi:g[i]?=some q)(J:0<=bD (iU xs i)/\bD (iU xs i)<=1000000000)(Q:∀c∈C,0<=c.time/\c.time<=1000000000000):
  Calls prog 92 #[Pt aW,Iv (i)] b λe S=>∃v,e=.returned v/\H5 aW a room ea bO C E xs g ss i q.cO w S v:=by
 obtain⟨no,bZ,p,pb,bS,d,G,r,N,F,B⟩:=h;let K:=(e_.1 hi).1;let f:(jQ (iU xs) g)[i]?=some {q with node:=(BO (iU xs) i).toNat}:=by
  unfold jQ;rw[Ps,hi];rfl
 obtain⟨u,_,_⟩|⟨I,V,x,U,u,T,O⟩:=d.aU
 .cases u
 cases u;let t:∀c∈p,0<=c.time/\c.time<=1000000000000:=λc l=>by
  let⟨j,hj⟩:=Ae.1 l;let H:=(e_.1 hj).1;let R:C[j]?=some C[j]:=fG aA;rw[(F j c _ hj R).2.1];exact Q _ (w_ _)
 let s:(BO (iU xs) i).toNat<=(jw (iU xs) g.length).length:=d.GI _ (iA f);let D:∀(j:Nat) c e,p[j]?=some c->(kU (jw (iU xs) g.length) E C.length)[j]?=some e->∃m so,c.so=some (Ad m so)/\m<b.heap.size/\(BO (iU xs) i).toNat<c.sl/\b.cell? (Ad m (so+(BO (iU xs) i).toNat))=some (.bool (BI b (BO (iU xs) i).toNat c))/\BI b (BO (iU xs) i).toNat c=e.at ((BO (iU xs) i).toNat:Int):=λj c e l o=>Ta (d.ins j c e l o) (by rw[d.rows e (iA o)];omega);let n:=r.at i _ f;let y:i<xs.length:=r.len▸(e_.1 f).1;let M:bC (iU xs i)<=12:=by
  let A:xs[i]?=some xs[i]:=fG y;let e:iU xs i=xs[i]:=by unfold iU;rw[qp,A];rfl
  rw[e];exact(r.fine _ (iA A)).2.2
 refine(JX aW (Iv a) (Iv room) _ ea bO p pb bS x _ i (jQ (iU xs) g) _ (iU xs i) (BI b (BO (iU xs) i).toNat) b d.cell T O f rfl d.vL n.1 n.2.1 aA d.bH d.few J t (λc l=>by
  let⟨j,hj⟩:=Ae.1 l;let H:=(e_.1 hj).1;let⟨m,so,k1,k2,k3,k4,_⟩:=D j c _ hj (fG (by rw[rL];omega));exact⟨m,so,k1,k2,k3,k4⟩)).mono ?_
 rintro e W ⟨v,rfl,L,z⟩;refine⟨v,rfl,no,bZ,p,pb,bS,BI b (BO (iU xs) i).toNat,d.move (aI.aR (P:=λ_=>False) z) (dP.none _ _),G,r.down z,N,F,B.trans (cY.aR z),λj c e l o=>?_,gT L B.size⟩;let⟨_,_,_,_,_,_,k⟩:=D j c e l o;rw[k,Int.toNat_of_nonneg (tH _ _)]
theorem F'(X:Nat->BT c_):∀n,(∀j,j<n->cF (aN (X j))<=1000000)->(jw X n).length<=n*1000000
 |0,_=>by simp[jw]
 |n+1,h=>by
  let c:=F' X n λj d=>h j aA
  let a:=(n8 (aN (X n)) (jw X n)).2.1
  let b:=h n aA
  show(cM (jw X n) (aN (X n))).2.length<=_
  omega
def H8(v:aF)(w a:aC):Prop:=∃tb k,v=.iface 132 (Pt tb)/\a.heap[tb]?=some (.cells #[Iv k] 245 (0,0))/\Bl w a
theorem Ed{aW pb bS a room s i B ea bO C E pa c ps q xs d f w l}(h:dJ w aW a room s i B ea bO C E pa c ps q)(g:Bl w l)
  (t:l.heap[pb]?=some (.cells f 183 (0,0))) (z:w.heap.size<=pb) (A:eI f 0 d) (D:d.length<=1000) (n:d.length<=bS) (u:eX l d xs) (G:40<(jw (iU xs) d.length).length):
  Calls prog 98 #[Pt aW,Sl pb d.length bS] l λe x=>∃v,e=.returned v/\H8 v w x:=by
 let F:=F' (iU xs) d.length λj r=>(u.at j _ (fG r)).2.2;apply(LC aW pb bS (Iv a) (Iv room) _ _ pa ps.length c f d (iU xs) l (g.aS h.cell) t A D n (λj p r=>u.at j p r) G aA).mono;rintro e x ⟨tb,k,rfl,H,y,m⟩;exact⟨_,rfl,tb,k,rfl,y,⟨m.os.trans g.os,m.tape.trans g.tape,m.output.trans g.output,gC g.size m.size,λb o=>(m.block b (fW o g.size) aA).trans (g.block b o)⟩⟩
theorem Q5{w W:aC}{ps:aB mW}{xs:aB (BT c_)}(h:eX w ps xs)(f:Bl w W){i:Nat}{q:mW}{x:BT c_}(d:bG 143 0 W x (.pointer q.eE))(e:fZ x/\cF (aN x)<=1000000/\bC x<=12):eX W (ps.set i q) (xs.set i x):=by
 refine⟨by simp[h.len],λj p y c a=>?_,λy a=>?_⟩
 .by_cases b:i=j
  .subst b;rw[rh (by simpa using((e_.1 c).1))]at c;rw[rh (by simpa using((e_.1 a).1))]at a;cases c;cases a;exact d
  .rw[yj b]at c a;exact(h.down f).each j p y c a
 .obtain a|rfl:=Bh a
  .exact h.fine y a
  .exact e
theorem Gd(name s x){aW a room no bZ K ea bO C E pa bS ps ss xs w}(h:dJ w aW a room no bZ K ea bO C E pa bS ps ss)(u:eV ps)(L:eX w ps xs)(d:∀p∈ps,0<=p.cO/\p.cO<=1000000)(H:oh name)(S:s.size<=maxLen)(N:dW w)(r:14<=w.heap.size)(D:cV s=(some x,0))(M:cF (aN x)<=1000000)(I:bD x<=a)(i)(hi:dV name ps=i)(p)(A:ps[i]?=some p)(y:eW name ps=true):
  Calls prog 96 #[Pt aW,.string name,.string s] w λe n=>∃v,e=.returned (.tuple #[Iv (i),v])/\(((jw (iU (xs.set i x)) ps.length).length<=40/\v=.nilIface/\∃sp,After aW a room ea bO C E (xs.set i x) (ps.set i (sK sp p)) ss w n)\/(40<(jw (iU (xs.set i x)) ps.length).length/\H8 v w n)):=by
 let⟨OX,hz,Y4,_⟩:=dH D;let O:=h.vL;refine Mp name s x h u d H S N r D I i hi p A y _ λsp g B J W o c F G R z=>?_;let Jy:eX W (ps.set i (sK sp p)) (xs.set i x):=Q5 L o z ⟨⟨OX,hz⟩,M,Y4⟩;let b:(ps.set i (sK sp p)).length=ps.length:=aE;obtain f|f:=Bn 40 (jw (iU (xs.set i x)) ps.length).length
 .have:=Ed h o F c G aA (by omega:_<=B) Jy (b▸f);rw[b]at this;apply this.mono;rintro e n ⟨v,rfl,Q⟩;exact⟨v,rfl,.inr ⟨f,Q⟩⟩
 .have:=tR (ss:=ss) h o F c G aA (by omega:_<=B) Jy (b▸f) (b▸h.mS) (λj t q l m=>by
   by_cases k:i=j
   .subst k;rw[rh (e_.1 A).1]at m;cases m;exact h.zp i t p l A
   .rw[yj k]at m;exact h.zp j t q l m) (λt l=>f_.move (h.EI t l) (aI.aR (P:=λ_=>False) o) (dP.none _ _)) h.apart
  rw[b]at this;refine this.m λn T=>?_;exact⟨_,rfl,.inl ⟨f,rfl,sp,T⟩⟩
theorem VE(B i m ps v p)(w:aC)(z:w.ownsRow B 183 5 v ps.length (gS ps))(x:w.heap[m]?=some (.cells (ix p).toArray 183 (0,0)))(q:∀g,v.ownBlock=some g->m≠g)(hi:i<=ps.length)(C:ps.length<=1000)(s:B<=w.heap.size):
  Calls prog 137 #[v,Iv (i),Sl m 1 1] w λe k=>∃g c b,e=.returned (Sl g (ps.length+1) c)/\B<=g/\k.heap[g]?=some (.cells b 183 (0,0))/\ps.length+1<=c/\eI b 0 (ps.take i++p::ps.drop i)/\Below B w k:=by
 have o:gS (ps.take i++p::ps.drop i)=(gS ps).take (i*5)++ix p++(gS ps).drop (i*5):=by
  rw[wj,DW ps i hi,DV ps i hi,nc];rfl
 have l:(ps.take i++p::ps.drop i).length=ps.length+1:=bI;have d:∀(f:aF)(W:aC),W.ownsRow B 183 5 f (ps.length+1) ((gS ps).take (i*5)++ix p++(gS ps).drop (i*5))->∃(g c:Nat)(b:aY aF),f=Sl g (ps.length+1) c/\B<=g/\W.heap[g]?=some (.cells b 183 (0,0))/\ps.length+1<=c/\eI b 0 (ps.take i++p::ps.drop i):=λf W h=>by
  rw[<-o,<-l]at h;obtain⟨g,c,b,y,G,D,A,a5⟩:=NI h aE;rw[l]at y A;exact⟨g,c,b,y,G,D,A,a5⟩
 obtain⟨I,⟨rfl,E⟩|⟨g,c,b,rfl,H,_⟩⟩:=id z
 .have t:ps=[]:=ur.1 E;subst t;obtain rfl:i=0:=by simpa using hi
  refine(VF m (ix p) w rfl (λj u F=>aD x (by simpa using F)) (NG p)).mono ?_;rintro e k ⟨f,rfl,r,n⟩;obtain⟨g,c,b,rfl,a⟩:=d f k (by simpa[gS]using gT r s);exact⟨g,c,b,rfl,a.1,a.2.1,a.2.2.1,a.2.2.2,n.mono s⟩
 .refine(M8 B g c i ps.length m (gS ps) (ix p) w z (AO ps) x rfl (NG p) (q g rfl) hi C s).mono ?_;rintro e k ⟨f,rfl,r,n⟩;obtain⟨g,c,b,rfl,a⟩:=d f k r;exact⟨g,c,b,rfl,a.1,a.2.1,a.2.2.1,a.2.2.2,n⟩
theorem zad{T:bQ} (h:T:=by
 refine cA.o 10 (Md func137 Y6 ?_);rintro e V1 ⟨g,gc,cur,rfl,hgl,hgh,hgc,aas,hbI⟩;have Vq:Bl W V1:=ZZ.trans (hbI.mono (by first|exact aX|omega));refine⟨_,rfl,λ_=>Yp.out _ Vq,?_⟩
 try walk_nrm
 have hWs:=Yv.size;refine cA.o 11 (Md func98 (aac.out sp cW g gc cur V1 (Yv.trans (Vq.mono hWs)) (by omega) aaB hgh aas hgc (Vq.aS RJ) (bG.below hsW Vq)) ?_);rintro e V3 ⟨v,rfl,hQ⟩;replace hQ:Hid _:=hQ;refine⟨_,rfl,λh=>absurd h (by decide),?_⟩
 try walk_nrm
 refine cA.o 12 (O8 ⟨λh=>absurd h (by decide),?_⟩)
 try walk_nrm
 refine cA.o 13 (O8 ⟨λh=>absurd h (by decide),?_⟩);refine cA.done (by decide+kernel) ?_ _
 try walk_nrm
 go_wp2_with fail;go_ret2;exact⟨v,rfl,hQ.out⟩):T:=h
theorem Sa(name s x){aW b room no bZ K ea bO C E pa bS ps ss w}(h:dJ w aW b room no bZ K ea bO C E pa bS ps ss)(R:eV ps)(h8:ps.length<8)(hN:oh name)(af:name.size<=1000)(hm:s.size<=maxLen)(A:dW w)(a7:14<=w.heap.size)(hr:cV s=(some x,0))(hR:bD x<=b)(i)(hi:dV name ps=i)(Y:eW name ps=false)(Q:Value->World->Prop)
  (u:∀sp (cW g gc cur) (V),Bl w V->w.heap.size<=g->w.heap.size<=cW->V.heap[g]?=some (.cells cur 183 (0,0))->eI cur 0 (ps.take i++⟨name,sp,some (Ad cW 0),0,1,false⟩::ps.drop i)->ps.length+1<=gc->V.heap[cW]?=some (.cells #[.slice none 0 0] 177 (0,0))->bG 143 0 V x (.pointer sp)->Calls prog 98 #[Pt aW,Sl g (ps.length+1) gc] V λe w'=>∃v,e=.returned v/\Q v w'):
  Calls prog 91 #[Pt aW,.string name,.string s] w λe w'=>∃v,e=.returned (.tuple #[Iv (i),v])/\Q v w':=by
 have I:=qe aW b (Iv room) _ _ _ name s x w h.cell hN hm A a7 hr hR;have G:i<=ps.length:=by rw[<-hi];exact pj name ps
 have hf:Hid (∀W,Bl w W->Calls prog 97 #[Pt aW,.string name] W λe w'=>e=.returned (.tuple #[Iv (i:Int),.bool false])/\Bl W w'):=λW hb=>by
  have:=mJ aW (Iv b) (Iv room) _ _ pa bS ps name W (hb.aS h.cell) (ij.move h.aU (aI.aR (P:=λ_=>False) hb) (dP.none _ _)) R aA;rw[hi,Y]at this;exact this
 have N:Hid (∀W,Bl w W->Calls prog 100 #[.slice pa ps.length bS] W λe w'=>∃r,e=.returned r/\w'.ownsRow W.heap.size 183 5 r ps.length (gS ps)/\Bl W w'):=λW hb=>qT W pa bS ps (ij.move h.aU (aI.aR (P:=λ_=>False) hb) (dP.none _ _)) aA;have Z:=h.cell;replace Z:Hid _:=Z;have y:Hid (∀(B F:Nat)(v:Value)(p:mW)(V:World),V.ownsRow B 183 5 v ps.length (gS ps)->V.heap[F]?=some (.cells (ix p).toArray 183 (0,0))->(∀g,v.ownBlock=some g->F≠g)->B<=V.heap.size->Calls prog 137 #[v,Iv (i:Int),Sl F 1 1] V λe w'=>∃(g gc:Nat)(cur:Array Value),e=.returned (Sl g (ps.length+1) gc)/\B<=g/\w'.heap[g]?=some (.cells cur 183 (0,0))/\ps.length+1<=gc/\eI cur 0 (ps.take i++p::ps.drop i)/\Below B V w'):=λB F v p V h1 h2 h3 h4=>VE B i F ps v p V h1 h2 h3 G aA h4;have aac:Hid _:=u;clear h R hi Y A hm hr hR u G;generalize gS ps=fp at*;generalize ps.length=n at*;go_enter func91,ntmps91;go_wp2_with fail;refine I.mono ?_;rintro e w1 ⟨sp,rfl,H,T⟩;clear I;go_wp2_with fail;refine(hf.out w1 T).m λw2 M=>?_;have t:=T.tr M;have U:=t.aS Z.out;have c4:=aD (i:=4) U rfl;have ae:¬(8:Int)<=(n:Int):=aA;go_wp2_with fail;refine(Aw name _ aA).m λo J=>?_;have j:=t.tr J;have a6:=j.aS Z.out;have q:bG 143 0 o x (.pointer sp):=bG.below H (M.tr J);clear U c4 H;go_wp2_with fail;generalize hW:(o.alloc _).alloc _=W at*;obtain⟨m,Yv,RJ,hsW⟩:W.heap[o.heap.size+1]?=some (.cells #[.string name,.pointer sp,Iv 0,Iv 1,Pt o.heap.size] 183 (0,0))/\Bl w W/\W.heap[o.heap.size]?=some (.cells #[.slice none 0 0] 177 (0,0))/\bG 143 0 W x (.pointer sp):=by
  subst hW;exact⟨aP _ _ _ aE,(j.al _).al _,(ib _ _ _ aE).trans (aP _ _ _ rfl),bG.below q (((cC _ o).al _).al _)⟩
 have a8:=Yv.aS Z.out;have aaB:w.heap.size<=o.heap.size:=j.size;clear a6 q hW;generalize O:o.heap.size+1=f at*;have ad:Hid (o.heap.size+1=f):=O;clear O;generalize o.heap.size=cW at*;have l:=(cC _ W).drew.al (.cells #[.string name,.pointer sp,Iv 0,Iv 1,Pt cW] 183 (0,0));obtain⟨S,hS⟩:∃S:World->Prop,S=λw'=>w'.cell? (Ad aW 4)=some (.slice pa n bS)/\w'.cell? (Ad f 0)=some (.string name)/\w'.cell? (Ad f 1)=some (.pointer sp)/\w'.cell? (Ad f 2)=some (Iv 0)/\w'.cell? (Ad f 3)=some (Iv 1)/\w'.cell? (Ad f 4)=some (Pt cW):=⟨_,rfl⟩;have Yp:=hid λw' (hb:Bl W w')=>show S w' by subst hS;exact⟨aD (hb.aS a8) rfl,aD (hb.aS m) rfl,aD (hb.aS m) rfl,aD (hb.aS m) rfl,aD (hb.aS m) rfl,aD (hb.aS m) rfl⟩
 have d:=Yp.out _ (Below.refl _ W).drew;refine cA.begin (S:=λ_=>True) (fin:=99) aM ?_;simp only[jn,hY,jl,Nat.reduceAdd,fC];refine cA.tk 0 trivial ?_
 try walk_nrm
 refine cA.weaken (S:=S) (fin:=11) _ _ _ _ ?_;subst hS;refine cA.tk 1 d ?_
 try walk_nrm
 refine cA.tk 2 d ?_
 try walk_nrm
 refine cA.tk 3 d ?_
 try walk_nrm
 refine cA.tk 4 d ?_
 try walk_nrm
 refine cA.tk 5 d ?_
 try walk_nrm
 refine cA.tk 7 d ?_
 try walk_nrm
 refine cA.tk 8 d ?_
 try walk_nrm
 refine cA.t 6 9 ?_ ?_
 .refine Md func100 (N.out W.drew Yv.drew) ?_;rintro e D ⟨r,rfl,a,c⟩;have c:Bl W D:=(cC _ W).drew.trans c;have a:D.ownsRow W.heap.size 183 5 r n fp:=a;refine⟨_,rfl,λ_=>Yp.out _ c,?_⟩
  try walk_nrm
  refine cA.o 9 (O8 ⟨λ_=>Yp.out _ (c.al _),?_⟩)
  try walk_nrm
  generalize hV:D.alloc _=L;have ZZ:Bl W L:=hV▸c.al _;have z:L.heap[D.heap.size]?=some (.cells (ix ⟨name,sp,some (Ad cW 0),0,1,false⟩).toArray 183 (0,0)):=hV▸aP _ _ _ rfl;have a1:L.ownsRow W.heap.size 183 5 r n fp:=hV▸eF a (λk hk=>ib _ _ _ (a.lt k hk).2);clear hV;have Y6:=y.out W.heap.size D.heap.size r ⟨name,sp,some (Ad cW 0),0,1,false⟩ _ a1 z (λg A e=>by have:=(a.lt g A).2;omega) ZZ.size;generalize D.heap.size=F at*;exact zad
 .refine O8 ⟨λ_=>Yp.out _ l,?_⟩
  try walk_nrm
  have X:(W.drew.alloc (.cells #[.string name,.pointer sp,Iv 0,Iv 1,Pt cW] 183)).heap[W.heap.size]?=some (.cells (ix ⟨name,sp,some (Ad cW 0),0,1,false⟩).toArray 183 (0,0)):=aP W.drew _ _ rfl;refine cA.o 6 (Md func100 (N.out _ (Yv.trans (l.mono Yv.size))) ?_);rintro e L ⟨r,rfl,a,c⟩;have ag:=aL X;have ZZ:Bl W L:=l.trans (c.mono l.size);have z:=c.aS X;refine⟨_,rfl,λ_=>Yp.out _ ZZ,?_⟩
  try walk_nrm
  have Y6:=y.out _ W.heap.size r ⟨name,sp,some (Ad cW 0),0,1,false⟩ _ a z (λg A e=>by have:=(a.lt g A).1;omega) c.size;have aa:=l.size;exact zad
theorem lC{f:Type}{l:aB f}{a b i j}(hi:i<=l.length)(h:(l.take i++a::l.drop i)[j]?=some b):(j=i/\b=a)\/(j≠i/\l[if j<i then j else j-1]?=some b):=by
 let e:(l.take i).length=i:=bI;by_cases c:j<i
 .rw[tZ aA,Bm,bY c]at h;exact .inr ⟨aA,by rw[bY c];exact h⟩
 .rw[sr aA,e]at h;by_cases d:j=i
  .subst d;rw[E9]at h;simp at h;exact .inl ⟨rfl,h.symm⟩
  .obtain⟨k,g⟩:∃k,j-i=k+1:=⟨j-i-1,aA⟩;rw[g,LY,uw]at h;refine .inr ⟨d,?_⟩;rw[bN c,show j-1=i+k by omega];exact h
theorem Q4{w W:aC}{ps:aB mW}{xs:aB (BT c_)}(h:eX w ps xs)(l:Bl w W){i:Nat}(hi:i<=ps.length){q:mW}{x:BT c_}(b:bG 143 0 W x (.pointer q.eE))(c:fZ x/\cF (aN x)<=1000000/\bC x<=12):eX W (ps.take i++q::ps.drop i) (xs.take i++x::xs.drop i):=by
 let n:=h.len;refine⟨bI,λj p y m a=>?_,λy a=>?_⟩
 .obtain⟨rfl,rfl⟩|⟨k,f⟩:=lC hi m
  .obtain⟨_,rfl⟩|⟨g,_⟩:=lC aA a
   .exact b
   .exact absurd rfl g
  .obtain⟨e,_⟩|⟨_,d⟩:=lC aA a
   .exact absurd e k
   .exact(h.down l).each _ p y f d
 .obtain a|a:=i_.1 a
  .exact h.fine y (F_ a)
  .obtain rfl|a:=gp.1 a
   .exact c
   .exact h.fine y (sx a)
theorem PN{w ss}(h:Apart ss)(m:∀s∈ss,f_ w s){i cW}(hi:i<=ss.length)(q:w.heap.size<=cW):Apart (ss.take i++⟨cW,.slice none 0 0,0,[]⟩::ss.drop i):=by
 let c:∀s∈ss,s.cW<w.heap.size:=λs p=>aL (m s p).1;intro a b s t k j l;obtain⟨r,rfl⟩|⟨u,f⟩:=lC hi k
 .obtain⟨n,_⟩|⟨o,d⟩:=lC hi j
  .omega
  .have:=c t (iA d);exact⟨by show cW≠t.cW;omega,λg e=>by cases e⟩
 .obtain⟨n,rfl⟩|⟨o,d⟩:=lC hi j
  .have:=c s (iA f);exact⟨by show s.cW≠cW;omega,λg _ e=>by cases e⟩
  .refine h _ _ s t f d ?_;split<;>split<;>omega
def fresh(name:aZ)(sp:aQ a_)(cW:Nat):mW:=⟨name,sp,some (Ad cW 0),0,1,false⟩
theorem OE(name s x){aW a room no bZ K ea bO C E pa bS ps ss xs w}(h:dJ w aW a room no bZ K ea bO C E pa bS ps ss)(y:eV ps)(O:eX w ps xs)(U:ps.length<8)(M:oh name)(D:name.size<=1000)(X:s.size<=maxLen)(R:dW w)(r:14<=w.heap.size)(G:cV s=(some x,0))(Q:cF (aN x)<=1000000)(N:bD x<=a)(i)(hi:dV name ps=i)(z:eW name ps=false):
  Calls prog 91 #[Pt aW,.string name,.string s] w λe o=>∃v,e=.returned (.tuple #[Iv (i),v])/\(((jw (iU (xs.take i++x::xs.drop i)) (ps.length+1)).length<=40/\v=.nilIface/\∃sp cW,w.heap.size<=cW/\After aW a room ea bO C E (xs.take i++x::xs.drop i) (ps.take i++fresh name sp cW::ps.drop i) (ss.take i++⟨cW,.slice none 0 0,0,[]⟩::ss.drop i) w o)\/(40<(jw (iU (xs.take i++x::xs.drop i)) (ps.length+1)).length/\H8 v w o)):=by
 let⟨OX,hz,Y4,_⟩:=dH G;let f:i<=ps.length:=hi▸pj name ps;refine Sa name s x h y U M D X R r G N i hi z _ λsp cW g F u V p k c H n W A B=>?_;let n:eI u 0 (ps.take i++fresh name sp cW::ps.drop i):=n;let Jy:eX V (ps.take i++fresh name sp cW::ps.drop i) (xs.take i++x::xs.drop i):=Q4 O p f B ⟨⟨OX,hz⟩,Q,Y4⟩;let m:(ps.take i++fresh name sp cW::ps.drop i).length=ps.length+1:=bI;rcases Bn 40 (jw (iU (xs.take i++x::xs.drop i)) (ps.length+1)).length with l|l
 .have:=Ed h p H k n aA (by omega:_<=F) Jy (m▸l);rw[m]at this;apply this.mono;rintro e o ⟨v,rfl,T⟩;exact⟨v,rfl,.inr ⟨l,T⟩⟩
 .let a1:=h.mS;have:=tR (ss:=ss.take i++⟨cW,.slice none 0 0,0,[]⟩::ss.drop i) h p H k n aA (by omega:_<=F) Jy (m▸l) bI (λj t q b I=>by
   obtain⟨rfl,rfl⟩|⟨Z,L⟩:=lC aA b
   .obtain⟨_,rfl⟩|⟨S,_⟩:=lC f I
    .rfl
    .exact absurd rfl S
   .obtain⟨e,_⟩|⟨_,J⟩:=lC f I
    .exact absurd e Z
    .exact h.zp _ t q L J) (λt b=>by
   let d:∀t∈ss,f_ V t:=λt b=>f_.move (h.EI t b) (aI.aR (P:=λ_=>False) p) (dP.none _ _);rcases i_.1 b with b|b
   .exact d t (F_ b)
   .rcases gp.1 b with rfl|b
    .exact⟨A,fF _ _ _ _⟩
    .exact d t (sx b)) (PN h.apart h.EI aA c)
  rw[m]at this;refine this.m λo Y=>?_;exact⟨_,rfl,.inl ⟨l,rfl,sp,cW,c,Y⟩⟩
theorem PG(name s:aZ)(x:BT c_){aW:Nat}{b room:Int}{no:aQ a_}{bZ:Nat}{K:aB Key}{ea:aQ a_}{bO:Nat}{C:aB iZ}{E:aB Pe}{pa:aQ a_}{bS:Nat}{ps:aB mW}{ss:aB ld}{w:aC}(h:dJ w aW b room no bZ K ea bO C E pa bS ps ss)(j:eV ps)(r:oh name)(A:s.size<=maxLen)(v:dW w)(i:14<=w.heap.size)(u:cV s=(some x,0))(t:bD x<=b)(l:eW name ps=true){a:a_}(B:ik w 2 EK a):
  Calls prog 91 #[Pt aW,.string name,.string s] w λe g=>∃k T q o,e=.returned (.tuple #[Iv k,.iface T q])/\Ju g (.iface T q) 357 o/\o=a/\Bl w g:=by
 have y:=h.vL;have D:Hid (∀W,Bl w W->Calls prog 97 #[Pt aW,.string name] W λe g=>e=.returned (.tuple #[Iv (dV name ps:Nat),.bool true])/\Bl W g):=λW n=>by
  have:=mJ aW (Iv b) (Iv room) _ _ pa bS ps name W (n.aS h.cell) (ij.move h.aU (aI.aR (P:=λ_=>False) n) (dP.none _ _)) j aA;rw[l]at this;exact this
 generalize dV name ps=F at*;go_enter func91,ntmps91;go_wp2_with fail;apply(qe aW b (Iv room) _ _ _ name s x w h.cell r A v i u t).mono;rintro e p ⟨sp,rfl,z,f⟩;go_wp2_with fail;refine(D.out p f).m λG m=>?_;have d:=f.tr m;have c:=(B.down d).cell;go_wp2
 go_region
 all_goals go_wp2_with fail
 all_goals go_ret2
 all_goals exact⟨_,_,_,_,rfl,nX (by simp[leaves]),rfl,d.drew⟩
theorem Mn(name s:aZ)(x:BT c_){aW:Nat}{b room:Int}{no:aQ a_}{bZ:Nat}{K:aB Key}{ea:aQ a_}{bO:Nat}{C:aB iZ}{E:aB Pe}{pa:aQ a_}{bS:Nat}{ps:aB mW}{ss:aB ld}{w:aC}(h:dJ w aW b room no bZ K ea bO C E pa bS ps ss)(j:eV ps)(r:oh name)(A:s.size<=maxLen)(v:dW w)(i:14<=w.heap.size)(u:cV s=(some x,0))(t:bD x<=b)(l:eW name ps=false){a:a_}(B:ik w 3 B8 a):
  Calls prog 96 #[Pt aW,.string name,.string s] w λe g=>∃k T q o,e=.returned (.tuple #[Iv k,.iface T q])/\Ju g (.iface T q) 357 o/\o=a/\Bl w g:=by
 have y:=h.vL;have D:Hid (∀W,Bl w W->Calls prog 97 #[Pt aW,.string name] W λe g=>e=.returned (.tuple #[Iv (dV name ps:Nat),.bool false])/\Bl W g):=λW n=>by
  have:=mJ aW (Iv b) (Iv room) _ _ pa bS ps name W (n.aS h.cell) (ij.move h.aU (aI.aR (P:=λ_=>False) n) (dP.none _ _)) j aA;rw[l]at this;exact this
 generalize dV name ps=F at*;go_enter func96,ntmps96;go_wp2_with fail;apply(qe aW b (Iv room) _ _ _ name s x w h.cell r A v i u t).mono;rintro e p ⟨sp,rfl,z,f⟩;go_wp2_with fail;refine(D.out p f).m λG m=>?_;have d:=f.tr m;have c:=(B.down d).cell;go_wp2
 go_region
 all_goals go_wp2_with fail
 all_goals go_ret2
 all_goals exact⟨_,_,_,_,rfl,nX (by simp[leaves]),rfl,d.drew⟩
theorem Wt{xs:aB (BT c_)}{x i}(hi:i<=xs.length):iU (xs.take i++x::xs.drop i) i=x:=by
 let a:(xs.take i).length=i:=bI;unfold iU;rw[qp,sr aA,a,E9];rfl
theorem Wu{xs:aB (BT c_)}{x i}(hi:i<xs.length):iU (xs.set i x) i=x:=by
 unfold iU;rw[qp,rh hi];rfl
theorem KF{c:Type}{l:aB c}{a i}(hi:i<=l.length):(l.take i++a::l.drop i)[i]?=some a:=by
 let b:(l.take i).length=i:=bI;rw[sr aA,b,E9];rfl
theorem Qy(mb name s x){aW a room no bZ K ea bO C E pa bS ps ss xs w}(B:w.heap[mb]?=some (.cells #[Pt aW] 104 (0,0)))(h:dJ w aW a room no bZ K ea bO C E pa bS ps ss)(f:eV ps)(k:eX w ps xs)(o:oh name)(D:s.size<=maxLen)(u:dW w)(d:14<=w.heap.size)(q:cV s=(some x,0))(r:cF (aN x)<=1000000)(p:0<=bD x/\bD x<=a)(y:∀c∈C,0<=c.time/\c.time<=1000000000000)(z:ps.length<8)(j:name.size<=1000)(i)(hi:dV name ps=i)(g:eW name ps=false)(G:(jw (iU (xs.take i++x::xs.drop i)) (ps.length+1)).length<=40):
  Calls prog 27 #[Pt mb,.string name,.string s] w λe m=>∃v,e=.returned (.tuple #[v,Iv 0])/\∃sp cW,w.heap.size<=cW/\H5 aW a room ea bO C E (xs.take i++x::xs.drop i) (ps.take i++fresh name sp cW::ps.drop i) (ss.take i++⟨cW,.slice none 0 0,0,[]⟩::ss.drop i) i 1 w m v:=by
 let b:i<=ps.length:=by rw[<-hi];exact pj name ps
 let l:=h.ret;refine KV mb name s B (R9 name s i ((OE name s x h f k z o j D u d q r p.2 i hi g).mono ?_));rintro e m ⟨v,rfl,⟨_,rfl,sp,cW,t,n⟩|⟨F,_⟩⟩
 .refine⟨rfl,(Dp n i (fresh name sp cW) (KF b) (by rw[Wt (by rw[k.len];exact b)];omega) y).mono ?_⟩;rintro e H ⟨v,rfl,A⟩;exact⟨v,rfl,sp,cW,t,A⟩
 .omega
theorem KU(mb name s x){aW a room no bZ K ea bO C E pa bS ps ss xs w}(B:w.heap[mb]?=some (.cells #[Pt aW] 104 (0,0)))(h:dJ w aW a room no bZ K ea bO C E pa bS ps ss)(g:eV ps)(k:eX w ps xs)(q:oh name)(D:s.size<=maxLen)(y:dW w)(f:14<=w.heap.size)(t:cV s=(some x,0))(u:cF (aN x)<=1000000)(r:0<=bD x/\bD x<=a)(z:∀c∈C,0<=c.time/\c.time<=1000000000000)(b:∀p∈ps,0<=p.cO/\p.cO<=1000000)(i)(hi:dV name ps=i)(p)(n:ps[i]?=some p)(j:eW name ps=true)(G:(jw (iU (xs.set i x)) ps.length).length<=40):
  Calls prog 31 #[Pt mb,.string name,.string s] w λe m=>∃v,e=.returned (.tuple #[v,Iv 0])/\∃sp,H5 aW a room ea bO C E (xs.set i x) (ps.set i (sK sp p)) ss i (p.cO+1) w m v:=by
 let d:=(e_.1 n).1;let l:=h.ret;refine FX mb name s B (Mm name s i ((Gd name s x h g k b q D y f t u r.2 i hi p n j).mono ?_));rintro e m ⟨v,rfl,⟨_,rfl,sp,o⟩|⟨F,_⟩⟩
 .refine⟨rfl,(Dp o i (sK sp p) (rh d) (by rw[Wu (by rw[k.len];exact d)];omega) z).mono ?_⟩;rintro e H ⟨v,rfl,A⟩;exact⟨v,rfl,sp,A⟩
 .omega
theorem KL(K:aB Key)(E:aB Pe):∀j,j<=E.length->(kU K E j).map Pe.m_=(E.take j).map Pe.m_
 |0,_=>by simp[kU]
 |j+1,h=>by
  let⟨_,w2,w3,_⟩:=iT (kU K E j).reverse K (E.getD j RL).bare
  let a:E[j]?=some E[j]:=fG aA
  rw[kU,l8,KL K E j aA,ym,a,l8]
  congr 1
  simp only[gW,sD,Option.toList_some,E7,oD]
  let b:E.getD j RL=E[j]:=by rw[qp,a];rfl
  unfold Pe.m_
  rw[w2,w3,b]
  rfl
theorem O1(K:aB Key)(E:aB Pe)(a:aB nz):∀j,kS K a (kU K E j).reverse
 |0=>trivial
 |j+1=>by
  rw[kU,Bi]
  exact E2 (O1 K E a j) _
theorem kS.old{K:aB Key}{a:aB nz}:∀{b old:aB Pe},kS K a (b++old)->kS K a old
 |[],_,h=>h
 |_::_,_,⟨_,_,h⟩=>h.old
def jI(ps:aB mW):aB aZ:=ps.map (·.name)
theorem Rq{aW b room no bZ K ea bO C E pa bS ps ss w}(h:dJ w aW b room no bZ K ea bO C E pa bS ps ss):
  Calls prog 53 #[Pt aW] w λe t=>∃v,e=.returned v/\t.ownsRow w.heap.size 9 1 v ps.length (qK (jI ps))/\Bl w t:=by
 have I:=h.vL;have c4:=aD (i:=4) h.cell rfl;have⟨i0,hi,nk,nt,nH⟩:=eB nT;have B:Hid (∀W (j:Nat) p,Bl w W->ps[j]?=some p->∃pb c,pa=some (Ad pb c)/\W.cell? (Ad pb (c+j*5))=some (.string p.name)/\W.cell? (Ad pb (c+j*5+1))=some (.pointer p.eE)/\W.cell? (Ad pb (c+j*5+2))=some (Iv p.node)/\W.cell? (Ad pb (c+j*5+3))=some (Iv p.cO)/\W.cell? (Ad pb (c+j*5+4))=some (.pointer p.fV)):=λW j p O f=>by
  obtain⟨_,e,_⟩|⟨pb,c,M,m,rfl,x,J⟩:=h.aU
  .subst e;simp at f
  have⟨a0,a1,a2,a3,a4⟩:=J j p f;have o:=O.aS x;exact⟨pb,c,rfl,aD o a0,aD o a1,aD o a2,aD o a3,aD o a4⟩
 have F:Hid (∀j,j<ps.length->∃p,ps[j]?=some p/\jI (ps.take (j+1))=jI (ps.take j)++[p.name]):=λj f=>⟨ps[j],fG f,by unfold jI;rw[ym,fG f,l8];rfl⟩;have z:Hid (∀j,j<=ps.length->(jI (ps.take j)).length=j):=λj f=>by simp[jI];omega
 have G:Hid (jI (ps.take ps.length)=jI ps):=by show _=_;rw[L0]
 generalize y:jI ps=full at*;generalize q:ps.length=n at*;have T:=hid q;go_enter func53,ntmps53;go_wp2;go_loopw [3,11] (λv r wr=>∃j:Nat,r=Iv j/\j<=n/\wr.ownsRow w.heap.size 9 1 v j (qK (jI (ps.take j)))/\Bl w wr) (λ_ r _=>n-(intOf r).toNat)
 case atStart=>exact⟨0,rfl,cD,fF _ _ _ _,aT⟩
 case round=>
  obtain⟨j,rfl,L,a,d⟩:=hrel;by_cases f:j<n
  .have⟨p,hp,RJ⟩:=F.out j f;obtain⟨pb,c,rfl,Q,R,V,P,U⟩:=B.out wr j p d hp;have N:Hid ((qK (jI (ps.take j))).length=j):=by show _=_;rw[Rg];exact z.out j aA
   have H:=d.size;have s:=hid d;generalize jI (ps.take j)=A at*;go_wp2_with (at_builtin;refine js _ rfl _ _ 31 rfl w.heap.size 9 i0 _ 1 16 underlying31 hi nk nt nH rfl aG _ _ _ rfl ((a.alloc _).alloc _) (Ad (wr.heap.size+1) 0) 1 1 [.string p.name] rfl rfl ?c1 ?c2 ?c3 ?c4 ?c5 ?_)
   case c1=>
    intro k u D;have:=cell_one_new (wr.alloc (.cells #[.string p.name,.pointer p.eE,Iv p.node,Iv p.cO,.pointer p.fV] 183)) (.string p.name) 9 k u D;simpa using this
   case c2=>simp[Value.oneCell']
   case c3=>unfold maxLen;omega
   case c4=>omega
   case c5=>simp;omega
   intro S X g l _;go_wp2
   try go_big_round
   exact⟨⟨j+1,dU,aA,by rw[RJ];simpa[qK]using g,((s.out.al _).al _).grown l (gC s.out.size bI) λk e=>(a.lt k e).1⟩,zm⟩
  .obtain rfl:j=n:=by omega
   rw[show jI (ps.take j)=full from G.out]at a;go_wp2;go_ret;exact⟨_,rfl,a,d⟩
theorem VV(mb){aW a room no bZ K ea bO C E pa bS ps ss w}(d:w.heap[mb]?=some (.cells #[Pt aW] 104 (0,0)))(h:dJ w aW a room no bZ K ea bO C E pa bS ps ss):
  Calls prog 33 #[Pt mb] w λe b=>∃v,e=.returned v/\b.ownsRow w.heap.size 9 1 v ps.length (qK (jI ps))/\Bl w b:=by
 let i:w.cell? (Ad mb 0)=some (Pt aW):=aD d rfl;go_enter func33,ntmps33;go_wp2_with fail;apply(Rq h).mono;rintro e g ⟨v,rfl,f,c⟩;go_wp2;go_ret;exact⟨v,rfl,f,c⟩
theorem erase_filter{l:aB Ag}(b:(l.map (·.name)).Nodup):∀{k:Nat}{p},l[k]?=some p->l.take k++l.drop (k+1)=l.filter λq=>decide (q.name≠p.name):=by
 induction l with
 |nil=>intro k p h;simp at h
 |cons a l d=>
  intro k p h;rw[gW,HU]at b;cases k with
  |zero=>
   simp at h;subst h;rw[List.filter_cons_of_neg aE,List.take_zero,jW];refine(List.filter_eq_self.2 λq c=>?_).symm;simp only[oX];exact λe=>b.1 (iX.2 ⟨q,c,e⟩)
  |succ k=>
   let h':l[k]?=some p:=by simpa using h
   rw[List.filter_cons_of_pos,List.take_succ_cons,Pu,mz,d b.2 h'];simp only[oX];exact λe=>b.1 (iX.2 ⟨p,iA h',e.symm⟩)
theorem J8(L k)(h:k<=L.length):(uy L).take (k*4)=uy (L.take k):=by
 conv=>lhs;rw[<-yg k L]
 unfold uy;rw[l8,L3,List.take_left'];rw[eN Jx 4 λ_=>rfl,kR];omega
theorem Ss(L k)(h:k<=L.length):(uy L).drop (k*4)=uy (L.drop k):=by
 conv=>lhs;rw[<-yg k L]
 unfold uy;rw[l8,L3,List.drop_left'];rw[eN Jx 4 λ_=>rfl,kR];omega
theorem xo{b:Type}{l:aB b}{k a}(h:a∈l.take k++l.drop (k+1)):a∈l:=by
 obtain h|h:=i_.1 h
 .exact F_ h
 .exact sx h
theorem Tg:(prog.info? 86).map (λi=>(i.zero,i.size,i.bytes))=some (some (.agg #[.string ⟨#[]⟩,.pointer none,Iv 0,.slice none 0 0]),4,56):=aM
section
variable{O:Nat->Prop}{S:fX}{n yb:Nat}{ev pv:aF}{C:aB CE}{L:aB CP}{w:aC}
theorem Vf(h:eT O S yb ev pv C L w):∀u∈uy L,u.oneCell'=true:=by
 intro u a;simp only[uy,HI,iX]at a;obtain⟨_,⟨c,b,rfl⟩,a⟩:=a;let⟨q,hq⟩:=tN (h.eE c b);let⟨o,cap,ho,_⟩:=bT (h.fV c b);simp only[Jx,hq,ho,gp,iW,oF]at a;obtain rfl|rfl|rfl|rfl:=a<;>rfl
theorem eT.store(h:eT O S yb ev pv C L w){k:aC}(z:aI (λb=>pv.ownBlock=some b) w k){S':fX}(G:S'.ret=S.ret/\S'.room=S.room/\S'.bH=S.bH/\S'.off=S.off){UU:aF}{L':aB CP}(hL:L'.map (·.1)=S'.aU)
  (A:k.ownsRow 0 86 4 UU L'.length (uy L')) (x:∀g,UU.ownBlock=some g->pv.ownBlock=some g\/w.heap.size<=g)
  (E:∀l∈L',(∃B∈L,l.2.2=B.2.2/\l.1.str=B.1.str)\/(l.2.2=.slice none 0 0/\l.1.str=[])) (u:∀l∈L',bX 0 k l.1.x l.2.1)
  (D:L'.Pairwise λa b=>∀g,a.2.2.ownBlock=some g->b.2.2.ownBlock≠some g):
  uC (λb=>O b\/w.heap.size<=b) S' yb (k.setCell (Ad yb 4) UU)/\aI O w (k.setCell (Ad yb 4) UU):=by
 let xf:=fH k (Ad yb 4) UU;let r:∀{t n m b},w.heap[b]?=some (.cells n t m)->t≠86->pv.ownBlock≠some b:=λc v e=>by
  obtain⟨I,p⟩:=cE h.aU e;rw[c]at p;cases p;exact v rfl
 let j:=z.get h.cell (r h.cell aG);let d:∀{y:aC},y.heap[yb]?=some (.cells #[Iv S.ret,Iv S.room,ev,Iv ((S.off:Int)+1),pv] 79 (0,0))->∀{t n m b},y.heap[b]?=some (.cells n t m)->t≠79->b≠yb:=λF _ _ _ _ c v e=>by
  subst e;rw[F]at c;cases c;exact v rfl
 let o:aI (λb=>b=yb\/pv.ownBlock=some b) w (k.setCell (Ad yb 4) UU):=(z.mono λ_ _ e=>.inr e).trans (xf.mono λ_ _ e=>.inl e);refine⟨⟨ev,UU,C,L',h.change o (λb H=>.inl H) ?_ (by simp[World.setCell,ua,j]) G hL (cG A xf λg q=>?_) (λg q=>(x g q).imp (h.own.2.2.1 g) id) (λl s=>?_) (λl s=>fQ xf ?_ (u l s)) D⟩,o.mono λb _ e=>?_⟩
 .intro b n t m c i e;simp only[gp,iW,oF]at i;obtain e|e:=e
  .obtain f|f|f|f:=i<;>exact d h.cell c (by rw[f];decide) e
  .obtain f|f|f|f:=i<;>exact r c (by rw[f];decide) e
 .let⟨n,c⟩:=cE A q;exact d j c aG
 .obtain c|⟨c,i⟩:=E l s
  .exact .inl c
  .rw[c,i];exact .inr ⟨fF _ _ _ _,λg q=>by cases q⟩
 .intro b n t m c i e;simp only[gp,iW,oF]at i;exact d j c (by rw[i];decide) e
 .obtain e|e:=e
  .rw[e];exact h.own.1
  .exact h.own.2.2.1 b e
theorem Lr(h:eT O S yb ev pv C L w)(N:S.OK n)(name):
  Calls prog 68 #[Pt yb,.string name] w λe U=>e=.returned (Iv (iM S name).1)/\uC (λb=>O b\/w.heap.size<=b) (iM S name).2 yb U/\aI O w U:=by
 have B:=zv h N name;obtain⟨z,F⟩|⟨k,p,z,F,h3,h4⟩:=vY name S.aU 0
 .have P:iM S name=(6,S):=by
   unfold iM;rw[bN];rw[oT];rintro⟨p,hp,e⟩;exact get_none.1 z p hp e
  rw[F]at B;rw[P];go_enter func68,ntmps68;go_wp2_with fail;apply B.mono;rintro e G ⟨rfl,rfl⟩;go_wp2;go_ret;exact⟨rfl,⟨_,_,_,_,h.mono λb s=>.inl s⟩,aI.refl _ _⟩
 .have P:iM S name=(0,{S with aU:=S.aU.filter λp=>decide (p.name≠name)}):=by
   unfold iM;rw[bY];exact oT.2 ⟨p,iA z,F⟩
  rw[P];rw[h4,fC]at B;have⟨i0,WV,nk,nt,nH⟩:=eB Tg;have r:=Vf h;have x:=h.mS;have hf:=N.few;have a7:k<L.length:=by rw[x];exact(e_.1 z).1
  obtain⟨o,cap,rfl,X,_,v⟩:=bT h.aU;obtain⟨g,rfl,Y,_,v⟩:=v aA;have T:Hid (∀W,Bl w W->∀i u,(uy L)[i]?=some u->W.cell? (Ad g i)=some u):=λW s i u d=>eR s (v i u d);have Q:Hid (∀W,Bl w W->W.cell? (Ad yb 4)=some (Sl g L.length cap)/\W.frozen? (Ad yb 4)=false):=λW s=>⟨aD (h.below s).cell rfl,cJ (h.below s).cell _⟩;have D:=Cr (base:=w.heap.size) (e:=86) (size:=4) w #[] 0 aX eP rfl;have E:Bl w (w.alloc (.cells #[] 86)):=aT.al _;have hA':=hid B;have⟨y1,_⟩:=Q.out w aT;have a6:=aL h.cell;clear B;go_enter func68,ntmps68;go_wp2_with fail;apply kq hA'.out;rintro e G ⟨rfl,rfl⟩;go_wp2_with (at_builtin;refine js _ rfl _ _ 77 rfl G.heap.size 86 i0 _ 4 56 underlying77 WV nk nt nH rfl aG _ _ _ rfl D (Ad g 0) k cap ((uy L).take (k*4)) rfl ?q1 ?q2 (λu d=>r u (F_ d)) eP aA aE ?_)
  case q1=>rw[J8 _ _ aA,uy,eN Jx 4 λ_=>rfl,kR];omega
  case q2=>
   intro j u K;rw[oN,fC];rw[Bm]at K;split at K
   .exact T.out _ E j u K
   .cases K
  intro v4 M c m _;have I:Bl G M:=E.grown m aE (λk e=>by cases e;exact aX);obtain⟨y2,f2⟩:=Q.out M I;have y:=I.size;obtain⟨J,a1,f⟩:∃J,(if cap=k+1 then some ((Ad g 0):a_)else some (Ad g ((k+1)*4)))=some (Ad g J)/\∀i u,((uy L).drop ((k+1)*4))[i]?=some u->M.cell? (((Ad g J):a_).add i)=some u:=by
   have H:(uy L).length=L.length*4:=eN Jx 4 (λ_=>rfl) L;by_cases e:cap=k+1
   .refine⟨0,by rw[bY e],λi u d=>?_⟩;rw[t_ aA]at d;simp at d
   .refine⟨(k+1)*4,by rw[bN e],λi u d=>?_⟩;rw[oN];rw[uw]at d;exact T.out M I _ u d
  have t:((uy L).drop ((k+1)*4)).length=(L.length-(k+1))*4:=by rw[nQ,uy,eN Jx 4 λ_=>rfl];omega
  replace f:Hid _:=f;replace t:Hid _:=t;go_wp2_with (at_builtin;refine js _ rfl _ _ 77 rfl G.heap.size 86 i0 _ 4 56 underlying77 WV nk nt nH rfl aG _ _ _ rfl c (Ad g J) (L.length-(k+1)) (cap-(k+1)) ((uy L).drop ((k+1)*4)) ?q3 t.out f.out (λu d=>r u (sx d)) eP aA y ?_)
  case q3=>rw[x];rfl
  intro Z w5 a q _;have R:=I.grown q y λk e=>(c.lt k e).1;have⟨y3,f3⟩:=Q.out w5 R;have A:Hid _:=h.store (aI.aR R) (S':={S with aU:=S.aU.filter λp=>decide (p.name≠name)}) ⟨rfl,rfl,rfl,rfl⟩ (UU:=Z) (L':=L.take k++L.drop (k+1)) (by rw[l8,List.map_take,List.map_drop,h.hL,<-F];exact erase_filter N.nodup z) (by
    have e1:(L.take k++L.drop (k+1)).length=k+(L.length-(k+1)):=bI;have e2:uy (L.take k++L.drop (k+1))=(uy L).take (k*4)++(uy L).drop ((k+1)*4):=by rw[J8 _ _ aA,Ss _ _ aA];simp[uy]
    rw[e1,e2,x];exact gT a cD) (λb s=>.inr (a.lt b s).1) (λl H=>.inl ⟨l,xo H,rfl,rfl⟩) (λl H=>bX.below (h.eE l (xo H)) R) (h.apart.sublist (by rw[<-List.eraseIdx_eq_take_drop_succ];exact List.eraseIdx_sublist _ _))
  obtain⟨o5,V,rfl,_⟩:=bT (gT a cD);go_wp2;go_ret;exact⟨rfl,A.out⟩
end
def JS(ret room:Int):Bool:=decide (0<=ret/\ret<=100000/\1<=room/\room<=60)
theorem Ey(ret room w):
  Calls prog 104 #[Iv ret,Iv room] w λe g=>Bl w g/\((JS ret room=false/\e=.returned (.pointer none))\/(JS ret room=true/\e=.returned (Pt w.heap.size)/\uC (λb=>w.heap.size<=b) (kF ret room) w.heap.size g)):=by
 by_cases h:0<=ret/\ret<=100000/\1<=room/\room<=60
 .have a:=kh h;have⟨f,c,d,i⟩:=h;have h1':¬ret<0:=aA;have ZV:¬100000<ret:=aA;have XH:¬room<1:=aA;have h4':¬60<room:=aA;replace a:Hid _:=a;go_enter func104,ntmps104;go_wp2;go_ret;refine⟨aT.al _,.inr ⟨a.out,rfl,.slice none 0 0,.slice none 0 0,[],[],?_⟩⟩;refine⟨?_,rfl,rfl,fF _ _ _ _,fF _ _ _ _,aE,aE,aE,List.Pairwise.nil,aX,by simp[Value.ownBlock],by simp[Value.ownBlock],aE⟩;exact aP _ _ _ rfl
 .have a:=kg h;replace a:Hid _:=a;obtain f|f:=Int.lt_or_le ret 0
  .clear h;go_enter func104,ntmps104;go_wp2;go_ret;exact⟨aT,.inl ⟨a.out,rfl⟩⟩
  have h1':¬ret<0:=aA;obtain c|c:=Int.lt_or_le 100000 ret
  .clear h;go_enter func104,ntmps104;go_wp2;go_ret;exact⟨aT,.inl ⟨a.out,rfl⟩⟩
  have ZV:¬100000<ret:=aA;obtain d|d:=Int.lt_or_le room 1
  .clear h;go_enter func104,ntmps104;go_wp2;go_ret;exact⟨aT,.inl ⟨a.out,rfl⟩⟩
  have XH:¬room<1:=aA;have i:60<room:=aA;go_enter func104,ntmps104;go_wp2;go_ret;exact⟨aT,.inl ⟨a.out,rfl⟩⟩
def Cw(ops:aY Oper)(i d:Nat)(op:Op):Prop:=∃o,ops[i]?=some o/\o.dst=some d/\o.op=op/\o.guard=none
section
variable{P:Program}{K:bU->aC->Prop}{b:Frame}{k:aB Item}{cs:aB Frame}{A:Act}{w:aC}{ops:aY Oper}{i d:Nat}{rest:aB Nat}{v:aF}
theorem QN(A:Act)(d v)(a:d<A.tmps.size):(A.put (some d) v).tmps.size=A.tmps.size/\(A.put (some d) v).defers=A.defers/\(A.put (some d) v).tmps[d]?=some v/\∀j,j≠d->(A.put (some d) v).tmps[j]?=A.tmps[j]?:=by
 refine⟨by simp[Act.put],rfl,by simp[Act.put,a],λj b=>?_⟩;simp only[Act.put,Array.getElem?_setIfInBounds];rw[bN λe=>b e.symm]
theorem SD{j:Nat}(h:A.tmps[j]?=some v):A.eval (.tmp j)=v:=by
 show A.tmps.getD j undef=v;rw[Ma,h];rfl
theorem KG{o y}(h:o.guard=none):Region.wanted o y=true:=by
 unfold Region.wanted;rw[h]
theorem aJ.isVal(g:Plain P){op}(h:Cw ops i d op)(c:∀o,o.op=op->∀w,(execOp A.eval o).run P w=.ok (.value v) w)(hi:∀a∈k,cX a)(f:∀e∈cs,bK e)
  (j:aJ P K (G (b.at (A.put (some d) v) (.inRegion ops rest::k)) cs) w):aJ P K (G (b.at A (.inRegion ops (i::rest)::k)) cs) w:=by
 let⟨o,h1,h2,h3,h4⟩:=h;apply aJ.val g (w':=w) (v:=v) h1 (KG h4) (λl d=>c o h3 _) hi f;rw[h2];exact j
theorem aJ.asg(j:Plain P){x}(h:Cw ops i d (.assign x))(a:A.eval x=v)(hi:∀c∈k,cX c)(g:∀f∈cs,bK f)
  (l:aJ P K (G (b.at (A.put (some d) v) (.inRegion ops rest::k)) cs) w):aJ P K (G (b.at A (.inRegion ops (i::rest)::k)) cs) w:=
 aJ.isVal j h (λo e w=>by unfold execOp;rw[e,<-a];rfl) hi g l
end
section
variable{K:bU->aC->Prop}{b:Frame}{k:aB Item}{cs:aB Frame}{A:Act}{w:aC}{ops:aY Oper}{i d:Nat}{rest:aB Nat}{v:aF}
end
end Ev
namespace Ev
open Go.Deep (BT)
def oH:aZ:=⟨#[112]⟩
def BG:aZ:=⟨#[79,91,50,44,53,93,97]⟩
def Kw:aZ:=⟨#[89,91,48,44,57,93,97]⟩
def headA:aB aZ:=[⟨#[97]⟩]
def IG:fX:=kF 10 20
def xJ:fX:=(kK IG oH BG).2.2
def xK:fX:=jc xJ 0 headA
def AR:fX:=jc xK 3 []
def mP:fX:=jc AR 9 []
def II:fX:=(gb mP oH Kw).2.2
def vdT(v:Vd):Int×Int×Int×Bool:=(v.ev,v.time,v.cO,v.ok)
theorem SX:((kK IG oH BG).1.map vdT,(kK IG oH BG).2.1)=([],0):=aM
theorem SY:eJ xJ 0 headA=0:=aM
theorem SZ:eJ xK 3 []=0:=aM
theorem S0:eJ AR 9 []=0:=aM
theorem Ky:((gm mP oH).1.map vdT,(gm mP oH).2)=([(1,0,1,false),(2,3,1,true),(3,9,1,false)],0):=aM
theorem D1:((gb mP oH Kw).1.map vdT,(gb mP oH Kw).2.1,E1 II)=([(1,0,2,false),(2,3,2,true),(3,9,2,false)],0,2):=aM
end Ev
end Go.Proofs.YtpbbmagjhkakgaaGreatDoor
