import Derived.Test.YtpbbmagjhkakgaaGreatDoorD4
import Derived.Test.YtpbbmagjhkakgaaGreatDoorD5
import Derived.Test.YtpbbmagjhkakgaaGreatDoorD6
namespace Go.Proofs.YtpbbmagjhkakgaaGreatDoor
set_option maxHeartbeats 4000000
set_option maxRecDepth 100000
namespace Ev
open Tryz Go.RowKit Go.Deep Go.Maps Lf Go.Conc
def sY(sp:aR bC)(p:nk):nk:={p with eE:=sp,cP:=p.cP+1}
theorem Jy{b ps i p}(sp)(d:eI b 0 ps)(hi:ps[i]?=some p):eI ((b.setIfInBounds (i*5+1) (.pointer sp)).setIfInBounds (i*5+3) (Iv (p.cP+1))) 0 (ps.set i (sY sp p)):=by
 intro j q c;let⟨b0,b1,b2,b3,b4⟩:=d i p hi;simp only[fE]at b0 b1 b2 b3 b4⊢;let e:=(jR.1 b4).1;by_cases a:j=i
 .subst a;rw[rF ((eY.1 hi).1)]at c;cases c;refine⟨?_,?_,?_,?_,?_⟩
  .rw[qF aA,qF aA];exact b0
  .rw[qF aA,FI aA];rfl
  .rw[qF aA,qF aA];exact b2
  .rw[FI bI];rfl
  .rw[qF aA,qF aA];exact b4
 .rw[yA (lG a)]at c;let⟨a0,a1,a2,a3,a4⟩:=d j q c;simp only[fE]at a0 a1 a2 a3 a4;refine⟨?_,?_,?_,?_,?_⟩<;>rw[qF aA,qF aA]<;>assumption
theorem MZ(name s x){aY a room no bZ K ea bO C E pa bS ps ss w}(h:dJ w aY a room no bZ K ea bO C E pa bS ps ss)(F:eV ps)(o:∀p∈ps,0<=p.cP/\p.cP<=1000000)(Z:oC name)(hm:s.size<=maxLen)(hg:dP w)(R:14<=w.heap.size)(hr:cW s=(some x,0))(hR:bE x<=a)(i)(hi:dW name ps=i)(p)(O:ps[i]?=some p)(H:eW name ps=true)(Q:aE->aC->bQ)
  (l:∀sp (g f b) (W),Bl w W->w.heap.size<=g->W.heap[g]?=some (.cells b 183 (0,0))->eI b 0 (ps.set i (sY sp p))->ps.length<=f->bG 143 0 W x (.pointer sp)->Calls prog 98 #[Pt aY,Sl g ps.length f] W λe L=>∃v,e=.returned v/\Q v L):
  Calls prog 96 #[Pt aY,.string name,.string s] w λe L=>∃v,e=.returned (.tuple #[Iv (i),v])/\Q v L:=by
 have aa:=h.wm;have S:=qs aY a (Iv room) _ _ _ name s x w h.cell Z hm hg R hr hR;have hf:Hid (∀W,Bl w W->Calls prog 97 #[Pt aY,.string name] W λe L=>e=.returned (.tuple #[Iv (i:Int),.bool true])/\Bl W L):=λW y=>by
  have:=mT aY (Iv a) (Iv room) _ _ pa bS ps name W (y.aT h.cell) (iu.move h.aW (aH.aS (P:=λ_=>False) y) (dQ.none _ _)) F aA;rw[hi,H]at this;exact this
 have a7:i<ps.length:=(eY.1 O).1;have X:=hid λW (y:Bl w W)=>rh W pa bS ps (iu.move h.aW (aH.aS (P:=λ_=>False) y) (dQ.none _ _)) aA;have Hc:Hid (∀W,Bl w W->W.cell? (Ad aY 4)=some (.slice pa ps.length bS)):=λW y=>aD (y.aT h.cell) rfl;have hv:=o p (iF O);have q:=hid l;have D:Hid (∀(W:aC)(B g f:Nat),W.ownsRow B 183 5 (Sl g ps.length f) ps.length (gX ps)->∃b:aU aE,B<=g/\W.heap[g]?=some (.cells b 183 (0,0))/\ps.length<=f/\eI b 0 ps):=λW B g f c=>by
  obtain⟨b,q1,A,V,J,_⟩:=LZ c;exact⟨b,q1,A,V,J⟩
 have Hp:=hid O;generalize gX ps=fp at*;clear h F hi H o O l hg hr hR Z;generalize a8:ps.length=n at*;go_enter func96,ntmps96;go_wp2_with fail;apply S.mono;rintro e w1 ⟨sp,rfl,u,I⟩;have u:=hid u;go_wp2_with fail;refine(hf.out w1 I).m λw2 j=>?_;have d:=I.tr j;have c4:=Hc.out w2 d;go_wp2_with fail;apply(X.out w2 d).mono;rintro e r ⟨v',rfl,c,t⟩;have m:=d.tr t;obtain⟨r1,⟨_,r2⟩|⟨g,f,a6,rfl,r3,_⟩⟩:=id c
 .omega
 obtain⟨b,q1,A,V,J⟩:=D.out r _ g f c;obtain⟨b0,b1,b2,T,b4⟩:=J i p Hp.out;simp only[fE]at b0 b1 b2 T b4;have a1:=d.size;have d1:=aD A b1;have d3:=aD A T;have f1:r.frozen? (Ad g (i*5+1))=false:=cK A _;have M:=dS (i:=i*5+1) (v:=.pointer sp) A;have d3':(r.setCell (Ad g (i*5+1)) (.pointer sp)).cell? (Ad g (i*5+3))=some (Iv p.cP):=aD M (by rw[qF aA];exact T);have f3:(r.setCell (Ad g (i*5+1)) (.pointer sp)).frozen? (Ad g (i*5+3))=false:=cK M _;have g3:=dS (i:=i*5+3) (v:=Iv (p.cP+1)) M;have z:Only g r ((r.setCell (Ad g (i*5+1)) (.pointer sp)).setCell (Ad g (i*5+3)) (Iv (p.cP+1))):=((Only.refl g r).setCell (p:=(Ad g (i*5+1))) (.inl rfl) _).setCell (p:=(Ad g (i*5+3))) (.inl rfl) _;have G:=m.trans ⟨z.os,z.tape,z.output,z.size,λk N=>z.block k (by have:=m.size;omega) aA⟩;have U:=q.out sp g f _ _ G aA g3 (Jy sp J Hp.out) V (gF (λk cs N=>by
  rw[z.block k (fZ (aN N) (gH j.size t.size)) (by have:=aN N;have:=j.size;omega)];exact(j.tr t).aT N) u.out)
 clear q c J g3 M G;go_wp2_with fail;apply U.mono;rintro e w4 ⟨v,rfl,Y⟩;replace Y:Hid _:=Y;go_wp2_with fail;go_ret2;exact⟨v,rfl,Y.out⟩
def IB(aY:Nat)(d room:Int)(ea:aR bC)(bO:Nat)(C:aB jb)(E:aB Pe)(xs:aB (BT dD))(h:aB nk)(ss:aB lx)(i:Nat)(cP:Int)(w k:aC)(v:aE):Prop:=
 ∃(no:aR bC)(bZ:Nat)(g:aB jb)(pb bS:Nat)(f:jb->Bool),dJ k aY d room no bZ (jB (iY xs) h.length) ea bO g (kZ (jB (iY xs) h.length) E C.length) (some (Ad pb 0)) bS (jW (iY xs) h) ss/\w.heap.size<=pb/\eZ k (jW (iY xs) h) xs/\g.length=C.length/\(∀(i:Nat) c c0,g[i]?=some c->C[i]?=some c0->c.number=c0.number/\c.time=c0.time/\c.ao=c0.ao)/\c_ (λb=>b=aY\/∃a,ea=some a/\a.block=b) w k/\
  (∀(j:Nat) c e,g[j]?=some c->(kZ (jB (iY xs) h.length) E C.length)[j]?=some e->f c=e.at (B_ (iY xs) i))/\k.ownsRow w.heap.size 59 4 v (gS (bE (iY xs i)) g).length (yP f cP (gS (bE (iY xs i)) g))
theorem DM{aY a room ea bO C E xs g ss w b}(h:After aY a room ea bO C E xs g ss w b)(i q)(hi:g[i]?=some q)(J:0<=bE (iY xs i)/\bE (iY xs i)<=1000000000)(Q:∀c∈C,0<=c.time/\c.time<=1000000000000):
  Calls prog 92 #[Pt aY,Iv (i)] b λe S=>∃v,e=.returned v/\IB aY a room ea bO C E xs g ss i q.cP w S v:=by
 obtain⟨no,bZ,p,pb,bS,d,G,r,N,F,B⟩:=h;let K:=(eY.1 hi).1;let f:(jW (iY xs) g)[i]?=some {q with node:=(B_ (iY xs) i).toNat}:=by
  unfold jW;rw[P8,hi];rfl
 obtain⟨u,_,_⟩|⟨I,V,x,U,u,T,O⟩:=d.aW
 .cases u
 cases u;let t:∀c∈p,0<=c.time/\c.time<=1000000000000:=λc l=>by
  let⟨j,hj⟩:=Aw.1 l;let H:=(eY.1 hj).1;let R:C[j]?=some C[j]:=fH aA;rw[(F j c _ hj R).2.1];exact Q _ (xu _)
 let s:(B_ (iY xs) i).toNat<=(jB (iY xs) g.length).length:=d.Hr _ (iF f);let D:∀(j:Nat) c e,p[j]?=some c->(kZ (jB (iY xs) g.length) E C.length)[j]?=some e->∃m so,c.so=some (Ad m so)/\m<b.heap.size/\(B_ (iY xs) i).toNat<c.sl/\b.cell? (Ad m (so+(B_ (iY xs) i).toNat))=some (.bool (B5 b (B_ (iY xs) i).toNat c))/\B5 b (B_ (iY xs) i).toNat c=e.at ((B_ (iY xs) i).toNat:Int):=λj c e l o=>TR (d.ins j c e l o) (by rw[d.rows e (iF o)];omega);let n:=r.at i _ f;let y:i<xs.length:=r.len▸(eY.1 f).1;let M:bD (iY xs i)<=12:=by
  let A:xs[i]?=some xs[i]:=fH y;let e:iY xs i=xs[i]:=by unfold iY;rw[qB,A];rfl
  rw[e];exact(r.fine _ (iF A)).2.2
 refine(Ko aY (Iv a) (Iv room) _ ea bO p pb bS x _ i (jW (iY xs) g) _ (iY xs i) (B5 b (B_ (iY xs) i).toNat) b d.cell T O f rfl d.wm n.1 n.2.1 aA d.bH d.few J t (λc l=>by
  let⟨j,hj⟩:=Aw.1 l;let H:=(eY.1 hj).1;let⟨m,so,k1,k2,k3,k4,_⟩:=D j c _ hj (fH (by rw[rZ];omega));exact⟨m,so,k1,k2,k3,k4⟩)).mono ?_
 rintro e W ⟨v,rfl,L,z⟩;refine⟨v,rfl,no,bZ,p,pb,bS,B5 b (B_ (iY xs) i).toNat,d.move (aH.aS (P:=λ_=>False) z) (dQ.none _ _),G,r.down z,N,F,B.trans (c_.aS z),λj c e l o=>?_,gY L B.size⟩;let⟨_,_,_,_,_,_,k⟩:=D j c e l o;rw[k,Int.toNat_of_nonneg (tW _ _)]
theorem GF(X:Nat->BT dD):∀n,(∀j,j<n->cF (aO (X j))<=1000000)->(jB X n).length<=n*1000000
 |0,_=>by simp[jB]
 |n+1,h=>by
  let c:=GF X n λj d=>h j aA
  let a:=(ou (aO (X n)) (jB X n)).2.1
  let b:=h n aA
  show(cO (jB X n) (aO (X n))).2.length<=_
  omega
def IG(v:aE)(w a:aC):Prop:=∃tb k,v=.iface 132 (Pt tb)/\a.heap[tb]?=some (.cells #[Iv k] 245 (0,0))/\Bl w a
theorem ED{aY pb bS a room s i B ea bO C E pa c ps q xs d f w l}(h:dJ w aY a room s i B ea bO C E pa c ps q)(g:Bl w l)
  (t:l.heap[pb]?=some (.cells f 183 (0,0))) (z:w.heap.size<=pb) (A:eI f 0 d) (D:d.length<=1000) (n:d.length<=bS) (u:eZ l d xs) (G:40<(jB (iY xs) d.length).length):
  Calls prog 98 #[Pt aY,Sl pb d.length bS] l λe x=>∃v,e=.returned v/\IG v w x:=by
 let F:=GF (iY xs) d.length λj r=>(u.at j _ (fH r)).2.2;apply(L8 aY pb bS (Iv a) (Iv room) _ _ pa ps.length c f d (iY xs) l (g.aT h.cell) t A D n (λj p r=>u.at j p r) G aA).mono;rintro e x ⟨tb,k,rfl,H,y,m⟩;exact⟨_,rfl,tb,k,rfl,y,⟨m.os.trans g.os,m.tape.trans g.tape,m.output.trans g.output,gH g.size m.size,λb o=>(m.block b (fZ o g.size) aA).trans (g.block b o)⟩⟩
theorem RM{w W:aC}{ps:aB nk}{xs:aB (BT dD)}(h:eZ w ps xs)(f:Bl w W){i:Nat}{q:nk}{x:BT dD}(d:bG 143 0 W x (.pointer q.eE))(e:gg x/\cF (aO x)<=1000000/\bD x<=12):eZ W (ps.set i q) (xs.set i x):=by
 refine⟨by simp[h.len],λj p y c a=>?_,λy a=>?_⟩
 .by_cases b:i=j
  .subst b;rw[rF (by simpa using((eY.1 c).1))]at c;rw[rF (by simpa using((eY.1 a).1))]at a;cases c;cases a;exact d
  .rw[yA b]at c a;exact(h.down f).each j p y c a
 .obtain a|rfl:=BD a
  .exact h.fine y a
  .exact e
theorem GI(name s x){aY a room no bZ K ea bO C E pa bS ps ss xs w}(h:dJ w aY a room no bZ K ea bO C E pa bS ps ss)(u:eV ps)(L:eZ w ps xs)(d:∀p∈ps,0<=p.cP/\p.cP<=1000000)(H:oC name)(S:s.size<=maxLen)(N:dP w)(r:14<=w.heap.size)(D:cW s=(some x,0))(M:cF (aO x)<=1000000)(I:bE x<=a)(i)(hi:dW name ps=i)(p)(A:ps[i]?=some p)(y:eW name ps=true):
  Calls prog 96 #[Pt aY,.string name,.string s] w λe n=>∃v,e=.returned (.tuple #[Iv (i),v])/\(((jB (iY (xs.set i x)) ps.length).length<=40/\v=.nilIface/\∃sp,After aY a room ea bO C E (xs.set i x) (ps.set i (sY sp p)) ss w n)\/(40<(jB (iY (xs.set i x)) ps.length).length/\IG v w n)):=by
 let⟨Pz,hz,Z2,_⟩:=dI D;let O:=h.wm;refine MZ name s x h u d H S N r D I i hi p A y _ λsp g B J W o c F G R z=>?_;let J2:eZ W (ps.set i (sY sp p)) (xs.set i x):=RM L o z ⟨⟨Pz,hz⟩,M,Z2⟩;let b:(ps.set i (sY sp p)).length=ps.length:=aF;obtain f|f:=BI 40 (jB (iY (xs.set i x)) ps.length).length
 .have:=ED h o F c G aA (by omega:_<=B) J2 (b▸f);rw[b]at this;apply this.mono;rintro e n ⟨v,rfl,Q⟩;exact⟨v,rfl,.inr ⟨f,Q⟩⟩
 .have:=uj (ss:=ss) h o F c G aA (by omega:_<=B) J2 (b▸f) (b▸h.na) (λj t q l m=>by
   by_cases k:i=j
   .subst k;rw[rF (eY.1 A).1]at m;cases m;exact h.zS i t p l A
   .rw[yA k]at m;exact h.zS j t q l m) (λt l=>gh.move (h.E8 t l) (aH.aS (P:=λ_=>False) o) (dQ.none _ _)) h.apart
  rw[b]at this;refine this.m λn T=>?_;exact⟨_,rfl,.inl ⟨f,rfl,sp,T⟩⟩
theorem Wo(B i m ps v p)(w:aC)(z:w.ownsRow B 183 5 v ps.length (gX ps))(x:w.heap[m]?=some (.cells (iB p).toArray 183 (0,0)))(q:∀g,v.ownBlock=some g->m≠g)(hi:i<=ps.length)(C:ps.length<=1000)(s:B<=w.heap.size):
  Calls prog 137 #[v,Iv (i),Sl m 1 1] w λe k=>∃g c b,e=.returned (Sl g (ps.length+1) c)/\B<=g/\k.heap[g]?=some (.cells b 183 (0,0))/\ps.length+1<=c/\eI b 0 (ps.take i++p::ps.drop i)/\Below B w k:=by
 have o:gX (ps.take i++p::ps.drop i)=(gX ps).take (i*5)++iB p++(gX ps).drop (i*5):=by
  rw[wO,Eh ps i hi,Eg ps i hi,nC];rfl
 have l:(ps.take i++p::ps.drop i).length=ps.length+1:=bI;have d:∀(f:aE)(W:aC),W.ownsRow B 183 5 f (ps.length+1) ((gX ps).take (i*5)++iB p++(gX ps).drop (i*5))->∃(g c:Nat)(b:aU aE),f=Sl g (ps.length+1) c/\B<=g/\W.heap[g]?=some (.cells b 183 (0,0))/\ps.length+1<=c/\eI b 0 (ps.take i++p::ps.drop i):=λf W h=>by
  rw[<-o,<-l]at h;obtain⟨g,c,b,y,G,D,A,a5⟩:=Oj h aF;rw[l]at y A;exact⟨g,c,b,y,G,D,A,a5⟩
 obtain⟨I,⟨rfl,E⟩|⟨g,c,b,rfl,H,_⟩⟩:=id z
 .have t:ps=[]:=uJ.1 E;subst t;obtain rfl:i=0:=by simpa using hi
  refine(Wp m (iB p) w rfl (λj u F=>aD x (by simpa using F)) (Oh p)).mono ?_;rintro e k ⟨f,rfl,r,n⟩;obtain⟨g,c,b,rfl,a⟩:=d f k (by simpa[gX]using gY r s);exact⟨g,c,b,rfl,a.1,a.2.1,a.2.2.1,a.2.2.2,n.mono s⟩
 .refine(NK B g c i ps.length m (gX ps) (iB p) w z (A9 ps) x rfl (Oh p) (q g rfl) hi C s).mono ?_;rintro e k ⟨f,rfl,r,n⟩;obtain⟨g,c,b,rfl,a⟩:=d f k r;exact⟨g,c,b,rfl,a.1,a.2.1,a.2.2.1,a.2.2.2,n⟩
theorem zad{T:bQ} (h:T:=by
 refine cA.o 10 (MO func137 Z4 ?_);rintro e V1 ⟨g,gc,cur,rfl,hgl,hgh,hgc,aaS,hbI⟩;have V':Bl W V1:=hbe.trans (hbI.mono (by first|exact aZ|omega));refine⟨_,rfl,λ_=>Zk.out _ V',?_⟩
 try walk_nrm
 have hWs:=Zq.size;refine cA.o 11 (MO func98 (aaD.out sp cX g gc cur V1 (Zq.trans (V'.mono hWs)) (by omega) aa1 hgh aaS hgc (V'.aT Ss) (bG.below hsW V')) ?_);rintro e V3 ⟨v,rfl,hQ⟩;replace hQ:Hid _:=hQ;refine⟨_,rfl,λh=>absurd h (by decide),?_⟩
 try walk_nrm
 refine cA.o 12 (PM ⟨λh=>absurd h (by decide),?_⟩)
 try walk_nrm
 refine cA.o 13 (PM ⟨λh=>absurd h (by decide),?_⟩);refine cA.done (by decide+kernel) ?_ _
 try walk_nrm
 go_wp2_with fail;go_ret2;exact⟨v,rfl,hQ.out⟩):T:=h
theorem SV(name s x){aY b room no bZ K ea bO C E pa bS ps ss w}(h:dJ w aY b room no bZ K ea bO C E pa bS ps ss)(R:eV ps)(h8:ps.length<8)(hN:oC name)(af:name.size<=1000)(hm:s.size<=maxLen)(A:dP w)(a7:14<=w.heap.size)(hr:cW s=(some x,0))(hR:bE x<=b)(i)(hi:dW name ps=i)(Y:eW name ps=false)(Q:Value->World->Prop)
  (u:∀sp (cX g gc cur) (V),Bl w V->w.heap.size<=g->w.heap.size<=cX->V.heap[g]?=some (.cells cur 183 (0,0))->eI cur 0 (ps.take i++⟨name,sp,some (Ad cX 0),0,1,false⟩::ps.drop i)->ps.length+1<=gc->V.heap[cX]?=some (.cells #[.slice none 0 0] 177 (0,0))->bG 143 0 V x (.pointer sp)->Calls prog 98 #[Pt aY,Sl g (ps.length+1) gc] V λe w'=>∃v,e=.returned v/\Q v w'):
  Calls prog 91 #[Pt aY,.string name,.string s] w λe w'=>∃v,e=.returned (.tuple #[Iv (i),v])/\Q v w':=by
 have I:=qs aY b (Iv room) _ _ _ name s x w h.cell hN hm A a7 hr hR;have G:i<=ps.length:=by rw[<-hi];exact pH name ps
 have hf:Hid (∀W,Bl w W->Calls prog 97 #[Pt aY,.string name] W λe w'=>e=.returned (.tuple #[Iv (i:Int),.bool false])/\Bl W w'):=λW hb=>by
  have:=mT aY (Iv b) (Iv room) _ _ pa bS ps name W (hb.aT h.cell) (iu.move h.aW (aH.aS (P:=λ_=>False) hb) (dQ.none _ _)) R aA;rw[hi,Y]at this;exact this
 have N:Hid (∀W,Bl w W->Calls prog 100 #[.slice pa ps.length bS] W λe w'=>∃r,e=.returned r/\w'.ownsRow W.heap.size 183 5 r ps.length (gX ps)/\Bl W w'):=λW hb=>rh W pa bS ps (iu.move h.aW (aH.aS (P:=λ_=>False) hb) (dQ.none _ _)) aA;have Z:=h.cell;replace Z:Hid _:=Z;have y:Hid (∀(B F:Nat)(v:Value)(p:nk)(V:World),V.ownsRow B 183 5 v ps.length (gX ps)->V.heap[F]?=some (.cells (iB p).toArray 183 (0,0))->(∀g,v.ownBlock=some g->F≠g)->B<=V.heap.size->Calls prog 137 #[v,Iv (i:Int),Sl F 1 1] V λe w'=>∃(g gc:Nat)(cur:Array Value),e=.returned (Sl g (ps.length+1) gc)/\B<=g/\w'.heap[g]?=some (.cells cur 183 (0,0))/\ps.length+1<=gc/\eI cur 0 (ps.take i++p::ps.drop i)/\Below B V w'):=λB F v p V h1 h2 h3 h4=>Wo B i F ps v p V h1 h2 h3 G aA h4;have aaD:Hid _:=u;clear h R hi Y A hm hr hR u G;generalize gX ps=fp at*;generalize ps.length=n at*;go_enter func91,ntmps91;go_wp2_with fail;refine I.mono ?_;rintro e w1 ⟨sp,rfl,H,T⟩;clear I;go_wp2_with fail;refine(hf.out w1 T).m λw2 M=>?_;have t:=T.tr M;have U:=t.aT Z.out;have c4:=aD (i:=4) U rfl;have ae:¬(8:Int)<=(n:Int):=aA;go_wp2_with fail;refine(AO name _ aA).m λo J=>?_;have j:=t.tr J;have a6:=j.aT Z.out;have q:bG 143 0 o x (.pointer sp):=bG.below H (M.tr J);clear U c4 H;go_wp2_with fail;generalize hW:(o.alloc _).alloc _=W at*;obtain⟨m,Zq,Ss,hsW⟩:W.heap[o.heap.size+1]?=some (.cells #[.string name,.pointer sp,Iv 0,Iv 1,Pt o.heap.size] 183 (0,0))/\Bl w W/\W.heap[o.heap.size]?=some (.cells #[.slice none 0 0] 177 (0,0))/\bG 143 0 W x (.pointer sp):=by
  subst hW;exact⟨aQ _ _ _ aF,(j.al _).al _,(ij _ _ _ aF).trans (aQ _ _ _ rfl),bG.below q (((cD _ o).al _).al _)⟩
 have a8:=Zq.aT Z.out;have aa1:w.heap.size<=o.heap.size:=j.size;clear a6 q hW;generalize O:o.heap.size+1=f at*;have ad:Hid (o.heap.size+1=f):=O;clear O;generalize o.heap.size=cX at*;have l:=(cD _ W).drew.al (.cells #[.string name,.pointer sp,Iv 0,Iv 1,Pt cX] 183 (0,0));obtain⟨S,hS⟩:∃S:World->Prop,S=λw'=>w'.cell? (Ad aY 4)=some (.slice pa n bS)/\w'.cell? (Ad f 0)=some (.string name)/\w'.cell? (Ad f 1)=some (.pointer sp)/\w'.cell? (Ad f 2)=some (Iv 0)/\w'.cell? (Ad f 3)=some (Iv 1)/\w'.cell? (Ad f 4)=some (Pt cX):=⟨_,rfl⟩;have Zk:=hid λw' (hb:Bl W w')=>show S w' by subst hS;exact⟨aD (hb.aT a8) rfl,aD (hb.aT m) rfl,aD (hb.aT m) rfl,aD (hb.aT m) rfl,aD (hb.aT m) rfl,aD (hb.aT m) rfl⟩
 have d:=Zk.out _ (Below.refl _ W).drew;refine cA.begin (S:=λ_=>True) (fin:=99) aL ?_;simp only[ju,ic,jr,Nat.reduceAdd,fE];refine cA.tk 0 trivial ?_
 try walk_nrm
 refine cA.weaken (S:=S) (fin:=11) _ _ _ _ ?_;subst hS;refine cA.tk 1 d ?_
 try walk_nrm
 refine cA.tk 2 d ?_
 try walk_nrm
 refine cA.tk 3 d ?_
 try walk_nrm
 refine cA.tk 4 d ?_
 try walk_nrm
 refine cA.tk 5 d ?_
 try walk_nrm
 refine cA.tk 7 d ?_
 try walk_nrm
 refine cA.tk 8 d ?_
 try walk_nrm
 refine cA.t 6 9 ?_ ?_
 .refine MO func100 (N.out W.drew Zq.drew) ?_;rintro e D ⟨r,rfl,a,c⟩;have c:Bl W D:=(cD _ W).drew.trans c;have a:D.ownsRow W.heap.size 183 5 r n fp:=a;refine⟨_,rfl,λ_=>Zk.out _ c,?_⟩
  try walk_nrm
  refine cA.o 9 (PM ⟨λ_=>Zk.out _ (c.al _),?_⟩)
  try walk_nrm
  generalize hV:D.alloc _=L;have hbe:Bl W L:=hV▸c.al _;have z:L.heap[D.heap.size]?=some (.cells (iB ⟨name,sp,some (Ad cX 0),0,1,false⟩).toArray 183 (0,0)):=hV▸aQ _ _ _ rfl;have a1:L.ownsRow W.heap.size 183 5 r n fp:=hV▸eF a (λk hk=>ij _ _ _ (a.lt k hk).2);clear hV;have Z4:=y.out W.heap.size D.heap.size r ⟨name,sp,some (Ad cX 0),0,1,false⟩ _ a1 z (λg A e=>by have:=(a.lt g A).2;omega) hbe.size;generalize D.heap.size=F at*;exact zad
 .refine PM ⟨λ_=>Zk.out _ l,?_⟩
  try walk_nrm
  have X:(W.drew.alloc (.cells #[.string name,.pointer sp,Iv 0,Iv 1,Pt cX] 183)).heap[W.heap.size]?=some (.cells (iB ⟨name,sp,some (Ad cX 0),0,1,false⟩).toArray 183 (0,0)):=aQ W.drew _ _ rfl;refine cA.o 6 (MO func100 (N.out _ (Zq.trans (l.mono Zq.size))) ?_);rintro e L ⟨r,rfl,a,c⟩;have ag:=aN X;have hbe:Bl W L:=l.trans (c.mono l.size);have z:=c.aT X;refine⟨_,rfl,λ_=>Zk.out _ hbe,?_⟩
  try walk_nrm
  have Z4:=y.out _ W.heap.size r ⟨name,sp,some (Ad cX 0),0,1,false⟩ _ a z (λg A e=>by have:=(a.lt g A).1;omega) c.size;have aa:=l.size;exact zad
theorem lL{f:Type}{l:aB f}{a b i j}(hi:i<=l.length)(h:(l.take i++a::l.drop i)[j]?=some b):(j=i/\b=a)\/(j≠i/\l[if j<i then j else j-1]?=some b):=by
 let e:(l.take i).length=i:=bI;by_cases c:j<i
 .rw[uw aA,BH,bY c]at h;exact .inr ⟨aA,by rw[bY c];exact h⟩
 .rw[sK aA,e]at h;by_cases d:j=i
  .subst d;rw[FF]at h;simp at h;exact .inl ⟨rfl,h.symm⟩
  .obtain⟨k,g⟩:∃k,j-i=k+1:=⟨j-i-1,aA⟩;rw[g,Il,uN]at h;refine .inr ⟨d,?_⟩;rw[bN c,show j-1=i+k by omega];exact h
theorem RL{w W:aC}{ps:aB nk}{xs:aB (BT dD)}(h:eZ w ps xs)(l:Bl w W){i:Nat}(hi:i<=ps.length){q:nk}{x:BT dD}(b:bG 143 0 W x (.pointer q.eE))(c:gg x/\cF (aO x)<=1000000/\bD x<=12):eZ W (ps.take i++q::ps.drop i) (xs.take i++x::xs.drop i):=by
 let n:=h.len;refine⟨bI,λj p y m a=>?_,λy a=>?_⟩
 .obtain⟨rfl,rfl⟩|⟨k,f⟩:=lL hi m
  .obtain⟨_,rfl⟩|⟨g,_⟩:=lL aA a
   .exact b
   .exact absurd rfl g
  .obtain⟨e,_⟩|⟨_,d⟩:=lL aA a
   .exact absurd e k
   .exact(h.down l).each _ p y f d
 .obtain a|a:=jc.1 a
  .exact h.fine y (GC a)
  .obtain rfl|a:=gA.1 a
   .exact c
   .exact h.fine y (sN a)
theorem Qp{w ss}(h:Apart ss)(m:∀s∈ss,gh w s){i cX}(hi:i<=ss.length)(q:w.heap.size<=cX):Apart (ss.take i++⟨cX,.slice none 0 0,0,[]⟩::ss.drop i):=by
 let c:∀s∈ss,s.cX<w.heap.size:=λs p=>aN (m s p).1;intro a b s t k j l;obtain⟨r,rfl⟩|⟨u,f⟩:=lL hi k
 .obtain⟨n,_⟩|⟨o,d⟩:=lL hi j
  .omega
  .have:=c t (iF d);exact⟨by show cX≠t.cX;omega,λg e=>by cases e⟩
 .obtain⟨n,rfl⟩|⟨o,d⟩:=lL hi j
  .have:=c s (iF f);exact⟨by show s.cX≠cX;omega,λg _ e=>by cases e⟩
  .refine h _ _ s t f d ?_;split<;>split<;>omega
def fresh(name:a_)(sp:aR bC)(cX:Nat):nk:=⟨name,sp,some (Ad cX 0),0,1,false⟩
theorem Ph(name s x){aY a room no bZ K ea bO C E pa bS ps ss xs w}(h:dJ w aY a room no bZ K ea bO C E pa bS ps ss)(y:eV ps)(O:eZ w ps xs)(U:ps.length<8)(M:oC name)(D:name.size<=1000)(X:s.size<=maxLen)(R:dP w)(r:14<=w.heap.size)(G:cW s=(some x,0))(Q:cF (aO x)<=1000000)(N:bE x<=a)(i)(hi:dW name ps=i)(z:eW name ps=false):
  Calls prog 91 #[Pt aY,.string name,.string s] w λe o=>∃v,e=.returned (.tuple #[Iv (i),v])/\(((jB (iY (xs.take i++x::xs.drop i)) (ps.length+1)).length<=40/\v=.nilIface/\∃sp cX,w.heap.size<=cX/\After aY a room ea bO C E (xs.take i++x::xs.drop i) (ps.take i++fresh name sp cX::ps.drop i) (ss.take i++⟨cX,.slice none 0 0,0,[]⟩::ss.drop i) w o)\/(40<(jB (iY (xs.take i++x::xs.drop i)) (ps.length+1)).length/\IG v w o)):=by
 let⟨Pz,hz,Z2,_⟩:=dI G;let f:i<=ps.length:=hi▸pH name ps;refine SV name s x h y U M D X R r G N i hi z _ λsp cX g F u V p k c H n W A B=>?_;let n:eI u 0 (ps.take i++fresh name sp cX::ps.drop i):=n;let J2:eZ V (ps.take i++fresh name sp cX::ps.drop i) (xs.take i++x::xs.drop i):=RL O p f B ⟨⟨Pz,hz⟩,Q,Z2⟩;let m:(ps.take i++fresh name sp cX::ps.drop i).length=ps.length+1:=bI;rcases BI 40 (jB (iY (xs.take i++x::xs.drop i)) (ps.length+1)).length with l|l
 .have:=ED h p H k n aA (by omega:_<=F) J2 (m▸l);rw[m]at this;apply this.mono;rintro e o ⟨v,rfl,T⟩;exact⟨v,rfl,.inr ⟨l,T⟩⟩
 .let a1:=h.na;have:=uj (ss:=ss.take i++⟨cX,.slice none 0 0,0,[]⟩::ss.drop i) h p H k n aA (by omega:_<=F) J2 (m▸l) bI (λj t q b I=>by
   obtain⟨rfl,rfl⟩|⟨Z,L⟩:=lL aA b
   .obtain⟨_,rfl⟩|⟨S,_⟩:=lL f I
    .rfl
    .exact absurd rfl S
   .obtain⟨e,_⟩|⟨_,J⟩:=lL f I
    .exact absurd e Z
    .exact h.zS _ t q L J) (λt b=>by
   let d:∀t∈ss,gh V t:=λt b=>gh.move (h.E8 t b) (aH.aS (P:=λ_=>False) p) (dQ.none _ _);rcases jc.1 b with b|b
   .exact d t (GC b)
   .rcases gA.1 b with rfl|b
    .exact⟨A,fI _ _ _ _⟩
    .exact d t (sN b)) (Qp h.apart h.E8 aA c)
  rw[m]at this;refine this.m λo Y=>?_;exact⟨_,rfl,.inl ⟨l,rfl,sp,cX,c,Y⟩⟩
theorem Qj(name s:a_)(x:BT dD){aY:Nat}{b room:Int}{no:aR bC}{bZ:Nat}{K:aB Key}{ea:aR bC}{bO:Nat}{C:aB jb}{E:aB Pe}{pa:aR bC}{bS:Nat}{ps:aB nk}{ss:aB lx}{w:aC}(h:dJ w aY b room no bZ K ea bO C E pa bS ps ss)(j:eV ps)(r:oC name)(A:s.size<=maxLen)(v:dP w)(i:14<=w.heap.size)(u:cW s=(some x,0))(t:bE x<=b)(l:eW name ps=true){a:bC}(B:iw w 2 E_ a):
  Calls prog 91 #[Pt aY,.string name,.string s] w λe g=>∃k T q o,e=.returned (.tuple #[Iv k,.iface T q])/\JZ g (.iface T q) 357 o/\o=a/\Bl w g:=by
 have y:=h.wm;have D:Hid (∀W,Bl w W->Calls prog 97 #[Pt aY,.string name] W λe g=>e=.returned (.tuple #[Iv (dW name ps:Nat),.bool true])/\Bl W g):=λW n=>by
  have:=mT aY (Iv b) (Iv room) _ _ pa bS ps name W (n.aT h.cell) (iu.move h.aW (aH.aS (P:=λ_=>False) n) (dQ.none _ _)) j aA;rw[l]at this;exact this
 generalize dW name ps=F at*;go_enter func91,ntmps91;go_wp2_with fail;apply(qs aY b (Iv room) _ _ _ name s x w h.cell r A v i u t).mono;rintro e p ⟨sp,rfl,z,f⟩;go_wp2_with fail;refine(D.out p f).m λG m=>?_;have d:=f.tr m;have c:=(B.down d).cell;go_wp2
 go_region
 all_goals go_wp2_with fail
 all_goals go_ret2
 all_goals exact⟨_,_,_,_,rfl,og (by simp[leaves]),rfl,d.drew⟩
theorem MY(name s:a_)(x:BT dD){aY:Nat}{b room:Int}{no:aR bC}{bZ:Nat}{K:aB Key}{ea:aR bC}{bO:Nat}{C:aB jb}{E:aB Pe}{pa:aR bC}{bS:Nat}{ps:aB nk}{ss:aB lx}{w:aC}(h:dJ w aY b room no bZ K ea bO C E pa bS ps ss)(j:eV ps)(r:oC name)(A:s.size<=maxLen)(v:dP w)(i:14<=w.heap.size)(u:cW s=(some x,0))(t:bE x<=b)(l:eW name ps=false){a:bC}(B:iw w 3 Cp a):
  Calls prog 96 #[Pt aY,.string name,.string s] w λe g=>∃k T q o,e=.returned (.tuple #[Iv k,.iface T q])/\JZ g (.iface T q) 357 o/\o=a/\Bl w g:=by
 have y:=h.wm;have D:Hid (∀W,Bl w W->Calls prog 97 #[Pt aY,.string name] W λe g=>e=.returned (.tuple #[Iv (dW name ps:Nat),.bool false])/\Bl W g):=λW n=>by
  have:=mT aY (Iv b) (Iv room) _ _ pa bS ps name W (n.aT h.cell) (iu.move h.aW (aH.aS (P:=λ_=>False) n) (dQ.none _ _)) j aA;rw[l]at this;exact this
 generalize dW name ps=F at*;go_enter func96,ntmps96;go_wp2_with fail;apply(qs aY b (Iv room) _ _ _ name s x w h.cell r A v i u t).mono;rintro e p ⟨sp,rfl,z,f⟩;go_wp2_with fail;refine(D.out p f).m λG m=>?_;have d:=f.tr m;have c:=(B.down d).cell;go_wp2
 go_region
 all_goals go_wp2_with fail
 all_goals go_ret2
 all_goals exact⟨_,_,_,_,rfl,og (by simp[leaves]),rfl,d.drew⟩
theorem Xf{xs:aB (BT dD)}{x i}(hi:i<=xs.length):iY (xs.take i++x::xs.drop i) i=x:=by
 let a:(xs.take i).length=i:=bI;unfold iY;rw[qB,sK aA,a,FF];rfl
theorem Xg{xs:aB (BT dD)}{x i}(hi:i<xs.length):iY (xs.set i x) i=x:=by
 unfold iY;rw[qB,rF hi];rfl
theorem Ld{c:Type}{l:aB c}{a i}(hi:i<=l.length):(l.take i++a::l.drop i)[i]?=some a:=by
 let b:(l.take i).length=i:=bI;rw[sK aA,b,FF];rfl
theorem Q_(mb name s x){aY a room no bZ K ea bO C E pa bS ps ss xs w}(B:w.heap[mb]?=some (.cells #[Pt aY] 104 (0,0)))(h:dJ w aY a room no bZ K ea bO C E pa bS ps ss)(f:eV ps)(k:eZ w ps xs)(o:oC name)(D:s.size<=maxLen)(u:dP w)(d:14<=w.heap.size)(q:cW s=(some x,0))(r:cF (aO x)<=1000000)(p:0<=bE x/\bE x<=a)(y:∀c∈C,0<=c.time/\c.time<=1000000000000)(z:ps.length<8)(j:name.size<=1000)(i)(hi:dW name ps=i)(g:eW name ps=false)(G:(jB (iY (xs.take i++x::xs.drop i)) (ps.length+1)).length<=40):
  Calls prog 27 #[Pt mb,.string name,.string s] w λe m=>∃v,e=.returned (.tuple #[v,Iv 0])/\∃sp cX,w.heap.size<=cX/\IB aY a room ea bO C E (xs.take i++x::xs.drop i) (ps.take i++fresh name sp cX::ps.drop i) (ss.take i++⟨cX,.slice none 0 0,0,[]⟩::ss.drop i) i 1 w m v:=by
 let b:i<=ps.length:=by rw[<-hi];exact pH name ps
 let l:=h.ret;refine Lt mb name s B (SS name s i ((Ph name s x h f k z o j D u d q r p.2 i hi g).mono ?_));rintro e m ⟨v,rfl,⟨_,rfl,sp,cX,t,n⟩|⟨F,_⟩⟩
 .refine⟨rfl,(DM n i (fresh name sp cX) (Ld b) (by rw[Xf (by rw[k.len];exact b)];omega) y).mono ?_⟩;rintro e H ⟨v,rfl,A⟩;exact⟨v,rfl,sp,cX,t,A⟩
 .omega
theorem Ls(mb name s x){aY a room no bZ K ea bO C E pa bS ps ss xs w}(B:w.heap[mb]?=some (.cells #[Pt aY] 104 (0,0)))(h:dJ w aY a room no bZ K ea bO C E pa bS ps ss)(g:eV ps)(k:eZ w ps xs)(q:oC name)(D:s.size<=maxLen)(y:dP w)(f:14<=w.heap.size)(t:cW s=(some x,0))(u:cF (aO x)<=1000000)(r:0<=bE x/\bE x<=a)(z:∀c∈C,0<=c.time/\c.time<=1000000000000)(b:∀p∈ps,0<=p.cP/\p.cP<=1000000)(i)(hi:dW name ps=i)(p)(n:ps[i]?=some p)(j:eW name ps=true)(G:(jB (iY (xs.set i x)) ps.length).length<=40):
  Calls prog 31 #[Pt mb,.string name,.string s] w λe m=>∃v,e=.returned (.tuple #[v,Iv 0])/\∃sp,IB aY a room ea bO C E (xs.set i x) (ps.set i (sY sp p)) ss i (p.cP+1) w m v:=by
 let d:=(eY.1 n).1;let l:=h.ret;refine Gl mb name s B (MX name s i ((GI name s x h g k b q D y f t u r.2 i hi p n j).mono ?_));rintro e m ⟨v,rfl,⟨_,rfl,sp,o⟩|⟨F,_⟩⟩
 .refine⟨rfl,(DM o i (sY sp p) (rF d) (by rw[Xg (by rw[k.len];exact d)];omega) z).mono ?_⟩;rintro e H ⟨v,rfl,A⟩;exact⟨v,rfl,sp,A⟩
 .omega
theorem Lj(K:aB Key)(E:aB Pe):∀j,j<=E.length->(kZ K E j).map Pe.nz=(E.take j).map Pe.nz
 |0,_=>by simp[kZ]
 |j+1,h=>by
  let⟨_,w2,w3,_⟩:=iX (kZ K E j).reverse K (E.getD j Su).bare
  let a:E[j]?=some E[j]:=fH aA
  rw[kZ,ml,Lj K E j aA,yD,a,ml]
  congr 1
  simp only[hY,sR,Option.toList_some,FD,kz]
  let b:E.getD j Su=E[j]:=by rw[qB,a];rfl
  unfold Pe.nz
  rw[w2,w3,b]
  rfl
theorem PD(K:aB Key)(E:aB Pe)(a:aB nM):∀j,kX K a (kZ K E j).reverse
 |0=>trivial
 |j+1=>by
  rw[kZ,BF]
  exact Fy (PD K E a j) _
theorem kX.old{K:aB Key}{a:aB nM}:∀{b old:aB Pe},kX K a (b++old)->kX K a old
 |[],_,h=>h
 |_::_,_,⟨_,_,h⟩=>h.old
def jN(ps:aB nk):aB a_:=ps.map (·.name)
theorem R_{aY b room no bZ K ea bO C E pa bS ps ss w}(h:dJ w aY b room no bZ K ea bO C E pa bS ps ss):
  Calls prog 53 #[Pt aY] w λe t=>∃v,e=.returned v/\t.ownsRow w.heap.size 9 1 v ps.length (qW (jN ps))/\Bl w t:=by
 have I:=h.wm;have c4:=aD (i:=4) h.cell rfl;have⟨i0,hi,nI,nJ,nS⟩:=eB n8;have B:Hid (∀W (j:Nat) p,Bl w W->ps[j]?=some p->∃pb c,pa=some (Ad pb c)/\W.cell? (Ad pb (c+j*5))=some (.string p.name)/\W.cell? (Ad pb (c+j*5+1))=some (.pointer p.eE)/\W.cell? (Ad pb (c+j*5+2))=some (Iv p.node)/\W.cell? (Ad pb (c+j*5+3))=some (Iv p.cP)/\W.cell? (Ad pb (c+j*5+4))=some (.pointer p.fY)):=λW j p O f=>by
  obtain⟨_,e,_⟩|⟨pb,c,M,m,rfl,x,J⟩:=h.aW
  .subst e;simp at f
  have⟨a0,a1,a2,a3,a4⟩:=J j p f;have o:=O.aT x;exact⟨pb,c,rfl,aD o a0,aD o a1,aD o a2,aD o a3,aD o a4⟩
 have F:Hid (∀j,j<ps.length->∃p,ps[j]?=some p/\jN (ps.take (j+1))=jN (ps.take j)++[p.name]):=λj f=>⟨ps[j],fH f,by unfold jN;rw[yD,fH f,ml];rfl⟩;have z:Hid (∀j,j<=ps.length->(jN (ps.take j)).length=j):=λj f=>by simp[jN];omega
 have G:Hid (jN (ps.take ps.length)=jN ps):=by show _=_;rw[MA]
 generalize y:jN ps=full at*;generalize q:ps.length=n at*;have T:=hid q;go_enter func53,ntmps53;go_wp2;go_loopw [3,11] (λv r wr=>∃j:Nat,r=Iv j/\j<=n/\wr.ownsRow w.heap.size 9 1 v j (qW (jN (ps.take j)))/\Bl w wr) (λ_ r _=>n-(intOf r).toNat)
 case atStart=>exact⟨0,rfl,cC,fI _ _ _ _,aV⟩
 case round=>
  obtain⟨j,rfl,L,a,d⟩:=hrel;by_cases f:j<n
  .have⟨p,hp,Ss⟩:=F.out j f;obtain⟨pb,c,rfl,Q,R,V,P,U⟩:=B.out wr j p d hp;have N:Hid ((qW (jN (ps.take j))).length=j):=by show _=_;rw[RZ];exact z.out j aA
   have H:=d.size;have s:=hid d;generalize jN (ps.take j)=A at*;go_wp2_with (at_builtin;refine jz _ rfl _ _ 31 rfl w.heap.size 9 i0 _ 1 16 underlying31 hi nI nJ nS rfl aG _ _ _ rfl ((a.alloc _).alloc _) (Ad (wr.heap.size+1) 0) 1 1 [.string p.name] rfl rfl ?c1 ?c2 ?c3 ?c4 ?c5 ?_)
   case c1=>
    intro k u D;have:=cell_one_new (wr.alloc (.cells #[.string p.name,.pointer p.eE,Iv p.node,Iv p.cP,.pointer p.fY] 183)) (.string p.name) 9 k u D;simpa using this
   case c2=>simp[Value.oneCell']
   case c3=>unfold maxLen;omega
   case c4=>omega
   case c5=>simp;omega
   intro S X g l _;go_wp2
   try go_big_round
   exact⟨⟨j+1,dV,aA,by rw[Ss];simpa[qW]using g,((s.out.al _).al _).grown l (gH s.out.size bI) λk e=>(a.lt k e).1⟩,zm⟩
  .obtain rfl:j=n:=by omega
   rw[show jN (ps.take j)=full from G.out]at a;go_wp2;go_ret;exact⟨_,rfl,a,d⟩
theorem WG(mb){aY a room no bZ K ea bO C E pa bS ps ss w}(d:w.heap[mb]?=some (.cells #[Pt aY] 104 (0,0)))(h:dJ w aY a room no bZ K ea bO C E pa bS ps ss):
  Calls prog 33 #[Pt mb] w λe b=>∃v,e=.returned v/\b.ownsRow w.heap.size 9 1 v ps.length (qW (jN ps))/\Bl w b:=by
 let i:w.cell? (Ad mb 0)=some (Pt aY):=aD d rfl;go_enter func33,ntmps33;go_wp2_with fail;apply(R_ h).mono;rintro e g ⟨v,rfl,f,c⟩;go_wp2;go_ret;exact⟨v,rfl,f,c⟩
theorem erase_filter{l:aB Az}(b:(l.map (·.name)).Nodup):∀{k:Nat}{p},l[k]?=some p->l.take k++l.drop (k+1)=l.filter λq=>decide (q.name≠p.name):=by
 induction l with
 |nil=>intro k p h;simp at h
 |cons a l d=>
  intro k p h;rw[hY,Iw]at b;cases k with
  |zero=>
   simp at h;subst h;rw[List.filter_cons_of_neg aF,List.take_zero,jq];refine(List.filter_eq_self.2 λq c=>?_).symm;simp only[pz];exact λe=>b.1 (iZ.2 ⟨q,c,e⟩)
  |succ k=>
   let h':l[k]?=some p:=by simpa using h
   rw[List.filter_cons_of_pos,List.take_succ_cons,P9,lq,d b.2 h'];simp only[pz];exact λe=>b.1 (iZ.2 ⟨p,iF h',e.symm⟩)
theorem KA(L k)(h:k<=L.length):(uQ L).take (k*4)=uQ (L.take k):=by
 conv=>lhs;rw[<-yz k L]
 unfold uQ;rw[ml,MD,List.take_left'];rw[eN J1 4 λ_=>rfl,kV];omega
theorem Tb(L k)(h:k<=L.length):(uQ L).drop (k*4)=uQ (L.drop k):=by
 conv=>lhs;rw[<-yz k L]
 unfold uQ;rw[ml,MD,List.drop_left'];rw[eN J1 4 λ_=>rfl,kV];omega
theorem xK{b:Type}{l:aB b}{k a}(h:a∈l.take k++l.drop (k+1)):a∈l:=by
 obtain h|h:=jc.1 h
 .exact GC h
 .exact sN h
theorem TX:(prog.info? 86).map (λi=>(i.zero,i.size,i.bytes))=some (some (.agg #[.string ⟨#[]⟩,.pointer none,Iv 0,.slice none 0 0]),4,56):=aL
section
variable{O:Nat->Prop}{S:f_}{n yb:Nat}{ev pv:aE}{C:aB CE}{L:aB CP}{w:aC}
theorem VX(h:eT O S yb ev pv C L w):∀u∈uQ L,u.oneCell'=true:=by
 intro u a;simp only[uQ,Ir,iZ]at a;obtain⟨_,⟨c,b,rfl⟩,a⟩:=a;let⟨q,hq⟩:=uf (h.eE c b);let⟨o,cap,ho,_⟩:=bT (h.fY c b);simp only[J1,hq,ho,gA,gw,oP]at a;obtain rfl|rfl|rfl|rfl:=a<;>rfl
theorem eT.store(h:eT O S yb ev pv C L w){k:aC}(z:aH (λb=>pv.ownBlock=some b) w k){S':f_}(G:S'.ret=S.ret/\S'.room=S.room/\S'.bH=S.bH/\S'.off=S.off){VB:aE}{L':aB CP}(hL:L'.map (·.1)=S'.aW)
  (A:k.ownsRow 0 86 4 VB L'.length (uQ L')) (x:∀g,VB.ownBlock=some g->pv.ownBlock=some g\/w.heap.size<=g)
  (E:∀l∈L',(∃B∈L,l.2.2=B.2.2/\l.1.str=B.1.str)\/(l.2.2=.slice none 0 0/\l.1.str=[])) (u:∀l∈L',bX 0 k l.1.x l.2.1)
  (D:L'.Pairwise λa b=>∀g,a.2.2.ownBlock=some g->b.2.2.ownBlock≠some g):
  uU (λb=>O b\/w.heap.size<=b) S' yb (k.setCell (Ad yb 4) VB)/\aH O w (k.setCell (Ad yb 4) VB):=by
 let xB:=fJ k (Ad yb 4) VB;let r:∀{t n m b},w.heap[b]?=some (.cells n t m)->t≠86->pv.ownBlock≠some b:=λc v e=>by
  obtain⟨I,p⟩:=cE h.aW e;rw[c]at p;cases p;exact v rfl
 let j:=z.get h.cell (r h.cell aG);let d:∀{y:aC},y.heap[yb]?=some (.cells #[Iv S.ret,Iv S.room,ev,Iv ((S.off:Int)+1),pv] 79 (0,0))->∀{t n m b},y.heap[b]?=some (.cells n t m)->t≠79->b≠yb:=λF _ _ _ _ c v e=>by
  subst e;rw[F]at c;cases c;exact v rfl
 let o:aH (λb=>b=yb\/pv.ownBlock=some b) w (k.setCell (Ad yb 4) VB):=(z.mono λ_ _ e=>.inr e).trans (xB.mono λ_ _ e=>.inl e);refine⟨⟨ev,VB,C,L',h.change o (λb H=>.inl H) ?_ (by simp[World.setCell,uy,j]) G hL (cG A xB λg q=>?_) (λg q=>(x g q).imp (h.own.2.2.1 g) id) (λl s=>?_) (λl s=>fU xB ?_ (u l s)) D⟩,o.mono λb _ e=>?_⟩
 .intro b n t m c i e;simp only[gA,gw,oP]at i;obtain e|e:=e
  .obtain f|f|f|f:=i<;>exact d h.cell c (by rw[f];decide) e
  .obtain f|f|f|f:=i<;>exact r c (by rw[f];decide) e
 .let⟨n,c⟩:=cE A q;exact d j c aG
 .obtain c|⟨c,i⟩:=E l s
  .exact .inl c
  .rw[c,i];exact .inr ⟨fI _ _ _ _,λg q=>by cases q⟩
 .intro b n t m c i e;simp only[gA,gw,oP]at i;exact d j c (by rw[i];decide) e
 .obtain e|e:=e
  .rw[e];exact h.own.1
  .exact h.own.2.2.1 b e
theorem L0(h:eT O S yb ev pv C L w)(N:S.OK n)(name):
  Calls prog 68 #[Pt yb,.string name] w λe U=>e=.returned (Iv (iP S name).1)/\uU (λb=>O b\/w.heap.size<=b) (iP S name).2 yb U/\aH O w U:=by
 have B:=zW h N name;obtain⟨z,F⟩|⟨k,p,z,F,h3,h4⟩:=wK name S.aW 0
 .have P:iP S name=(6,S):=by
   unfold iP;rw[bN];rw[pj];rintro⟨p,hp,e⟩;exact get_none.1 z p hp e
  rw[F]at B;rw[P];go_enter func68,ntmps68;go_wp2_with fail;apply B.mono;rintro e G ⟨rfl,rfl⟩;go_wp2;go_ret;exact⟨rfl,⟨_,_,_,_,h.mono λb s=>.inl s⟩,aH.refl _ _⟩
 .have P:iP S name=(0,{S with aW:=S.aW.filter λp=>decide (p.name≠name)}):=by
   unfold iP;rw[bY];exact pj.2 ⟨p,iF z,F⟩
  rw[P];rw[h4,fE]at B;have⟨i0,XF,nI,nJ,nS⟩:=eB TX;have r:=VX h;have x:=h.na;have hf:=N.few;have a7:k<L.length:=by rw[x];exact(eY.1 z).1
  obtain⟨o,cap,rfl,X,_,v⟩:=bT h.aW;obtain⟨g,rfl,Y,_,v⟩:=v aA;have T:Hid (∀W,Bl w W->∀i u,(uQ L)[i]?=some u->W.cell? (Ad g i)=some u):=λW s i u d=>eR s (v i u d);have Q:Hid (∀W,Bl w W->W.cell? (Ad yb 4)=some (Sl g L.length cap)/\W.frozen? (Ad yb 4)=false):=λW s=>⟨aD (h.below s).cell rfl,cK (h.below s).cell _⟩;have D:=CQ (base:=w.heap.size) (e:=86) (size:=4) w #[] 0 aZ eP rfl;have E:Bl w (w.alloc (.cells #[] 86)):=aV.al _;have hA':=hid B;have⟨y1,_⟩:=Q.out w aV;have a6:=aN h.cell;clear B;go_enter func68,ntmps68;go_wp2_with fail;apply ku hA'.out;rintro e G ⟨rfl,rfl⟩;go_wp2_with (at_builtin;refine jz _ rfl _ _ 77 rfl G.heap.size 86 i0 _ 4 56 underlying77 XF nI nJ nS rfl aG _ _ _ rfl D (Ad g 0) k cap ((uQ L).take (k*4)) rfl ?q1 ?q2 (λu d=>r u (GC d)) eP aA aF ?_)
  case q1=>rw[KA _ _ aA,uQ,eN J1 4 λ_=>rfl,kV];omega
  case q2=>
   intro j u K;rw[oZ,fE];rw[BH]at K;split at K
   .exact T.out _ E j u K
   .cases K
  intro v4 M c m _;have I:Bl G M:=E.grown m aF (λk e=>by cases e;exact aZ);obtain⟨y2,f2⟩:=Q.out M I;have y:=I.size;obtain⟨J,a1,f⟩:∃J,(if cap=k+1 then some ((Ad g 0):bC)else some (Ad g ((k+1)*4)))=some (Ad g J)/\∀i u,((uQ L).drop ((k+1)*4))[i]?=some u->M.cell? (((Ad g J):bC).add i)=some u:=by
   have H:(uQ L).length=L.length*4:=eN J1 4 (λ_=>rfl) L;by_cases e:cap=k+1
   .refine⟨0,by rw[bY e],λi u d=>?_⟩;rw[ux aA]at d;simp at d
   .refine⟨(k+1)*4,by rw[bN e],λi u d=>?_⟩;rw[oZ];rw[uN]at d;exact T.out M I _ u d
  have t:((uQ L).drop ((k+1)*4)).length=(L.length-(k+1))*4:=by rw[nZ,uQ,eN J1 4 λ_=>rfl];omega
  replace f:Hid _:=f;replace t:Hid _:=t;go_wp2_with (at_builtin;refine jz _ rfl _ _ 77 rfl G.heap.size 86 i0 _ 4 56 underlying77 XF nI nJ nS rfl aG _ _ _ rfl c (Ad g J) (L.length-(k+1)) (cap-(k+1)) ((uQ L).drop ((k+1)*4)) ?q3 t.out f.out (λu d=>r u (sN d)) eP aA y ?_)
  case q3=>rw[x];rfl
  intro Z w5 a q _;have R:=I.grown q y λk e=>(c.lt k e).1;have⟨y3,f3⟩:=Q.out w5 R;have A:Hid _:=h.store (aH.aS R) (S':={S with aW:=S.aW.filter λp=>decide (p.name≠name)}) ⟨rfl,rfl,rfl,rfl⟩ (VB:=Z) (L':=L.take k++L.drop (k+1)) (by rw[ml,List.map_take,List.map_drop,h.hL,<-F];exact erase_filter N.nodup z) (by
    have e1:(L.take k++L.drop (k+1)).length=k+(L.length-(k+1)):=bI;have e2:uQ (L.take k++L.drop (k+1))=(uQ L).take (k*4)++(uQ L).drop ((k+1)*4):=by rw[KA _ _ aA,Tb _ _ aA];simp[uQ]
    rw[e1,e2,x];exact gY a cC) (λb s=>.inr (a.lt b s).1) (λl H=>.inl ⟨l,xK H,rfl,rfl⟩) (λl H=>bX.below (h.eE l (xK H)) R) (h.apart.sublist (by rw[<-List.eraseIdx_eq_take_drop_succ];exact List.eraseIdx_sublist _ _))
  obtain⟨o5,V,rfl,_⟩:=bT (gY a cC);go_wp2;go_ret;exact⟨rfl,A.out⟩
end
def Kk(ret room:Int):Bool:=decide (0<=ret/\ret<=100000/\1<=room/\room<=60)
theorem EY(ret room w):
  Calls prog 104 #[Iv ret,Iv room] w λe g=>Bl w g/\((Kk ret room=false/\e=.returned (.pointer none))\/(Kk ret room=true/\e=.returned (Pt w.heap.size)/\uU (λb=>w.heap.size<=b) (kJ ret room) w.heap.size g)):=by
 by_cases h:0<=ret/\ret<=100000/\1<=room/\room<=60
 .have a:=jS h;have⟨f,c,d,i⟩:=h;have h1':¬ret<0:=aA;have h2':¬100000<ret:=aA;have Yv:¬room<1:=aA;have h4':¬60<room:=aA;replace a:Hid _:=a;go_enter func104,ntmps104;go_wp2;go_ret;refine⟨aV.al _,.inr ⟨a.out,rfl,.slice none 0 0,.slice none 0 0,[],[],?_⟩⟩;refine⟨?_,rfl,rfl,fI _ _ _ _,fI _ _ _ _,aF,aF,aF,List.Pairwise.nil,aZ,by simp[Value.ownBlock],by simp[Value.ownBlock],aF⟩;exact aQ _ _ _ rfl
 .have a:=j_ h;replace a:Hid _:=a;obtain f|f:=Int.lt_or_le ret 0
  .clear h;go_enter func104,ntmps104;go_wp2;go_ret;exact⟨aV,.inl ⟨a.out,rfl⟩⟩
  have h1':¬ret<0:=aA;obtain c|c:=Int.lt_or_le 100000 ret
  .clear h;go_enter func104,ntmps104;go_wp2;go_ret;exact⟨aV,.inl ⟨a.out,rfl⟩⟩
  have h2':¬100000<ret:=aA;obtain d|d:=Int.lt_or_le room 1
  .clear h;go_enter func104,ntmps104;go_wp2;go_ret;exact⟨aV,.inl ⟨a.out,rfl⟩⟩
  have Yv:¬room<1:=aA;have i:60<room:=aA;go_enter func104,ntmps104;go_wp2;go_ret;exact⟨aV,.inl ⟨a.out,rfl⟩⟩
def ra(ops:aU Oper)(i d:Nat)(op:Op):Prop:=∃o,ops[i]?=some o/\o.dst=some d/\o.op=op/\o.guard=none
section
variable{P:Program}{K:bU->aC->Prop}{b:Frame}{k:aB Item}{cs:aB Frame}{A:Act}{w:aC}{ops:aU Oper}{i d:Nat}{rest:aB Nat}{v:aE}
theorem Rq(A:Act)(d v)(a:d<A.tmps.size):(A.put (some d) v).tmps.size=A.tmps.size/\(A.put (some d) v).defers=A.defers/\(A.put (some d) v).tmps[d]?=some v/\∀j,j≠d->(A.put (some d) v).tmps[j]?=A.tmps[j]?:=by
 refine⟨by simp[Act.put],rfl,by simp[Act.put,a],λj b=>?_⟩;simp only[Act.put,Array.getElem?_setIfInBounds];rw[bN λe=>b e.symm]
theorem Ti{j:Nat}(h:A.tmps[j]?=some v):A.eval (.tmp j)=v:=by
 show A.tmps.getD j undef=v;rw[JY,h];rfl
theorem Le{o y}(h:o.guard=none):Region.wanted o y=true:=by
 unfold Region.wanted;rw[h]
theorem aJ.isVal(g:Plain P){op}(h:ra ops i d op)(c:∀o,o.op=op->∀w,(execOp A.eval o).run P w=.ok (.value v) w)(hi:∀a∈k,cY a)(f:∀e∈cs,bK e)
  (j:aJ P K (G (b.at (A.put (some d) v) (.inRegion ops rest::k)) cs) w):aJ P K (G (b.at A (.inRegion ops (i::rest)::k)) cs) w:=by
 let⟨o,h1,h2,h3,h4⟩:=h;apply aJ.val g (w':=w) (v:=v) h1 (Le h4) (λl d=>c o h3 _) hi f;rw[h2];exact j
theorem aJ.asg(j:Plain P){x}(h:ra ops i d (.assign x))(a:A.eval x=v)(hi:∀c∈k,cY c)(g:∀f∈cs,bK f)
  (l:aJ P K (G (b.at (A.put (some d) v) (.inRegion ops rest::k)) cs) w):aJ P K (G (b.at A (.inRegion ops (i::rest)::k)) cs) w:=
 aJ.isVal j h (λo e w=>by unfold execOp;rw[e,<-a];rfl) hi g l
end
section
variable{K:bU->aC->Prop}{b:Frame}{k:aB Item}{cs:aB Frame}{A:Act}{w:aC}{ops:aU Oper}{i d:Nat}{rest:aB Nat}{v:aE}
end
end Ev
namespace Ev
open Go.Deep (BT)
def oR:a_:=⟨#[112]⟩
def B3:a_:=⟨#[79,91,50,44,53,93,97]⟩
def K4:a_:=⟨#[89,91,48,44,57,93,97]⟩
def headA:aB a_:=[⟨#[97]⟩]
def Jc:f_:=kJ 10 20
def ye:f_:=(kO Jc oR B3).2.2
def yf:f_:=jf ye 0 headA
def Bb:f_:=jf yf 3 []
def l8:f_:=jf Bb 9 []
def Jd:f_:=(gi l8 oR K4).2.2
def vdT(v:Vd):Int×Int×Int×Bool:=(v.ev,v.time,v.cP,v.ok)
theorem TC:((kO Jc oR B3).1.map vdT,(kO Jc oR B3).2.1)=([],0):=aL
theorem TD:eJ ye 0 headA=0:=aL
theorem TE:eJ yf 3 []=0:=aL
theorem TF:eJ Bb 9 []=0:=aL
theorem K5:((gu l8 oR).1.map vdT,(gu l8 oR).2)=([(1,0,1,false),(2,3,1,true),(3,9,1,false)],0):=aL
theorem El:((gi l8 oR K4).1.map vdT,(gi l8 oR K4).2.1,Fw Jd)=([(1,0,2,false),(2,3,2,true),(3,9,2,false)],0,2):=aL
end Ev
end Go.Proofs.YtpbbmagjhkakgaaGreatDoor
