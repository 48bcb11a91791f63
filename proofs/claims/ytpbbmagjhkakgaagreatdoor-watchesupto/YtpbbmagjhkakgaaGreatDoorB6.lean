import Derived.Test.YtpbbmagjhkakgaaGreatDoorA8
import Derived.Test.YtpbbmagjhkakgaaGreatDoorB1
import Derived.Deep.RegionHeld3
namespace Go.Proofs.YtpbbmagjhkakgaaGreatDoor
set_option maxHeartbeats 4000000
open Tryz Go.RowKit Go.Deep Go.Maps
theorem fW{P f o a w K Q E}
  (I:o.guard=none) (s x t) (l:o.op=Op.call {callee:=Callee.builtin Builtin.append,args:=#[s,x],argTypes:=#[t,t]})
  (base e i z size bytes) (G:P.underlying t=some (.slice e)) (q:P.info? e=some i) (N:i.zero=some z) (D:i.size=size) (M:i.bytes=bytes) (B:z.cells.size=size) (R:0<size)
  (v n xs) (L:a.eval s=v) (d:w.ownsRow base e size v n xs)
  (k m c news) (C:a.eval x=.slice (some k) m c) (y:news.length=m*size) (H:∀j u,news[j]?=some u->w.cell? (k.add j)=some u) (p:∀u∈news,u.oneCell'=true)
  (A:n+m<=maxLen) (r:(n+m)*bytes<=140737488355328) (T:base<=w.heap.size)
  (S:∀b g,g.ownsRow base e size b (n+m) (xs++news)->w.grownBy g v.ownBlock->(b.ownBlock=v.ownBlock\/b.ownBlock=some w.heap.size)->K (a.put o.dst b) g):
  if Region.wanted o (yielded f a.tmps)=true then Oper.wp P o a w K Q else E:=by
 let hw:Region.wanted o (yielded f a.tmps)=true:=by simp[Region.wanted,I]
 rw[bY hw];obtain⟨b,g,h,O,J,_,F⟩:=run_append_own_at (P:=P) w base t o.type e i z size bytes G q N D M B R v n xs d k m c news y H p A r T;unfold Oper.wp;simp[execOp,l,resolve,invoke,builtin,L,C,h,Result.andThen];exact S b g O J F
def jV(k:Key):aB aE:=[.int .i32 k.op,.string k.name,Iv k.lo,Iv k.hi,Iv k.l,Iv k.r]
def mA(K:aB Key):aB aE:=(K.map jV).flatten
theorem Nx(K k):mA (K++[k])=mA K++jV k:=by simp[mA]
theorem T7(k):∀u∈jV k,u.oneCell'=true:=by
 intro u a;simp[jV]at a;rcases a with rfl|rfl|rfl|rfl|rfl|rfl<;>rfl
theorem Lb:(prog.info? 226).map (λi=>(i.zero,i.size,i.bytes))=some (some (.agg #[.int .i32 0,.string ⟨#[]⟩,Iv 0,Iv 0,Iv 0,Iv 0]),6,56):=aL
def gq(B tb mb:Nat)(a:aE)(w:aC)(K:aB Key):Prop:=
 w.heap[tb]?=some (.cells #[.map (some mb),a] 97 (0,0))/\mL mb w K/\w.ownsRow B 226 6 a K.length (mA K)/\B<=tb/\B<=mb
def CU(tb mb:Nat)(a:aE)(k:Nat):Prop:=k≠tb/\k≠mb/\a.ownBlock≠some k
theorem cE{w:aC}{base size n g e v xs}(h:w.ownsRow base e size v n xs)(b:v.ownBlock=some g):∃a,w.heap[g]?=some (.cells a e (0,0)):=by
 obtain⟨_,⟨rfl,_⟩|⟨d,cap,a,rfl,_,c,_⟩⟩:=h
 .cases b
 .cases b;exact⟨a,c⟩
theorem mL.isMap{mb w K}(h:mL mb w K):∃b a,w.heap[mb]?=some (.map b a):=by
 obtain⟨n,D,⟨b,a,c,_⟩,_⟩:=h;exact⟨b,a,c⟩
theorem gq.free{B tb mb i g w K p e m}(h:gq B tb mb g w K)(d:w.heap[i]?=some (.cells p e m))(n:e≠97)(j:e≠226):CU tb mb g i:=by
 obtain⟨a,c,o,_,_⟩:=h;obtain⟨q,f,c⟩:=c.isMap;refine⟨?_,?_,?_⟩
 .rintro rfl;rw[d]at a;injection a with a;injection a with _ a _;exact n a
 .rintro rfl;rw[d]at c;cases c
 .intro l;obtain⟨k,b⟩:=cE o l;rw[d]at b;injection b with b;injection b with _ b _;exact j b
theorem gq.tne{B tb mb f w K}(h:gq B tb mb f w K):tb≠mb/\f.ownBlock≠some tb/\f.ownBlock≠some mb:=by
 obtain⟨i,b,g,_,_⟩:=h;obtain⟨j,c,b⟩:=b.isMap;refine⟨?_,?_,?_⟩
 .rintro rfl;rw[i]at b;cases b
 .intro d;obtain⟨e,a⟩:=cE g d;rw[i]at a;injection a with a;injection a with _ a _;exact absurd a aG
 .intro d;obtain⟨e,a⟩:=cE g d;rw[b]at a;cases a
theorem gq.Zu{B tb mb a w K}(h:gq B tb mb a w K):tb<w.heap.size:=aN h.1
theorem gq.mlt{B tb mb a w K}(h:gq B tb mb a w K):mb<w.heap.size:=h.2.1.lt
theorem gq.base{B tb mb a w K}(h:gq B tb mb a w K):B<=w.heap.size:=by have:=h.Zu;have:=h.2.2.2.1;omega
theorem gq.fresh{B tb mb X a w K}(h:gq B tb mb a w K)(d:w.heap.size<=X):CU tb mb a X:=by
 let e:=h.Zu;let c:=h.mlt;refine⟨aA,aA,λb=>?_⟩;have:=(h.2.2.1.lt X b).2;omega
theorem eF{w w':aC}{base size n e v xs}(h:w.ownsRow base e size v n xs)(j:∀k,v.ownBlock=some k->w'.heap[k]?=w.heap[k]?):w'.ownsRow base e size v n xs:=by
 obtain⟨b,⟨rfl,c⟩|⟨g,cap,a,rfl,i,d,f⟩⟩:=h
 .exact⟨b,.inl ⟨rfl,c⟩⟩
 .exact⟨b,.inr ⟨g,cap,a,rfl,i,by rw[j g rfl];exact d,f⟩⟩
theorem gq.heap{B tb mb a w w' K}(h:gq B tb mb a w K)(b:∀k,k<w.heap.size->¬CU tb mb a k->w'.heap[k]?=w.heap[k]?):gq B tb mb a w' K:=by
 let j:=h.Zu;let e:=h.mlt;obtain⟨i,g,c,l⟩:=h;refine⟨by rw[b tb j λf=>f.1 rfl];exact i,g.heap (b mb e λf=>f.2.1 rfl),eF c λk d=>b k (c.lt k d).2 λf=>f.2.2 d,l⟩
theorem gq.below{B tb mb a w b K}(h:gq B tb mb a w K)(c:Bl w b):gq B tb mb a b K:=h.heap λk d _=>c.block k d
structure jT(B tb mb:Nat)(nv nv':aE)(w w':aC):Prop where
 below:Below B w w'
 block:∀k,k<w.heap.size->CU tb mb nv k->w'.heap[k]?=w.heap[k]?/\CU tb mb nv' k
theorem jT.refl(B tb mb a w):jT B tb mb a a w w:=⟨aV,λ_ _ h=>⟨rfl,h⟩⟩
theorem jT.size{B tb mb d c a b}(h:jT B tb mb d c a b):a.heap.size<=b.heap.size:=h.below.size
theorem jT.trans{B tb mb f d e a b c}(h:jT B tb mb f d a b)(g:jT B tb mb d e b c):jT B tb mb f e a c:=
 ⟨h.below.trans g.below,λk i n=>by
  obtain⟨j,l⟩:=h.block k i n
  obtain⟨m,o⟩:=g.block k (fZ i h.size) l
  exact⟨m.trans j,o⟩⟩
theorem jT.drew{B tb mb d c a b}(h:jT B tb mb d c a b):jT B tb mb d c a b.drew:=⟨h.below.drew,h.block⟩
theorem jT.alloc{B tb mb d c a b}(h:jT B tb mb d c a b)(j:B<=a.heap.size)(o):jT B tb mb d c a (b.alloc o):=
 ⟨h.below.alloc (gH j h.size) o,λk e i=>by
  obtain⟨f,g⟩:=h.block k e i
  exact⟨(ij _ _ _ (fZ e h.size)).trans f,g⟩⟩
theorem jT.mg{B tb mb d c a b}(h:jT B tb mb d c a b)(j:B<=a.heap.size){p}(e:a.heap.size<=p.block)(u):jT B tb mb d c a (b.setCell p u):=
 ⟨h.below.setCell (gH j e) u,λk l i=>by
  obtain⟨f,g⟩:=h.block k l i
  exact⟨(mE _ _ _ _ aA).trans f,g⟩⟩
theorem bG.keep{f B tb mb:Nat}{g c:aE}{w i:aC}{K:aB Key}(a:gq B tb mb g w K)(d:jT B tb mb g c w i):∀{x:BT dD}{v:aE},bG 143 f w x v->bG 143 f i x v
 |.nil,_,h=>h
 |.node _ _ _ l r,_,⟨j,n,p,e,o,b,k,m⟩=>⟨j,n,p,e,o,by rw[(d.block j (aN b) (a.free b aG aG)).1];exact b,bG.keep a d (x:=l) k,bG.keep a d (x:=r) m⟩
theorem Only.aav{s o a w}(h:Only s a w)(u):Only s a (w.setCell (Ad s o) u):=h.setCell (p:=(Ad s o)) (.inl rfl) u
theorem Fa{Q:Exit->Act->aC->bQ}{e a W}{F:aC->bQ}(c:F W)(h:∀b,F b->Q e a b):Q e a W:=h W c
def Sx(X:Nat)(w:aC):Prop:=w.heap[X]?=some (.cells #[.int .i32 0,.string ⟨#[]⟩,Iv 0,Iv 0,Iv 0,Iv 0] 226 (0,0))
theorem Sx.facts{X w}(h:Sx X w):(w.cell? (Ad X 0)=some (.int .i32 0)/\w.cell? (Ad X 1)=some (.string ⟨#[]⟩)/\w.cell? (Ad X 2)=some (Iv 0)/\w.cell? (Ad X 3)=some (Iv 0)/\w.cell? (Ad X 4)=some (Iv 0)/\w.cell? (Ad X 5)=some (Iv 0))
  /\(w.frozen? (Ad X 0)=false/\w.frozen? (Ad X 1)=false/\w.frozen? (Ad X 2)=false/\w.frozen? (Ad X 3)=false/\w.frozen? (Ad X 4)=false/\w.frozen? (Ad X 5)=false):=
 ⟨⟨aD h rfl,aD h rfl,aD h rfl,aD h rfl,aD h rfl,aD h rfl⟩,⟨cK h 0,cK h 1,cK h 2,cK h 3,cK h 4,cK h 5⟩⟩
theorem jT.bare{X B tb mb b a w c}(g:jT B tb mb b a w c)(h:Sx X w)(d:CU tb mb b X):Sx X c/\CU tb mb a X:=by
 obtain⟨e,f⟩:=g.block X (aN h) d;exact⟨by unfold Sx;rw[e];exact h,f⟩
def SJ(x:BT dD):Prop:=∀(v:aE)(d B tb mb:Nat)(b:aE)(K:aB Key)(w:aC),bG 143 d w x v->(x=.nil\/Good x)->gq B tb mb b w K->K.length+cF x<=1000000000000->
 Calls prog 83 #[Pt tb,v] w λe c=>e=.returned (Iv (cO K x).1)/\∃a,gq B tb mb a c (cO K x).2/\jT B tb mb b a w c
theorem WR(p w):Calls prog 83 #[p,.pointer none] w λe a=>e=.returned (Iv 0)/\a=w:=by
 go_enter func83,ntmps83;go_wp2_with fail;go_ret;exact⟨rfl,rfl⟩
theorem gq.grown{B tb mb X c v'}{W W1 b:aC}{K k o}(h:gq B tb mb c W K)(u:X<W.heap.size)(A:CU tb mb c X)(n:W1.heap=W.heap)
  (d:b.ownsRow B 226 6 v' (K.length+1) (mA K++jV k)) (v:(W1.alloc o).grownBy b c.ownBlock):
  (∃g cap,v'=Sl g (K.length+1) cap/\g≠tb/\g≠mb)/\b.heap[tb]?=some (.cells #[.map (some mb),c] 97 (0,0))/\b.heap[mb]?=W.heap[mb]?/\b.heap[X]?=W.heap[X]?:=by
 obtain⟨D,w,x⟩:=h.tne;let z:=h.Zu;let t:=h.mlt;let l:∀k,k<W.heap.size->c.ownBlock≠some k->b.heap[k]?=W.heap[k]?:=by
  intro k r p;let j:k<W1.heap.size:=n▸r;rw[v.block k bI λe=>p e.symm,ij _ _ _ j,n]
 let f:b.heap[tb]?=some (.cells #[.map (some mb),c] 97 (0,0)):=l tb z w▸h.1;let i:b.heap[mb]?=W.heap[mb]?:=l mb t x;refine⟨?_,f,i,l X u A.2.2⟩;obtain⟨_,⟨_,E⟩|⟨g,cap,q,s,_,a,_⟩⟩:=d
 .omega
 .refine⟨g,cap,s,?_,?_⟩
  .rintro rfl;rw[f]at a;injection a with a;injection a with _ a _;exact absurd a aG
  .rintro rfl;obtain⟨C,m,y⟩:=h.2.1.isMap;rw[i,y]at a;cases a
theorem Wu(w:aC)(k e):∀j u,(jV k)[j]?=some u->(w.alloc (.cells #[.int .i32 k.op,.string k.name,Iv k.lo,Iv k.hi,Iv k.l,Iv k.r] e)).cell? (((Ad w.heap.size 0):bC).add j)=some u:=by
 intro j u a;let b:=aQ w (.cells #[.int .i32 k.op,.string k.name,Iv k.lo,Iv k.hi,Iv k.l,Iv k.r] e (0,0)) _ rfl;have:((Ad w.heap.size 0):bC).add j=(Ad w.heap.size j):=by simp[Addr.add];omega
 rw[this];exact aD b (by simpa[jV]using a)
theorem QS{w:aC}{k u v x e m}(h:w.heap[k]?=some (.cells #[x,u] e m)):(w.setCell (Ad k 1) v).heap[k]?=some (.cells #[x,v] e m):=by
 simp[World.setCell,uy,h]
theorem gq.YW{B tb mb g cap i W W1 w' f K k o}(h:gq B tb mb i W K)(w:W1.heap=W.heap)(G:Below B W W1)
  (b:w'.ownsRow B 226 6 (Sl g (K.length+1) cap) (K.length+1) (mA K++jV k)) (u:(W1.alloc o).grownBy w' i.ownBlock)
  (t:(Sl g (K.length+1) cap).ownBlock=i.ownBlock\/(Sl g (K.length+1) cap).ownBlock=some (W1.alloc o).heap.size) (E:g≠tb) (D:g≠mb)
  (r:w'.heap[tb]?=some (.cells #[.map (some mb),i] 97 (0,0))) (v:mL mb f (K++[k])) (d:Only mb (w'.setCell (Ad tb 1) (Sl g (K.length+1) cap)).drew f):
  gq B tb mb (Sl g (K.length+1) cap) f (K++[k])/\jT B tb mb i (Sl g (K.length+1) cap) W f:=by
 obtain⟨L,O,P⟩:=h.tne;let Q:=h.Zu;let N:=h.mlt;let I:W1.heap.size=W.heap.size:=by rw[w]
 let J:=u.size;simp at J;let l:g<w'.heap.size:=(b.lt g rfl).2;let c:(w'.setCell (Ad tb 1) (Sl g (K.length+1) cap)).drew.heap.size=w'.heap.size:=by simp[World.setCell]
 let M:∀q,q<W.heap.size->i.ownBlock≠some q->w'.heap[q]?=W.heap[q]?:=by
  intro q a F;let m:q<W1.heap.size:=w▸a;rw[u.block q bI λe=>F e.symm,ij _ _ _ m,w]
 let A:∀q,q<w'.heap.size->q≠tb->q≠mb->f.heap[q]?=w'.heap[q]?:=by
  intro q a n j;rw[d.block q (c▸a) j];exact mE _ _ _ _ n
 refine⟨⟨?_,v,?_,h.2.2.2⟩,⟨?_,?_⟩⟩
 .rw[d.block tb (by rw[c];omega) L];exact QS r
 .rw[Nx];have:=eF (w':=f) b (λq a=>by cases a;exact A g l E D);simpa using this
 .let C:Below B W w':=(G.alloc (by have:=h.base;omega) o).grown u (by have:=h.base;simp;omega) λq a=>(h.2.2.1.lt q a).1;let H:Below B W (w'.setCell (Ad tb 1) (Sl g (K.length+1) cap)).drew:=(C.setCell (p:=(Ad tb 1)) h.2.2.2.1 _).drew;exact H.trans (d.below h.2.2.2.2 (by rw[c];have:=h.base;omega))
 .rintro q a ⟨z,x,y⟩;refine⟨(A q aA z x).trans (M q a y),z,x,?_⟩;rcases t with e|e
  .rw[e];exact y
  .rw[e];intro s;injection s with s;simp at s;omega
def X7(B tb mb:Nat)(e b:aE)(w:aC)(f:aB Key)(a:dD)(c d:Int)(X:Nat)(W:aC):Prop:=gq B tb mb b W f/\(W.cell? (Ad X 0)=some (.int .i32 a.op)/\W.cell? (Ad X 1)=some (.string a.name)/\W.cell? (Ad X 2)=some (Iv a.lo)/\W.cell? (Ad X 3)=some (Iv a.hi)/\W.cell? (Ad X 4)=some (Iv c)/\W.cell? (Ad X 5)=some (Iv d))/\X<W.heap.size/\jT B tb mb e b w W
theorem zk{T:bQ}(h:T:=by repeat(with_reducible (first|refine jT.mg ?_ Zo aZ _|refine jT.mg ?_ Zo z1 _|refine jT.mg ?_ Zo z2 _|refine jT.alloc ?_ Zo _|refine jT.drew ?_|refine jT.trans ?_ Sq|refine jT.trans ?_ Zr|exact jT.refl _ _ _ _ _))):T:=h
theorem zon{T:bQ}(h:T:=by repeat(with_reducible (first|refine Only.aav ?_ _|refine Only.alloc ?_ _|exact Only.refl _ _))):T:=h
theorem zV(Z o0:Nat)(a:dD)(l r:BT dD)(il:SJ l)(ir:SJ r)(gl:l=.nil\/Good l)(gr:r=.nil\/Good r)(v:aE)(O B tb mb:Nat)(z:aE)(K:aB Key)(w:aC)(hs:bG 143 O w (.node Z o0 a l r) v)
  (L:∀p q:Int,0<=p->p<=1000000000000000000->0<=q->q<=1000000000000000000->Key.OK ⟨a.op,a.name,a.lo,a.hi,p,q⟩) (U:gq B tb mb z w K) (az:K.length+(cF l+cF r+1)<=1000000000000):
  Calls prog 83 #[Pt tb,v] w λe w'=>e=.returned (Iv (cO K (.node Z o0 a l r)).1)/\∃d,gq B tb mb d w' (cO K (.node Z o0 a l r)).2/\jT B tb mb z d w w':=by
 obtain⟨n,T,Q,rfl,hB,hh,hl,hr⟩:=hs;have aa:=U.free hh aG aG;have ak:=aN hh;have Zo:=U.base;have y:Hid (∀d w',jT B tb mb z d w w'->w'.cell? (Ad n 0)=some (.int .i32 a.op)/\w'.cell? (Ad n 1)=some (.string a.name)/\w'.cell? (Ad n 2)=some (Iv a.lo)/\w'.cell? (Ad n 3)=some (Iv a.hi)/\w'.cell? (Ad n 4)=some T/\w'.cell? (Ad n 5)=some Q/\w.heap.size<=w'.heap.size):=λd w' h=>by
  have V:w'.heap[n]?=_:=(h.block n ak aa).1.trans hh;exact⟨aD V rfl,aD V rfl,aD V rfl,aD V rfl,aD V rfl,aD V rfl,h.size⟩
 have HL:Hid (∀W:aC,bG 143 O W l T->gq B tb mb z W K->_):=λ(W:aC)(hW:bG 143 O W l T)(j:gq B tb mb z W K)=>il T O B tb mb z K W hW gl j aA;have bl:=ou l K;have HR:Hid (∀(f:aE)(W:aC),bG 143 O W r Q->gq B tb mb f W (cO K l).2->_):=λ(f:aE)(W:aC)(hW:bG 143 O W r Q)(j:gq B tb mb f W (cO K l).2)=>ir Q O B tb mb f (cO K l).2 W hW gr j aA;have br:=ou r (cO K l).2;have a8:Hid (cO K (.node Z o0 a l r)=rL (cO (cO K l).2 r).2 ⟨a.op,a.name,a.lo,a.hi,(cO K l).1,(cO (cO K l).2 r).1⟩):=rfl;generalize cO K (.node Z o0 a l r)=b6 at*;have J:Hid (∀d M,jT B tb mb z d w M->bG 143 O M r Q):=λd M h=>bG.keep U h hr;have Y:=L (cO K l).1 (cO (cO K l).2 r).1 aA aA aA aA;have H:CU tb mb z w.heap.size:=U.fresh aZ;obtain⟨i0,hi,an,ar,ag⟩:=eB Lb;clear L il ir hh aa;generalize(cO K l).1=A at*;generalize(cO K l).2=K1 at*;generalize(cO K1 r).1=C at*;generalize(cO K1 r).2=x at*;go_enter func83,ntmps83;go_wp2_with fail
 go_region_held3 (λw'=>w'.cell? (Ad n 0)=some (.int .i32 a.op)/\w'.cell? (Ad n 1)=some (.string a.name)/\w'.cell? (Ad n 2)=some (Iv a.lo)/\w'.cell? (Ad n 3)=some (Iv a.hi)/\w'.cell? (Ad n 4)=some T/\w'.cell? (Ad n 5)=some Q/\w.heap.size<=w'.heap.size)
  ((first|exact y.out b _ zk|exact y.out f _ zk|exact y.out z _ zk))
  (first
   |(go_at_call_of 83 (T);refine(HL.out _ ?_ ?_).mono ?_;(first|exact hl.below aV.drew|exact hl.below (aV.drew.al _));(first|exact U.below aV.drew|exact U.below (aV.drew.al _));rintro e R ⟨rfl,f,u,Zr⟩;have z1:w.heap.size<=R.heap.size:=gH aF Zr.size;(first|(have k1:=jT.bare Zr (X:=w.heap.size) (aQ _ _ _ rfl) H;obtain⟨⟨c0,c1,c2,c3,c4,c5⟩,⟨f0,f1,f2,f3,f4,f5⟩⟩:=k1.1.facts)|skip))
   |(go_at_call_of 83 (Q);refine(HR.out f _ ?_ ?_).mono ?_;exact J.out f _ zk;(first|exact u|exact u.below (aV.al _));rintro e w2 ⟨rfl,b,m,Sq⟩;have z2:w.heap.size<=w2.heap.size:=gH z1 (gH aF Sq.size);(first|(have k2:=jT.bare Sq k1.1 k1.2;obtain⟨⟨d0,d1,d2,d3,d4,d5⟩,⟨g0,g1,g2,g3,g4,g5⟩⟩:=k2.1.facts)|(have k3:=jT.bare Sq (X:=R.heap.size) (aQ _ _ _ rfl) (u.fresh aZ);obtain⟨⟨d0,d1,d2,d3,d4,d5⟩,⟨g0,g1,g2,g3,g4,g5⟩⟩:=k3.1.facts)|skip)))
 refine Fa (F:=X7 B tb mb z b w x a A C w2.heap.size) ⟨m.heap λk L hf=>Only.block (s:=w2.heap.size) zon k L aA,by and_intros<;>go_simp,aF,zk⟩ ?_;have G:CU tb mb b (w2.heap.size):=m.fresh aZ;rintro W ⟨j,⟨q0,q1,q2,q3,q4,q5⟩,hX,I⟩;clear y HL HR J hl hr u m Zr Sq H;generalize w2.heap.size=X at*
 rotate_left
 refine Fa (F:=X7 B tb mb z b w x a A C R.heap.size) ⟨m.heap λk L hf=>Only.block (s:=R.heap.size) zon k L λe=>hf (e▸k3.2),by and_intros<;>go_simp,fZ (aN k3.1) (Only.size (s:=R.heap.size) zon),zk⟩ ?_;have G:CU tb mb b (R.heap.size):=k3.2;rintro W ⟨j,⟨q0,q1,q2,q3,q4,q5⟩,hX,I⟩;clear y HL HR J hl hr u m Zr Sq H;generalize R.heap.size=X at*
 rotate_left
 refine Fa (F:=X7 B tb mb z b w x a A C w.heap.size) ⟨m.heap λk L hf=>Only.block (s:=w.heap.size) zon k L λe=>hf (e▸k2.2),by and_intros<;>go_simp,fZ (aN k2.1) (Only.size (s:=w.heap.size) zon),zk⟩ ?_;have G:CU tb mb b (w.heap.size):=k2.2;rintro W ⟨j,⟨q0,q1,q2,q3,q4,q5⟩,hX,I⟩;clear y HL HR J hl hr u m Zr Sq H;generalize w.heap.size=X at*
 rotate_left
 all_goals
  have hM:=j.2.1;have b4:W.cell? (Ad tb 0)=some (.map (some mb)):=aD j.1 rfl;have b8:W.cell? (Ad tb 1)=some b:=aD j.1 rfl;have aw:(x.length:Int)+1<=9223372036854775807:=aA;have c:∀M:aC,M.heap[mb]?=W.heap[mb]?->(Instr.lookup 94 (.map (some mb)) (.agg #[.int .i32 a.op,.string a.name,Iv a.lo,Iv a.hi,Iv A,Iv C]) true).run prog M=.ok (.tuple #[Iv (N1 x ⟨a.op,a.name,a.lo,a.hi,A,C⟩),.bool (rz x ⟨a.op,a.name,a.lo,a.hi,A,C⟩).isSome]) M:=λM h=>(hM.heap h).look ⟨a.op,a.name,a.lo,a.hi,A,C⟩ Y;have P:=a8.out;unfold rL at P;unfold N1 at c;cases hn:rz x ⟨a.op,a.name,a.lo,a.hi,A,C⟩with
  |some i=>
   rw[hn]at P c;have Z3:=PH hn;simp only[Option.isSome_some]at P c;have a6:=c W.drew rfl;clear c;subst P;go_wp2_with fail
   go_region
   go_wp2_with fail;go_ret;exact⟨rfl,b,j.heap λ_ _ _=>rfl,I.drew⟩
  |none=>
   rw[hn]at P c;simp only[Option.isSome_none]at P c;have a6:=c W.drew rfl;clear c;subst P;have S:=j.2.2.1;have b5:=j.base;have b7:x.length<=1000000000000:=aA;have b3:tb<W.heap.size:=j.Zu;have ay:tb≠W.heap.size:=aA;have aj:X≠tb:=G.1;have ax:tb≠X:=λe=>aj e.symm;go_wp2_with fail
   go_region
   go_wp2_with fail
   go_region_law (refine fW rfl (.tmp 50) (.tmp 52) 95 rfl B 226 i0 _ 6 56 underlying95 hi an ar ag rfl aG b x.length (mA x) (by simp[Act.eval]) (S.drew.drew.alloc _) (Ad W.heap.size 0) 1 1 (jV ⟨a.op,a.name,a.lo,a.hi,A,C⟩) (by simp[Act.eval]) rfl (Wu W.drew.drew ⟨a.op,a.name,a.lo,a.hi,A,C⟩ _) (T7 _) eP aA bI ?_;intro v' w' D E af;obtain⟨⟨g,N,rfl,au,ah⟩,o,ad,t⟩:=j.grown (W1:=W.drew.drew) hX G rfl D E;have d0:=aD (i:=0) o rfl;have d1:=aD (i:=1) o rfl;have b2:w'.frozen? (Ad tb 1)=false:=cK o 1;have r0:=(fP (a:=(Ad X 0)) t).trans q0;have r1:=(fP (a:=(Ad X 1)) t).trans q1;have r2:=(fP (a:=(Ad X 2)) t).trans q2;have r3:=(fP (a:=(Ad X 3)) t).trans q3;have r4:=(fP (a:=(Ad X 4)) t).trans q4;have r5:=(fP (a:=(Ad X 5)) t).trans q5)
   all_goals go_wp2_with fail
   all_goals
    obtain⟨W3,a1,ae,a7⟩:=mL.store (hM.heap (w':=(w'.setCell (Ad tb 1) (Sl g (x.length+1) N)).drew) ((mE _ _ _ _ λe=>j.tne.1 e.symm).trans ad)) ⟨a.op,a.name,a.lo,a.hi,A,C⟩ Y hn aA;have b1:(Instr.mapUpdate 94 (.map (some mb)) (.agg #[.int .i32 a.op,.string a.name,Iv a.lo,Iv a.hi,Iv A,Iv C]) (Iv ((x.length:Int)+1))).run prog (w'.setCell (Ad tb 1) (Sl g (x.length+1) N)).drew=.ok () W3:=a1;obtain⟨aq,ai⟩:=j.YW (W1:=W.drew.drew) rfl aV.drew.drew D E af au ah o ae a7;clear a1 a7 ae
    go_region
    go_wp2_with fail;go_ret;exact⟨rfl,_,aq,I.trans ai⟩
end Go.Proofs.YtpbbmagjhkakgaaGreatDoor
