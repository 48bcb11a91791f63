import Derived.Test.YtpbbmagjhkakgaaGreatDoorB6
import Derived.Test.YtpbbmagjhkakgaaGreatDoorB7
import Derived.Test.YtpbbmagjhkakgaaGreatDoorB8
namespace Go.Proofs.YtpbbmagjhkakgaaGreatDoor
set_option maxHeartbeats 2000000
set_option maxRecDepth 100000
open Tryz Go.RowKit Go.Deep Go.Maps
theorem Ji(a:dD)(p q)(b:mZ a.op\/a.op=116\/a.op=97)(c:a.name.size<=8)(g:0<=a.lo/\a.lo<=a.hi/\a.hi<=1000000)(d:0<=p/\p<=1000000000000000000)(f:0<=q/\q<=1000000000000000000):Key.OK ⟨a.op,a.name,a.lo,a.hi,p,q⟩:=
 ⟨by rcases b with(e|e|e|e|e|e|e)|e|e<;>(show(Lit.int .i32 a.op).wf=true;rw[e];decide),gH c aG,(show(Lit.int .i64 (a.lo)).wf=true from MJ aA),(show(Lit.int .i64 (a.hi)).wf=true from MJ aA),(show(Lit.int .i64 (p)).wf=true from MJ aA),(show(Lit.int .i64 (q)).wf=true from MJ aA)⟩
theorem vk:ByteArray.empty.size<=8:=aG
theorem Dt:∀x,SJ x:=by
 intro x
 induction x with
 |nil=>
  intro v u B tb mb h K w j _ i _;obtain rfl:v=.pointer none:=j;apply(WR _ w).m0;exact⟨rfl,h,i,jT.refl _ _ _ _ _⟩
 |node m o a l r z y=>
  intro v u B tb mb h K w j d i s;let d:Good (.node m o a l r):=by
   obtain d|d:=d
   .cases d
   .exact d
  let b:=s;obtain⟨n,k,t,C,rfl,rfl⟩|⟨n,⟨_,D,_⟩,t,C,rfl,rfl⟩|⟨n,k,t,C,A,E⟩|⟨n,k,t,C,A,rfl⟩:=d
  .exact zV m o a _ _ z y (.inl rfl) (.inl rfl) v u B tb mb h K w j (λp q e f c g=>Ji a p q (.inr (.inl n)) (k▸vk) aA ⟨e,f⟩ ⟨c,g⟩) i b
  .exact zV m o a _ _ z y (.inl rfl) (.inl rfl) v u B tb mb h K w j (λp q e f c g=>Ji a p q (.inr (.inr n)) D aA ⟨e,f⟩ ⟨c,g⟩) i b
  .exact zV m o a _ _ z y (.inr A) (.inr E) v u B tb mb h K w j (λp q e f c g=>Ji a p q (.inl (by unfold mZ;omega)) (k▸vk) t ⟨e,f⟩ ⟨c,g⟩) i b
  .exact zV m o a _ _ z y (.inr A) (.inl rfl) v u B tb mb h K w j (λp q e f c g=>Ji a p q (.inl (by unfold mZ;omega)) (k▸vk) t ⟨e,f⟩ ⟨c,g⟩) i b
def sX(B tb:Nat)(w:aC)(K:aB Key):Prop:=(w.heap[tb]?=some (.cells #[.map none,.slice none 0 0] 97 (0,0))/\K=[]/\B<=tb)\/∃mb a,gq B tb mb a w K
theorem sX.new(B)(w:aC)(a:B<=w.heap.size):sX B w.heap.size (w.alloc (.cells #[.map none,.slice none 0 0] 97 (0,0))) []:=.inl ⟨aQ _ _ _ rfl,rfl,a⟩
theorem sX.below{B tb w c K}(h:sX B tb w K)(b:Bl w c):sX B tb c K:=by
 obtain⟨f,a,e⟩|⟨mb,d,a⟩:=h
 .exact .inl ⟨b.aT f,a,e⟩
 .exact .inr ⟨mb,d,a.below b⟩
theorem GZ{w:aC}{k u v x e m}(h:w.heap[k]?=some (.cells #[u,x] e m)):(w.setCell (Ad k 0) v).heap[k]?=some (.cells #[v,x] e m):=by
 simp[World.setCell,uy,h]
theorem Om(x:BT dD)(v:aE)(h B tb:Nat)(K:aB Key)(w:aC)(u:bG 143 h w x v)(t:Good x)(j:h<=w.heap.size)(y:tb<h)(F:sX B tb w K)(c:K.length+cF (aO x)<=1000000000000):
  Calls prog 43 #[Pt tb,v] w λe C=>e=.returned (Iv (cO K (aO x)).1)/\sX B tb C (cO K (aO x)).2/\Below B w C:=by
 obtain⟨l,rfl⟩:∃l,v=Value.pointer l:=gZ u;let N:∀(w:aC)(r:aR Nat),(binOp .eql 94 (.map r) (.map none)).run prog w=.ok (.bool r.isNone) w:=λw r=>run_eql_map_nil w _ _ _ r underlying94;let z:=dK t;rcases F with⟨m,rfl,A⟩|⟨mb,G,n⟩
 .let s:w.cell? (Ad tb 0)=some (.map none):=aD m rfl;let H:w.frozen? (Ad tb 0)=false:=cK m 0;let q:=aN m;let D:tb≠w.heap.size:=aA;let k:(w.setCell (Ad tb 0) (.map (some w.heap.size))).heap.size=w.heap.size:=by simp[World.setCell]
  let b:Only tb w ((w.setCell (Ad tb 0) (.map (some w.heap.size))).alloc (.map #[] 0)):=((Only.refl tb w).setCell (p:=(Ad tb 0)) (.inl rfl) _).alloc _;let I:gq B tb w.heap.size (.slice none 0 0) ((w.setCell (Ad tb 0) (.map (some w.heap.size))).alloc (.map #[] 0)) []:=by
   refine⟨?_,?_,fI _ _ _ _,A,aA⟩
   .rw[ij _ _ _ (by rw[k];exact q)];exact GZ m
   .have:=mL.made (w.setCell (Ad tb 0) (.map (some w.heap.size)));rw[k]at this;exact this
  let J:=Jr x (.pointer l) h _ (u.only b y) t (gH j b.size);let E:(Instr.makeMap 94 none).run prog w=.ok (.map (some w.heap.size)) (w.alloc (.map #[] 0)):=rfl;go_enter func43,ntmps43;go_wp2_with fail;apply J.mono;rintro e o ⟨p,rfl,g,a⟩;go_wp2_with fail;refine(Dt (aO x) (.pointer p) h B tb w.heap.size (.slice none 0 0) [] o g (.inr z) (I.below a) c).m λM ⟨f,i,d⟩=>?_;go_wp2;go_ret;refine⟨rfl,.inr ⟨w.heap.size,f,i⟩,?_⟩;exact((b.below A aA).trans (a.mono (by have:=b.size;omega))).trans d.below
 .let s:w.cell? (Ad tb 0)=some (.map (some mb)):=aD n.1 rfl;let L:=n.base;go_enter func43,ntmps43;go_wp2_with fail;apply(Jr x (.pointer l) h w u t j).mono;rintro e o ⟨p,rfl,g,a⟩;go_wp2_with fail;refine(Dt (aO x) (.pointer p) h B tb mb G K o g (.inr z) (n.below a) c).m λM ⟨f,i,d⟩=>?_;go_wp2;go_ret;refine⟨rfl,.inr ⟨mb,f,i⟩,?_⟩;exact(a.mono aA).trans d.below
theorem AQ(B tb K w)(d:sX B tb w K):
  Calls prog 44 #[Pt tb] w λe i=>e=.returned (Iv (K.length:Int))/\i=w:=by
 obtain⟨b,rfl,_⟩|⟨mb,j,c⟩:=d
 .let a:w.cell? (Ad tb 1)=some (.slice none 0 0):=aD b rfl;go_enter func44,ntmps44;go_wp2;go_ret;exact⟨rfl,rfl⟩
 .obtain⟨b,_,⟨_,⟨rfl,f⟩|⟨g,cap,h,rfl,_⟩⟩,_⟩:=c
  .let a:w.cell? (Ad tb 1)=some (.slice none 0 0):=aD b rfl;rw[f];go_enter func44,ntmps44;go_wp2;go_ret;exact⟨rfl,rfl⟩
  .let a:w.cell? (Ad tb 1)=some (Sl g K.length cap):=aD b rfl;go_enter func44,ntmps44;go_wp2;go_ret;exact⟨rfl,rfl⟩
def BB(B b:Nat)(l:aB aX)(w:aC):Prop:=yG B b (Lib.byteCells l) w
def lO(B b:Nat)(l:aB aX)(w a:aC):Prop:=BB B b l a/\Below B w a/\Lib.OthersKept 5 (some b) w a
theorem lO.trans{B b l c w a d}(h:lO B b l w a)(k:lO B b c a d):lO B b c w d:=
 ⟨k.1,h.2.1.trans k.2.1,h.2.2.trans k.2.2⟩
theorem BB.at{B b l w}(h:BB B b l w):B<=b/\∃cs,w.heap[b]?=some (.cells cs 137 (0,0)):=by
 obtain⟨c,v,a,_⟩|⟨c,v,a,_⟩:=h
 .exact⟨c,_,a⟩
 .exact⟨c,_,a⟩
theorem NS{w a}(c:Bl w a)(e b):Lib.OthersKept e b w a:=λ_ _ d _ _=>c.aT d
theorem yG.below{B b d w e}(h:yG B b d w)(a:Bl w e):yG B b d e:=by
 let i:w.grownBy e none:=⟨a.os,a.tape,a.output,a.size,λk l _=>a.block k l⟩;let one:∀p,Lib.BuilderAtF 137 5 B b p d w->Lib.BuilderAtF 137 5 B b p d e:=by
  rintro p ⟨j,v,g,c,f⟩;refine⟨j,v,a.aT g,c.kept i ?_,f⟩;cases m:v.ownBlock with
  |none=>exact .inl rfl
  |some k=>exact .inr aF
 obtain h|h:=h
 .exact .inl (one _ h)
 .exact .inr (one _ h)
theorem lO.below{B b l w a d}(h:lO B b l w a)(c:Bl a d)(e:B<=a.heap.size):lO B b l w d:=
 ⟨h.1.below c,h.2.1.trans (c.mono e),h.2.2.trans (NS c _ _)⟩
theorem Hi{b a:Nat}{w g:aC}{e i:aU aE}{m mb:Nat×Nat}(d:w.heap[a]?=some (.cells e 143 m))(f:w.heap[b]?=some (.cells i 137 mb))(j:Lib.OthersKept 5 (some b) w g):g.heap[a]?=some (.cells e 143 m):=by
 apply j a _ d
 .intro h;injection h with h;subst h;rw[d]at f;simp at f
 .intro c k h;injection h with _ h;exact absurd h aG
theorem bG.others{b d:Nat}{w f:aC}{k:aU aE}{mb:Nat×Nat}(a:w.heap[b]?=some (.cells k 137 mb))(c:Lib.OthersKept 5 (some b) w f):∀{x:BT dD}{v:aE},bG 143 d w x v->bG 143 d f x v
 |.nil,_,h=>h
 |.node _ _ _ l r,_,⟨p,m,o,e,i,n,g,j⟩=>⟨p,m,o,e,i,Hi n a c,bG.others a c (x:=l) g,bG.others a c (x:=r) j⟩
theorem dP.oF{B w w'}(h:dP w)(b:Below B w w')(d:14<=B):dP w':=by
 let⟨⟨⟨t1,p1,c1⟩,⟨t2,p2,c2⟩⟩,⟨eb,eo,h2⟩,h3,⟨e,m,h4⟩⟩:=h;let c:∀k,k<14->w'.cell? (Ad k 0)=w.cell? (Ad k 0):=λk f=>fP (w:=w) (a:=(Ad k 0)) (b.block k aA);exact⟨⟨⟨t1,p1,by rw[c _ aG];exact c1⟩,⟨t2,p2,by rw[c _ aG];exact c2⟩⟩,⟨eb,eo,by rw[c _ aG];exact h2⟩,by rw[c _ aG];exact h3,⟨e,m,by rw[b.block _ aA];exact h4⟩⟩
theorem Y9{P name g w k a e m}(b:P.globalNamed name=some g)(h:w.heap[g]?=some (.cells (a.map λz=>Value.int k z).toArray e m)):Lib.TabIs P w name k a:=by
 unfold Lib.TabIs World.var?;rw[b];simp only[Option.bind_some,h]
theorem Lg(n)(c:-9223372036854775808<=n)(d:n<=9223372036854775807)(w)(b:dP w):
  Calls prog 166 #[Iv n] w λe a=>e=.returned (.string ⟨(Lib.itoa n).toArray⟩)/\Bl w a:=by
 let⟨_,_,_,⟨e,m,h4⟩⟩:=b;apply(strconv_Itoa n c d w (Y9 aL h4)).mono
 .rintro e a ⟨rfl,k,os,rfl⟩;refine⟨rfl,rfl,rfl,rfl,?_,?_⟩
  .simp[Sort.grow]
  .intro i hi;show(w.heap++os)[i]?=w.heap[i]?;rw[Array.getElem?_append_left hi]
theorem AM(l m):Lib.byteCells l++Lib.byteCells m=Lib.byteCells (l++m):=by simp[Lib.byteCells]
theorem RY(l):Lib.strCells ⟨l.toArray⟩=Lib.byteCells l:=by simp[Lib.strCells,Lib.byteCells]
theorem Fi(B b l c w)(h:BB B b l w)(a:l.length+1<=140737488355328)(d:B<=w.heap.size):
  Calls prog 163 #[Pt b,.int .u8 c.toNat] w λe f=>e=.returned .nilIface/\lO B b (l++[c]) w f:=by
 refine(Gy B b _ c.toNat w h (by rw[Lib.byteCells_length];exact a) d).m λf ⟨j,g,i⟩=>?_;exact⟨rfl,by unfold BB;rw[<-AM];exact j,g,i⟩
theorem Xd(B b l m w)(h:BB B b l w)(a:l.length+m.length<=140737488355328)(c:B<=w.heap.size):
  Calls prog 120 #[Pt b,.string ⟨m.toArray⟩] w λe d=>(∃n,e=.returned (.tuple #[Iv n,.nilIface]))/\lO B b (l++m) w d:=by
 refine(Df B b _ ⟨m.toArray⟩ w h (by rw[Lib.byteCells_length];simpa[ByteArray.size]using a) c).m λd ⟨i,f,g⟩=>?_;exact⟨⟨_,rfl⟩,by unfold BB;rw[<-AM,<-RY m];exact i,f,g⟩
theorem aaz(r)(g:mZ r)(B b l w)(h:BB B b l w)(a:l.length+4<=140737488355328)(c:B<=w.heap.size):
  Calls prog 164 #[Pt b,.int .i32 r] w λe d=>(∃n,e=.returned (.tuple #[Iv n,.nilIface]))/\lO B b (l++dO r) w d:=by
 refine(GA r g B b _ w h (by rw[Lib.byteCells_length];exact a) c).mono ?_;rintro e d ⟨⟨n,rfl⟩,j,f,i⟩;exact⟨⟨n,rfl⟩,by unfold BB;rw[<-AM];exact j,f,i⟩
theorem kh{B b d:Nat}{l h w c a m}(f:w.heap[d]?=some (.cells a 143 m))(g:BB B b l w)(e:lO B b h w c):c.heap[d]?=some (.cells a 143 m):=by
 let⟨_,cb,hc⟩:=g.at;exact Hi f hc e.2.2
theorem Ct(a)(n:mZ a.op)(G:0<=a.lo/\a.lo<=1000000)(M:0<=a.hi/\a.hi<=1000000)(B b x l F K w)
  (z:w.heap[x]?=some (.cells #[.int .i32 a.op,.string a.name,Iv a.lo,Iv a.hi,F,K] 143 (0,0))) (E:BB B b l w) (H:dP w) (c:14<=B) (r:B<=w.heap.size) (y:l.length<=100000000) (f:(uR a).length<=100000000):
  Calls prog 122 #[Pt x,Pt b] w λe J=>e=.returned (.tuple #[])/\lO B b (l++uR a) w J:=by
 let L:=aD (i:=0) z rfl;go_enter func122,ntmps122;go_wp2_with fail;apply(aaz a.op n B b l w E aA r).mono;rintro e O ⟨⟨n1,rfl⟩,d⟩;let t:=kh z E d;let Z:=d.2.1.size;let N:=yj a.op;let L:=aD (i:=0) t rfl;go_wp2_with fail;apply(rv a.op _).m0;cases hw:mi a.op with
 |false=>
  let m:Hid (uR a=dO a.op):=by show _=_;unfold uR;rw[hw];rfl
  go_wp2
  go_end0
  exact⟨rfl,by rw[m.out];exact d⟩
 |true=>
  let m:Hid (uR a=dO a.op++[91]++Lib.itoa a.lo++[44]++Lib.itoa a.hi++[93]):=by show _=_;unfold uR;rw[hw];rfl
  let q:(dO a.op).length+(Lib.itoa a.lo).length+(Lib.itoa a.hi).length<=100000000:=by have:=m.out;rw[this]at f;simp at f;omega
  go_wp2_with fail;refine(Fi B b _ 91 _ d.1 bI aA).m λw2 h=>?_;let v:=kh t d.1 h;let T:=h.2.1.size;let s:=(H.oF d.2.1 c).oF h.2.1 c;let c2:=aD (i:=2) v rfl;go_wp2_with fail;refine(Lg a.lo aA aA _ s).m λQ g=>?_;let R:=g.size;let p:=(d.trans h).below g aA;go_wp2_with fail;apply(Xd B b _ (Lib.itoa a.lo) _ p.1 bI aA).mono;rintro e w4 ⟨⟨X,rfl⟩,j⟩;let W:=j.2.1.size;let o:=p.trans j;go_wp2_with fail;refine(Fi B b _ 44 _ o.1 bI aA).m λS k=>?_;let Y:=k.2.1.size;let c3:=aD (i:=3) (kh (kh (g.aT v) p.1 j) o.1 k) rfl;go_wp2_with fail;refine(Lg a.hi aA aA _ (((s.below g).oF j.2.1 c).oF k.2.1 c)).m λP D=>?_;let z6:=D.size;let u:=(o.trans k).below D aA;go_wp2_with fail;apply(Xd B b _ (Lib.itoa a.hi) _ u.1 bI aA).mono;rintro e w7 ⟨⟨n7,rfl⟩,A⟩;let U:=A.2.1.size;let C:=u.trans A;go_wp2_with fail;refine(Fi B b _ 93 _ C.1 bI aA).m λV I=>?_;go_wp2
  go_end0
  exact⟨rfl,by rw[m.out];simpa using(C.trans I)⟩
def IV(x:BT dD):Prop:=∀(v:aE)(a B b:Nat)(l:aB aX)(w:aC),bG 143 a w x v->Good x->BB B b l w->dP w->14<=B->B<=w.heap.size->l.length+(bF x).length<=100000000->
 Calls prog 81 #[v,Pt b] w λe c=>e=.returned (.tuple #[])/\lO B b (l++bF x) w c
theorem nW{B b a:Nat}{l h:aB aX}{w c:aC}{x:BT dD}{v:aE}(e:bG 143 a w x v)(f:BB B b l w)(d:lO B b h w c):bG 143 a c x v:=by
 obtain⟨_,i,g⟩:=f.at;exact bG.others g d.2.2 e
theorem Gz(a:dD)(x y:BT dD)(Z:a.op=8743\/a.op=8744\/a.op=83)(z:0<=a.lo/\a.lo<=1000000)(D:0<=a.hi/\a.hi<=1000000)(hx:IV x)(hy:IV y)(Y:Good x)(gy:Good y)
  (q B b v:Nat) (l:aB aX) (n p:aE) (w:aC)
  (Q:w.heap[v]?=some (.cells #[.int .i32 a.op,.string a.name,Iv a.lo,Iv a.hi,n,p] 143 (0,0))) (G:bG 143 q w x n) (I:bG 143 q w y p)
  (s:BB B b l w) (P:dP w) (c:14<=B) (A:B<=w.heap.size) (h:l.length+([40]++bF x++[32]++uR a++[32]++bF y++[41]).length<=100000000):
  Calls prog 121 #[Pt v,Pt b] w λe w'=>e=.returned (.tuple #[])/\lO B b (l++([40]++bF x++[32]++uR a++[32]++bF y++[41])) w w':=by
 simp only[ky,ic,jr]at h;go_enter func121,ntmps121;go_wp2_with fail;refine(Fi B b l 40 _ s aA A).m λw1 d=>?_;have u:=kh Q s d;have R:=nW G s d;have V:=nW I s d;have z1:=d.2.1.size;have t:=P.oF d.2.1 c;clear Q G I P;have c4:=aD (i:=4) u rfl;go_wp2_with fail;refine(hx n q B b _ _ R Y d.1 t c aA bI).m λw2 f=>?_;have L:=kh u d.1 f;have S:=nW V d.1 f;have z2:=f.2.1.size;have F:=t.oF f.2.1 c;have r:=d.trans f;clear u R V t c4;go_wp2_with fail;refine(Fi B b _ 32 _ r.1 bI aA).m λw3 j=>?_;have E:=kh L r.1 j;have M:=nW S r.1 j;have z3:=j.2.1.size;have C:=F.oF j.2.1 c;have o:=r.trans j;clear L S F;go_wp2_with fail;refine(Ct a (by unfold mZ;omega) z D B b v _ n p _ E o.1 C c aA bI aA).m λw4 g=>?_;have K:=kh E o.1 g;have T:=nW M o.1 g;have z4:=g.2.1.size;have N:=C.oF g.2.1 c;have m:=o.trans g;clear E M C;go_wp2_with fail;refine(Fi B b _ 32 _ m.1 bI aA).m λw5 k=>?_;have H:=kh K m.1 k;have O:=nW T m.1 k;have z5:=k.2.1.size;have W:=N.oF k.2.1 c;have X:=m.trans k;clear K T N;have c5:=aD (i:=5) H rfl;go_wp2_with fail;refine(hy p q B b _ _ O gy X.1 W c aA bI).m λw6 U=>?_;have z6:=U.2.1.size;have J:=X.trans U;clear H O W c5;go_wp2_with fail;refine(Fi B b _ 41 _ J.1 bI aA).m λw7 p7=>?_;have q7:=J.trans p7;go_wp2_with fail
 go_end0
 exact⟨rfl,by simpa using q7⟩
theorem Sg:∀x,IV x:=by
 intro x
 induction x with
 |nil=>intro _ _ _ _ _ _ _ h;exact h.elim
 |node K L a x y f k=>
  intro v O B b l w q E r z m n p;obtain⟨M,F,N,rfl,T,q,C,R⟩:=q;have H:=aD (i:=0) q rfl;have o:Hid (bF (.node K L a x y)=if a.op=116 then[116,114,117,101]
   else if a.op=97 then a.name.data.toList
   else if a.op=8743\/a.op=8744\/a.op=83 then[40]++bF x++[32]++uR a++[32]++bF y++[41]
   else uR a++bF x):=rfl
  generalize bF (.node K L a x y)=d at*;rcases E with⟨c,_⟩|⟨c,_⟩|⟨c,_,Y,_,D,W⟩|⟨c,_,Y,_,D,h4⟩
  .have g:Hid (d=[116,114,117,101]):=by show _=_;rw[o.out,bY c]
   have t:d.length=4:=by rw[g.out];rfl
   rw[c]at H;clear o c f k;go_enter func81,ntmps81;go_wp2_with fail;apply(Xd B b l [116,114,117,101] _ r bI n).mono;rintro e A ⟨⟨Z,rfl⟩,j⟩;go_wp2_with fail
   go_end0
   exact⟨rfl,by rw[g.out];exact j⟩
  .have g:Hid (d=a.name.data.toList):=by show _=_;rw[o.out,bN aA,bY c]
   have t:d.length=a.name.data.toList.length:=by rw[g.out]
   have c1:=aD (i:=1) q rfl;rw[c]at H;clear o c f k;go_enter func81,ntmps81;go_wp2_with fail;apply(Xd B b l a.name.data.toList _ r aA n).mono;rintro e A ⟨⟨Z,rfl⟩,j⟩;go_wp2_with fail
   go_end0
   exact⟨rfl,by rw[g.out];exact j⟩
  .have g:Hid (d=[40]++bF x++[32]++uR a++[32]++bF y++[41]):=by show _=_;rw[o.out,bN aA,bN aA,bY c]
   have u:=Gz a x y c aA aA f k D W O B b M l F N w q C R r z m n (g.out▸p);rw[<-g.out]at u;have s:(a.op==116)=false/\(a.op==97)=false/\((a.op==8743)=true\/((a.op==8743)=false/\(a.op==8744)=true)\/((a.op==8743)=false/\(a.op==8744)=false/\(a.op==83)=true)):=by
    rcases c with c|c|c<;>rw[c]<;>decide
   obtain⟨X,I,s⟩:=s;clear o c f k g p;rcases s with G|⟨G,J⟩|⟨G,J,q5⟩
   all_goals
    go_enter func81,ntmps81;go_wp2_with fail;refine u.m λA j=>?_;go_wp2_with fail
    go_end0
    exact⟨rfl,j⟩
  .have g:Hid (d=uR a++bF x):=by show _=_;rw[o.out,bN aA,bN aA,bN aA]
   have t:d.length=(uR a).length+(bF x).length:=by rw[g.out];simp
   have u:=Ct a (by unfold mZ;omega) aA aA B b M l F N w q r z m n aA aA;have s:(a.op==116)=false/\(a.op==97)=false/\(a.op==8743)=false/\(a.op==8744)=false/\(a.op==83)=false:=by
    rcases c with c|c|c|c<;>rw[c]<;>decide
   obtain⟨X,I,G,J,q5⟩:=s;have S:=hid f;clear o c f k;go_enter func81,ntmps81;go_wp2_with fail;refine u.m λA j=>?_;have Q:=kh q r j;have V:=nW C r j;have z1:=j.2.1.size;have P:=z.oF j.2.1 m;clear q C z H;have c4:=aD (i:=4) Q rfl;go_wp2_with fail;refine(S.out F O B b _ _ V D j.1 P m aA bI).m λw2 U=>?_;have I:=j.trans U;go_wp2_with fail
   go_end0
   exact⟨rfl,by rw[g.out];simpa using I⟩
theorem O2(x:BT dD)(v:aE)(j:Nat)(w:aC)(i:bG 143 j w x v)(c:Good x)(m:dP w)(b:14<=w.heap.size)(a:(bF x).length<=100000000):
  Calls prog 41 #[v] w λe o=>e=.returned (.string ⟨(bF x).toArray⟩)/\Bl w o:=by
 let n:BB w.heap.size w.heap.size [] (w.alloc (.cells #[.pointer none,.slice none 0 0] 137)):=Lib.IsBuilderF.of (Lib.fresh_isBuilder 137 5 w);let f:=(cD w.heap.size w).al (.cells #[.pointer none,.slice none 0 0] 137 (0,0));let l:=Sg x v j w.heap.size w.heap.size [] _ (i.below f) c n (m.below f) b aF (by simpa using a);obtain⟨g,rfl⟩:∃g,v=Value.pointer g:=gZ i;go_enter func41,ntmps41;go_wp2_with fail;refine l.m λq d=>?_;let p:=d.2.1.size;go_wp2_with fail;refine(Tryz.Builder_String_any_k w.heap.size w.heap.size (bF x) _ (by have h:=d.1;rw[jq]at h;exact h) (by simp at p;omega)).m λr ⟨_,k,_⟩=>?_;go_wp2_with fail;go_ret;exact⟨rfl,(f.trans d.2.1).trans k⟩
def ua(s:a_):aE:=match(cW s).1 with
 |some x=>.tuple #[.string ⟨(bF x).toArray⟩,Iv 0]
 |none=>.tuple #[.string ⟨#[]⟩,Iv (cW s).2]
def ub(s:a_):aE:=match(cW s).1 with
 |some x=>.tuple #[Iv (bE x),Iv 0]
 |none=>.tuple #[Iv 0,Iv (cW s).2]
theorem below_drewN(w n):Bl w (w.drewN n):=⟨rfl,rfl,rfl,aZ,λ_ _=>rfl⟩
theorem Hu(s w)(y:s.size<=maxLen)(i:dP w)(d:cZ w)(c:14<=w.heap.size):
  Calls prog 14 #[.string s] w λe u=>e=.returned (ua s)/\Bl w u:=by
 have r:=ox s w y i c;have f:∀x n,cW s=(some x,n)->Good x/\mO x/\bD x<=12/\n=0:=λx n h=>dI h;have p:Hid (ua s=match(cW s).1 with|some x=>.tuple #[.string ⟨(bF x).toArray⟩,Iv 0]|none=>.tuple #[.string ⟨#[]⟩,Iv (cW s).2]):=rfl;generalize ua s=k at*;generalize cW s=res at*;go_enter func14,ntmps14;go_wp2_with fail;apply r.mono;rintro e l ⟨b,⟨x,v,g,rfl,m,o⟩|⟨z,T,tb,D,g,A,rfl,t⟩⟩
 .subst g;have⟨Pz,_,o,_⟩:=f x 0 rfl;obtain⟨C,rfl⟩:=gZ m;have q:=O2 x _ _ l m Pz (i.below b) (gH c b.size) (by have:=LM Pz o;omega);have j:Hid (k=.tuple #[.string ⟨(bF x).toArray⟩,Iv 0]):=p.out;generalize bF x=pb at*;go_wp2_with fail;refine q.m λB a=>?_;go_wp2_with fail;go_ret2;exact⟨oB Ending.returned j.out.symm,b.tr a⟩
 .subst g;go_wp2_with fail;refine(j' _ _ l (i.below b) (d.keep b.block) (zY (s:=s) (d.keep b.block) A t)).m λB a=>?_;go_wp2;go_ret2;exact⟨oB Ending.returned p.out.symm,b.tr a⟩
theorem zX(s w)(y:s.size<=maxLen)(m:dP w)(a:cZ w)(c:14<=w.heap.size):
  Calls prog 15 #[.string s] w λe u=>e=.returned (ub s)/\Bl w u:=by
 have q:=ox s w y m c;have f:∀x n,cW s=(some x,n)->Good x/\mO x/\bD x<=12/\n=0:=λx n h=>dI h;have o:Hid (ub s=match(cW s).1 with|some x=>.tuple #[Iv (bE x),Iv 0]|none=>.tuple #[Iv 0,Iv (cW s).2]):=rfl;generalize ub s=k at*;generalize cW s=res at*;go_enter func15,ntmps15;go_wp2_with fail;apply q.mono;rintro e d ⟨b,⟨x,v,g,rfl,l,t⟩|⟨z,T,tb,E,g,A,rfl,r⟩⟩
 .subst g;have⟨Pz,_,t,_⟩:=f x 0 rfl;obtain⟨D,rfl⟩:=gZ l;have p:=w_ x _ _ d l aA Pz.win;have j:Hid (k=.tuple #[Iv (bE x),Iv 0]):=o.out;generalize bE x=C at*;go_wp2_with fail;apply p.mono;rintro e B ⟨rfl,n,rfl⟩;go_wp2_with fail;go_ret2;exact⟨oB Ending.returned j.out.symm,b.tr (below_drewN d n)⟩
 .subst g;go_wp2_with fail;refine(j' _ _ d (m.below b) (a.keep b.block) (zY (s:=s) (a.keep b.block) A r)).m λB i=>?_;go_wp2;go_ret2;exact⟨oB Ending.returned o.out.symm,b.tr i⟩
theorem Wl:(prog.info? 83).map (λi=>(i.zero,i.size,i.bytes))=some (some (.pointer none),1,8):=aL
def mD:aR bC->aB aE
 |none=>[]
 |some a=>[.pointer (some a)]
theorem pA(w:aC)(x t):∀j u,[x][j]?=some u->(w.alloc (.cells #[x] t)).cell? (((Ad w.heap.size 0):bC).add j)=some u:=by
 intro j u a
 match j,a with
 |0,a=>
  simp at a;subst a;simp[Addr.add]
theorem E0(X w k nm a b l j)(h:rK X w k nm a b (.pointer l) (.pointer j))(x:l=none->j=none):
  Calls prog 147 #[Pt X] w λe t=>Bl w t/\∃v,e=.returned v/\t.ownsRow w.heap.size 83 1 v (mD l++mD j).length (mD l++mD j):=by
 obtain⟨⟨x0,x1,x2,x3,F,G⟩,_⟩:=h.facts;obtain⟨s,hi,m,n,o⟩:=eB Wl;cases l with
 |none=>
  obtain rfl:=x rfl;go_enter func147,ntmps147;go_wp2_with fail;go_ret;exact⟨aV,_,rfl,fI _ _ _ _⟩
 |some al=>
  go_enter func147,ntmps147;go_wp2_with (at_builtin;refine jz _ rfl _ _ 249 rfl w.heap.size 83 s _ 1 8 underlying249 hi m n o rfl aG _ _ _ rfl (fI _ _ _ _) (Ad w.heap.size 0) 1 1 [.pointer (some al)] rfl rfl (pA w _ _) xM eP aA aF ?_);intro E p c i _;let f:Bl w p:=((cD w.heap.size w).al _).grown i aF (λk q=>by cases q);let r:rK X p k nm a b (.pointer (some al)) (.pointer j):=f.aT h;obtain⟨⟨C,D,I,z,H,A⟩,_⟩:=r.facts;cases j with
  |none=>
   go_wp2_with fail;go_ret;exact⟨f,_,rfl,by simpa[mD]using c⟩
  |some y=>
   let u:=f.size;go_wp2_with (at_builtin;refine jz _ rfl _ _ 249 rfl w.heap.size 83 s _ 1 8 underlying249 hi m n o rfl aG _ _ _ rfl (c.alloc _) (Ad p.heap.size 0) 1 1 [.pointer (some y)] rfl rfl (pA p _ _) xM eP aA bI ?_);intro J B g d _;go_wp2_with fail;go_ret;refine⟨(f.alloc u _).grown d bI λk q=>(c.lt k q).1,_,rfl,by simpa[mD]using g⟩
theorem xa{B w o s a l r v}(h:bX B w (.node o s a l r) v)(t:Good (.node o s a l r)):
  ∃X f g,v=(Pt X)/\B<=X/\rK X w (eO a.op) a.name a.lo a.hi (.pointer f) (.pointer g)/\(f=none->g=none)/\bX B w l (.pointer f)/\bX B w r (.pointer g)/\
   ((l=.nil/\r=.nil/\f=none/\g=none)\/(Good l/\r=.nil/\g=none/\∃al,f=some al)\/(Good l/\Good r/\(∃al,f=some al)/\∃z,g=some z)):=by
 obtain⟨X,C,D,rfl,A,y,j,d⟩:=h;obtain⟨f,rfl⟩:=uf j;obtain⟨g,rfl⟩:=uf d;let c:∀{x:BT dD}{p:aR bC},Good x->bX B w x (.pointer p)->∃q,p=some q:=by
  intro x p u m;cases x with
  |nil=>exact u.elim
  |node _ _ _ _ _=>
   let⟨q,_,_,k,_⟩:=m;injection k with k;exact⟨_,k⟩
 let b:∀{p:aR bC},bX B w .nil (.pointer p)->p=none:=by
  intro p m;have:(Value.pointer p)=.pointer none:=m;injection this
 refine⟨X,f,g,rfl,A,y,?_,j,d,?_⟩
 .obtain⟨_,_,_,_,rfl,rfl⟩|⟨_,_,_,_,rfl,rfl⟩|⟨_,_,_,_,i,n⟩|⟨_,_,_,_,i,rfl⟩:=t
  .exact λ_=>b d
  .exact λ_=>b d
  .intro e;obtain⟨q,k⟩:=c i j;rw[e]at k;cases k
  .exact λ_=>b d
 .obtain⟨_,_,_,_,rfl,rfl⟩|⟨_,_,_,_,rfl,rfl⟩|⟨_,_,_,_,i,n⟩|⟨_,_,_,_,i,rfl⟩:=t
  .exact .inl ⟨rfl,rfl,b j,b d⟩
  .exact .inl ⟨rfl,rfl,b j,b d⟩
  .exact .inr (.inr ⟨i,n,c i j,c n d⟩)
  .exact .inr (.inl ⟨i,rfl,b d,c i j⟩)
theorem XV(q F)(k:dD->Int)(t:(q=181/\(F=λx=>(bD x:Int))/\k=λ_=>1)\/(q=146/\F=bE/\k=(·.hi))):
  ∀x (v B) (w),bX B w x v->Good x->bD x<=400->Calls prog q #[v] w λe w'=>e=.returned (Iv (F x))/\Bl w w':=by
 have Q:F .nil=0:=by rcases t with⟨_,rfl,_⟩|⟨_,rfl,_⟩<;>rfl
 have Z:∀b o a l r,F (.node b o a l r)=k a+max (F l) (F r):=by rcases t with⟨_,rfl,rfl⟩|⟨_,rfl,rfl⟩<;>intros<;>simp only[bD,bE]<;>omega
 intro x
 induction x with
 |nil=>intro v B w _ z _;exact z.elim
 |node O S a l r y C=>
  intro v B w h z s;have⟨⟨hw1,hw2,hw3⟩,wl,wr'⟩:=Good.win z;have bl:=kS wl;have br:=kS wr';have dl:bD l<=399:=by simp only[bD]at s;omega
  have dr:bD r<=399:=by simp only[bD]at s;omega
  have V:0<=F l/\F l<=400000000:=by rcases t with⟨_,rfl,_⟩|⟨_,rfl,_⟩<;>constructor<;>(try dsimp only)<;>omega
  have a6:0<=F r/\F r<=400000000:=by rcases t with⟨_,rfl,_⟩|⟨_,rfl,_⟩<;>constructor<;>(try dsimp only)<;>omega
  have E:(q=181/\k a=1)\/(q=146/\k a=a.hi):=t.imp (λh=>⟨h.1,by rw[h.2.2]⟩) λh=>⟨h.1,by rw[h.2.2]⟩;obtain⟨X,Y,pr,rfl,hB,R,J,N,hr,m⟩:=xa h z;have n:Hid (F (.node O S a l r)=k a+max (F l) (F r)):=Z ..;generalize F (.node O S a l r)=D at*;generalize k a=ka at*;obtain⟨rfl,E⟩|⟨rfl,E⟩:=E
  case' inl=>go_enter func181,ntmps181
  case' inr=>go_enter func146,ntmps146
  all_goals
   go_wp2_with fail;apply(E0 X w _ _ _ _ Y pr R J).mono;rintro e f ⟨j,v,rfl,c⟩;have d:rK X f (eO a.op) a.name a.lo a.hi _ _:=j.aT R;have⟨⟨x0,x1,x2,x3,x4,x5⟩,_⟩:=d.facts;rcases m with⟨rfl,rfl,rfl,rfl⟩|⟨G,rfl,rfl,al,rfl⟩|⟨G,gr,⟨al,rfl⟩,U,rfl⟩
   .have hv:∃p cap,v=.slice p 0 cap:=by obtain⟨_,⟨rfl,_⟩|⟨g,cap,a1,rfl,_⟩⟩:=c<;>exact⟨_,_,rfl⟩
    obtain⟨p,cap,rfl⟩:=hv;rw[Q]at n;go_wp2_with fail;apply wp_loop_rounds 1;rw[FH];go_wp2;go_ret;exact⟨iH (by rw[n.out];omega),j⟩
   .obtain⟨g,cap,rfl,M,u,I,L⟩:=fS c (by simp[mD]);have c0:f.cell? (Ad g 0)=some (.pointer (some al)):=by rw[c.cellAt 0 (by simp[mD])];rfl
    have T:=y _ B f (N.below j) G (by simp only[bD]at s;omega);rw[Q]at n;simp only[mD,CL,ic,jr,fE]at*;generalize F l=p at*;go_wp2_with fail;apply wp_loop_rounds 2;rw[FH];go_wp2_with fail;refine T.m λA i=>?_;have K:rK X A (eO a.op) a.name a.lo a.hi _ _:=i.aT d;obtain⟨⟨y0,y1,y2,y3,y4,y5⟩,_⟩:=K.facts;clear T;by_cases hp:p>0
    all_goals
     go_wp2_with fail;rw[FH];go_wp2;go_ret;exact⟨iH (by rw[n.out];omega),j.tr i⟩
   .obtain⟨g,cap,rfl,M,u,I,L⟩:=fS c (by simp[mD]);have c0:f.cell? (Ad g 0)=some (.pointer (some al)):=by rw[c.cellAt 0 (by simp[mD])];rfl
    have c1:f.cell? (Ad g 1)=some (.pointer (some U)):=by rw[c.cellAt 1 (by simp[mD])];rfl
    have iR:=hid λW (hW:Bl f W)=>C _ B W ((hr.below j).below hW) gr (by simp only[bD]at s;omega);simp only[mD,lq,jq,ic,jr,fE]at*;generalize F l=p at*;generalize F r=q at*;go_wp2_with fail;apply wp_loop_rounds 3;rw[FH];go_wp2_with fail;refine(y _ B f (N.below j) G (by simp only[bD]at s;omega)).m λA i=>?_;have c1':A.cell? (Ad g 1)=some (.pointer (some U)):=(i.cell (p:=(Ad g 1)) u).trans c1;by_cases hp:p>0
    all_goals
     go_wp2_with fail;rw[FH];go_wp2_with fail;refine(iR.out A i).m λw3 P=>?_;have H:rK X w3 (eO a.op) a.name a.lo a.hi _ _:=P.aT (i.aT d);obtain⟨⟨y0,y1,y2,y3,y4,y5⟩,_⟩:=H.facts;go_wp2
     all_goals
      rw[FH];go_wp2;go_ret;exact⟨iH (by rw[n.out];omega),(j.tr i).tr P⟩
theorem yq(x v B w)(h:bX B w x v)(g:Good x)(d:bD x<=400):Calls prog 146 #[v] w λe a=>e=.returned (Iv (bE x))/\Bl w a:=XV _ _ _ (.inr ⟨rfl,rfl,rfl⟩) x v B w h g d
def Ol(m:Nat):aB aX:=if m<10 then[]else Lib.decDigits (m/10)
def Nj(m:Nat):aX:=UInt8.ofNat (48+m%10)
theorem KD(m):((Nj m).toNat:Int)=48+(m)%10:=by
 unfold Nj;rw[Im];omega
theorem Pn(m):Lib.decDigits m=Ol m++[Nj m]:=by
 unfold Ol Nj;rw[Lib.decDigits];split
 .rename_i h;rw[show m%10=m by omega];rfl
 .rfl
theorem ve(W b k c)(f:(c.toNat:Int)=k)(d:W.cell? (Ad b 0)=some (.int .u8 k)):(convert 99 9 (Sl b 1 1)).run prog W=.ok (.string ⟨#[c]⟩) W:=
 Vt W 99 9 5 (Ad b 0) 1 [c] underlying99 underlying5 underlying9 (λj e=>by
  have a:j=0:=by simpa using e
  subst a
  rw[<-f]at d
  simpa[Addr.add]using d)
theorem Ch(n:Nat)(w)(k:n<=1000000):
  Calls prog 182 #[Iv (n)] w λe q=>Bl w q/\∃d,e=.returned (.string d)/\d.data.toList=Lib.decDigits n:=by
 have j:=ve (w.alloc (.cells #[.int .u8 (48+(n:Int)%10)] 5)) w.heap.size (48+(n:Int)%10) (Nj n) (KD n) (by rw[FG _ _ _ _ rfl];rfl);have b:0<=(n:Int)%10/\(n:Int)%10<10:=aA;go_enter func182,ntmps182;go_wp2;go_loopw [0,3] (λg sv wr=>∃(m:Nat)(d:a_),g=Iv (m:Int)/\sv=.string d/\m<=1000000/\d.size+m<=1000001/\Bl w wr/\Hid (Lib.decDigits n=Ol m++d.data.toList)) (λg _ _=>(intOf g).toNat)
 case atStart=>exact⟨n,_,rfl,rfl,k,by show 1+n<=_;omega,aV.al _,Pn n⟩
 case round=>
  obtain⟨m,d,rfl,rfl,r,l,c,i⟩:=hrel;by_cases f:m<10
  .have h:decide ((10:Int)<=(m:Int))=false:=by simp;omega
   have a:Hid (d.data.toList=Lib.decDigits n):=by
    show _=_;rw[i.out];unfold Ol;rw[bY f];rfl
   go_wp2;go_ret;exact⟨c,d,rfl,a.out⟩
  .have h:decide ((10:Int)<=(m:Int))=true:=by simp;omega
   have p:=ve (wr.alloc (.cells #[.int .u8 (48+(m:Int)/10%10)] 5)) wr.heap.size (48+(m:Int)/10%10) (Nj (m/10)) (by have:=KD (m/10);omega) (by rw[FG _ _ _ _ rfl];rfl);have o:¬9223372036854775807<1+d.size:=aA;have b:0<=(m:Int)/10%10/\(m:Int)/10%10<10:=aA;have a:Hid (Lib.decDigits n=Ol (m/10)++((⟨#[Nj (m/10)]⟩:a_)++d).data.toList):=by
    show _=_;rw[i.out];have e:Ol m=Lib.decDigits (m/10):=by unfold Ol;rw[bN f]
    rw[e,Pn (m/10)];simp[ByteArray.data_append]
   go_wp2
   try go_big_round
   exact⟨⟨m/10,_,dV,rfl,aA,by rw[ByteArray.size_append];show 1+d.size+m/10<=_;omega,c.al _,a⟩,zm⟩
def jO:aB Key->aB a_->Int×Int
 |K,[]=>((K.length:Int),0)
 |K,t::ts=>match(cW t).1 with
  |some x=>jO (cO K (aO x)).2 ts
  |none=>(0,(cW t).2)
theorem Rc(K:aB Key)(a:aB a_)(i:Nat)(h:i<a.length):jO K (a.drop i)=match(cW (a.getD i ByteArray.empty)).1 with
  |some x=>jO (cO K (aO x)).2 (a.drop (i+1))
  |none=>(0,(cW (a.getD i ByteArray.empty)).2):=by
 let e:a.getD i ByteArray.empty=a[i]:=by simp[List.getD,h]
 rw[pw h,e];rfl
theorem Hj(a q y cap w)(L:dP w)(r:cZ w)(P:14<=w.heap.size)(hn:a.length<=50000000)(D:q<w.heap.size)
  (V:∀j,j<a.length->w.cell? (Ad q (y+j))=some (.string (a.getD j ByteArray.empty))) (X:∀j,j<a.length->(a.getD j ByteArray.empty).size<=maxLen):
  Calls prog 16 #[.slice (some (Ad q y)) a.length cap] w λe W=>e=.returned (.tuple #[Iv (jO [] a).1,Iv (jO [] a).2])/\Bl w W:=by
 generalize k:jO [] a=res;generalize M:a.length=n at*;go_enter func16,ntmps16;go_wp2;go_loopw [11] (λE wr=>∃(i:Nat)(K:aB Key),E=Iv i/\i<=n/\sX w.heap.size w.heap.size wr K/\Bl w wr/\w.heap.size<wr.heap.size/\K.length<=16384*i/\Hid (jO K (a.drop i)=res)) (λE _=>n-(intOf E).toNat)
 case atStart=>
  exact⟨0,[],rfl,cC,sX.new _ w aZ,aV.al _,aF,aF,k⟩
 case round=>
  obtain⟨i,K,rfl,Q,N,b,F,hK,H⟩:=hrel;by_cases hi:i<n
  .have A:wr.cell? (Ad q (y+i))=some (.string (a.getD i ByteArray.empty)):=by rw[b.cell (p:=(Ad q (y+i))) D];exact V i hi
   have o:=ox (a.getD i ByteArray.empty) wr (X i hi) (L.below b) aA;have l:∀x m,cW (a.getD i ByteArray.empty)=(some x,m)->Good x/\mO x/\bD x<=12/\m=0:=λx m h=>dI h;have u:=Rc K a i aA;rw[H.out]at u;have g:=hid u;generalize a.getD i ByteArray.empty=t at*;generalize cW t=rd at*;go_wp2_with fail;apply o.mono;rintro e G ⟨f,⟨x,v,C,rfl,I,O⟩|⟨z,T,tb,fa,C,Y,rfl,U⟩⟩
   .subst C;have⟨Pz,_,O,_⟩:=l x 0 rfl;obtain⟨vv,rfl⟩:=gZ I;have R:=sk O;have J:=Om x _ wr.heap.size w.heap.size w.heap.size K G I Pz f.size F (N.below f) aA;have a1:=ou (aO x) K;have c:Hid (res=jO (cO K (aO x)).2 (a.drop (i+1))):=g.out;clear g l o;generalize cO K (aO x)=S at*;go_wp2_with fail;refine J.m λZ ⟨B,d⟩=>?_;clear J;go_wp2_with fail
    try go_big_round
    exact⟨⟨i+1,S.2,dV,aA,B,(b.trans (f.mono b.size)).trans d,by have:=f.size;have:=d.size;omega,aA,c.out.symm⟩,zm⟩
   .subst C;have c:=hid g.out;go_wp2_with fail;refine(j' _ _ G ((L.below b).below f) (r.keep (b.tr f).block) (zY (s:=t) (r.keep (b.tr f).block) Y U)).m λZ d=>?_;go_wp2;go_ret2;exact⟨by cases c.out;rfl,(b.tr f).tr d⟩
  .obtain rfl:i=n:=by omega
   have c:Hid (res=((K.length:Int),0)):=by show _=_;rw[<-H.out,ux aA];rfl
   go_wp2_with fail;apply(AQ w.heap.size w.heap.size K wr N).m0;go_wp2;go_ret2;exact⟨by cases c.out;rfl,b⟩
end Go.Proofs.YtpbbmagjhkakgaaGreatDoor
