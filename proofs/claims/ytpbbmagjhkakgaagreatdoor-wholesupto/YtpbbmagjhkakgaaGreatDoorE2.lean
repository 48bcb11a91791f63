import Derived.Test.YtpbbmagjhkakgaaGreatDoorD7
import Derived.Test.YtpbbmagjhkakgaaGreatDoorD9
namespace Go.Proofs.YtpbbmagjhkakgaaGreatDoor
namespace Ev
open Tryz Go.RowKit Go.Deep Go.Maps Lf
theorem LU(name:a_){aY:Nat}{d room:Int}{no:aR bC}{bZ:Nat}{K:aB Key}{ea:aR bC}{bO:Nat}{C:aB jb}{E:aB Pe}{pa:aR bC}{bS:Nat}{ps:aB nk}{ss:aB lx}{w:aC}(h:dJ w aY d room no bZ K ea bO C E pa bS ps ss)(i:eV ps)(g:eW name ps=false){a:bC}(m:iw w 3 Cp a):
  Calls prog 52 #[Pt aY,.string name] w λe k=>∃b,e=.returned (.iface 169 (Pt b))/\k.heap[b]?=some (.cells #[.string name,.iface 357 (.pointer (some a))] 171 (0,0))/\Bl w k:=by
 let l:=h.wm;let j:=mT aY (Iv d) (Iv room) _ _ pa bS ps name w h.cell h.aW i aA;rw[g]at j;go_enter func52,ntmps52;go_wp2_with fail;refine j.m λn f=>?_;let c:=(m.down f).cell;go_wp2;go_ret;exact⟨_,rfl,aQ _ _ _ rfl,f.al _⟩
theorem Jo(mb name){aY a room no bZ ea bO C E pa bS ps ss xs w}(j:w.heap[mb]?=some (.cells #[Pt aY] 104 (0,0)))(h:dJ w aY a room no bZ (jB (iY xs) ps.length) ea bO C E pa bS ps ss)(d:eV ps)(l:eZ w ps xs)(g:(jB (iY xs) ps.length).length<=40)(i)(hi:dW name ps=i)(b:eW name ps=true):
  Calls prog 32 #[Pt mb,.string name] w λe k=>e=.returned (Iv 0)/\After aY a room ea bO C E (xs.take i++xs.drop (i+1)) (ps.take i++ps.drop (i+1)) (ss.take i++ss.drop (i+1)) w k:=by
 let m:=aD (i:=0) j rfl;go_enter func32,ntmps32;go_wp2_with fail;refine(Rv name h d l g i hi b).m λf c=>?_;replace c:Hid _:=c;go_wp2_with fail;apply(pE f).m0;go_wp2;go_ret;exact⟨rfl,c.out⟩
theorem EF(mb name){aY c room no bZ K ea bO C E pa bS ps ss w}(o:w.heap[mb]?=some (.cells #[Pt aY] 104 (0,0)))(h:dJ w aY c room no bZ K ea bO C E pa bS ps ss)(l:eV ps)(g:eW name ps=false)(m:dP w)(f:cZ w):
  Calls prog 32 #[Pt mb,.string name] w λe q=>e=.returned (Iv 6)/\Bl w q:=by
 let⟨a,hE⟩:=f.Po;let s:=aD (i:=0) o rfl;let j:Hid (dP w/\cZ w/\iw w 3 Cp a):=⟨m,f,hE⟩;go_enter func32,ntmps32;go_wp2_with fail;apply(LU name h l g hE).mono;rintro e n ⟨b,rfl,p,d⟩;go_wp2_with fail;refine(Nl (.iface 169 (Pt b)) a n (j.out.1.below d) (j.out.2.1.keep d.block) (yX p (og (by simp[leaves]))) (j.out.2.2.down d)).m λr k=>?_;go_wp2;go_ret;exact⟨rfl,d.tr k⟩
theorem JH(X){d}(h:eV d):eV (jW X d):=by
 refine Dg.2 λa b e f c=>?_;let⟨q1,e1,f1⟩:=sw (fH e);let⟨q2,e2,f2⟩:=sw (fH f);rw[f1,f2];have:=Dg.1 h a b ((eY.1 e1).1) ((eY.1 e2).1) c;rw[(eY.1 e1).2,(eY.1 e2).2]at this;exact this
structure uz(us:aB Az)(ps:aB nk)(ss:aB lx):Prop where
 len:us.length=ps.length
 each:∀(j:Nat)(u:Az)(p:nk)(s:lx),us[j]?=some u->ps[j]?=some p->ss[j]?=some s->p.name=u.name/\p.cP=u.cP/\s.n=u.str.length/\s.xs=lr u.str
structure ZC(O:Nat->Prop)(aY:Nat)(ea:aR bC)(C:aB jb)(ss:aB lx):Prop where
 wt:O aY
 ev:∀a,ea=some a->O a.block
 st:∀s∈ss,O s.cX/\∀g,s.sv.ownBlock=some g->O g
 at_:∀c∈C,∀a,c.ao=some a->O a.block
structure q_(S:f_)(K:aB Key)(C:aB jb)(E:aB Pe):Prop where
 ry:E.reverse.map Pe.nz++(S.bH.take S.off).reverse=S.bH.reverse
 ok:kX K (S.bH.take S.off).reverse E.reverse
 num:∀(j:Nat) c,C[j]?=some c->c.number=(S.off:Int)+j+1
structure PL where
 aY:Nat
 no:aR bC
 bZ:Nat
 ea:aR bC
 bO:Nat
 C:aB jb
 E:aB Pe
 pa:aR bC
 bS:Nat
 ps:aB nk
 ss:aB lx
 us:aB Az
def PL.xs(l:PL):aB (BT dD):=l.us.map (·.x)
def PL.K(l:PL):aB Key:=jB (iY l.xs) l.ps.length
structure dN(O:Nat->Prop)(S:f_)(mb:Nat)(l:PL)(w:aC):Prop where
 watch:dJ w l.aY S.ret S.room l.no l.bZ l.K l.ea l.bO l.C l.E l.pa l.bS l.ps l.ss
 ry:q_ S l.K l.C l.E
 perm:l.us.Perm S.aW
 sorted:eV l.ps
 aW:uz l.us l.ps l.ss
 jy:eZ w l.ps l.xs
 node:∀(j:Nat)(p:nk),l.ps[j]?=some p->(p.node:Int)=B_ (iY l.xs) j
 own:ZC O l.aY l.ea l.C l.ss
 vU:w.heap[mb]?=some (.cells #[Pt l.aY] 104 (0,0))
def lR(O:Nat->Prop)(S:f_)(mb:Nat)(w:aC):Prop:=∃l,dN O S mb l w
theorem dJ.aaq{P O w v aY d room no bZ K ea bO C E pa bS ps ss}(h:dJ w aY d room no bZ K ea bO C E pa bS ps ss)(f:aH P w v)(o:ZC O aY ea C ss)(q:∀b,O b->¬P b)(p:dQ w P [4,226,183]):dJ v aY d room no bZ K ea bO C E pa bS ps ss:=
 {h with
  cell:=f.get h.cell (q _ o.wt)
  bH:=cG h.bH f λg u=>by
   cases ea with
   |none=>cases u
   |some a=>cases u;exact q _ (o.ev a rfl)
  ins:=λi c e t x=>by
   let n:=iF t
   have:=(h.ins i c e t x).spare f.spare (λa j=>by obtain⟨y,m,k⟩:=(h.typed c n).so a j;exact p _ _ _ _ k aF) λa j=>q _ (o.at_ c n a j)
   exact⟨this.number,this.time,this.low,this.sl,this.E7,this.so,this.al,this.DI,this.atoms⟩
  typed:=λc n=>by
   have:=(h.typed c n).spare f.spare (λa j=>by obtain⟨y,m,k⟩:=(h.typed c n).so a j;exact p _ _ _ _ k aF) λa j=>q _ (o.at_ c n a j)
   exact⟨this.so,this.ao⟩
  nodes:=h.nodes.move h.ld f (p.less aF)
  ld:=typed.move h.ld f (p.less aF)
  aW:=iu.move h.aW f (p.less aF)
  E8:=λs l=>(h.E8 s l).heap λb z r=>f.block b z (q b (by
   obtain rfl|r:=r
   .exact(o.st s l).1
   .exact(o.st s l).2 b r))}
theorem lR.move{P O S mb w e}(h:lR O S mb w)(a:aH P w e)(i:∀b,O b->¬P b)(d:dQ w P [4,226,183,104,143]):lR O S mb e:=by
 let⟨l,h⟩:=h;exact⟨l,{h with
  watch:=h.watch.aaq a h.own i (d.less aF)
  jy:=⟨h.jy.len,λj p x g f=>gF (λq k c=>(a.block q (aN c) (d _ _ _ _ c aF)).trans c) (h.jy.each j p x g f),h.jy.fine⟩
  vU:=a.get h.vU (d _ _ _ _ h.vU aF)}⟩
theorem lR.mono{O i S mb w}(h:lR O S mb w)(d:∀b,O b->i b):lR i S mb w:=by
 let⟨l,h⟩:=h;exact⟨l,{h with own:=⟨d _ h.own.wt,λa e=>d _ (h.own.ev a e),λs f=>⟨d _ (h.own.st s f).1,λg j=>d _ ((h.own.st s f).2 g j)⟩,λc k a e=>d _ (h.own.at_ c k a e)⟩}⟩
section
variable{S:f_}{K:aB Key}{C:aB jb}{E:aB Pe}{n:Nat}
theorem q_.len(h:q_ S K C E)(a:S.OK n):E.length=S.bH.length-S.off:=by
 have:=oB List.length h.ry;let b:S.off<=S.bH.length:=by rcases a.last with h|⟨_,h⟩<;>omega
 simp at this;omega
theorem q_.at(h:q_ S K C E)(c:S.OK n){j e}(b:E[j]?=some e):S.bH[S.off+j]?=some e.nz:=by
 let d:S.off<=S.bH.length:=by rcases c.last with h|⟨_,h⟩<;>omega
 let a:=oB List.reverse h.ry;rw[BF,Ip,<-Pc,Ip,Ip]at a;rw[<-a,sK bI,kV,lj,show S.off+j-min S.off S.bH.length=j from aA,b];rfl
end
def K6:aB TypeId:=[4,226,183,104,143,252]
def KK:aB TypeId:=74::82::K6
def Own(w:aC)(O P:Nat->Prop):Prop:=∀b,P b->O b/\∃a t m,w.heap[b]?=some (.cells a t m)/\t∉KK
section
variable{O P Lw:Nat->Prop}{S:f_}{mb yb wb n:Nat}{l:PL}{w w':aC}{ev pv lN kv:aE}{C:aB CE}{L:aB CP}{E:aB mK}
theorem Own.kinds(h:Own w O P):dQ w P KK:=λb e t m d a c=>by
 let⟨cs',t',m',h4,h5⟩:=(h b c).2
 rw[d]at h4
 cases h4
 exact h5 a
theorem Own.lt(h:Own w O P){b}(a:P b):b<w.heap.size:=by
 let⟨_,_,_,_,h,_⟩:=h b a;exact aN h
theorem lM{size k e v xs b}(h:w.ownsRow 0 e size v k xs)(d:v.ownBlock=some b)(c:e∉KK):∃a t m,w.heap[b]?=some (.cells a t m)/\t∉KK:=by
 let⟨cur,h⟩:=cE h d;exact⟨_,_,_,h,c⟩
theorem dN.exact(h:dN O S mb l w):∃P,dN P S mb l w/\Own w O P:=by
 refine⟨λb=>b=l.aY\/(∃a,l.ea=some a/\b=a.block)\/(∃s∈l.ss,b=s.cX\/s.sv.ownBlock=some b)\/∃c∈l.C,∃a,c.ao=some a/\b=a.block,{h with own:=⟨.inl rfl,λa d=>.inr (.inl ⟨a,d,rfl⟩),λs e=>⟨.inr (.inr (.inl ⟨s,e,.inl rfl⟩)),λg f=>.inr (.inr (.inl ⟨s,e,.inr f⟩))⟩,λc i a d=>.inr (.inr (.inr ⟨c,i,a,d,rfl⟩))⟩},?_⟩;rintro b (rfl|⟨a,d,rfl⟩|⟨s,e,rfl|f⟩|⟨c,i,a,d,rfl⟩)
 .exact⟨h.own.wt,_,_,_,h.watch.cell,aG⟩
 .exact⟨h.own.ev a d,lM h.watch.bH (by rw[d];rfl) aG⟩
 .exact⟨(h.own.st s e).1,_,_,_,(h.watch.E8 s e).1,aG⟩
 .exact⟨(h.own.st s e).2 b f,lM (h.watch.E8 s e).2 f aG⟩
 .let⟨cs,m,k⟩:=(h.watch.typed c i).ao a d;exact⟨h.own.at_ c i a d,_,_,_,k,aG⟩
theorem eT.exact(h:eT O S yb ev pv C L w):∃P,eT P S yb ev pv C L w/\Own w O P:=by
 refine⟨λb=>b=yb\/ev.ownBlock=some b\/pv.ownBlock=some b\/(∃l∈L,l.2.2.ownBlock=some b)\/∃c∈C,∃a,c.2.1=some a/\b=a.block,{h with atoms:=λc j=>?_,own:=⟨.inl rfl,λg d=>.inr (.inl d),λg d=>.inr (.inr (.inl d)),λl i g d=>.inr (.inr (.inr (.inl ⟨l,i,d⟩)))⟩},?_⟩
 .let⟨a1,a2,a3,a4⟩:=h.atoms c j;exact⟨a1,a2,a3,λa f=>⟨.inr (.inr (.inr (.inr ⟨c,j,a,f,rfl⟩))),(a4 a f).2⟩⟩
 rintro b (rfl|e|e|⟨l,i,d⟩|⟨c,j,a,f,rfl⟩)
 .exact⟨h.own.1,_,_,_,h.cell,aG⟩
 .exact⟨h.own.2.1 b e,lM h.bH e aG⟩
 .exact⟨h.own.2.2.1 b e,lM h.aW e aG⟩
 .exact⟨h.own.2.2.2 l i b d,lM (h.fY l i) d aG⟩
 .let⟨k1,cs,m,k⟩:=(h.atoms c j).2.2.2 a f;exact⟨k1,_,_,_,k,aG⟩
theorem lu.exact(h:lu Lw wb lN kv n E w):∃P,lu P wb lN kv n E w/\Own w Lw P:=by
 refine⟨λb=>b=wb\/kv.ownBlock=some b\/∃e∈E,e.gv.ownBlock=some b\/e.tv.ownBlock=some b,⟨h.cell,h.kept,λe c=>⟨(h.mR e c).g,(h.mR e c).t,λb a=>.inr (.inr ⟨e,c,a⟩)⟩,.inl rfl,λb a=>.inr (.inl a)⟩,?_⟩;rintro b (rfl|a|⟨e,c,a⟩)
 .exact⟨h.own.1,_,_,_,h.cell,aG⟩
 .exact⟨h.own.2 b a,lM h.kept a aG⟩
 .have:=h.mR e c;let⟨_,_,k1⟩:=this.g;let⟨_,_,k2⟩:=this.t;exact⟨this.own b a,a.elim (lM k1 · aG) (lM k2 · aG)⟩
end
structure Mo where
 pb:Nat
 mb:Nat
 yb:Nat
 S:f_
 R:f_
def LN(x:Mo):aE:=(Pt x.pb)
def Part(wb:Nat)(Ms:aB Mo)(n:Nat)(E:aB mK)(m c:Nat)(O:Nat->Prop)(w:aC):Prop:=
 (c=0->∃lN,IE O wb lN n E w/\w.ownsRow 0 74 1 lN Ms.length (Ms.map LN)/\∀g,lN.ownBlock=some g->O g)/\∀(i:Nat) x,Ms[i]?=some x->(c=2*i+1->lR O x.S x.mb w/\x.S.OK m)/\(c=2*i+2->uU O x.R x.yb w/\x.R.OK m)
structure cH(w0:aC)(wb:Nat)(T:Nat->Nat)(Ms:aB Mo)(n:Nat)(E:aB mK)(m:Nat)(w:aC):Prop where
 part:∀c,Part wb Ms n E m c (λb=>T b=c/\w0.heap.size<=b) w
 pair:∀x∈Ms,w.heap[x.pb]?=some (.cells #[Pt x.mb,Pt x.yb] 82 (0,0))
 dom:∀b,T b≠0->b<w.heap.size
 base:aH (λb=>w0.heap.size<=b) w0 w
 mR:E.length<=4*n/\∀e∈E,e.n<=n
 few:Ms.length<=m
section
variable{P O O':Nat->Prop}{wb n m m' c:Nat}{T:Nat->Nat}{Ms:aB Mo}{E:aB mK}{w0 w w':aC}
theorem Part.move(h:Part wb Ms n E m c O w)(a:aH P w w')(d:∀b,O b->¬P b)(j:dQ w P K6):Part wb Ms n E m c O w':=by
 refine⟨λe=>?_,λi x f=>⟨λe=>?_,λe=>?_⟩⟩
 .let⟨lN,⟨kv,h1⟩,h2,h3⟩:=h.1 e;exact⟨lN,⟨kv,h1.move a d⟩,cG h2 a λg k=>d g (h3 g k),h3⟩
 .let⟨h1,h2⟩:=(h.2 i x f).1 e;exact⟨h1.move a d (j.less (by simp[K6])),h2⟩
 .let⟨⟨_,_,_,_,h1⟩,h2⟩:=(h.2 i x f).2 e;exact⟨⟨_,_,_,_,h1.move a d (j.less (by simp[K6]))⟩,h2⟩
theorem Part.mono(h:Part wb Ms n E m c O w)(a:∀b,O b->O' b):Part wb Ms n E m c O' w:=by
 refine⟨λe=>?_,λi x d=>⟨λe=>?_,λe=>?_⟩⟩
 .let⟨lN,⟨kv,h1⟩,h2,h3⟩:=h.1 e;exact⟨lN,⟨kv,h1.mono a⟩,h2,λg f=>a g (h3 g f)⟩
 .let⟨h1,h2⟩:=(h.2 i x d).1 e;exact⟨h1.mono a,h2⟩
 .let⟨⟨_,_,_,_,h1⟩,h2⟩:=(h.2 i x d).2 e;exact⟨⟨_,_,_,_,h1.mono a⟩,h2⟩
theorem Part.lt(h:Part wb Ms n E m c O w):Part wb Ms n E m c (λb=>O b/\b<w.heap.size) w:=by
 refine⟨λe=>?_,λi x d=>⟨λe=>?_,λe=>?_⟩⟩
 .let⟨lN,⟨kv,h1⟩,h2,h5⟩:=h.1 e;let⟨_,h3,h4⟩:=h1.exact;exact⟨lN,⟨kv,h3.mono λb a=>⟨(h4 b a).1,h4.lt a⟩⟩,h2,λg f=>⟨h5 g f,(h2.lt g f).2⟩⟩
 .let⟨⟨_,h1⟩,h2⟩:=(h.2 i x d).1 e;let⟨_,h3,h4⟩:=h1.exact;exact⟨lR.mono ⟨_,h3⟩ λb a=>⟨(h4 b a).1,h4.lt a⟩,h2⟩
 .let⟨⟨_,_,_,_,h1⟩,h2⟩:=(h.2 i x d).2 e;let⟨_,h3,h4⟩:=h1.exact;exact⟨⟨_,_,_,_,h3.mono λb a=>⟨(h4 b a).1,h4.lt a⟩⟩,h2⟩
theorem cH.call(h:cH w0 wb T Ms n E m w)(i:aH P w w')(g:Own w (λb=>T b=c/\w0.heap.size<=b) P)(Z){X4 n' E'}(p:Part wb X4 n' E' m' c (λb=>((T b=c/\w0.heap.size<=b)/\b<w.heap.size)\/(w.heap.size<=b/\Z≠some b)) w')
  (r:∀d O,d≠c->Part wb Ms n E m d O w'->Part wb X4 n' E' m' d O w') (l:∀x∈X4,∃y∈Ms,x.pb=y.pb/\x.mb=y.mb/\x.yb=y.yb) (u:E'.length<=4*n'/\∀e∈E',e.n<=n') (v:X4.length<=m'):
  ∃o,cH w0 wb o X4 n' E' m' w'/\∀b,T b=0->b<w.heap.size\/Z=some b->o b=0:=by
 let z:=h.base.size;refine⟨λb=>if b<w.heap.size then T b else if Z=some b\/w'.heap.size<=b then 0 else c,⟨λd=>?_,λx q=>?_,λb a=>?_,h.base.trans (i.mono λb _ a=>(g b a).1.2),u,v⟩,λb t a=>?_⟩
 .by_cases k:d=c
  .subst k;refine p.lt.mono λb a=>?_;obtain⟨a|⟨f,j⟩,s⟩:=a
   .simp[a]
   .simp[j,Nat.not_lt.2 f,sI.2 s];omega
  .refine r d _ k (((h.part d).lt.move i (λb a l=>k (a.1.1.symm.trans (g b l).1.1)) (g.kinds.less (by simp[KK,K6]))).mono λb a=>?_);simp[a.2,a.1]
 .let⟨y,hy,e1,e2,e3⟩:=l x q;rw[e1,e2,e3];exact i.get (h.pair y hy) (g.kinds _ _ _ _ (h.pair y hy) aG)
 .by_cases f:b<w.heap.size
  .exact fZ f i.size
  .refine sI.1 λj=>a ?_;simp[f,j]
 .by_cases f:b<w.heap.size
  .simp[f,t]
  .simp[f,a.resolve_left f]
theorem cH.still(h:cH w0 wb T Ms n E m w)(a:aH (λ_=>False) w w'):cH w0 wb T Ms n E m w':=
 ⟨λc=>(h.part c).move a (λ_ _ x=>x) (dQ.none _ _),λx d=>a.get (h.pair x d) id,λb e=>fZ (h.dom b e) a.size,h.base.trans (a.mono λ_ _ x=>x.elim),h.mR,h.few⟩
theorem Part.set(c:m<=m'){i x y d}(hi:Ms[i]?=some x)(l:d≠2*i+1\/y.S=x.S/\y.mb=x.mb)(g:d≠2*i+2\/y.R=x.R/\y.yb=x.yb)(k:y.pb=x.pb)(h:Part wb Ms n E m d O w):Part wb (Ms.set i y) n E m' d O w:=by
 let f:=(eY.1 hi).1;refine⟨λe=>?_,λj z a=>?_⟩
 .have:(Ms.set i y).map LN=Ms.map LN:=by
   rw[xL];refine CF λj=>?_;by_cases b:i=j
   .subst b;simp[f,LN,k,(eY.1 hi).2]
   .simp[b]
  rw[this,FK];exact h.1 e
 .by_cases b:i=j
  .subst b;rw[rF f]at a;cases a;refine⟨λe=>?_,λe=>?_⟩
   .let⟨e1,e2⟩:=l.resolve_left λh=>h e;rw[e1,e2];exact⟨((h.2 i x hi).1 e).1,((h.2 i x hi).1 e).2.mono c⟩
   .let⟨e1,e2⟩:=g.resolve_left λh=>h e;rw[e1,e2];exact⟨((h.2 i x hi).2 e).1,((h.2 i x hi).2 e).2.mono c⟩
  .rw[yA b]at a;exact⟨λe=>⟨((h.2 j z a).1 e).1,((h.2 j z a).1 e).2.mono c⟩,λe=>⟨((h.2 j z a).2 e).1,((h.2 j z a).2 e).2.mono c⟩⟩
theorem LF{i x y}(hi:Ms[i]?=some x)(b:y.pb=x.pb/\y.mb=x.mb/\y.yb=x.yb):∀z∈Ms.set i y,∃u∈Ms,z.pb=u.pb/\z.mb=u.mb/\z.yb=u.yb:=λz a=>by
 obtain a|rfl:=BD a
 .exact⟨z,a,rfl,rfl,rfl⟩
 .exact⟨x,iF hi,b⟩
theorem cH.XU(h:cH w0 wb T Ms n E m w){i x}(hi:Ms[i]?=some x)(o:aH P w w')(c:Own w (λb=>T b=2*i+1/\w0.heap.size<=b) P)(Z){a}(p:lR (λb=>P b\/(w.heap.size<=b/\Z≠some b)) a x.mb w')(r:m<=m')(k:a.OK m'):
  ∃f,cH w0 wb f (Ms.set i {x with S:=a}) n E m' w'/\∀b,T b=0->b<w.heap.size\/Z=some b->f b=0:=by
 let t:=h.few;refine h.call o c Z ⟨λe=>aA,λj z g=>⟨λe=>?_,λe=>aA⟩⟩ (λd O l q=>q.set r hi (.inl l) (.inr ⟨rfl,rfl⟩) rfl) (LF hi ⟨rfl,rfl,rfl⟩) h.mR bI;obtain rfl:i=j:=aA;rw[rF ((eY.1 hi).1)]at g;cases g;exact⟨p.mono λb s=>s.imp (λh=>⟨(c b h).1,c.lt h⟩) id,k⟩
theorem cH.XW(h:cH w0 wb T Ms n E m w){i x}(hi:Ms[i]?=some x)(r:aH P w w')(f:Own w (λb=>T b=2*i+2/\w0.heap.size<=b) P){a}(s:uU (λb=>P b\/w.heap.size<=b) a x.yb w')(v:m<=m')(l:a.OK m'):
  ∃c,cH w0 wb c (Ms.set i {x with R:=a}) n E m' w'/\∀b,T b=0->b<w.heap.size->c b=0:=by
 let y:=h.few;let⟨c,h1,h2⟩:=h.call r f none (X4:=Ms.set i {x with R:=a}) (m':=m') (n':=n) (E':=E) ⟨λe=>aA,λj z g=>⟨λe=>aA,λe=>by
  obtain rfl:i=j:=aA;rw[rF ((eY.1 hi).1)]at g;cases g;let⟨_,_,_,_,k⟩:=s;exact⟨⟨_,_,_,_,k.mono λb p=>p.imp (λh=>⟨(f b h).1,f.lt h⟩) λh=>⟨h,λe=>nomatch e⟩⟩,l⟩⟩⟩ (λd O q u=>u.set v hi (.inr ⟨rfl,rfl⟩) (.inl q) rfl) (LF hi ⟨rfl,rfl,rfl⟩) h.mR bI
 exact⟨c,h1,λb t o=>h2 b t (.inl o)⟩
theorem cH.lists(h:cH w0 wb T Ms n E m w){lN kv}(r:lu P wb lN kv n E w)(l:aH P w w')(a:Own w (λb=>T b=0/\w0.heap.size<=b) P){E'}(o:IE (λb=>P b\/w.heap.size<=b) wb lN (n+1) E' w')(t:E'.length<=E.length+4/\∀e∈E',e∈E\/e.n=n+1):∃f,cH w0 wb f Ms (n+1) E' m w':=by
 let⟨hn1,hn2⟩:=h.mR;let⟨abo,⟨kv',h1⟩,h2,h4⟩:=(h.part 0).lt.1 rfl;cases h1.cell.symm.trans r.cell;let⟨kv2,k⟩:=o;let⟨f,h3,_⟩:=h.call l a none (X4:=Ms) (m':=m) (n':=n+1) (E':=E') ⟨λ_=>⟨lN,⟨kv2,k.mono λb u=>u.imp (λh=>⟨(a b h).1,a.lt h⟩) λh=>⟨h,λe=>nomatch e⟩⟩,cG h2 l (λg c i=>by
  let⟨cur,k⟩:=cE h2 c;exact a.kinds _ _ _ _ k aG i),λg c=>.inl (h4 g c)⟩,λj z v=>⟨λe=>aA,λe=>aA⟩⟩ (λd O s i=>⟨λe=>absurd e s,i.2⟩) (λx p=>⟨x,p,rfl,rfl,rfl⟩) ⟨aA,λe q=>(t.2 e q).elim (λh=>Nat.le_succ_of_le (hn2 e h)) Nat.le_of_eq⟩ h.few
 exact⟨f,h3⟩
theorem cH.more(h:cH w0 wb T Ms n E m w){o C B r mb yb pb lN kv f S}(hX:lu P wb lN kv n E w)(hS:S.OK 0)(N:Bl w o)(U:lR (λb=>w.heap.size<=b) S mb o)(M:Bl o C)(O:uU (λb=>o.heap.size<=b) S yb C)(W:Bl C B)(d:B.heap[pb]?=some (.cells #[Pt mb,Pt yb] 82 (0,0)))(i:B.grownBy r lN.ownBlock)
  (hr:r.ownsRow 0 74 1 f (Ms.length+1) (Ms.map LN++[Pt pb])) (hv:f.ownBlock=lN.ownBlock\/f.ownBlock=some B.heap.size):∃T',cH w0 wb T' (Ms++[⟨pb,mb,yb,S,S⟩]) n E (m+1) (r.setCell (Ad wb 0) f):=by
 obtain⟨a7,⟨aa,H⟩,Y,h4⟩:=(h.part 0).lt.1 rfl;cases H.cell.symm.trans hX.cell;let hw:=H.cell;let a8:=aN hw;let ad:=h.base.size;let z1:=N.size;let z2:=M.size;let z3:=W.size;let p:∀b,(lN.ownBlock=some b\/b=wb)->(T b=0/\w0.heap.size<=b)/\b<w.heap.size:=by
  rintro b (a|rfl)
  .exact h4 b a
  .exact H.own.1
 let L:aH (λb=>lN.ownBlock=some b\/b=wb) B (r.setCell (Ad wb 0) f):=aH.trans ⟨i.os,i.output,i.size,λb a hn=>i.block b a λe=>hn (.inl e.symm)⟩ ((gO r wb 0 f).mono λ_ _ e=>.inr e);let D:=(aH.aS W).trans L;let R:=(aH.aS M).trans D;let A:=(aH.aS N).trans R;let V:dQ w (λb=>lN.ownBlock=some b\/b=wb) (82::K6):=λb X t m a J d=>by
  obtain d|rfl:=d
  .let⟨cur,k⟩:=cE Y d;rw[a]at k;cases k;exact absurd J aG
  .rw[hw]at a;cases a;exact absurd J aG
 let Q:dQ o (λb=>lN.ownBlock=some b\/b=wb) K6:=λb X t m a J d=>V b X t m ((N.block b (p b d).2)▸a) (sM _ J) d;let a6:dQ C (λb=>lN.ownBlock=some b\/b=wb) K6:=λb X t m a J d=>Q b X t m ((M.block b (fZ (p b d).2 z1))▸a) J d;let u:∀c,c≠0->Part wb Ms n E m c (λb=>(if b<w.heap.size then T b else if b<o.heap.size then 2*Ms.length+1 else if b<C.heap.size then 2*Ms.length+2 else 0)=c/\w0.heap.size<=b) (r.setCell (Ad wb 0) f):=λc hc=>((h.part c).lt.move A (λb a d=>hc (a.1.1.symm.trans (p b d).1.1)) (V.less λ_=>sM _)).mono λb a=>by simp[a.2,a.1]
 refine⟨λb=>if b<w.heap.size then T b else if b<o.heap.size then 2*Ms.length+1 else if b<C.heap.size then 2*Ms.length+2 else 0,⟨λc=>⟨λe=>?_,λj z y=>?_⟩,λx I=>?_,λb a=>?_,h.base.trans (A.mono λb _ a=>(p b a).1.2),h.mR,by have:=h.few;simp;omega⟩⟩
 .subst e;let G:∀{t:TypeId}{s k:Nat}{v:aE}{xs:aB aE},w.ownsRow 0 t s v k xs->t≠74->t≠70->(r.setCell (Ad wb 0) f).ownsRow 0 t s v k xs:=λq t1 t2=>cG q A λg i d=>by
   obtain d|rfl:=d
   .let⟨_,k⟩:=cE Y d;exact lf q k t1 i
   .exact lf q hw t2 i
  let K:r.heap[wb]?=some (.cells #[lN,Iv (n:Int),kv] 70 (0,0)):=(i.block wb aA λe=>lf Y hw aG e.symm).trans (W.aT (M.aT (N.aT hw)));refine⟨f,⟨kv,⟨by simp[World.setCell,uy,K],G H.kept aG aG,λe he=>?_,?_,λb a=>?_⟩⟩,?_,λg F=>?_⟩
  .obtain⟨⟨k1,p1,q1⟩,⟨k2,p2,q2⟩,h7⟩:=H.mR e he;exact⟨⟨k1,p1,G q1 aG aG⟩,⟨k2,p2,G q2 aG aG⟩,λb a=>by have:=h7 b a;simp[this.2,this.1]⟩
  .have:=H.own.1;simp[this.2,this.1]
  .have:=H.own.2 b a;simp[this.2,this.1]
  .rw[ml,ky];exact cG hr (gO r wb 0 f) λg i e=>lf hr K aG (e▸i)
  .rcases hv with e|e
   .have:=h4 g (e▸F);simp[this.2,this.1]
   .rw[e]at F;cases F;let e1:¬B.heap.size<w.heap.size:=aA;let e2:¬B.heap.size<o.heap.size:=aA;let e3:¬B.heap.size<C.heap.size:=aA;simp[e1,e2,e3];omega
 .rw[List.getElem?_append]at y;split at y
  .exact⟨λe=>⟨(((u c aA).2 j z y).1 e).1,(((u c aA).2 j z y).1 e).2.mono (qA m)⟩,λe=>⟨(((u c aA).2 j z y).2 e).1,(((u c aA).2 j z y).2 e).2.mono (qA m)⟩⟩
  .obtain⟨k,Z⟩:∃k,j-Ms.length=k:=⟨_,rfl⟩;rw[Z]at y;cases k with
   |succ k=>simp at y
   |zero=>
    obtain rfl:j=Ms.length:=aA;cases y;let⟨l,U⟩:=U;let⟨P1,U,o1⟩:=U.exact;let⟨_,_,_,_,O⟩:=O;let⟨P2,O,o2⟩:=O.exact;refine⟨λe=>⟨(lR.move ⟨l,U⟩ R (λb a d=>?_) (Q.less (by simp[K6]))).mono λb a=>?_,hS.mono cC⟩,λe=>⟨⟨_,_,_,_,(O.move D (λb a d=>?_) (a6.less (by simp[K6]))).mono λb a=>?_⟩,hS.mono cC⟩⟩
    .have:=(o1 b a).1;have:=(p b d).2;omega
    .let a1:=(o1 b a).1;let a2:=o1.lt a;simp[e,Nat.not_lt.2 a1,a2];omega
    .have:=(o2 b a).1;have:=(p b d).2;omega
    .let a1:=(o2 b a).1;let a3:¬b<w.heap.size:=aA;simp[e,Nat.not_lt.2 a1,o2.lt a,a3];omega
 .rcases jc.1 I with I|I
  .exact A.get (h.pair x I) (V _ _ _ _ (h.pair x I) (Di ..))
  .cases sO.1 I;refine L.get d λe=>?_;exact V _ _ _ _ (((W.block pb (by have:=(p pb e).2;omega)).trans ((M.block pb (by have:=(p pb e).2;omega)).trans (N.block pb (p pb e).2))).symm.trans d) (Di ..) e
 .have:=D.size;refine fZ (sI.1 λh9=>a ?_) this;let e1:¬b<w.heap.size:=aA;let e2:¬b<o.heap.size:=aA;let e3:¬b<C.heap.size:=aA;simp[e1,e2,e3]
end
theorem Me(xs:aB (BT dD)):∀n,n<=xs.length->uo (iY xs) n=um (xs.take n)
 |0,_=>by simp[uo,um]
 |n+1,h=>by
  let a:=h
  rw[uo,Me xs n aA,yD,fH a]
  unfold um iY
  rw[List.foldl_append,qB,fH a]
  rfl
theorem AF(xs)(a:∀x∈xs,gg x):(jB (iY xs) xs.length).length=iN xs:=by
 rw[((Aj (iY xs) xs.length λj b=>by unfold iY;rw[qB,fH b];exact a _ (xu _)).len),Me xs _ aZ,rD aZ];rfl
section
variable{O:Nat->Prop}{S:f_}{mb n:Nat}{w:aC}{l:PL}
theorem dN.nodes(h:dN O S mb l w)(d:S.OK n):l.K.length=Fw S:=by
 let c:l.ps.length=l.xs.length:=by rw[PL.xs,uP,h.aW.len]
 unfold PL.K Fw;rw[c,AF l.xs λx a=>by obtain⟨u,b,rfl⟩:=iZ.1 a;exact(d.each u (h.perm.mem_iff.1 b)).2.1];exact vW (h.perm.map _)
theorem HI(h:dN O S mb l w)(b:S.OK n):Calls prog 30 #[Pt mb] w λe a=>e=.returned (Iv (Fw S))/\a=w:=by
 rw[<-h.nodes b];exact WH mb l.aY _ _ _ _ l.no l.K.length l.bZ w h.vU h.watch.cell
theorem Rk(h:dN O S mb l w)(g:S.OK n):Calls prog 26 #[Pt mb] w λe a=>e=.returned (Iv (zH S))/\a=w:=by
 have c:l.C.length=zH S:=by rw[h.watch.len,h.ry.len g];rfl
 have d:w.cell? (Ad l.aY 3)=some (.slice l.ea l.C.length l.bO):=aD h.watch.cell rfl;have j:w.cell? (Ad mb 0)=some (Pt l.aY):=aD h.vU rfl;rw[c]at d;generalize l.aY=aY at*;generalize l.ea=ea at*;generalize l.bO=bO at*;generalize zH S=q at*;have f:Calls prog 90 #[Pt aY] w λe a=>e=.returned (Iv (q:Nat))/\a=w:=by
  go_enter func90,ntmps90;go_wp2;go_ret;exact⟨rfl,rfl⟩
 have b:Calls prog 47 #[Pt aY] w λe a=>e=.returned (Iv (q:Nat))/\a=w:=by
  go_enter func47,ntmps47;go_wp2_with fail;apply f.mono;rintro e i ⟨rfl,rfl⟩;go_wp2;go_ret;exact⟨rfl,rfl⟩
 go_enter func26,ntmps26;go_wp2_with fail;apply b.m0;go_wp2;go_ret;exact⟨rfl,rfl⟩
end
def xy(t:Int):aB Int->Nat
 |[]=>0
 |a::l=>if a<t then xy t l+1 else 0
theorem Dm(t:Int):∀l:aB nM,ly t l=xy t (l.map (·.1))
 |[]=>rfl
 |e::l=>by simp only[ly,hY,xy,Dm t l]
theorem N4(t:Int):∀C:aB jb,nU t C=xy t (C.map (·.time))
 |[]=>rfl
 |c::C=>by
  simp only[nU,hY,xy,N4 t C]
  by_cases h:c.time<t
  .rw[bN aA,bY h]
  .rw[bY aA,bN h]
theorem yY{e:Type}(f:e->Int)(t:Int):∀L:aB e,L.Pairwise (λa b=>f a<f b)->L.filter (λa=>decide (t<=f a))=L.drop (xy t (L.map f))
 |[],_=>rfl
 |a::L,h=>by
  let⟨h1,h2⟩:=Cz.1 h
  simp only[hY,xy]
  by_cases c:f a<t
  .rw[bY c,List.filter_cons_of_neg (by simpa using c),P9]
   exact yY f t L h2
  .rw[bN c,wF,List.filter_eq_self]
   intro b d
   obtain rfl|d:=gA.1 d
   .simpa using c
   .have:=h1 b d;simp;omega
theorem GO{t:Int}:∀{l:aB Int}{j:Nat}{a:Int},l.Pairwise (· < ·)->l[j]?=some a->xy t l<=j->t<=a
 |[],j,a,_,h,_=>by simp at h
 |b::l,j,a,d,h,c=>by
  let⟨h1,h2⟩:=Cz.1 d
  simp only[xy]at c
  split at c
  .cases j with
   |zero=>omega
   |succ j=>exact GO h2 (by simpa using h) aA
  .cases j with
   |zero=>simp at h;omega
   |succ j=>have:=h1 a (iF (by simpa using h));omega
section
variable{S:f_}{K:aB Key}{C:aB jb}{E:aB Pe}{n:Nat}
theorem f_.OK.Jt(a:S.OK n):S.off<=S.bH.length:=by rcases a.last with h|⟨_,h⟩<;>omega
theorem q_.rev(h:q_ S K C E):S.bH=S.bH.take S.off++E.map Pe.nz:=by
 let a:=oB List.reverse h.ry;rw[BF,Ip,<-Pc,Ip,Ip]at a;exact a.symm
theorem q_.drop(h:q_ S K C E):S.bH.drop S.off=E.map Pe.nz:=
 List.append_cancel_left ((yz S.off S.bH).trans h.rev)
theorem Vf{c:Type}{l:aB c}{j e}(d:l[j]?=some e):l.reverse=(l.drop (j+1)).reverse++e::(l.take j).reverse:=by
 obtain⟨b,rfl⟩:=eY.1 d;let a:=yz j l;rw[pw b]at a
 conv=>lhs;rw[<-a]
 simp
theorem q_.sem(h:q_ S K C E){j e}(f:E[j]?=some e){x c}(b:Good x)(k:pR K (aO x) c)(g:∀d∈S.bH.take S.off,d.1<e.time-bE (aO x)):e.at c=iU x S.bH (S.off+j):=by
 have a:=h.ok;rw[Vf f]at a;rw[(a.old.2.1 (aO x) c (dK b) (pV b) k λd i=>g d (List.mem_reverse.1 i)),Aa b];unfold iU;congr 1;rw[qG,List.take_add,h.drop,<-List.map_take,yD,f,ml,BF,BF];simp[List.map_reverse]
theorem q_.T5{S' a}(h:q_ S K C E)(k:S'.bH=S.bH)(d:S'.off=S.off)(i:C.length=E.length)(l:∀(j:Nat) c c0,a[j]?=some c->C[j]?=some c0->c.number=c0.number)(m:a.length=C.length)(b):q_ S' b a (kZ b E C.length):=by
 refine⟨?_,PD _ _ _ _,λj c f=>?_⟩
 .rw[k,d,i,Pc,Lj _ _ _ aZ,MA,<-Pc];exact h.ry
 .let g:=(eY.1 f).1;let e:C[j]?=some C[j]:=fH aA;rw[d,l j c _ f e,h.num j _ e]
def Ke(S:f_)(C:aB jb):Prop:=C.map (·.time)=(S.bH.drop S.off).map (·.1)
theorem q_.times{w}(h:q_ S K C E)(f:C.length=E.length)(hi:∀(i:Nat) c e,C[i]?=some c->E[i]?=some e->gU w c e):Ke S C:=by
 unfold Ke;rw[h.drop,CM];refine CF λj=>?_;rw[lj,lj];cases a:C[j]? with
 |none=>rw[List.getElem?_eq_none (by have:=Ik.1 a;omega)];rfl
 |some c=>
  let d:=(eY.1 a).1;let b:E[j]?=some E[j]:=fH aA;rw[b];exact oB some (hi j c _ a b).time
theorem DN(a:jb->Bool)(cP:Int):∀D:aB jb,yP a cP D=lr (D.map λc=>⟨c.number,c.time,cP,a c⟩)
 |[]=>rfl
 |c::D=>by
  have:=DN a cP D
  unfold yP lr at this⊢
  rw[List.flatMap_cons,this,hY,hY,CG]
  rfl
theorem back_eq(h:q_ S K C E)(o:S.OK n)(I:C.length=E.length)(s:Ke S C){x F}(H:Good x)(J:pR K (aO x) F){b}(N:∀(j:Nat) c e,C[j]?=some c->E[j]?=some e->b c=e.at F)(cP):
  (gS (bE x) C).length=(mr S x cP).length/\yP b cP (gS (bE x) C)=lr (mr S x cP):=by
 let M:=qp H;let L:=o.Jt;let k:C.length=S.bH.length-S.off:=by rw[I,h.len o]
 let f:((S.bH.drop S.off).map (·.1)).Pairwise (· < ·):=MG.2 (o.inc.sublist (List.drop_sublist _ _))
 suffices hm:∃q,S.off+q=qf S x/\gS (bE x) C=C.drop q/\∀(j:Nat) c,q<=j->C[j]?=some c->∀d∈S.bH.take S.off,d.1<c.time-bE x by
  let⟨q,hq,hk,p⟩:=hm
  suffices hv:(C.drop q).map (λc=>(⟨c.number,c.time,cP,b c⟩:Vd))=mr S x cP by
   rw[DN,hk,hv];exact⟨by rw[<-hv,uP],rfl⟩
  unfold mr Xc;rw[<-hq];refine CF λj=>?_;rw[lj,lj,uN];cases g:C[q+j]? with
  |none=>
   have:=Ik.1 g;rw[List.getElem?_eq_none (by rw[List.length_range];omega)];rfl
  |some c=>
   let P:=(eY.1 g).1;let B:E[q+j]?=some E[q+j]:=fH aA;rw[List.getElem?_range aA];let m:(S.bH.getD (S.off+q+j) (0,[])).1=c.time:=by
    let a:=oB (λl=>l[q+j]?) s;simp only[lj,g,uN]at a;rw[qB,qG];cases r:S.bH[S.off+(q+j)]? with
    |none=>rw[r]at a;cases a
    |some y=>rw[r]at a;exact(nD a).symm
   let O:E[q+j].time=c.time:=by
    rw[qB,qG,(h.at o B)]at m;exact m
   simp only[Iu,R8,GD,Vd.mk.injEq];refine⟨?_,m.symm,trivial,?_⟩
   .rw[h.num _ c g];omega
   .rw[N _ c _ g B,h.sem B H J (λd A=>by have:=p _ c aA g d A;omega),qG]
 cases hC:C with
 |nil=>
  let u:S.bH=[]/\S.off=0:=by
   obtain a|a:=o.last
   .rw[hC]at k;simp at k;omega
   .exact a
  exact⟨0,by unfold qf;rw[bY u.2];omega,rfl,λj c _ w=>by simp at w⟩
 |cons z R=>
  let u:C[0]?=some z:=by rw[hC];rfl
  let G:=(eY.1 u).1;let t:=h.num 0 z u;rw[<-hC];by_cases a:S.off=0
  .refine⟨0,by unfold qf;rw[bY a];omega,by rw[hC];simp only[gS,wF];rw[bY (by rw[t];omega)],λj c _ w d p=>?_⟩;rw[a]at p;simp at p
  .let v:(S.bH.getD S.off (0,[])).1=z.time:=by
    let a:=oB (λl=>l[0]?) s;simp only[lj,u,uN,FE]at a;rw[qB];cases r:S.bH[S.off]? with
    |none=>rw[r]at a;cases a
    |some y=>rw[r]at a;exact(nD a).symm
   refine⟨xy (z.time+bE x) (C.map (·.time)),?_,?_,λj c w g d p=>?_⟩
   .unfold qf;rw[bN a,v,Dm,<-s]
   .rw[<-yY (λc:jb=>c.time) _ C (MG.1 (s▸f))]
    conv=>lhs;rw[hC];simp only[gS]
    rw[bN (by rw[t];omega),<-hC];congr 1;funext d;rw[decide_eq_decide];omega
   .let Q:=GO (s▸f) (by rw[lj,g];rfl:(C.map (·.time))[j]?=some c.time) w;let⟨i,hi⟩:=Aw.1 p;rw[BH]at hi;split at hi
    .rename_i D;have:=Dg.1 o.inc i S.off aA aA D;rw[(eY.1 hi).2]at this;rw[qB,fH aA,fD]at v;omega
    .cases hi
theorem q_.take(h:q_ S K C E)(o:S.OK n)(r:C.length=E.length)(u:Ke S C){t A c num}(v:c.number=(S.bH.length:Int)+1){k}(p:nU (t-S.ret) C=k):q_ (S.take t A) K (C.drop k++[c]) (E.drop k++[eG (E.drop k).reverse K (⟨num,t,A,[]⟩:Pe).bare]):=by
 let s:=o.Jt;let m:sq S t=S.off+k:=by unfold sq;rw[Dm,<-p,N4,u]
 let w:k<=C.length:=p▸tX _ _;let q:C.length=S.bH.length-S.off:=by rw[r,h.len o]
 let l:(S.take t A).bH=S.bH++[(t,A)]:=rfl;let a:(S.take t A).off=S.off+k:=m;let⟨_,w2,w3,_⟩:=iX (E.drop k).reverse K (⟨num,t,A,[]⟩:Pe).bare;let f:(eG (E.drop k).reverse K (⟨num,t,A,[]⟩:Pe).bare).nz=(t,A):=by unfold Pe.nz;rw[w2,w3];rfl
 let g:(S.take t A).bH.take (S.take t A).off=S.bH.take S.off++(E.take k).map Pe.nz:=by
  rw[l,a,FJ aA,List.take_add,h.drop,List.map_take]
 refine⟨?_,?_,λj d e=>?_⟩
 .rw[g,l]
  conv=>rhs;rw[h.rev]
  rw[BF,BF,BF,BF,ml,<-nC];simp only[List.reverse_cons,List.reverse_nil,jq,hY,sR,f];rw[<-Pc,nC,nC];congr 1;rw[<-nC];congr 1;rw[<-Pc,<-ml,<-BF,yz]
 .rw[g,BF,BF,<-Pc];refine Fy ?_ _;apply kX.keep;rw[<-BF,yz];exact h.ok
 .obtain b|b:=BI j (C.drop k).length
  .rw[uw b,uN]at e;rw[h.num _ d e,a];omega
  .rw[sK b]at e;let i:j-(C.drop k).length=0:=by have:=(eY.1 e).1;simp at this;simp;omega
   rw[i]at e;simp at e;subst e;rw[v,a];simp at b i;omega
end
end Ev
end Go.Proofs.YtpbbmagjhkakgaaGreatDoor
