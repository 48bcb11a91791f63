import Derived.Test.YtpbbmagjhkakgaaGreatDoorB8
import Derived.Test.YtpbbmagjhkakgaaGreatDoorB9
import Derived.Conc.SmallLaws
import Derived.Conc.LeavingOf
namespace Go.Proofs.YtpbbmagjhkakgaaGreatDoor
set_option maxHeartbeats 4000000
set_option maxRecDepth 100000
namespace Lf
open Tryz Go Go.Conc Go.RowKit
variable{c B:Nat}{M Ro:Nat->Prop}
theorem vp:(prog.info? 59).map (λi=>(i.zero,i.size,i.bytes))=some (some (.agg #[Iv 0,Iv 0,Iv 0,.bool false]),4,32):=aM
def fM(ev time cO:Int)(h:Bool):aB aF:=[Iv ev,Iv time,Iv cO,.bool h]
theorem rX{w w':aC}{base size n e v xs}(h:w.ownsRow base e size v n xs)(l:∀k,v.ownBlock=some k->k<w.heap.size->w'.heap[k]?=w.heap[k]?):w'.ownsRow base e size v n xs:=by
 let d:=h.lt;obtain⟨b,⟨rfl,c⟩|⟨g,cap,a,rfl,j,f,i⟩⟩:=h
 .exact⟨b,.inl ⟨rfl,c⟩⟩
 .exact⟨b,.inr ⟨g,cap,a,rfl,j,by rw[l g rfl (d g rfl).2];exact f,i⟩⟩
theorem n_{w b S size n e v xs}(h:w.ownsRow 0 e size v n xs)(a:∀g,v.ownBlock=some g->(S g\/g<B)/\g≠c)(r:H_ c B S w b):b.ownsRow 0 e size v n xs:=
 rX h λk d f=>r.block k (a k d).2 f (a k d).1
theorem sH.Vb{P}{cc}{R}{q}{i}{o}{K}{a}{L}{S}{w}(Y:q[i]?=some o)
  (X:o.guard=none) (s x) (t) (d:o.op=Op.call {callee:=Callee.builtin Builtin.append,args:=#[s,x],argTypes:=#[t,t]})
  (e) (l) (z) (size bytes) (I:P.underlying t=some (.slice e)) (C:P.info? e=some l) (O:l.zero=some z) (H:l.size=size) (N:l.bytes=bytes) (U:z.cells.size=size) (Z:0<size)
  (v) (n) (xs) (p) (m cap) (news) (J:a.eval s=v) (G:a.eval x=.slice (some p) m cap) (E:news.length=m*size) (r:∀u∈news,u.oneCell'=true)
  (F:n+m<=maxLen) (D:(n+m)*bytes<=140737488355328) (Q:S p.block) (V:∀g,v.ownBlock=some g->g<B/\M g)
  (h:∀b,H_ c B S w b->b.ownsRow 0 e size v n xs/\(∀j u,news[j]?=some u->b.cell? (p.add j)=some u)/\∀f k,k.ownsRow 0 e size f (n+m) (xs++news)->b.grownBy k v.ownBlock->(f.ownBlock=v.ownBlock\/f.ownBlock=some b.heap.size)->K (a.put o.dst f) L (grow S b k) k):
  sH P true (H_ c B) (Af B M) cc R q i K a L S w:=by
 refine sH.op Y (by simp[Region.wanted,X]) (by intro ch y;rw[d];simp) λb T K' hK=>?_;let⟨pZ,hc,hk⟩:=h b T;let⟨f,k,D3,r1,r2,_,r3⟩:=run_append_own_at (P:=P) b 0 t o.type e l z size bytes I C O H N U Z v n xs pZ p m cap news E hc r F D cD;let W:(execOp a.eval o).run P b=.ok (.value f) k:=by
  simp[execOp,d,resolve,invoke,builtin,J,G,D3,Result.andThen]
 rw[W];refine hK _ _ ⟨Af.append r2 (λev A=>?_) Q V,hk f k r1 r2 r3⟩;let A:=mem_listed A;apply(events_append_where (P:=P) b 0 t o.type e l z size bytes I C O H N v n xs pZ p m cap news E hc r F D) ev;simp[execOp,d,resolve,invoke,builtin,J,G]at A;exact A
theorem Yg(H:uE c B M Ro)(cW)(sv)(n)(xs)(ev time cO)(h)(S)(w)
  (hS:∀b,S b->B<=b/\b<w.heap.size) (hB:B<=w.heap.size) (af:cW<B) (hM:M cW) (U:w.heap[cW]?=some (.cells #[sv] 177 (0,0))) (d:w.ownsRow 0 59 4 sv n xs) (Y:∀g,sv.ownBlock=some g->g<B/\M g) (hn:n<=1000000):
  lI prog true (H_ c B) (Af B M) 89 #[Pt cW,.agg #[Iv ev,Iv time,Iv cO,.bool h]] S w
   (λ_ S' w'=>∃m,H0 c B (λb=>b=cW\/sv.ownBlock=some b) S w S' w' [(cW,.cells #[m] 177 (0,0))]/\w'.ownsRow 0 59 4 m (n+1) (xs++fM ev time cO h)/\(m.ownBlock=sv.ownBlock\/∃g,m.ownBlock=some g/\S' g/\w.heap.size<=g)):=by
 have TT:=(kH c B M Ro H).t0;have f:H0 c B (λb=>b=cW\/sv.ownBlock=some b) S w S w [(cW,.cells #[sv] 177 (0,0))]:=H0.start hS H.chan hB (by
  intro p C;simp at C;subst C;exact⟨.inr af,(H.m _ hM).2,U⟩)
 have ah:sv.ownBlock≠some cW:=λe=>by
  obtain⟨h1,h2|⟨g,cap,b0,e1,_,e2,_⟩⟩:=d
  .rw[h2.1]at e;cases e
  .rw[e1]at e;cases e;rw[U]at e2;cases e2
 have O:∀(S:Nat->Prop) g,sv.ownBlock=some g->(S g\/g<B)/\g≠c:=λS g z=>⟨.inr (Y g z).1,(H.m g (Y g z).2).2⟩;generalize X:(λ(_:Value)(S':Nat->Prop)(w':World)=>∃m,H0 c B (λb=>b=cW\/sv.ownBlock=some b) S w S' w' [(cW,.cells #[m] 177 (0,0))]/\w'.ownsRow 0 59 4 m (n+1) (xs++fM ev time cO h)/\(m.ownBlock=sv.ownBlock\/∃g,m.ownBlock=some g/\S' g/\w.heap.size<=g))=au;obtain⟨D,F⟩:∃D,D=S:=⟨_,rfl⟩;obtain⟨A,N⟩:∃A,A=w:=⟨_,rfl⟩;rw[<-F,<-N]at f X;have f:H0 c B (λb=>b=cW\/sv.ownBlock=some b) D A S w [(cW,.cells #[sv] 177 (0,0))]:=by rw[F,N]at f⊢;exact f
 clear F N U hS hB;intro Stop cf cs hk;rw[enter_at _ func89 rfl];simp only[ntmps89,jn,hY,jl,Nat.reduceAdd,Nat.reduceSub,ye,yf,yi,yh,jW,mz];apply RT.seq TT;apply RT.region TT;simp only[jn,hY,jl,fC,List.range,List.range.loop];refine RT.op rfl (by rfl) (by simp[base]) λv1 J K hK=>?_;replace f:=f.rely J;replace d:=n_ d (O S) J;go_simp;refine hK _ _ ⟨by rw[listed_nil (by simp[go_sem])];exact Af.alloc _ _ _,?_⟩;clear hK K J;replace d:=rX (w':=v1.alloc (.cells #[Iv ev,Iv time,Iv cO,.bool h] 59)) d λk _ hl=>dL v1 _ hl;have ar:=f;replace f:=f.alloc (.cells #[Iv ev,Iv time,Iv cO,.bool h] 59);generalize grow _ v1 (v1.alloc _)=T1 at f⊢;have aq:=gC f.low (ar.size);generalize ay:v1.heap.size=b1 at f aq⊢;generalize v1.alloc _=u1 at f d⊢;apply RT.nil TT;obtain⟨I,ai⟩:∃I:(Nat->Prop)->World->Prop,I=λS w'=>H0 c B (λb=>b=cW\/sv.ownBlock=some b) D A S w' [(b1,.cells #[Iv ev,Iv time,Iv cO,.bool h] 59),(cW,.cells #[sv] 177 (0,0))]:=⟨_,rfl⟩;have T:∀S x y,I S x->H_ c B S x y->I S y:=ai▸λS x y h r=>h.rely r;let Qv:Act->aB aF->(Nat->bQ)->aC->bQ:=λa L S w'=>RT prog true (H_ c B) (Af B M) Stop S (G ((base 89).at a []) (cf::cs)) w';have R:∀a L S x y,Qv a L S x->H_ c B S x y->Qv a L S y:=λa L S x y h r=>RT.rely TT h r;refine RT.drawn (Stop:=λ_=>Stop) (L:=[]) (c:=c) (Q:=Qv) (I:=I) (fn:=89) (fin:=10) TT (.inl (by intro o ho ch x;simp at ho;rcases ho with rfl|rfl|rfl|rfl|rfl|rfl|rfl|rfl|rfl|rfl|rfl<;>simp)) rfl (by simp[base]) aM (λa L S w' hq=>hq) λE J=>?_;subst ai;replace f:=f.rely J;replace d:=n_ d (O _) J;have ae:H_ c B T1 E {E with drawn:=E.drawn+1}:=⟨aX,λ_ _ _ _=>rfl,rfl,rfl,rfl⟩;replace f:=f.rely ae;replace d:=n_ d (O _) ae;simp only[jn,hY,jl,Nat.reduceAdd,fC];generalize({E with drawn:=E.drawn+1}:aC)=x1 at f d⊢;have hI:=f;refine tk TT T R 0 hI ?_
 try walk_nrm
 refine tk TT T R 1 hI ?_
 try walk_nrm
 refine tk TT T R 2 hI ?_
 try walk_nrm
 refine tk TT T R 3 hI ?_
 try walk_nrm
 refine tk TT T R 4 hI ?_
 try walk_nrm
 refine tk TT T R 5 hI ?_
 try walk_nrm
 refine kz (i:=6) jU (sH.op rfl (by rfl) aE λq ad K hK=>?_);replace f:=f.rely ad;replace d:=n_ d (O _) ad;go_simp;refine hK _ _ ⟨by rw[listed_nil (by simp[go_sem])];exact Af.alloc _ _ _,?_⟩;replace d:=rX (w':=q.alloc (.cells #[Iv ev,Iv time,Iv cO,.bool h] 59)) d λk _ hl=>dL q _ hl;have aj:=f.base;have a1:grow T1 q (q.alloc (.cells #[Iv ev,Iv time,Iv cO,.bool h] 59)) q.heap.size:=.inr ⟨aX,by rw[bM];exact jV⟩;replace f:=f.alloc (.cells #[Iv ev,Iv time,Iv cO,.bool h] 59);generalize grow T1 q (q.alloc _)=T2 at f a1⊢;generalize ax:q.heap.size=b2 at f a1 aj⊢;generalize q.alloc _=u2 at f d⊢;refine⟨λ_=>f.less λp C=>.tail _ C,?_⟩
 try walk_nrm
 obtain⟨ti,ak,P⟩:=na.1 vp;simp only[oC]at P;refine kz (i:=7) jU (sH.Vb rfl rfl (.tmp 8) (.tmp 10) 54 rfl 59 ti _ 4 32 underlying54 ak P.1 P.2.1 P.2.2 rfl aG sv n xs (Ad b2 0) 1 1 (fM ev time cO h) rfl rfl rfl ?o7 (by simp only[maxLen];omega) aA a1 Y λW a8=>⟨n_ d (O _) a8,?c7,?k7⟩)
 case o7=>intro u hu;simp[fM]at hu;rcases hu with rfl|rfl|rfl|rfl<;>rfl
 case c7=>
  intro j u hj;have Z:=f.rely a8;rcases j with _|_|_|_|j<;>simp[fM]at hj<;>subst hj
  .simpa[Addr.add]using Z.cell (i:=0) (.head _) rfl
  .simpa[Addr.add]using Z.cell (i:=1) (.head _) rfl
  .simpa[Addr.add]using Z.cell (i:=2) (.head _) rfl
  .simpa[Addr.add]using Z.cell (i:=3) (.head _) rfl
 intro m w4 V r2 r3;replace f:=f.rely a8;have aa:=f.size;have b3:=f.base;replace f:=f.grown r2 (λg z=>.inr z) (by
  intro p C e;simp at C;rcases C with rfl|rfl|rfl
  .have:=(Y _ e.symm).1;simp at this;omega
  .have:=(Y _ e.symm).1;simp at this;omega
  .exact ah e.symm)
 have a7:m.ownBlock=sv.ownBlock\/∃g,m.ownBlock=some g/\grow T2 W w4 g/\A.heap.size<=g:=r3.imp id λe=>⟨_,e,.inr ⟨aX,(V.lt _ e).2⟩,aa⟩;have s:∀g,m.ownBlock=some g->(grow T2 W w4 g\/g<B)/\g≠c/\g≠cW:=by
  intro g z;obtain e|⟨g',e,e2,e3⟩:=a7
  .rw[e]at z;exact⟨(O _ g z).1,(O T2 g z).2,λx=>ah (x▸z)⟩
  .rw[e]at z;cases z;have:=f.low;exact⟨.inl e2,λx=>by have:=H.chan;omega,λx=>aA⟩
 refine⟨λ_=>f.less λp C=>.tail _ C,?_⟩;generalize grow T2 W w4=T3 at f a7 s⊢
 try walk_nrm
 refine kz (i:=8) jU (sH.op rfl (by rfl) aE λw8 J K hK=>?_);replace f:=f.rely J;replace V:=n_ V (λg z=>⟨(s g z).1,(s g z).2.1⟩) J;go_simp;refine hK _ _ ⟨by rw[listed_nil (by simp[go_sem])];exact TT.idle _ _,?_⟩;rw[cZ];refine⟨λ_=>f.less λp C=>.tail _ C,?_⟩
 try walk_nrm
 refine kz (i:=9) jU (sH.op rfl (by rfl) aE λw9 J K hK=>?_);replace f:=f.rely J;replace V:=n_ V (λg z=>⟨(s g z).1,(s g z).2.1⟩) J;go_simp;refine hK _ _ ⟨by rw[listed_nil (by simp[go_sem])];exact TT.idle _ _,?_⟩;rw[cZ];refine⟨λ_=>f.less λp C=>.tail _ C,?_⟩
 try walk_nrm
 refine kz (i:=10) jU (sH.op rfl (by rfl) aE λa6 J K hK=>?_);replace f:=f.rely J;replace V:=n_ V (λg z=>⟨(s g z).1,(s g z).2.1⟩) J;have Z:H0 c B (λb=>b=cW\/sv.ownBlock=some b) D A T3 a6 [(cW,.cells #[sv] 177 (0,0))]:=f.less (λp C=>by simp at C;subst C;simp);have az:=Z.cell (i:=0) (.head _) rfl;have hz:a6.frozen? (Ad cW 0)=false:=by simp[World.frozen?,(Z.get (.head _))]
 have an:∃(o:aQ a_)(l k:Nat),m=.slice o l k:=by rcases V.2 with⟨e,_⟩|⟨_,_,_,e,_⟩<;>exact⟨_,_,_,e⟩
 obtain⟨oo,ll,kk,rfl⟩:=an;go_simp;refine hK _ _ ⟨?_,?_⟩
 .refine Af.Ut (b:=cW) (.inr ⟨af,hM⟩) (by simp only[eC]) (λk hk=>b_ _ _ _ hk) λe he=>?_;have hm:=mem_listed he;simp[go_sem,events_store (v:=Value.slice oo ll kk) (hv:=rfl), *]at hm;obtain rfl:=hm<;>exact⟨_,rfl,rfl⟩
 rw[pd _ (by simp only[eC])];replace Z:=Z.set (i:=0) (v:=.slice oo ll kk) (.inr (.inl rfl)) (by intro p C;simp at C);replace V:=rX (w':=a6.setCell (Ad cW 0) (.slice oo ll kk)) V λk hk _=>b_ _ _ _ (s k hk).2.2;refine⟨λx=>absurd rfl x,?_⟩;refine Aq jU (RT.ends TT (RT.leave TT (v:=.tuple #[]) rfl rfl func89 (λag aw=>?_) (hk _ _ _ (X▸⟨_,Z,V,a7⟩)))) _;refine⟨by simp[results,go_sem],?_⟩;rw[show∀t,Sem.events prog (results f89 t) ag #[]=#[]from λt=>by simp[results,go_sem],seen_none];exact TT.idle _ _
end Lf
namespace Lf
open Tryz Go Go.Conc Go.RowKit
variable{c B:Nat}{M Ro:Nat->Prop}
theorem Tq(H:uE c B M Ro)(A u z)(sv)(N)(nn)(v t E k d m h o n f l j i)(T)(w):
  SB prog c (C2 c Ro) (Aj c Ro) (Mf c Ro) nn [] T (BH c A u z sv N N v t E k d m h o n f l j i) w:=by
 let g:=kH c B M Ro H;let a:=g.tB;apply SB.nU g;simp only[BH,Gy,oP,f133,ig];apply RT.seq a;apply RT.region a;simp only[jn,hY,jl,fC,List.range,List.range.loop];refine RT.op rfl (by rfl) (by simp[baseD]) λI F K D=>?_;go_simp;refine D _ _ ⟨by rw[listed_nil (by simp[go_sem])];exact a.idle _ _,?_⟩;rw[cZ];apply RT.nil a;apply RT.seq a;apply RT.cond a false (by simp[Act.eval]);simp only[fx,gD];apply RT.exit a rfl;apply RT.ends a;apply SB.walk g;refine .close rfl (by simp[mayWake,G,Frame.at]) (λb C s r _ y=>⟨#[⟨.obj c,false,true⟩],MB _ _ b y,λe q=>?_⟩) (NM _ _);simp at q;subst q;exact⟨λx p _=>(by simp[MemAct.ofEvent,MemAct.touch?]at p;subst p;exact .inr rfl),aE,aE⟩
theorem XE(H:uE c B M Ro)(F D E pb A cap J so n cp)(num time)(at_)(r)(I)(u)(m)(ps)(G:eI r A ps)(K:ps.length<9223372036854775807)(C:∀p∈ps,u[so+p.node]?=some (.bool p.v)/\p.node<n)(nn)(t)(s):
  ∀j k,k+j=ps.length->∀y x z g a l d q o b i f e (T) (w),HB c Ro t s T w (UP c F D E pb A ps.length cap J so n cp num time at_ r I u m)->
   SB prog c (C2 c Ro) (Aj c Ro) (Mf c Ro) nn ((ps.drop k).map (letter num time)) T (BH c F D E (.slice (some (Ad pb A)) ps.length cap) ps.length k y x z g a l d q o b i f e) w:=by
 intro j
 induction j with
 |zero=>
  intro k L y x z g a l d q o b i f e T w _;obtain rfl:k=ps.length:=aA;rw[List.drop_length,sD];exact Tq H _ _ _ _ _ _ _ _ _ _ _ _ _ _ _ _ _ _ _ _ _
 |succ j O=>
  intro k L y x z g a l d q o b i f e T w N;let v:k<ps.length:=aA;rw[oV v,gW];exact V' H _ F D E pb A cap J so n cp num time at_ r I u m ps G K C nn k _ (fG v) _ _ _ _ _ _ _ _ _ _ _ _ _ t s T w N λy x z g a l d q o b i f e T w h=>O (k+1) aA y x z g a l d q o b i f e T w h
theorem Ve(H:uE c B M Ro)(g e f pb h cap o so n cp)(num time)(at_)(a)(i)(b)(m)(ps)(s:eI a h ps)(u:ps.length<9223372036854775807)(j:∀p∈ps,b[so+p.node]?=some (.bool p.v)/\p.node<n)(nn)(T)(w)(v:c<w.heap.size)
  (r:∀q∈UP c g e f pb h ps.length cap o so n cp num time at_ a i b m,(T q.1\/Ro q.1)/\q.1≠c/\w.heap[q.1]?=some q.2):
  SB prog c (C2 c Ro) (Aj c Ro) (Mf c Ro) nn (ps.map (letter num time)) T (born prog (call133 g e f)) w:=by
 let k:=kH c B M Ro H;let TT:=k.tB;let hF:HB c Ro T w T w (UP c g e f pb h ps.length cap o so n cp num time at_ a i b m):=.start v r;let d:=XE H g e f pb h cap o so n cp num time at_ a i b m ps s u j nn T w ps.length 0 aA;simp only[BH,Gy,oP,f133,ig,vU,Int.natCast_zero]at d;refine SB.nU k (RT.one rfl λy l=>?_);rw[Ge,goes_go,cZ];refine⟨TT.idle _ _,?_⟩;replace hF:=hF.rely l;simp only[oP,f133,ig]
 revert hF
 refine zO λz hF=>?_;apply RT.defer TT rfl (by rfl) (by simp[baseD]) (uN c) (λt=>by simp[execOp,resolve,Act.eval,uN]) (λt=>by simp[execOp,resolve,Act.eval]);simp only[Act.put]
 revert hF
 refine zO λt hF=>?_
 revert hF
 refine zO λA hF=>?_
 revert hF
 refine zO λx hF=>?_;apply RT.nil TT;apply RT.block TT;apply RT.loop TT;exact SB.walk k (d _ _ _ _ _ _ _ _ _ _ _ _ _ _ _ hF)
theorem Sr(H:uE c B M Ro)(b d h)(nn)(T)(w)(j:c<w.heap.size)
  (e:∀q∈([(b,.cells #[.chan (some c)] 235),(d,.cells #[.slice none 0 0] 151)]:aB (Nat×Obj)),(T q.1\/Ro q.1)/\q.1≠c/\w.heap[q.1]?=some q.2):
  SB prog c (C2 c Ro) (Aj c Ro) (Mf c Ro) nn [] T (born prog (call133 b d h)) w:=by
 let f:=kH c B M Ro H;let TT:=f.tB;let hF:HB c Ro T w T w [(b,.cells #[.chan (some c)] 235),(d,.cells #[.slice none 0 0] 151)]:=.start j e;let a:=Tq (nn:=nn) H b d h (.slice none 0 0) 0;simp only[BH,Gy,oP,f133,ig,Int.natCast_zero]at a;refine SB.nU f (RT.one rfl λl g=>?_);rw[Ge,goes_go,cZ];refine⟨TT.idle _ _,?_⟩;replace hF:=hF.rely g;simp only[oP,f133,ig]
 revert hF
 refine zO λm hF=>?_;apply RT.defer TT rfl (by rfl) (by simp[baseD]) (uN c) (λi=>by simp[execOp,resolve,Act.eval,uN]) (λi=>by simp[execOp,resolve,Act.eval]);simp only[Act.put]
 revert hF
 refine zO λi hF=>?_
 revert hF
 refine zO λn hF=>?_
 revert hF
 refine zO λk hF=>?_;apply RT.nil TT;apply RT.block TT;apply RT.loop TT;exact SB.walk f (a _ _ _ _ _ _ _ _ _ _ _ _ _ _ _)
end Lf
namespace Lf
open Tryz Go Go.Conc Go.RowKit
structure ld where
 cW:Nat
 sv:aF
 n:Nat
 xs:aB aF
def f_(w:aC)(s:ld):Prop:=w.heap[s.cW]?=some (.cells #[s.sv] 177 (0,0))/\w.ownsRow 0 59 4 s.sv s.n s.xs
def Apart(ss:aB ld):Prop:=∀(i j:Nat)(s t:ld),ss[i]?=some s->ss[j]?=some t->i≠j->s.cW≠t.cW/\∀g,s.sv.ownBlock=some g->t.sv.ownBlock≠some g
def Ms(ss:aB ld)(b:Nat):Prop:=∃s∈ss,b=s.cW\/s.sv.ownBlock=some b
theorem f_.ne{w s t}(h:f_ w s)(k:f_ w t):s.sv.ownBlock≠some t.cW:=λe=>by
 obtain⟨f,a|⟨g,cap,d,b,_,c,_⟩⟩:=h.2
 .rw[a.1]at e;cases e
 .rw[b]at e;cases e;have:=k.1;rw[c]at this;cases this
theorem f_.heap{w w' s}(h:f_ w s)(a:∀b,b<w.heap.size->(b=s.cW\/s.sv.ownBlock=some b)->w'.heap[b]?=w.heap[b]?):f_ w' s:=
 ⟨by rw[a s.cW (aL h.1) (.inl rfl)];exact h.1,rX h.2 λk d c=>a k c (.inr d)⟩
structure ng(B:Nat)(ss:aB ld)(num time:Int)(ps:aB mW)(k:Nat)(S:Nat->Prop)(w:aC)(now:aB ld):Prop where
 len:now.length=ss.length
 rest:∀i,k<=i->now[i]?=ss[i]?
 done:∀i s p,i<k->ss[i]?=some s->ps[i]?=some p->∃t,now[i]?=some t/\t.cW=s.cW/\t.n=s.n+1/\t.xs=s.xs++fM num time p.cO p.v/\(t.sv.ownBlock=s.sv.ownBlock\/∃g,t.sv.ownBlock=some g/\S g)
 ok:∀t∈now,f_ w t
 apart:Apart now
 mine:∀t∈now,(∃s∈ss,s.cW=t.cW)/\∀g,t.sv.ownBlock=some g->S g\/Ms ss g
section
variable{c B:Nat}{ss:aB ld}{num time:Int}{ps:aB mW}{k:Nat}{S S':Nat->Prop}{w w':aC}{now:aB ld}
theorem ng.heap(h:ng B ss num time ps k S w now)(q:∀b,S b->S' b)(l:∀b,Ms ss b->b<B/\b≠c)(m:∀b,S b->b≠c)(o:∀b,(S b\/b<B)->b<w.heap.size->b≠c->w'.heap[b]?=w.heap[b]?):ng B ss num time ps k S' w' now:=
 ⟨h.len,h.rest,λi s p a b d=>by
  let⟨t,t1,t2,t3,t4,t5⟩:=h.done i s p a b d
  exact⟨t,t1,t2,t3,t4,t5.imp id λ⟨g,v,r⟩=>⟨g,v,q g r⟩⟩,λt f=>(h.ok t f).heap λb n j=>by
   obtain rfl|j:=j
   .let⟨s,hs,e⟩:=(h.mine t f).1
    have:=l t.cW ⟨s,hs,.inl e.symm⟩
    exact o _ (.inr this.1) n this.2
   .obtain x|x:=(h.mine t f).2 b j
    .exact o _ (.inl x) n (m b x)
    .exact o _ (.inr (l b x).1) n (l b x).2,h.apart,λt f=>⟨(h.mine t f).1,λg u=>((h.mine t f).2 g u).imp (q g) id⟩⟩
theorem ng.start(a:∀s∈ss,f_ w s)(m_:Apart ss):ng B ss num time ps 0 S w ss:=
 ⟨rfl,λ_ _=>rfl,λ_ _ _ h=>absurd h (zX _),a,m_,λt b=>⟨⟨t,b,rfl⟩,λ_ c=>.inr ⟨t,b,.inr c⟩⟩⟩
theorem ng.step(h:ng B ss num time ps k S w now){s p}(Q:ss[k]?=some s)(hp:ps[k]?=some p)(R:∀b,Ms ss b->b<B/\b≠c){f}
  (v:H0 c B (λb=>b=s.cW\/s.sv.ownBlock=some b) S w S' w' [(s.cW,.cells #[f] 177 (0,0))]) (hr:w'.ownsRow 0 59 4 f (s.n+1) (s.xs++fM num time p.cO p.v)) (O:f.ownBlock=s.sv.ownBlock\/∃g,f.ownBlock=some g/\S' g/\w.heap.size<=g):
  ∃D,ng B ss num time ps (k+1) S' w' D:=by
 let r:=(h.rest k aX).trans Q;let q:=(e_.1 r).1;let C:=iA r;let E:=iA Q;let o:∀t∈now,∀g,t.sv.ownBlock=some g->g<w.heap.size:=λt F g l=>((h.ok t F).2.lt g l).2;refine⟨now.set k ⟨s.cW,f,s.n+1,s.xs++fM num time p.cO p.v⟩,by simp[h.len],λi hi=>?_,λi T p' hi n z=>?_,λt F=>?_,λi j t u hi I P=>?_,λt F=>?_⟩
 .rw[yj aA];exact h.rest i aA
 .by_cases a:i=k
  .subst a;rw[Q]at n;cases n;rw[hp]at z;cases z;exact⟨⟨s.cW,f,s.n+1,s.xs++fM num time p.cO p.v⟩,by rw[rh q],rfl,rfl,rfl,O.imp id λ⟨g,N,M,_⟩=>⟨g,N,M⟩⟩
  .let⟨t,t1,t2,t3,t4,t5⟩:=h.done i T p' aA n z;exact⟨t,by rw[yj aA];exact t1,t2,t3,t4,t5.imp id λ⟨g,N,M⟩=>⟨g,N,v.mine g M⟩⟩
 .let⟨i,hi⟩:=Ae.1 F;by_cases a:i=k
  .subst a;rw[rh q]at hi;cases hi;exact⟨v.get (.head _),hr⟩
  .rw[yj aA]at hi;let d:=iA hi;let m_:=h.apart i k t s hi r a;refine(h.ok t d).heap λb X A=>?_;let m:=v.keep b;obtain rfl|A:=A
   .let⟨T,n,e⟩:=(h.mine t d).1;have:=R t.cW ⟨T,n,.inl e.symm⟩;exact m (.inr this.1) X this.2 λx=>x.elim m_.1 λe=>(h.ok s C).ne (h.ok t d) e
   .refine m (((h.mine t d).2 b A).imp id λx=>(R b x).1) X ?_ λx=>x.elim (λe=>(h.ok t d).ne (h.ok s C) (e▸A)) λe=>m_.2 b A e
    .obtain x|x:=(h.mine t d).2 b A
     .have:=v.own b (v.mine b x);have:=v.chan;omega
     .exact(R b x).2
 .let H:∀i j t u,(now.set k ⟨s.cW,f,s.n+1,s.xs++fM num time p.cO p.v⟩)[i]?=some t->now[j]?=some u->i=k->j≠k->t.cW≠u.cW/\∀g,t.sv.ownBlock=some g->u.sv.ownBlock≠some g:=by
   intro i' Z t' W G J e y;rw[e,rh q]at G;cases G;let m_:=h.apart k Z s W r J λe=>y e.symm;refine⟨m_.1,λg l K=>?_⟩;obtain e|⟨Y,U,_,V⟩:=O
   .exact m_.2 g (e▸l) K
   .let L:=l;rw[U]at L;cases L;have:=o W (iA J) g K;omega
  by_cases a:i=k
  .rw[yj aA]at I;exact H i j t u hi I a aA
  .rw[yj aA]at hi;by_cases y:j=k
   .have:=H j i u t I hi y a;exact⟨λe=>this.1 e.symm,λg l K=>this.2 g K l⟩
   .rw[yj aA]at I;exact h.apart i j t u hi I P
 .let⟨i,hi⟩:=Ae.1 F;by_cases a:i=k
  .subst a;rw[rh q]at hi;cases hi;refine⟨⟨s,E,rfl⟩,λg l=>?_⟩;obtain e|⟨Y,U,L,_⟩:=O
   .exact .inr ⟨s,E,.inr (e▸l)⟩
   .let V:=l;rw[U]at V;cases V;exact .inl L
  .rw[yj aA]at hi;let d:=iA hi;exact⟨(h.mine t d).1,λg l=>((h.mine t d).2 g l).imp (v.mine g) id⟩
end
theorem Q6{b:Frame}{a c i rest k d o}(e:c[i]?=some o)(v):Go.Conc.served (G (b.at a (.inRegion c (i::rest)::k)) d) v=G (b.at (a.put o.dst v) (.inRegion c rest::k)) d:=by
 show{(G (b.at a (.inRegion c (i::rest)::k)) d)with frame:=(b.at a (.inRegion c (i::rest)::k)).finish v,status:=.running,offers:=Option.none}=_;rw[UN,e];rfl
noncomputable def nC:Code:=f46.body.getD .skip
noncomputable def zc:Code:=match nC with
 |.seq _ (.seq _ (.seq _ (.seq (.seq _ (.block _ (.loop x))) _)))=>x
 |_=>.skip
noncomputable def si:Code:=match nC with
 |.seq _ (.seq _ (.seq _ (.seq _ x)))=>x
 |_=>.skip
noncomputable def X5:aY Oper:=match zc with
 |.seq (.region _ o _) _=>o
 |_=>#[]
noncomputable def DZ(c:Nat)(x0 x1 x2 x3 I L J H F r j k A o n u e d g s D p l B x y m v i E f:aF)(K:aB Frame)(M q b w h z t C a:aF):bU:=
 G ((base 46).at ⟨#[x0,x1,x2,x3,I,L,J,H,F,M,r,j,k,A,o,n,u,e,d,g,s,D,p,l,B,x,y,m,v,i,E,f,.chan (some c),q,b,w,h,z,t,C,a],[]⟩ [.code zc,.inLoop zc,.inBlock 0,.code si]) K
abbrev zE:aF:=(.agg #[.pointer none,Iv 0,Iv 0,Iv 0,.bool false])
noncomputable def Kf(c:Nat)(x0 x1 x2 x3 I L J H F q j k A o n t e d g r D p l B w x m u i E f:aF)(K:aB Frame)(M _u33 b v h z s C a:aF):bU:=
 G ((base 46).at ⟨#[x0,x1,x2,x3,I,L,J,H,F,M,q,j,k,A,o,n,t,e,d,g,r,D,p,l,B,w,x,m,u,i,E,f,.chan (some c),(.tuple #[zE,.bool false]),b,v,h,z,s,C,a],[]⟩ [.inRegion X5 [1],.code (match zc with|.seq _ y=>y|_=>.skip),.inLoop zc,.inBlock 0,.code si]) K
variable{c B:Nat}{M Ro:Nat->Prop}
theorem YR(H:uE c B M Ro)(x0 x1 x2 x3 U X V R O t l m F q p x g f i u I r n G C D o z k J h)(W)(Z s e A j E v L d)(K)(S)(w)
  (Q:∀w',H_ c B S w w'->K (Kf c x0 x1 x2 x3 U X V R O t l m F q p x g f i u I r n G C D o z k J h W Z s e A j E v L d) w'):SA prog c zE (H_ c B) (Af B M) (RP B M) K [] S (DZ c x0 x1 x2 x3 U X V R O t l m F q p x g f i u I r n G C D o z k J h W Z s e A j E v L d) w:=by
 let T:=kH c B M Ro H;let N:=T.t0;apply SA.nU T;simp only[DZ,Kf,zc,si,X5,nC,f46,ig]at Q⊢;apply RT.seq N;apply RT.region N;simp only[jn,hY,jl,Nat.reduceAdd,fC,List.range,List.range.loop];refine .stop λY y=>SA.fin rfl (λa b=>⟨_,stepG_comm (P:=prog) (cases:=#[rcase c zE]) (blocking:=true) (shape:=.recv true) (w':=a) rfl (by rfl) (by simp[base]) (by simp[execOp,go_sem];rfl),by rw[listed_nil (by simp[go_sem])];simp⟩) λa b=>Q a (N.trans _ _ _ _ y b)
theorem Wa(H:uE c B M Ro)(x0 x1 x2 x3 x4 x5 x6 x7 x8 a7 Q R ad au ai aw Z Y ag a8 ax T ah ak U V a6 aj ar an af)(cs)(K)(L)(ss)(num time)(ps)(o:∀b,Ms ss b->M b)(hn:∀s∈ss,s.n<=1000000)
  (k) (s) (p) (hs:ss[k]?=some s) (hp:ps[k]?=some p) (b0:p.fV=some (Ad s.cW 0)) (E) (X z r m l q n A u) (S) (w) (now)
  (G:H0 c B M (λ_=>False) E S w []) (hT:ng B ss num time ps k S w now)
  (next:∀X z r m l q n A u (S) (w) (now),H0 c B M (λ_=>False) E S w []->ng B ss num time ps (k+1) S w now->SA prog c zE (H_ c B) (Af B M) (RP B M) K L S (DZ c x0 x1 x2 x3 x4 x5 x6 x7 x8 a7 Q R ad au ai aw Z Y ag a8 ax T ah ak U V a6 aj ar an af cs X z r m l q n A u) w):
  SA prog c zE (H_ c B) (Af B M) (RP B M) K (letter num time p::L) S (DZ c x0 x1 x2 x3 x4 x5 x6 x7 x8 a7 Q R ad au ai aw Z Y ag a8 ax T ah ak U V a6 aj ar an af cs X z r m l q n A u) w:=by
 have PP:=kH c B M Ro H;have TT:=PP.t0;have y:∀b,Ms ss b->b<B/\b≠c:=λb j=>H.m b (o b j);have a1:=λX z r m l q n A u S w now h1 h2=>SA.walk PP (next X z r m l q n A u S w now h1 h2);clear next
 apply SA.nU PP;simp only[DZ,zc,si,nC,f46,ig]at a1⊢;apply RT.seq TT;apply RT.region TT;simp only[jn,hY,jl,Nat.reduceAdd,fC,List.range,List.range.loop];refine .stop λaz aa=>SA.recv rfl (λa C=>⟨_,stepG_comm (P:=prog) (cases:=#[rcase c zE]) (blocking:=true) (shape:=.recv true) (w':=a) rfl (by rfl) (by simp[base]) (by simp[execOp,go_sem];rfl),by rw[listed_nil (by simp[go_sem])];simp⟩) λa C=>?_;have UR:=TT.trans _ _ _ _ aa C;have J:∀b,S b->b≠c:=λb j e=>by have:=(G.own b j).1;have:=G.chan;omega
 replace hT:ng B ss num time ps k S a now:=hT.heap (λ_ x=>x) y J λb j hl hc=>UR.block b hc hl j;replace G:=G.rely UR;have hF:H0 c B (λ_=>False) S a S a []:=H0.start G.own H.chan G.base aE;apply SA.nU PP;rw[Q6 rfl];simp only[recvd,letter,fA]
 try walk_nrm
 revert hF
 refine zO λv1 hF=>?_;apply RT.nil TT;apply RT.seq TT;apply RT.cond TT true (by simp[Act.eval]);simp only[fA];apply RT.skip TT
 revert hF
 refine zO λv2 hF=>?_
 revert hF
 refine zA λT3 u3 N hF t ay=>?_;refine RT.op rfl (by rfl) (by simp[base]) λD hR K hK=>?_;replace hF:=hF.rely hR;have j:=hF.get (.head _);have b4:=hF.cell (i:=0) (.head _) rfl;have b1:=hF.cell (i:=1) (.head _) rfl;have b2:=hF.cell (i:=2) (.head _) rfl;have b6:=hF.cell (i:=3) (.head _) rfl;have b5:=hF.cell (i:=4) (.head _) rfl;have hz:∀i,D.frozen? (Ad N i)=false:=λi=>by simp[World.frozen?,j]
 go_simp;refine hK _ _ ⟨?_,?_⟩
 .refine Af.Ut (b:=N) (.inl ay) (by simp only[eC]) (λk O=>(b_ _ _ _ O).trans ((b_ _ _ _ O).trans ((b_ _ _ _ O).trans ((b_ _ _ _ O).trans (b_ _ _ _ O))))) λe he=>?_;have hm:=mem_listed he;simp[go_sem,events_store (v:=Value.bool p.v) (hv:=rfl),events_store (v:=(Pt s.cW)) (hv:=rfl), *]at hm;obtain rfl|rfl|rfl|rfl|rfl:=hm<;>exact⟨_,rfl,rfl⟩
 rw[pd _ (by simp only[eC])];replace hF:=(((((hF.set (i:=0) (v:=(Pt s.cW)) (.inl t.1) aE).set (i:=1) (v:=(Iv num)) (.inl t.1) aE).set (i:=2) (v:=(Iv time)) (.inl t.1) aE).set (i:=3) (v:=(Iv p.cO)) (.inl t.1) aE).set (i:=4) (v:=(.bool p.v)) (.inl t.1) aE);simp only[Pv,Cg,Hz]at hF;generalize(((((D.setCell (Ad N 0) (Pt s.cW)).setCell (Ad N 1) (Iv num)).setCell (Ad N 2) (Iv time)).setCell (Ad N 3) (Iv p.cO)).setCell (Ad N 4) (.bool p.v))=u5 at hF⊢
 revert hF
 refine zO λv6 hF=>?_
 revert hF
 refine zO λv7 hF=>?_
 revert hF
 refine zO λv8 hF=>?_
 revert hF
 refine zO λv9 hF=>?_;refine RT.call TT (f:=89) (Post:=λ_ S' w'=>∃F d,H0 c B (λ_=>False) S a T3 F []/\H0 c B (λb=>b=s.cW\/s.sv.ownBlock=some b) T3 F S' w' [(s.cW,.cells #[d] 177 (0,0))]/\w'.ownsRow 0 59 4 d (s.n+1) (s.xs++fM num time p.cO p.v)/\(d.ownBlock=s.sv.ownBlock\/∃g,d.ownBlock=some g/\S' g/\F.heap.size<=g)) rfl (by rfl) (by simp[base]) rfl func89 aG (by rfl) (λF hR=>?call) ?next
 case call=>
  replace hF:=(hF.rely hR).less (fs':=[]) aE;have ae:=hT.heap hF.mine y J λb j hl hc=>hF.keep b j hl hc λx=>x;have W:=ae.ok s (iA ((ae.rest k aX).trans hs));have h:=iA hs;have aq:=o s.cW ⟨s,h,.inl rfl⟩;have:=Yg H s.cW s.sv s.n s.xs num time p.cO p.v T3 F hF.own hF.base (H.m _ aq).1 aq W.1 W.2 (λg hg=>⟨(y g ⟨s,h,.inr hg⟩).1,o g ⟨s,h,.inr hg⟩⟩) (hn s h);simp only[F9,gW,sD]
  change lI prog true (H_ c B) (Af B M) 89 #[Pt s.cW,.agg #[Iv num,Iv time,Iv p.cO,.bool p.v]] _ F _
  apply lI.mono this;rintro _ S' w' ⟨d,r1,r2,r3⟩;exact⟨F,d,hF,r1,r2,r3⟩
 rintro v S' w' ⟨F,d,I,r1,r2,r3⟩;have⟨aaH,CR⟩:=(hT.heap I.mine y J λb j hl hc=>I.keep b j hl hc λx=>x).step hs hp y r1 r2 r3;have h:=iA hs
 try walk_nrm
 apply RT.nil TT;apply RT.inBlock TT;apply RT.inLoop TT;exact a1 _ _ _ _ _ _ _ _ _ S' w' aaH ((G.step I (λ_ x=>x.elim) aE).step r1 (λb j=>j.elim (λe=>o b ⟨s,h,.inl e⟩) λe=>o b ⟨s,h,.inr e⟩) aE) CR
theorem SN(H:uE c B M Ro)(x0 x1 x2 x3 x4 x5 x6 Z X G y z Q E D J r q u I T F A R N O C L v U t:aF)(cs:aB Frame)(K:bU->aC->bQ)(ss:aB ld)(num time:Int)(ps:aB mW)(W:∀b,Ms ss b->M b)(hn:∀s∈ss,s.n<=1000000)
  (a1:ss.length=ps.length) (a6:∀(i:Nat)(s:ld)(p:mW),ss[i]?=some s->ps[i]?=some p->p.fV=some (Ad s.cW 0)) (o:aC)
  (hk:∀(V g d j f l h n a:aF)(S:Nat->bQ)(w:aC)(now:aB ld),H0 c B M (λ_=>False) o S w []->ng B ss num time ps ps.length S w now->K (Kf c x0 x1 x2 x3 x4 x5 x6 Z X G y z Q E D J r q u I T F A R N O C L v U t cs V g d j f l h n a) w):
  ∀(m k:Nat),k+m=ps.length->∀(V g d j f l h n a:aF)(S:Nat->bQ)(w:aC)(now:aB ld),H0 c B M (λ_=>False) o S w []->ng B ss num time ps k S w now->
   SA prog c zE (H_ c B) (Af B M) (RP B M) K ((ps.drop k).map (letter num time)) S (DZ c x0 x1 x2 x3 x4 x5 x6 Z X G y z Q E D J r q u I T F A R N O C L v U t cs V g d j f l h n a) w
 |0,k,a7,V,g,d,j,f,l,h,n,a,S,w,now,hG,hT=>by
  have P:k=ps.length:=aA
  subst P
  rw[List.drop_length]
  refine YR H x0 x1 x2 x3 x4 x5 x6 Z X G y z Q E D J r q u I T F A R N O C L v U t cs V g d j f l h n a K S w λw' hR=>?_
  exact hk V g d j f l h n a S w' now (hG.rely hR) (hT.heap (λ_ x=>x) (λb hb=>H.m b (W b hb)) (λb hb e=>by have:=(hG.own b hb).1;have:=hG.chan;omega) λb hb hl hc=>hR.block b hc hl hb)
 |m+1,k,a7,V,g,d,j,f,l,h,n,a,S,w,now,hG,hT=>by
  have P:k<ps.length:=aA
  rw[oV P,gW]
  have Y:k<ss.length:=aA
  exact Wa H x0 x1 x2 x3 x4 x5 x6 Z X G y z Q E D J r q u I T F A R N O C L v U t cs K _ ss num time ps W hn k ss[k] ps[k] (fG Y) (fG P) (a6 k _ _ (fG Y) (fG P)) o V g d j f l h n a S w now hG hT
   λV g d j f l h n a S w now h1 h2=>SN H x0 x1 x2 x3 x4 x5 x6 Z X G y z Q E D J r q u I T F A R N O C L v U t cs K ss num time ps W hn a1 a6 o hk m (k+1) aA V g d j f l h n a S w now h1 h2
end Lf
namespace Lf
open Tryz Go Go.Conc Go.RowKit
noncomputable def JA(w:aC)(pv:aF)(num time:Int)(at_ sv:aF)(N:Nat):aC:=
 ((((w.alloc (.cells #[pv] 151)).alloc (.cells #[Iv num,Iv time,at_,sv] 159)).alloc (.chan N #[] false 0 0 false)).alloc (.cells #[.chan none] 235)).setCell (Ad (w.heap.size+3) 0) (.chan (some (w.heap.size+2)))
section
variable(w:aC)(pv:aF)(num time:Int)(at_ sv:aF)(N:Nat)
theorem zU:(JA w pv num time at_ sv N).heap.size=w.heap.size+4:=by unfold JA;rw[eC,bM,bM,bM,bM]
theorem Dd{k}(a:k<w.heap.size):(JA w pv num time at_ sv N).heap[k]?=w.heap[k]?:=by
 unfold JA;rw[b_ _ _ _ (show k≠w.heap.size+3 from aA),dL _ _ (by rw[bM,bM,bM];omega),dL _ _ (by rw[bM,bM];omega),dL _ _ (by rw[bM];omega),dL _ _ a]
theorem UK:(JA w pv num time at_ sv N).heap[w.heap.size]?=some (.cells #[pv] 151):=by
 unfold JA;rw[b_ _ _ _ (show w.heap.size≠w.heap.size+3 from aA),dL _ _ (by rw[bM,bM,bM];omega),dL _ _ (by rw[bM,bM];omega),dL _ _ (by rw[bM];omega)];exact ma w _
theorem Yi:(JA w pv num time at_ sv N).heap[w.heap.size+1]?=some (.cells #[Iv num,Iv time,at_,sv] 159):=by
 unfold JA;rw[b_ _ _ _ (show w.heap.size+1≠w.heap.size+3 from aA),dL _ _ (by rw[bM,bM,bM];omega),dL _ _ (by rw[bM,bM];omega)];have:=ma (w.alloc (.cells #[pv] 151)) (.cells #[Iv num,Iv time,at_,sv] 159)
 rwa[bM]at this
theorem ZG:(JA w pv num time at_ sv N).heap[w.heap.size+2]?=some (.chan N #[] false 0 0 false):=by
 unfold JA;rw[b_ _ _ _ (show w.heap.size+2≠w.heap.size+3 from aA),dL _ _ (by rw[bM,bM,bM];omega)];have:=ma ((w.alloc (.cells #[pv] 151)).alloc (.cells #[Iv num,Iv time,at_,sv] 159)) (.chan N #[] false 0 0 false)
 rwa[bM,bM]at this
theorem Ox:(JA w pv num time at_ sv N).heap[w.heap.size+3]?=some (.cells #[.chan (some (w.heap.size+2))] 235):=by
 unfold JA;have:=ma (((w.alloc (.cells #[pv] 151)).alloc (.cells #[Iv num,Iv time,at_,sv] 159)).alloc (.chan N #[] false 0 0 false)) (.cells #[.chan none] 235);rw[bM,bM,bM]at this;exact tQ (i:=0) (v:=.chan (some (w.heap.size+2))) this
end
noncomputable def Ij:Code:=f88.body.getD .skip
noncomputable def Ar:Code:=match nC with
 |.seq _ (.seq _ (.seq _ (.seq (.seq _ x) _)))=>x
 |_=>.skip
noncomputable def xQ:aY Oper:=match nC with
 |.seq _ (.seq _ (.seq _ (.seq (.seq (.region _ x _) _) _)))=>x
 |_=>#[]
noncomputable def TK:aY Oper:=match Ij with
 |.seq _ (.seq _ (.seq (.region _ x _) _))=>x
 |_=>#[]
noncomputable def UG:Code:=match Ij with
 |.seq _ (.seq _ (.seq _ x))=>x
 |_=>.skip
variable{w:aC}{Ro:Nat->Prop}
theorem PR(pa cap num time at_ sv ss ps)(H:uE (w.heap.size+2) (w.heap.size+4) (Ms ss) Ro)(hn:∀s∈ss,s.n<=1000000)
  (X:ss.length=ps.length) (a6:∀(i:Nat)(s)(p),ss[i]?=some s->ps[i]?=some p->p.fV=some (Ad s.cW 0)) (a7:∀s∈ss,f_ w s) (m_:Apart ss) (x0 x1 x2 x3 x4 x5 x6 x7 x8 J z A R F E M q o u L U I C Q O P D N y T r a1 cs Y h f l g m j n e y6 y7 y9 a) (d:a.heap=(JA w (.slice pa ps.length cap) num time at_ sv ps.length).heap)
  (K) (hK:∀Y h f l g m j n e (S w') (now),H0 (w.heap.size+2) (w.heap.size+4) (Ms ss) (λ_=>False) a S w' []->ng (w.heap.size+4) ss num time ps ps.length S w' now->K (Kf (w.heap.size+2) x0 x1 x2 x3 x4 x5 x6 x7 x8 J z A R F E M q o u L U I C Q O P D N y T r cs Y h f l g m j n e) w'):
  SA prog (w.heap.size+2) zE (H_ (w.heap.size+2) (w.heap.size+4)) (Af (w.heap.size+4) (Ms ss)) (RP (w.heap.size+4) (Ms ss)) K (ps.map (letter num time)) (λ_=>False)
   (G ((base 88).at ⟨#[.slice pa ps.length cap,.agg #[Iv num,Iv time,at_,sv],Pt w.heap.size,Pt (w.heap.size+1),.chan none,Pt (w.heap.size+3),y6,y7,.chan (some (w.heap.size+2)),y9,undef],[]⟩ [.inRegion TK [],.code UG]) (((base 46).at ⟨#[x0,x1,x2,x3,x4,x5,x6,x7,x8,Y,J,z,A,R,F,E,M,q,o,u,L,U,I,C,Q,O,P,D,N,y,T,r,a1,h,f,l,g,m,j,n,e],[]⟩ [.inRegion xQ [5],.code Ar,.code si])::cs)) a:=by
 have ad:a.heap.size=w.heap.size+4:=d▸zU _ _ _ _ _ _ _;have a8:a.heap[w.heap.size+3]?=some (.cells #[.chan (some (w.heap.size+2))] 235):=d▸Ox _ _ _ _ _ _ _;have PP:=kH _ _ _ _ H;have TT:=PP.t0;generalize hc:w.heap.size+2=c at*;generalize hB:w.heap.size+4=B at*;generalize hq:w.heap.size+3=p5 at*;have hF:H0 c B (λ_=>False) (λ_=>False) a (λ_=>False) a [(p5,.cells #[.chan (some c)] 235)]:=H0.start (λ_ x=>x.elim) H.chan aA (by intro p hp;simp at hp;subst hp;exact⟨.inr (show p5<B from aA),(show p5≠c from aA),a8⟩);have V:=SN H x0 x1 x2 x3 x4 x5 x6 x7 x8 J z A R F E M q o u L U I C Q O P D N y T r cs K ss num time ps (λ_ x=>x) hn X a6 a hK ps.length 0 aA;rw[vU]at V;apply SA.nU PP;simp only[DZ,zc,si,TK,UG,Ij,f88,xQ,Ar,nC,f46,ig]at V⊢
 revert hF
 refine zO λv1 hF=>?_
 revert hF
 refine zO λv2 hF=>?_;apply RT.nil TT;apply RT.ret TT;refine RT.leave TT (v:=.chan (some c)) rfl rfl func88 (λW aa=>⟨by simp[results,go_sem,f88],?_⟩) ?_
 .rw[show∀t,Sem.events prog (results f88 t) W #[]=#[]from λt=>by simp[results,go_sem,f88],seen_none];exact TT.idle _ _
 rw[UN]
 change RT prog true (H_ c B) (Af B (Ms ss)) _ _ (G ((base 46).at ⟨#[x0,x1,x2,x3,x4,x5,x6,x7,x8,Y,J,z,A,R,F,E,M,q,o,u,L,U,I,C,Q,O,P,D,N,y,T,r,.chan (some c),h,f,l,g,m,j,n,e],[]⟩ _) cs) _
 apply RT.nil TT;apply RT.block TT;apply RT.loop TT;exact SA.walk PP (V Y h f l g m j n e _ _ _ ((H0.start (fs:=[]) (λ_ x=>x.elim) H.chan aA aE).step hF (λ_ x=>x.elim) aE) ((ng.start (λs hs=>(a7 s hs).heap λb Z _=>(λk hk=>by rw[d];exact Dd _ _ _ _ _ _ _ hk) b Z) m_).heap (c:=c) (λ_ x=>x) (λb Z=>H.m b Z) (λ_ x=>x.elim) λb Z hl hc=>hF.keep b Z hl hc λx=>x))
end Lf
namespace Lf
open Tryz Go Go.Conc Go.RowKit
theorem M7:(prog.info? 165).map (λi=>i.bytes)=some 40:=aM
theorem Oe{r w}(h:∀K:Result Next->bQ,K (.ok .skip w)->K r):r=.ok .skip w:=h (· =.ok .skip w) rfl
variable{w:aC}{Ro:Nat->Prop}
theorem Yb(pa cap num time at_ sv ss ps)(H:uE (w.heap.size+2) (w.heap.size+4) (Ms ss) Ro)(hn:∀s∈ss,s.n<=1000000)(hN:ps.length<=1000000)
  (a7:ss.length=ps.length) (a8:∀(i:Nat)(s)(p),ss[i]?=some s->ps[i]?=some p->p.fV=some (Ad s.cW 0)) (aa:∀s∈ss,f_ w s) (m_:Apart ss) (x0 x1 x2 x3 x4 x5 x6 x7 x8 C r t F T M U A z J D V u L O x y B N Q P I Y cs) (ad:∀fr∈cs,bK fr) (W n l h f k j o m)
  (hB:∀a,a.heap=(JA w (.slice pa ps.length cap) num time at_ sv ps.length).heap->SB prog (w.heap.size+2) (C2 (w.heap.size+2) Ro) (Aj (w.heap.size+2) Ro) (Mf (w.heap.size+2) Ro) ps.length (ps.map (letter num time)) (λ_=>False) (born prog (call133 (w.heap.size+3) w.heap.size (w.heap.size+1))) a):
  aJ prog (λg w'=>∃W n l h f k j o m S E a,a.heap=(JA w (.slice pa ps.length cap) num time at_ sv ps.length).heap/\a.os=w.os/\a.output=w.output/\H0 (w.heap.size+2) (w.heap.size+4) (Ms ss) (λ_=>False) a S w' []/\ng (w.heap.size+4) ss num time ps ps.length S w' E/\g=Kf (w.heap.size+2) x0 x1 x2 x3 x4 x5 x6 x7 x8 C r t F T M U A z J D V u L O x y B N Q P I cs W n l h f k j o m)
   (G (Frame.enter prog 88 #[.slice pa ps.length cap,.agg #[Iv num,Iv time,at_,sv]] .normal) (((base 46).at ⟨#[x0,x1,x2,x3,x4,x5,x6,x7,x8,W,C,r,t,F,T,M,U,A,z,J,D,V,u,L,O,x,y,B,N,Q,P,I,Y,n,l,h,f,k,j,o,m],[]⟩ [.inRegion xQ [5],.code Ar,.code si])::cs)) w:=by
 have q:=bE;have af:bK ((base 46).at ⟨#[x0,x1,x2,x3,x4,x5,x6,x7,x8,W,C,r,t,F,T,M,U,A,z,J,D,V,u,L,O,x,y,B,N,Q,P,I,Y,n,l,h,f,k,j,o,m],[]⟩ [.inRegion xQ [5],.code Ar,.code si]):=jK (bP trivial (bP trivial (bP trivial aE)));have wX:=lq af ad;have Z:∀it∈([]:aB Item),cX it:=aE;have b:∀(c:Code),∀it∈[Item.code c],cX it:=λc=>bP trivial aE;have aj:∀(c d:Code),∀it∈[Item.code c,Item.code d],cX it:=λc d=>bP trivial (bP trivial aE);obtain⟨ti,ae,a1⟩:=na.1 M7;rw[enter_at _ func88 rfl];simp only[ntmps88,jn,hY,jl,Nat.reduceAdd,Nat.reduceSub,ye,yf,yi,yh,jW,mz];apply aJ.seq q Z wX;apply aJ.region q (b _) wX;simp only[jn,hY,jl,Nat.reduceAdd,fC,List.range,List.range.loop];refine aJ.new q (b _) wX ?_
 try walk_nrm
 generalize e1:World.alloc w _=w1;have s1:w1.heap.size=w.heap.size+1:=by rw[<-e1,bM]
 refine aJ.new q (b _) wX ?_
 try walk_nrm
 generalize e2:World.alloc w1 _=X;have s2:X.heap.size=w.heap.size+2:=by rw[<-e2,bM,s1]
 rw[s1];refine aJ.v q (b _) wX ?_
 try walk_nrm
 apply aJ.nil q (b _) wX;apply aJ.seq q Z wX;apply aJ.region q (b _) wX;simp only[jn,hY,jl,Nat.reduceAdd,fC,List.range,List.range.loop];have ag:∀τ d,(re X τ d).cell? (Ad w.heap.size 0)=some (.slice pa ps.length cap):=λτ d=>aD (w:=re X τ d) (show X.heap[w.heap.size]?=some (.cells #[.slice pa ps.length cap] 151)by rw[<-e2,dL _ _ (by rw[s1];omega),<-e1];exact ma _ _) rfl
 iterate 2
  refine aJ.v q (b _) wX ?_
  try walk_nrm
 apply aJ.val q (w':=X.alloc (.chan ps.length #[] false 0 0 false)) (v:=.chan (some X.heap.size)) rfl (by rfl) (λτ d=>run_eq_of ?r5) (b _) wX
 case r5=>
  intro K hK;go_simp
  first|exact hK|(rw[(λw=>run_makeChan underlying235 ae .i64 ps.length aA (by rw[a1];omega))];exact hK)
 try walk_nrm
 generalize e3:World.alloc X _=w3;have s3:w3.heap.size=w.heap.size+3:=by rw[<-e3,bM,s2]
 rw[s2];refine aJ.new q (b _) wX ?_
 try walk_nrm
 generalize e4:World.alloc w3 _=w4;have a6:w4.heap[w.heap.size+3]?=some (.cells #[.chan none] 235):=by rw[<-s3,<-e4];exact ma _ _
 rw[s3];apply aJ.non q (w':=w4.setCell (Ad (w.heap.size+3) 0) (.chan (some (w.heap.size+2)))) rfl (by rfl) (λτ d=>Oe ?r7) (b _) wX
 case r7=>
  intro K hK;have ah:=aD (w:=re w4 τ d) (i:=0) a6 rfl;have ai:(re w4 τ d).frozen? (Ad (w.heap.size+3) 0)=false:=by simp[World.frozen?,show(re w4 τ d).heap[w.heap.size+3]?=_ from a6]
  go_simp;exact hK
 try walk_nrm
 apply aJ.nil q (b _) wX;apply aJ.seq q Z wX;apply aJ.region q (b _) wX;simp only[jn,hY,jl,Nat.reduceAdd,fC,List.range,List.range.loop];generalize e5:World.setCell w4 _ _=w5;subst e4 e3 e2 e1;have R:w5.heap=(JA w (.slice pa ps.length cap) num time at_ sv ps.length).heap:=by rw[<-e5];rfl
 refine aJ.v q (b _) wX ?_
 try walk_nrm
 refine aJ.spawn rfl λτ d=>⟨_,_,_,_,stepG_spawn (d:=call133 (w.heap.size+3) w.heap.size (w.heap.size+1)) (w':=re w5 τ d) rfl (by rfl) (by simp[base]) ?_ rfl,?_,?_⟩
 .simp[execOp,go_sem,call133]
 .intro e he;have hm:=mem_listed he;simp[go_sem]at hm
 refine⟨w.heap.size+2,zE,H_ (w.heap.size+2) (w.heap.size+4),Af (w.heap.size+4) (Ms ss),C2 (w.heap.size+2) Ro,Aj (w.heap.size+2) Ro,RP (w.heap.size+4) (Ms ss),Mf (w.heap.size+2) Ro,ps.length,ps.map (letter num time),?_,hB _ R,?_,(show w5.heap[w.heap.size+2]?=_ from R▸ZG w _ num time at_ sv ps.length),aE⟩
 .have e:(re w5 τ d).heap.size=w.heap.size+4:=(og Array.size R).trans (zU w (.slice pa ps.length cap) num time at_ sv ps.length);rw[e];exact kH _ _ _ _ H
 try walk_nrm
 have:=PR (w:=w) pa cap num time at_ sv ss ps H hn a7 a8 aa m_ x0 x1 x2 x3 x4 x5 x6 x7 x8 C r t F T M U A z J D V u L O x y B N Q P I Y cs W n l h f k j o m (.slice pa ps.length cap) (Iv ps.length) (.func (.func 133) #[] #[Pt (w.heap.size+3),Pt w.heap.size,Pt (w.heap.size+1)]) (re w5 τ d) R (λg w'=>∃(W n l h f k j o m:Value)(S:Nat->Prop)(E:List ld)(a:World),a.heap=(JA w (.slice pa ps.length cap) num time at_ sv ps.length).heap/\a.os=w.os/\a.output=w.output/\H0 (w.heap.size+2) (w.heap.size+4) (Ms ss) (λ_=>False) a S w' []/\ng (w.heap.size+4) ss num time ps ps.length S w' E/\g=Kf (w.heap.size+2) x0 x1 x2 x3 x4 x5 x6 x7 x8 C r t F T M U A z J D V u L O x y B N Q P I cs W n l h f k j o m)
  (λW n l h f k j o m S w' E h1 h2=>⟨W,n,l,h,f,k,j,o,m,S,E,re w5 τ d,R,(by rw[<-e5];rfl),(by rw[<-e5];rfl),h1,h2,rfl⟩)
 simp only[TK,UG,Ij,f88,ig]at this;exact this
end Lf
namespace Lf
open Tryz Go Go.Conc Go.RowKit
variable{w:aC}{Ro:Nat->Prop}
structure uA(w w':aC)(ss:aB ld)(num time:Int)(ps:aB mW):Prop where
 os:w'.os=w.os
 output:w'.output=w.output
 size:w.heap.size<=w'.heap.size
 keep:∀b,b<w.heap.size->¬Ms ss b->w'.heap[b]?=w.heap[b]?
 taken:∃(S:Nat->Prop)(now:aB ld),(∀b,S b->w.heap.size<=b)/\ng (w.heap.size+4) ss num time ps ps.length S w' now
theorem uA.re{w':aC}{ss:aB ld}{num time:Int}{ps:aB mW}(h:uA w w' ss num time ps)(g:Tape)(d:Nat):uA w (re w' g d) ss num time ps:=by
 obtain⟨j,c,i,e,S,b,f,a⟩:=h;exact⟨j,c,i,e,S,b,f,a.len,a.rest,a.done,a.ok,a.apart,a.mine⟩
noncomputable def XV:Code:=match nC with
 |.seq _ (.seq _ (.seq _ (.seq x _)))=>x
 |_=>.skip
theorem YM(R:Ending->aC->bQ)(c x0 x1 x2 x3 x4 x5 x6 x7 x8 K B C W H F N r q u L Z I D X S U E P A a1 s cs)(f:∀l∈cs,bK l)(u9 J p T z V M Y o w)(hR:∀τ d,R (.returned .nilIface) (re w τ d)):
  aJ prog (λg n=>∃e l,g=G l cs/\bK l/\R e n/\l.fn=46/\l.leaving prog n e) (Kf c x0 x1 x2 x3 x4 x5 x6 x7 x8 K B C W H F N r q u L Z I D X S U E P A a1 s cs u9 J p T z V M Y o) w:=by
 let h:=bE;let k:∀(a b d:Code),∀j∈[Item.code a,.inLoop b,.inBlock 0,.code d],cX j:=λa b d=>bP trivial (bP trivial (bP trivial (bP trivial aE)));let O:∀(b d:Code),∀j∈[Item.inLoop b,.inBlock 0,.code d],cX j:=λb d=>bP trivial (bP trivial (bP trivial aE));let i:∀(c:Code),∀j∈[Item.code c],cX j:=λc=>bP trivial aE;let m:∀j∈([]:aB Item),cX j:=aE;simp only[Kf,zc,si,X5,nC,f46,ig];refine aJ.v h (k _ _ _) f ?_
 try walk_nrm
 apply aJ.nil h (k _ _ _) f;apply aJ.seq h (O _ _) f;refine aJ.code (Q:=λe a' n=>e=.exit 0/\a'=_/\∃τ d,n=re w τ d) (gX.cond h (t:=false) rfl (gX.exit h λτ d=>⟨rfl,rfl,τ,d,rfl⟩)) ⟨k _ _ _,f,λid a w x=>by obtain⟨x,_⟩:=x;cases x;exact⟨_,rfl⟩,λid a w x=>by cases x.1⟩ λe a' n g x y=>?_;obtain⟨rfl,rfl,τ,d,rfl⟩:=x;obtain⟨k',v,rfl⟩:=y;cases v;refine aJ.other ?_ τ d;apply aJ.seq h m f;apply aJ.region h (i _) f;simp only[jn,hY,jl,fC,List.range,List.range.loop];refine aJ.v h (i _) f ?_
 try walk_nrm
 apply aJ.nil h (i _) f;exact aJ.ret h m f func46 rfl (λτ d=>by simp[results,go_sem,f46]) hR
theorem Ui(aW a pa cap num time at_ sv ss ps)(H:uE (w.heap.size+2) (w.heap.size+4) (Ms ss) Ro)(hn:∀s∈ss,s.n<=1000000)(hN:ps.length<=1000000)
  (a1:ss.length=ps.length) (a6:∀(i:Nat)(s)(p),ss[i]?=some s->ps[i]?=some p->p.fV=some (Ad s.cW 0)) (a7:∀s∈ss,f_ w s) (m_:Apart ss) (x1 x2 x3 x4 x5 x6 x7 J y z L R O T I F M K U A N Q C D aa af ai ag ae W cs) (f:∀j∈cs,bK j) (Z u q k h n l v r)
  (r1 r2 r3 r4) (a8:w.heap[aW]?=some (.cells #[r1,r2,r3,r4,.slice pa ps.length cap] 153 (0,0))) (E:w.heap[a]?=some (.cells #[Iv num,Iv time,at_,sv] 159 (0,0)))
  (hB:∀x,x.heap=(JA w (.slice pa ps.length cap) num time at_ sv ps.length).heap->SB prog (w.heap.size+2) (C2 (w.heap.size+2) Ro) (Aj (w.heap.size+2) Ro) (Mf (w.heap.size+2) Ro) ps.length (ps.map (letter num time)) (λ_=>False) (born prog (call133 (w.heap.size+3) w.heap.size (w.heap.size+1))) x):
  aJ prog (λg B=>∃e j,g=G j cs/\bK j/\(e=.returned .nilIface/\uA w B ss num time ps)/\j.fn=46/\j.leaving prog B e) (G ((base 46).at ⟨#[(Pt aW),x1,x2,x3,x4,x5,x6,x7,(Pt a),Z,J,y,z,L,R,O,T,I,F,M,K,U,A,N,Q,C,D,aa,af,ai,ag,ae,W,u,q,k,h,n,l,v,r],[]⟩ [.code XV,.code si]) cs) w:=by
 have hP:=bE;have aj:∀it∈([]:aB Item),cX it:=aE;have ah:∀(c:Code),∀it∈[Item.code c],cX it:=λc=>bP trivial aE;have X:∀(c d:Code),∀it∈[Item.code c,Item.code d],cX it:=λc d=>bP trivial (bP trivial aE);have last:aJ prog (λg B=>∃e j,g=G j cs/\bK j/\(e=.returned .nilIface/\uA w B ss num time ps)/\j.fn=46/\j.leaving prog B e) (G ((base 46).at ⟨#[(Pt aW),x1,x2,x3,x4,x5,x6,x7,(Pt a),Z,J,y,z,L,R,O,T,I,F,M,K,U,A,N,Q,C,D,(Pt aW),(Pt aW),(.pointer (some (Ad aW 4))),(.slice pa ps.length cap),(.agg #[Iv num,Iv time,at_,sv]),W,u,q,k,h,n,l,v,r],[]⟩ [.inRegion xQ [5],.code Ar,.code si]) cs) w:=by
  refine aJ.enter hP (o:=xQ.getD 5 default) (by simp[xQ,nC,f46]) (by simp[xQ,nC,f46,Region.wanted]) (λτ d=>by rw[run_call_body (o:=xQ.getD 5 default) (args:=#[.tmp 30,.tmp 31]) (ats:=#[151,159]) rfl func88 aG rfl];simp only[F9,gW,sD];rfl) (X _ _) f ((Yb pa cap num time at_ sv ss ps H hn hN a1 a6 a7 m_ (Pt aW) x1 x2 x3 x4 x5 x6 x7 (Pt a) J y z L R O T I F M K U A N Q C D (Pt aW) (Pt aW) (.pointer (some (Ad aW 4))) (.slice pa ps.length cap) (.agg #[Iv num,Iv time,at_,sv]) W cs f Z u q k h n l v r hB).trans ?_);rintro g B ⟨Z,u,q,k,h,n,l,v,r,S,ad,x,e1,e2,e3,Y,h2,rfl⟩;refine YM (λe B=>e=.returned .nilIface/\uA w B ss num time ps) _ (Pt aW) x1 x2 x3 x4 x5 x6 x7 (Pt a) J y z L R O T I F M K U A N Q C D (Pt aW) (Pt aW) (.pointer (some (Ad aW 4))) (.slice pa ps.length cap) (.agg #[Iv num,Iv time,at_,sv]) cs f Z u q k h n l v r B λτ d=>⟨rfl,uA.re ⟨Y.os.trans e2,Y.output.trans e3,?_,λb hb V=>?_,S,ad,λb hb=>?_,h2⟩ τ d⟩
  .have:=Y.base;omega
  .rw[Y.keep b (.inr aA) (by have:=Y.low;omega) aA V,e1];exact Dd _ _ _ _ _ _ _ hb
  .have:=(Y.own b hb).1;omega
 simp only[XV,si,Ar,xQ,nC,f46,ig]at last⊢;apply aJ.seq hP (ah _) f;refine aJ.draw hP (X _ _) f λt=>?_;have m:=zH (P:=prog) aM xQ t;rw[show gF .any xQ xQ.size (Array.replicate xQ.size false)=[[0,1,2,3,4,5],[0,1,2,4,3,5],[0,1,4,2,3,5],[0,4,1,2,3,5],[4,0,1,2,3,5]]from by decide+kernel]at m;simp only[xQ,nC,f46,ig,gp,iW,oF]at m;have q4:∀τ d,(re w τ d).cell? (Ad aW 4)=some (.slice pa ps.length cap):=λτ d=>aD (w:=re w τ d) a8 rfl;have e0:∀τ d,(re w τ d).cell? (Ad a 0)=some (Iv num):=λτ d=>aD (w:=re w τ d) E rfl;have e1:∀τ d,(re w τ d).cell? (Ad a 1)=some (Iv time):=λτ d=>aD (w:=re w τ d) E rfl;have e2:∀τ d,(re w τ d).cell? (Ad a 2)=some at_:=λτ d=>aD (w:=re w τ d) E rfl;have e3:∀τ d,(re w τ d).cell? (Ad a 3)=some sv:=λτ d=>aD (w:=re w τ d) E rfl;obtain V|V|V|V|V:=m<;>rw[V]<;>clear V
 all_goals
  iterate 5 (refine aJ.v hP (X _ _) f ?_;try walk_nrm)
  exact last
end Lf
namespace Lf
open Tryz Go Go.Conc Go.RowKit
variable{w:aC}
def ij(w:aC)(pa:aQ a_)(cap:Nat)(ps:aB mW):Prop:=
 (pa=none/\ps=[]/\cap=0)\/∃pb b a c,pa=some (Ad pb b)/\w.heap[pb]?=some (.cells a 183 c)/\eI a b ps
def YG(w:aC)(sv:aF)(ps:aB mW):Prop:=∃b so n cp a m,sv=.slice (some (Ad b so)) n cp/\w.heap[b]?=some (.cells a 4 m)/\∀p∈ps,a[so+p.node]?=some (.bool p.v)/\p.node<n
theorem Ms.tag{ss}(a:∀s∈ss,f_ w s){b}(h:Ms ss b):∃f t,w.heap[b]?=some (.cells f t (0,0))/\(t=177\/t=59):=by
 obtain⟨s,d,rfl|c⟩:=h
 .exact⟨_,_,(a s d).1,.inl rfl⟩
 .obtain⟨l,e|⟨g,cap,k,i,_,j,_⟩⟩:=(a s d).2
  .rw[e.1]at c;cases c
  .rw[i]at c;cases c;exact⟨_,_,j,.inr rfl⟩
theorem Ms.not{ss}(a:∀s∈ss,f_ w s){b d t m}(g:w.heap[b]?=some (.cells d t m))(f:t≠177)(c:t≠59):¬Ms ss b:=λh=>by
 let⟨cs',t',e,ht⟩:=Ms.tag a h
 rw[g]at e
 injection e with e
 injection e with _ e _
 subst e
 exact ht.elim f c
theorem Uh(aW f pa cap num time at_ sv ss ps)(hP:ij w pa cap ps)(hS:YG w sv ps)(hn:∀s∈ss,s.n<=1000000)(hN:ps.length<=1000000)
  (k:ss.length=ps.length) (aa:∀(i:Nat)(s)(p),ss[i]?=some s->ps[i]?=some p->p.fV=some (Ad s.cW 0)) (d:∀s∈ss,f_ w s) (m_:Apart ss) (x1 x2 x3 x4 x5 x6 x7 L B C W I F O u r y M Z J D X R T E Q A Y v P cs) (a6:∀fr∈cs,bK fr) (u9 K o S z V N a1 l)
  (r1 r2 r3 r4) (a7:w.heap[aW]?=some (.cells #[r1,r2,r3,r4,.slice pa ps.length cap] 153 (0,0))) (ad:w.heap[f]?=some (.cells #[Iv num,Iv time,at_,sv] 159 (0,0))):
  aJ prog (λg w'=>∃e fr,g=G fr cs/\bK fr/\(e=.returned .nilIface/\uA w w' ss num time ps)/\fr.fn=46/\fr.leaving prog w' e) (G ((base 46).at ⟨#[(Pt aW),x1,x2,x3,x4,x5,x6,x7,(Pt f),u9,L,B,C,W,I,F,O,u,r,y,M,Z,J,D,X,R,T,E,Q,A,Y,v,P,K,o,S,z,V,N,a1,l],[]⟩ [.code XV,.code si]) cs) w:=by
 let a:∀b,Ms ss b->b<w.heap.size:=λb j=>by
  let⟨cs,t,e,_⟩:=Ms.tag d j;exact aL e
 obtain⟨sb,so,n,cp,ag,m,rfl,x,af⟩:=hS;obtain⟨rfl,rfl,rfl⟩|⟨pb,po,ae,mp,rfl,U,a8⟩:=hP
 .let H:uE (w.heap.size+2) (w.heap.size+4) (Ms ss) (λb=>b=w.heap.size+3\/b=w.heap.size):=by
   refine⟨aA,λb j=>by have:=a b j;omega,λb j=>?_⟩;obtain rfl|rfl:=j
   .exact⟨aA,aA,λh=>by have:=a _ h;omega⟩
   .exact⟨aA,aA,λh=>by have:=a _ h;omega⟩
  refine Ui aW f none 0 num time at_ _ ss [] H hn hN k aa d m_ x1 x2 x3 x4 x5 x6 x7 L B C W I F O u r y M Z J D X R T E Q A Y v P cs a6 u9 K o S z V N a1 l r1 r2 r3 r4 a7 ad λc hw=>?_;refine Sr H _ _ _ _ _ c (by rw[hw,zU];omega) λq hq=>?_;simp at hq;obtain rfl|rfl:=hq
  .exact⟨.inr (.inl rfl),aE,by rw[hw];exact Ox _ _ _ _ _ _ _⟩
  .exact⟨.inr (.inr rfl),aE,by rw[hw];exact UK _ _ _ _ _ _ _⟩
 .let l1:=aL U;let l2:=aL x;let H:uE (w.heap.size+2) (w.heap.size+4) (Ms ss) (λb=>b=w.heap.size+3\/b=w.heap.size\/b=w.heap.size+1\/b=pb\/b=sb):=by
   refine⟨aA,λb j=>by have:=a b j;omega,λb j=>?_⟩;rcases j with rfl|rfl|rfl|rfl|rfl
   .exact⟨aA,aA,λh=>by have:=a _ h;omega⟩
   .exact⟨aA,aA,λh=>by have:=a _ h;omega⟩
   .exact⟨aA,aA,λh=>by have:=a _ h;omega⟩
   .exact⟨aA,aA,Ms.not d U aG aG⟩
   .exact⟨aA,aA,Ms.not d x aG aG⟩
  refine Ui aW f (some (Ad pb po)) cap num time at_ _ ss ps H hn hN k aa d m_ x1 x2 x3 x4 x5 x6 x7 L B C W I F O u r y M Z J D X R T E Q A Y v P cs a6 u9 K o S z V N a1 l r1 r2 r3 r4 a7 ad λc hw=>?_;refine Ve H _ _ _ pb po cap sb so n cp num time at_ ae mp ag m ps a8 aA af _ _ c (by rw[hw,zU];omega) λq hq=>?_;simp at hq;obtain rfl|rfl|rfl|rfl|rfl:=hq
  .exact⟨.inr (.inl rfl),aE,by rw[hw];exact Ox _ _ _ _ _ _ _⟩
  .exact⟨.inr (.inr (.inl rfl)),aE,by rw[hw];exact UK _ _ _ _ _ _ _⟩
  .exact⟨.inr (.inr (.inr (.inl rfl))),aE,by rw[hw];exact Yi _ _ _ _ _ _ _⟩
  .exact⟨.inr (.inr (.inr (.inr (.inl rfl)))),bI,by rw[hw,Dd _ _ _ _ _ _ _ l1];exact U⟩
  .exact⟨.inr (.inr (.inr (.inr (.inr rfl)))),bI,by rw[hw,Dd _ _ _ _ _ _ _ l2];exact x⟩
end Lf
namespace Lf
open Go Go.Conc
variable{P:Program}
theorem stepG_end{a c t w v}(h:a.leaving P w (.returned v))(f:P.funcs[a.fn]?=some c)(d:c.results=#[.tmp t])(b:P.inits.idxOf? a.fn=none):stepG P true (G a []) w=.ended (.done v) w #[]:=by
 let⟨hm,hd,hk,fn',hf',Zc⟩:=h;rw[f]at hf';cases hf';rw[results_tmp d]at Zc;simp only[Result.ok.injEq,oD]at Zc;simp only[Ma]at Zc;simp[stepG,unwind,doReturn,hm,hd,f,hk,b,results,d,Zc,G];let e:seen P a.fn #[]=#[]:=by simp[seen]
 rw[e];rfl
theorem dI.aam{f l t a W R}(h:dI P f a W R)(J:P.funcs[f]?=some l)(A:l.results=#[.tmp t])(j:P.inits.idxOf? f=none)(s:∀e w C d,R e w->R e (re w C d))(g:∀e w,R e w->∃v,e=.returned v):
  ∃M last o b i,runNT P (M+1) (solo (G (Frame.enter P f a .normal) []) W) #[]=(.ended o b,i)/\runN P M (solo (G (Frame.enter P f a .normal) []) W)=.next last/\step P last=.ended o b/\Conc.Good P (λv b=>R (.returned v) b) last o b i:=by
 obtain⟨N,k,K,b,c,i,n,⟨E,⟨q,I⟩,⟨B,D⟩⟩,e,H,rfl,_,p,m,F⟩:=(h [] λ_ u=>by cases u).leads #[G (Frame.enter P f a .normal) []] none #[] ⟨rfl,⟨_,leavers_one P _⟩,⟨0,past_nil⟩⟩;obtain⟨v,rfl⟩:=g e b p;let z:Goes P true AtRel (λ_ _ _=>False) (AtEnd P (λ_=>False) B λv b=>R (.returned v) b) 0 (G H []) b:=by
  rintro r ⟨d,rfl⟩;exact⟨rfl,v,#[],stepG_end (p8 F b.tape d) (m▸J) A (m▸j),λe y=>by simp at y,s _ _ b.tape d p⟩
 let⟨M,last,o,w2,t2,k1,k2,k3,k4⟩:=beside_ends (λ_ _ _ x=>x.elim) (sl:=c) E I D z;refine⟨N+M,last,o,w2,t2,?_,?_,k3,k4⟩
 .rw[qw,runNT_add];show(match runNT P N (crowd #[G (Frame.enter P f a .normal) []] W none) #[]with|(.next m',i)=>runNT P (M+1) m' i|x=>x)=_;rw[n];exact k1
 .let h1':runN P N (solo (G (Frame.enter P f a .normal) []) W)=.next (crowd k b c):=by
   rw[<-runNT_fst P N _ #[]];exact og Prod.fst n
  rw[runN_add,h1'];exact k2
end Lf
end Go.Proofs.YtpbbmagjhkakgaaGreatDoor
