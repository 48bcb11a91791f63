import Derived.Test.YtpbbmagjhkakgaaGreatDoorC1
import Derived.Test.YtpbbmagjhkakgaaGreatDoorC2
import Derived.Conc.SmallLaws
import Derived.Conc.LeavingOf
namespace Go.Proofs.YtpbbmagjhkakgaaGreatDoor
set_option maxHeartbeats 4000000
set_option maxRecDepth 100000
namespace Lf
open Tryz Go Go.Conc Go.RowKit
variable{c B:Nat}{M Ro:Nat->Prop}
theorem vN:(prog.info? 59).map (λi=>(i.zero,i.size,i.bytes))=some (some (.agg #[Iv 0,Iv 0,Iv 0,.bool false]),4,32):=aL
def fO(ev time cP:Int)(h:Bool):aB aE:=[Iv ev,Iv time,Iv cP,.bool h]
theorem su{w w':aC}{base size n e v xs}(h:w.ownsRow base e size v n xs)(l:∀k,v.ownBlock=some k->k<w.heap.size->w'.heap[k]?=w.heap[k]?):w'.ownsRow base e size v n xs:=by
 let d:=h.lt;obtain⟨b,⟨rfl,c⟩|⟨g,cap,a,rfl,j,f,i⟩⟩:=h
 .exact⟨b,.inl ⟨rfl,c⟩⟩
 .exact⟨b,.inr ⟨g,cap,a,rfl,j,by rw[l g rfl (d g rfl).2];exact f,i⟩⟩
theorem oy{w b S size n e v xs}(h:w.ownsRow 0 e size v n xs)(a:∀g,v.ownBlock=some g->(S g\/g<B)/\g≠c)(r:IJ c B S w b):b.ownsRow 0 e size v n xs:=
 su h λk d f=>r.block k (a k d).2 f (a k d).1
theorem sU.VU{P}{cc}{R}{q}{i}{o}{K}{a}{L}{S}{w}(Y:q[i]?=some o)
  (X:o.guard=none) (s x) (t) (d:o.op=Op.call {callee:=Callee.builtin Builtin.append,args:=#[s,x],argTypes:=#[t,t]})
  (e) (l) (z) (size bytes) (I:P.underlying t=some (.slice e)) (C:P.info? e=some l) (O:l.zero=some z) (H:l.size=size) (N:l.bytes=bytes) (U:z.cells.size=size) (Z:0<size)
  (v) (n) (xs) (p) (m cap) (news) (J:a.eval s=v) (G:a.eval x=.slice (some p) m cap) (E:news.length=m*size) (r:∀u∈news,u.oneCell'=true)
  (F:n+m<=maxLen) (D:(n+m)*bytes<=140737488355328) (Q:S p.block) (V:∀g,v.ownBlock=some g->g<B/\M g)
  (h:∀b,IJ c B S w b->b.ownsRow 0 e size v n xs/\(∀j u,news[j]?=some u->b.cell? (p.add j)=some u)/\∀f k,k.ownsRow 0 e size f (n+m) (xs++news)->b.grownBy k v.ownBlock->(f.ownBlock=v.ownBlock\/f.ownBlock=some b.heap.size)->K (a.put o.dst f) L (grow S b k) k):
  sU P true (IJ c B) (Ax B M) cc R q i K a L S w:=by
 refine sU.op Y (by simp[Region.wanted,X]) (by intro ch y;rw[d];simp) λb T K' hK=>?_;let⟨qi,hc,hk⟩:=h b T;let⟨f,k,Eo,r1,r2,_,r3⟩:=run_append_own_at (P:=P) b 0 t o.type e l z size bytes I C O H N U Z v n xs qi p m cap news E hc r F D cC;let W:(execOp a.eval o).run P b=.ok (.value f) k:=by
  simp[execOp,d,resolve,invoke,builtin,J,G,Eo,Result.andThen]
 rw[W];refine hK _ _ ⟨Ax.append r2 (λev A=>?_) Q V,hk f k r1 r2 r3⟩;let A:=mem_listed A;apply(events_append_where (P:=P) b 0 t o.type e l z size bytes I C O H N v n xs qi p m cap news E hc r F D) ev;simp[execOp,d,resolve,invoke,builtin,J,G]at A;exact A
theorem Y_(H:uW c B M Ro)(cX)(sv)(n)(xs)(ev time cP)(h)(S)(w)
  (hS:∀b,S b->B<=b/\b<w.heap.size) (hB:B<=w.heap.size) (af:cX<B) (hM:M cX) (U:w.heap[cX]?=some (.cells #[sv] 177 (0,0))) (d:w.ownsRow 0 59 4 sv n xs) (Y:∀g,sv.ownBlock=some g->g<B/\M g) (hn:n<=1000000):
  lS prog true (IJ c B) (Ax B M) 89 #[Pt cX,.agg #[Iv ev,Iv time,Iv cP,.bool h]] S w
   (λ_ S' w'=>∃m,H0 c B (λb=>b=cX\/sv.ownBlock=some b) S w S' w' [(cX,.cells #[m] 177 (0,0))]/\w'.ownsRow 0 59 4 m (n+1) (xs++fO ev time cP h)/\(m.ownBlock=sv.ownBlock\/∃g,m.ownBlock=some g/\S' g/\w.heap.size<=g)):=by
 have TT:=(kL c B M Ro H).t0;have f:H0 c B (λb=>b=cX\/sv.ownBlock=some b) S w S w [(cX,.cells #[sv] 177 (0,0))]:=H0.start hS H.chan hB (by
  intro p C;simp at C;subst C;exact⟨.inr af,(H.m _ hM).2,U⟩)
 have ah:sv.ownBlock≠some cX:=λe=>by
  obtain⟨h1,h2|⟨g,cap,b0,e1,_,e2,_⟩⟩:=d
  .rw[h2.1]at e;cases e
  .rw[e1]at e;cases e;rw[U]at e2;cases e2
 have O:∀(S:Nat->Prop) g,sv.ownBlock=some g->(S g\/g<B)/\g≠c:=λS g z=>⟨.inr (Y g z).1,(H.m g (Y g z).2).2⟩;generalize X:(λ(_:Value)(S':Nat->Prop)(w':World)=>∃m,H0 c B (λb=>b=cX\/sv.ownBlock=some b) S w S' w' [(cX,.cells #[m] 177 (0,0))]/\w'.ownsRow 0 59 4 m (n+1) (xs++fO ev time cP h)/\(m.ownBlock=sv.ownBlock\/∃g,m.ownBlock=some g/\S' g/\w.heap.size<=g))=au;obtain⟨D,F⟩:∃D,D=S:=⟨_,rfl⟩;obtain⟨A,N⟩:∃A,A=w:=⟨_,rfl⟩;rw[<-F,<-N]at f X;have f:H0 c B (λb=>b=cX\/sv.ownBlock=some b) D A S w [(cX,.cells #[sv] 177 (0,0))]:=by rw[F,N]at f⊢;exact f
 clear F N U hS hB;intro Stop cf cs hk;rw[enter_at _ func89 rfl];simp only[ntmps89,ju,ic,jr,Nat.reduceAdd,Nat.reduceSub,uK,uL,uO,uM,jq,lq];apply RT.seq TT;apply RT.region TT;simp only[ju,ic,jr,fE,List.range,List.range.loop];refine RT.op rfl (by rfl) (by simp[base]) λv1 J K hK=>?_;replace f:=f.rely J;replace d:=oy d (O S) J;go_simp;refine hK _ _ ⟨by rw[listed_nil (by simp[go_sem])];exact Ax.alloc _ _ _,?_⟩;clear hK K J;replace d:=su (w':=v1.alloc (.cells #[Iv ev,Iv time,Iv cP,.bool h] 59)) d λk _ hl=>dL v1 _ hl;have ar:=f;replace f:=f.alloc (.cells #[Iv ev,Iv time,Iv cP,.bool h] 59);generalize grow _ v1 (v1.alloc _)=T1 at f⊢;have aq:=gH f.low (ar.size);generalize ay:v1.heap.size=b1 at f aq⊢;generalize v1.alloc _=u1 at f d⊢;apply RT.nil TT;obtain⟨I,ai⟩:∃I:(Nat->Prop)->World->Prop,I=λS w'=>H0 c B (λb=>b=cX\/sv.ownBlock=some b) D A S w' [(b1,.cells #[Iv ev,Iv time,Iv cP,.bool h] 59),(cX,.cells #[sv] 177 (0,0))]:=⟨_,rfl⟩;have T:∀S x y,I S x->IJ c B S x y->I S y:=ai▸λS x y h r=>h.rely r;let Qv:Act->aB aE->(Nat->bQ)->aC->bQ:=λa L S w'=>RT prog true (IJ c B) (Ax B M) Stop S (G ((base 89).at a []) (cf::cs)) w';have R:∀a L S x y,Qv a L S x->IJ c B S x y->Qv a L S y:=λa L S x y h r=>RT.rely TT h r;refine RT.drawn (Stop:=λ_=>Stop) (L:=[]) (c:=c) (Q:=Qv) (I:=I) (fn:=89) (fin:=10) TT (.inl (by intro o ho ch x;simp at ho;rcases ho with rfl|rfl|rfl|rfl|rfl|rfl|rfl|rfl|rfl|rfl|rfl<;>simp)) rfl (by simp[base]) aL (λa L S w' hq=>hq) λE J=>?_;subst ai;replace f:=f.rely J;replace d:=oy d (O _) J;have ae:IJ c B T1 E {E with drawn:=E.drawn+1}:=⟨aZ,λ_ _ _ _=>rfl,rfl,rfl,rfl⟩;replace f:=f.rely ae;replace d:=oy d (O _) ae;simp only[ju,ic,jr,Nat.reduceAdd,fE];generalize({E with drawn:=E.drawn+1}:aC)=x1 at f d⊢;have hI:=f;refine tk TT T R 0 hI ?_
 try walk_nrm
 refine tk TT T R 1 hI ?_
 try walk_nrm
 refine tk TT T R 2 hI ?_
 try walk_nrm
 refine tk TT T R 3 hI ?_
 try walk_nrm
 refine tk TT T R 4 hI ?_
 try walk_nrm
 refine tk TT T R 5 hI ?_
 try walk_nrm
 refine kC (i:=6) jZ (sU.op rfl (by rfl) aF λq ad K hK=>?_);replace f:=f.rely ad;replace d:=oy d (O _) ad;go_simp;refine hK _ _ ⟨by rw[listed_nil (by simp[go_sem])];exact Ax.alloc _ _ _,?_⟩;replace d:=su (w':=q.alloc (.cells #[Iv ev,Iv time,Iv cP,.bool h] 59)) d λk _ hl=>dL q _ hl;have aj:=f.base;have a1:grow T1 q (q.alloc (.cells #[Iv ev,Iv time,Iv cP,.bool h] 59)) q.heap.size:=.inr ⟨aZ,by rw[bM];exact j7⟩;replace f:=f.alloc (.cells #[Iv ev,Iv time,Iv cP,.bool h] 59);generalize grow T1 q (q.alloc _)=T2 at f a1⊢;generalize ax:q.heap.size=b2 at f a1 aj⊢;generalize q.alloc _=u2 at f d⊢;refine⟨λ_=>f.less λp C=>.tail _ C,?_⟩
 try walk_nrm
 obtain⟨ti,ak,P⟩:=nA.1 vN;simp only[oO]at P;refine kC (i:=7) jZ (sU.VU rfl rfl (.tmp 8) (.tmp 10) 54 rfl 59 ti _ 4 32 underlying54 ak P.1 P.2.1 P.2.2 rfl aG sv n xs (Ad b2 0) 1 1 (fO ev time cP h) rfl rfl rfl ?o7 (by simp only[maxLen];omega) aA a1 Y λW a8=>⟨oy d (O _) a8,?c7,?k7⟩)
 case o7=>intro u hu;simp[fO]at hu;rcases hu with rfl|rfl|rfl|rfl<;>rfl
 case c7=>
  intro j u hj;have Z:=f.rely a8;rcases j with _|_|_|_|j<;>simp[fO]at hj<;>subst hj
  .simpa[Addr.add]using Z.cell (i:=0) (.head _) rfl
  .simpa[Addr.add]using Z.cell (i:=1) (.head _) rfl
  .simpa[Addr.add]using Z.cell (i:=2) (.head _) rfl
  .simpa[Addr.add]using Z.cell (i:=3) (.head _) rfl
 intro m w4 V r2 r3;replace f:=f.rely a8;have aa:=f.size;have b3:=f.base;replace f:=f.grown r2 (λg z=>.inr z) (by
  intro p C e;simp at C;rcases C with rfl|rfl|rfl
  .have:=(Y _ e.symm).1;simp at this;omega
  .have:=(Y _ e.symm).1;simp at this;omega
  .exact ah e.symm)
 have a7:m.ownBlock=sv.ownBlock\/∃g,m.ownBlock=some g/\grow T2 W w4 g/\A.heap.size<=g:=r3.imp id λe=>⟨_,e,.inr ⟨aZ,(V.lt _ e).2⟩,aa⟩;have s:∀g,m.ownBlock=some g->(grow T2 W w4 g\/g<B)/\g≠c/\g≠cX:=by
  intro g z;obtain e|⟨g',e,e2,e3⟩:=a7
  .rw[e]at z;exact⟨(O _ g z).1,(O T2 g z).2,λx=>ah (x▸z)⟩
  .rw[e]at z;cases z;have:=f.low;exact⟨.inl e2,λx=>by have:=H.chan;omega,λx=>aA⟩
 refine⟨λ_=>f.less λp C=>.tail _ C,?_⟩;generalize grow T2 W w4=T3 at f a7 s⊢
 try walk_nrm
 refine kC (i:=8) jZ (sU.op rfl (by rfl) aF λw8 J K hK=>?_);replace f:=f.rely J;replace V:=oy V (λg z=>⟨(s g z).1,(s g z).2.1⟩) J;go_simp;refine hK _ _ ⟨by rw[listed_nil (by simp[go_sem])];exact TT.idle _ _,?_⟩;rw[dC];refine⟨λ_=>f.less λp C=>.tail _ C,?_⟩
 try walk_nrm
 refine kC (i:=9) jZ (sU.op rfl (by rfl) aF λw9 J K hK=>?_);replace f:=f.rely J;replace V:=oy V (λg z=>⟨(s g z).1,(s g z).2.1⟩) J;go_simp;refine hK _ _ ⟨by rw[listed_nil (by simp[go_sem])];exact TT.idle _ _,?_⟩;rw[dC];refine⟨λ_=>f.less λp C=>.tail _ C,?_⟩
 try walk_nrm
 refine kC (i:=10) jZ (sU.op rfl (by rfl) aF λa6 J K hK=>?_);replace f:=f.rely J;replace V:=oy V (λg z=>⟨(s g z).1,(s g z).2.1⟩) J;have Z:H0 c B (λb=>b=cX\/sv.ownBlock=some b) D A T3 a6 [(cX,.cells #[sv] 177 (0,0))]:=f.less (λp C=>by simp at C;subst C;simp);have az:=Z.cell (i:=0) (.head _) rfl;have hz:a6.frozen? (Ad cX 0)=false:=by simp[World.frozen?,(Z.get (.head _))]
 have an:∃(o:aR bC)(l k:Nat),m=.slice o l k:=by rcases V.2 with⟨e,_⟩|⟨_,_,_,e,_⟩<;>exact⟨_,_,_,e⟩
 obtain⟨oo,ll,kk,rfl⟩:=an;go_simp;refine hK _ _ ⟨?_,?_⟩
 .refine Ax.U8 (b:=cX) (.inr ⟨af,hM⟩) (by simp only[eC]) (λk hk=>b_ _ _ _ hk) λe he=>?_;have hm:=mem_listed he;simp[go_sem,events_store (v:=Value.slice oo ll kk) (hv:=rfl), *]at hm;obtain rfl:=hm<;>exact⟨_,rfl,rfl⟩
 rw[pG _ (by simp only[eC])];replace Z:=Z.set (i:=0) (v:=.slice oo ll kk) (.inr (.inl rfl)) (by intro p C;simp at C);replace V:=su (w':=a6.setCell (Ad cX 0) (.slice oo ll kk)) V λk hk _=>b_ _ _ _ (s k hk).2.2;refine⟨λx=>absurd rfl x,?_⟩;refine AJ jZ (RT.ends TT (RT.leave TT (v:=.tuple #[]) rfl rfl func89 (λag aw=>?_) (hk _ _ _ (X▸⟨_,Z,V,a7⟩)))) _;refine⟨by simp[results,go_sem],?_⟩;rw[show∀t,Sem.events prog (results f89 t) ag #[]=#[]from λt=>by simp[results,go_sem],seen_none];exact TT.idle _ _
end Lf
namespace Lf
open Tryz Go Go.Conc Go.RowKit
variable{c B:Nat}{M Ro:Nat->Prop}
theorem T_(H:uW c B M Ro)(A u z)(sv)(N)(nn)(v t E k d m h o n f l j i)(T)(w):
  SB prog c (Dl c Ro) (AD c Ro) (MQ c Ro) nn [] T (B4 c A u z sv N N v t E k d m h o n f l j i) w:=by
 let g:=kL c B M Ro H;let a:=g.tB;apply SB.n9 g;simp only[B4,Hf,o9,f133,fD];apply RT.seq a;apply RT.region a;simp only[ju,ic,jr,fE,List.range,List.range.loop];refine RT.op rfl (by rfl) (by simp[baseD]) λI F K D=>?_;go_simp;refine D _ _ ⟨by rw[listed_nil (by simp[go_sem])];exact a.idle _ _,?_⟩;rw[dC];apply RT.nil a;apply RT.seq a;apply RT.cond a false (by simp[Act.eval]);simp only[fA,gI];apply RT.exit a rfl;apply RT.ends a;apply SB.walk g;refine .close rfl (by simp[mayWake,G,Frame.at]) (λb C s r _ y=>⟨#[⟨.obj c,false,true⟩],Nd _ _ b y,λe q=>?_⟩) (On _ _);simp at q;subst q;exact⟨λx p _=>(by simp[MemAct.ofEvent,MemAct.touch?]at p;subst p;exact .inr rfl),aF,aF⟩
theorem Yq(H:uW c B M Ro)(F D E pb A cap J so n cp)(num time)(at_)(r)(I)(u)(m)(ps)(G:eI r A ps)(K:ps.length<9223372036854775807)(C:∀p∈ps,u[so+p.node]?=some (.bool p.v)/\p.node<n)(nn)(t)(s):
  ∀j k,k+j=ps.length->∀y x z g a l d q o b i f e (T) (w),HB c Ro t s T w (Vu c F D E pb A ps.length cap J so n cp num time at_ r I u m)->
   SB prog c (Dl c Ro) (AD c Ro) (MQ c Ro) nn ((ps.drop k).map (letter num time)) T (B4 c F D E (.slice (some (Ad pb A)) ps.length cap) ps.length k y x z g a l d q o b i f e) w:=by
 intro j
 induction j with
 |zero=>
  intro k L y x z g a l d q o b i f e T w _;obtain rfl:k=ps.length:=aA;rw[List.drop_length,sR];exact T_ H _ _ _ _ _ _ _ _ _ _ _ _ _ _ _ _ _ _ _ _ _
 |succ j O=>
  intro k L y x z g a l d q o b i f e T w N;let v:k<ps.length:=aA;rw[pw v,hY];exact WU H _ F D E pb A cap J so n cp num time at_ r I u m ps G K C nn k _ (fH v) _ _ _ _ _ _ _ _ _ _ _ _ _ t s T w N λy x z g a l d q o b i f e T w h=>O (k+1) aA y x z g a l d q o b i f e T w h
theorem VW(H:uW c B M Ro)(g e f pb h cap o so n cp)(num time)(at_)(a)(i)(b)(m)(ps)(s:eI a h ps)(u:ps.length<9223372036854775807)(j:∀p∈ps,b[so+p.node]?=some (.bool p.v)/\p.node<n)(nn)(T)(w)(v:c<w.heap.size)
  (r:∀q∈Vu c g e f pb h ps.length cap o so n cp num time at_ a i b m,(T q.1\/Ro q.1)/\q.1≠c/\w.heap[q.1]?=some q.2):
  SB prog c (Dl c Ro) (AD c Ro) (MQ c Ro) nn (ps.map (letter num time)) T (born prog (call133 g e f)) w:=by
 let k:=kL c B M Ro H;let TT:=k.tB;let hF:HB c Ro T w T w (Vu c g e f pb h ps.length cap o so n cp num time at_ a i b m):=.start v r;let d:=Yq H g e f pb h cap o so n cp num time at_ a i b m ps s u j nn T w ps.length 0 aA;simp only[B4,Hf,o9,f133,fD,wF,Int.natCast_zero]at d;refine SB.n9 k (RT.one rfl λy l=>?_);rw[GK,goes_go,dC];refine⟨TT.idle _ _,?_⟩;replace hF:=hF.rely l;simp only[o9,f133,fD]
 revert hF
 refine zO λz hF=>?_;apply RT.defer TT rfl (by rfl) (by simp[baseD]) (vg c) (λt=>by simp[execOp,resolve,Act.eval,vg]) (λt=>by simp[execOp,resolve,Act.eval]);simp only[Act.put]
 revert hF
 refine zO λt hF=>?_
 revert hF
 refine zO λA hF=>?_
 revert hF
 refine zO λx hF=>?_;apply RT.nil TT;apply RT.block TT;apply RT.loop TT;exact SB.walk k (d _ _ _ _ _ _ _ _ _ _ _ _ _ _ _ hF)
theorem Ta(H:uW c B M Ro)(b d h)(nn)(T)(w)(j:c<w.heap.size)
  (e:∀q∈([(b,.cells #[.chan (some c)] 235),(d,.cells #[.slice none 0 0] 151)]:aB (Nat×Obj)),(T q.1\/Ro q.1)/\q.1≠c/\w.heap[q.1]?=some q.2):
  SB prog c (Dl c Ro) (AD c Ro) (MQ c Ro) nn [] T (born prog (call133 b d h)) w:=by
 let f:=kL c B M Ro H;let TT:=f.tB;let hF:HB c Ro T w T w [(b,.cells #[.chan (some c)] 235),(d,.cells #[.slice none 0 0] 151)]:=.start j e;let a:=T_ (nn:=nn) H b d h (.slice none 0 0) 0;simp only[B4,Hf,o9,f133,fD,Int.natCast_zero]at a;refine SB.n9 f (RT.one rfl λl g=>?_);rw[GK,goes_go,dC];refine⟨TT.idle _ _,?_⟩;replace hF:=hF.rely g;simp only[o9,f133,fD]
 revert hF
 refine zO λm hF=>?_;apply RT.defer TT rfl (by rfl) (by simp[baseD]) (vg c) (λi=>by simp[execOp,resolve,Act.eval,vg]) (λi=>by simp[execOp,resolve,Act.eval]);simp only[Act.put]
 revert hF
 refine zO λi hF=>?_
 revert hF
 refine zO λn hF=>?_
 revert hF
 refine zO λk hF=>?_;apply RT.nil TT;apply RT.block TT;apply RT.loop TT;exact SB.walk f (a _ _ _ _ _ _ _ _ _ _ _ _ _ _ _)
end Lf
namespace Lf
open Tryz Go Go.Conc Go.RowKit
structure lx where
 cX:Nat
 sv:aE
 n:Nat
 xs:aB aE
def gh(w:aC)(s:lx):Prop:=w.heap[s.cX]?=some (.cells #[s.sv] 177 (0,0))/\w.ownsRow 0 59 4 s.sv s.n s.xs
def Apart(ss:aB lx):Prop:=∀(i j:Nat)(s t:lx),ss[i]?=some s->ss[j]?=some t->i≠j->s.cX≠t.cX/\∀g,s.sv.ownBlock=some g->t.sv.ownBlock≠some g
def Ms(ss:aB lx)(b:Nat):Prop:=∃s∈ss,b=s.cX\/s.sv.ownBlock=some b
theorem gh.ne{w s t}(h:gh w s)(k:gh w t):s.sv.ownBlock≠some t.cX:=λe=>by
 obtain⟨f,a|⟨g,cap,d,b,_,c,_⟩⟩:=h.2
 .rw[a.1]at e;cases e
 .rw[b]at e;cases e;have:=k.1;rw[c]at this;cases this
theorem gh.heap{w w' s}(h:gh w s)(a:∀b,b<w.heap.size->(b=s.cX\/s.sv.ownBlock=some b)->w'.heap[b]?=w.heap[b]?):gh w' s:=
 ⟨by rw[a s.cX (aN h.1) (.inl rfl)];exact h.1,su h.2 λk d c=>a k c (.inr d)⟩
structure nE(B:Nat)(ss:aB lx)(num time:Int)(ps:aB nk)(k:Nat)(S:Nat->Prop)(w:aC)(now:aB lx):Prop where
 len:now.length=ss.length
 rest:∀i,k<=i->now[i]?=ss[i]?
 done:∀i s p,i<k->ss[i]?=some s->ps[i]?=some p->∃t,now[i]?=some t/\t.cX=s.cX/\t.n=s.n+1/\t.xs=s.xs++fO num time p.cP p.v/\(t.sv.ownBlock=s.sv.ownBlock\/∃g,t.sv.ownBlock=some g/\S g)
 ok:∀t∈now,gh w t
 apart:Apart now
 mine:∀t∈now,(∃s∈ss,s.cX=t.cX)/\∀g,t.sv.ownBlock=some g->S g\/Ms ss g
section
variable{c B:Nat}{ss:aB lx}{num time:Int}{ps:aB nk}{k:Nat}{S S':Nat->Prop}{w w':aC}{now:aB lx}
theorem nE.heap(h:nE B ss num time ps k S w now)(q:∀b,S b->S' b)(l:∀b,Ms ss b->b<B/\b≠c)(m:∀b,S b->b≠c)(o:∀b,(S b\/b<B)->b<w.heap.size->b≠c->w'.heap[b]?=w.heap[b]?):nE B ss num time ps k S' w' now:=
 ⟨h.len,h.rest,λi s p a b d=>by
  let⟨t,t1,t2,t3,t4,t5⟩:=h.done i s p a b d
  exact⟨t,t1,t2,t3,t4,t5.imp id λ⟨g,v,r⟩=>⟨g,v,q g r⟩⟩,λt f=>(h.ok t f).heap λb n j=>by
   obtain rfl|j:=j
   .let⟨s,hs,e⟩:=(h.mine t f).1
    have:=l t.cX ⟨s,hs,.inl e.symm⟩
    exact o _ (.inr this.1) n this.2
   .obtain x|x:=(h.mine t f).2 b j
    .exact o _ (.inl x) n (m b x)
    .exact o _ (.inr (l b x).1) n (l b x).2,h.apart,λt f=>⟨(h.mine t f).1,λg u=>((h.mine t f).2 g u).imp (q g) id⟩⟩
theorem nE.start(a:∀s∈ss,gh w s)(nz:Apart ss):nE B ss num time ps 0 S w ss:=
 ⟨rfl,λ_ _=>rfl,λ_ _ _ h=>absurd h (Ao _),a,nz,λt b=>⟨⟨t,b,rfl⟩,λ_ c=>.inr ⟨t,b,.inr c⟩⟩⟩
theorem nE.step(h:nE B ss num time ps k S w now){s p}(Q:ss[k]?=some s)(hp:ps[k]?=some p)(R:∀b,Ms ss b->b<B/\b≠c){f}
  (v:H0 c B (λb=>b=s.cX\/s.sv.ownBlock=some b) S w S' w' [(s.cX,.cells #[f] 177 (0,0))]) (hr:w'.ownsRow 0 59 4 f (s.n+1) (s.xs++fO num time p.cP p.v)) (O:f.ownBlock=s.sv.ownBlock\/∃g,f.ownBlock=some g/\S' g/\w.heap.size<=g):
  ∃D,nE B ss num time ps (k+1) S' w' D:=by
 let r:=(h.rest k aZ).trans Q;let q:=(eY.1 r).1;let C:=iF r;let E:=iF Q;let o:∀t∈now,∀g,t.sv.ownBlock=some g->g<w.heap.size:=λt F g l=>((h.ok t F).2.lt g l).2;refine⟨now.set k ⟨s.cX,f,s.n+1,s.xs++fO num time p.cP p.v⟩,by simp[h.len],λi hi=>?_,λi T p' hi n z=>?_,λt F=>?_,λi j t u hi I P=>?_,λt F=>?_⟩
 .rw[yA aA];exact h.rest i aA
 .by_cases a:i=k
  .subst a;rw[Q]at n;cases n;rw[hp]at z;cases z;exact⟨⟨s.cX,f,s.n+1,s.xs++fO num time p.cP p.v⟩,by rw[rF q],rfl,rfl,rfl,O.imp id λ⟨g,N,M,_⟩=>⟨g,N,M⟩⟩
  .let⟨t,t1,t2,t3,t4,t5⟩:=h.done i T p' aA n z;exact⟨t,by rw[yA aA];exact t1,t2,t3,t4,t5.imp id λ⟨g,N,M⟩=>⟨g,N,v.mine g M⟩⟩
 .let⟨i,hi⟩:=Aw.1 F;by_cases a:i=k
  .subst a;rw[rF q]at hi;cases hi;exact⟨v.get (.head _),hr⟩
  .rw[yA aA]at hi;let d:=iF hi;let nz:=h.apart i k t s hi r a;refine(h.ok t d).heap λb X A=>?_;let m:=v.keep b;obtain rfl|A:=A
   .let⟨T,n,e⟩:=(h.mine t d).1;have:=R t.cX ⟨T,n,.inl e.symm⟩;exact m (.inr this.1) X this.2 λx=>x.elim nz.1 λe=>(h.ok s C).ne (h.ok t d) e
   .refine m (((h.mine t d).2 b A).imp id λx=>(R b x).1) X ?_ λx=>x.elim (λe=>(h.ok t d).ne (h.ok s C) (e▸A)) λe=>nz.2 b A e
    .obtain x|x:=(h.mine t d).2 b A
     .have:=v.own b (v.mine b x);have:=v.chan;omega
     .exact(R b x).2
 .let H:∀i j t u,(now.set k ⟨s.cX,f,s.n+1,s.xs++fO num time p.cP p.v⟩)[i]?=some t->now[j]?=some u->i=k->j≠k->t.cX≠u.cX/\∀g,t.sv.ownBlock=some g->u.sv.ownBlock≠some g:=by
   intro i' Z t' W G J e y;rw[e,rF q]at G;cases G;let nz:=h.apart k Z s W r J λe=>y e.symm;refine⟨nz.1,λg l K=>?_⟩;obtain e|⟨Y,U,_,V⟩:=O
   .exact nz.2 g (e▸l) K
   .let L:=l;rw[U]at L;cases L;have:=o W (iF J) g K;omega
  by_cases a:i=k
  .rw[yA aA]at I;exact H i j t u hi I a aA
  .rw[yA aA]at hi;by_cases y:j=k
   .have:=H j i u t I hi y a;exact⟨λe=>this.1 e.symm,λg l K=>this.2 g K l⟩
   .rw[yA aA]at I;exact h.apart i j t u hi I P
 .let⟨i,hi⟩:=Aw.1 F;by_cases a:i=k
  .subst a;rw[rF q]at hi;cases hi;refine⟨⟨s,E,rfl⟩,λg l=>?_⟩;obtain e|⟨Y,U,L,_⟩:=O
   .exact .inr ⟨s,E,.inr (e▸l)⟩
   .let V:=l;rw[U]at V;cases V;exact .inl L
  .rw[yA aA]at hi;let d:=iF hi;exact⟨(h.mine t d).1,λg l=>((h.mine t d).2 g l).imp (v.mine g) id⟩
end
theorem RN{b:Frame}{a c i rest k d o}(e:c[i]?=some o)(v):Go.Conc.served (G (b.at a (.inRegion c (i::rest)::k)) d) v=G (b.at (a.put o.dst v) (.inRegion c rest::k)) d:=by
 show{(G (b.at a (.inRegion c (i::rest)::k)) d)with frame:=(b.at a (.inRegion c (i::rest)::k)).finish v,status:=.running,offers:=Option.none}=_;rw[Vs,e];rfl
noncomputable def nO:Code:=f46.body.getD .skip
noncomputable def zI:Code:=match nO with
 |.seq _ (.seq _ (.seq _ (.seq (.seq _ (.block _ (.loop x))) _)))=>x
 |_=>.skip
noncomputable def sF:Code:=match nO with
 |.seq _ (.seq _ (.seq _ (.seq _ x)))=>x
 |_=>.skip
noncomputable def YU:aU Oper:=match zI with
 |.seq (.region _ o _) _=>o
 |_=>#[]
noncomputable def Ek(c:Nat)(x0 x1 x2 x3 I L J H F r j k A o n u e d g s D p l B x y m v i E f:aE)(K:aB Frame)(M q b w h z t C a:aE):bU:=
 G ((base 46).at ⟨#[x0,x1,x2,x3,I,L,J,H,F,M,r,j,k,A,o,n,u,e,d,g,s,D,p,l,B,x,y,m,v,i,E,f,.chan (some c),q,b,w,h,z,t,C,a],[]⟩ [.code zI,.inLoop zI,.inBlock 0,.code sF]) K
abbrev zE:aE:=(.agg #[.pointer none,Iv 0,Iv 0,Iv 0,.bool false])
noncomputable def KJ(c:Nat)(x0 x1 x2 x3 I L J H F q j k A o n t e d g r D p l B w x m u i E f:aE)(K:aB Frame)(M _u33 b v h z s C a:aE):bU:=
 G ((base 46).at ⟨#[x0,x1,x2,x3,I,L,J,H,F,M,q,j,k,A,o,n,t,e,d,g,r,D,p,l,B,w,x,m,u,i,E,f,.chan (some c),(.tuple #[zE,.bool false]),b,v,h,z,s,C,a],[]⟩ [.inRegion YU [1],.code (match zI with|.seq _ y=>y|_=>.skip),.inLoop zI,.inBlock 0,.code sF]) K
variable{c B:Nat}{M Ro:Nat->Prop}
theorem ZP(H:uW c B M Ro)(x0 x1 x2 x3 U X V R O t l m F q p x g f i u I r n G C D o z k J h)(W)(Z s e A j E v L d)(K)(S)(w)
  (Q:∀w',IJ c B S w w'->K (KJ c x0 x1 x2 x3 U X V R O t l m F q p x g f i u I r n G C D o z k J h W Z s e A j E v L d) w'):SA prog c zE (IJ c B) (Ax B M) (Sy B M) K [] S (Ek c x0 x1 x2 x3 U X V R O t l m F q p x g f i u I r n G C D o z k J h W Z s e A j E v L d) w:=by
 let T:=kL c B M Ro H;let N:=T.t0;apply SA.n9 T;simp only[Ek,KJ,zI,sF,YU,nO,f46,fD]at Q⊢;apply RT.seq N;apply RT.region N;simp only[ju,ic,jr,Nat.reduceAdd,fE,List.range,List.range.loop];refine .stop λY y=>SA.fin rfl (λa b=>⟨_,stepG_comm (P:=prog) (cases:=#[rcase c zE]) (blocking:=true) (shape:=.recv true) (w':=a) rfl (by rfl) (by simp[base]) (by simp[execOp,go_sem];rfl),by rw[listed_nil (by simp[go_sem])];simp⟩) λa b=>Q a (N.trans _ _ _ _ y b)
theorem WV(H:uW c B M Ro)(x0 x1 x2 x3 x4 x5 x6 x7 x8 a7 Q R ad au ai aw Z Y ag a8 ax T ah ak U V a6 aj ar an af)(cs)(K)(L)(ss)(num time)(ps)(o:∀b,Ms ss b->M b)(hn:∀s∈ss,s.n<=1000000)
  (k) (s) (p) (hs:ss[k]?=some s) (hp:ps[k]?=some p) (b0:p.fY=some (Ad s.cX 0)) (E) (X z r m l q n A u) (S) (w) (now)
  (G:H0 c B M (λ_=>False) E S w []) (hT:nE B ss num time ps k S w now)
  (next:∀X z r m l q n A u (S) (w) (now),H0 c B M (λ_=>False) E S w []->nE B ss num time ps (k+1) S w now->SA prog c zE (IJ c B) (Ax B M) (Sy B M) K L S (Ek c x0 x1 x2 x3 x4 x5 x6 x7 x8 a7 Q R ad au ai aw Z Y ag a8 ax T ah ak U V a6 aj ar an af cs X z r m l q n A u) w):
  SA prog c zE (IJ c B) (Ax B M) (Sy B M) K (letter num time p::L) S (Ek c x0 x1 x2 x3 x4 x5 x6 x7 x8 a7 Q R ad au ai aw Z Y ag a8 ax T ah ak U V a6 aj ar an af cs X z r m l q n A u) w:=by
 have PP:=kL c B M Ro H;have TT:=PP.t0;have y:∀b,Ms ss b->b<B/\b≠c:=λb j=>H.m b (o b j);have a1:=λX z r m l q n A u S w now h1 h2=>SA.walk PP (next X z r m l q n A u S w now h1 h2);clear next
 apply SA.n9 PP;simp only[Ek,zI,sF,nO,f46,fD]at a1⊢;apply RT.seq TT;apply RT.region TT;simp only[ju,ic,jr,Nat.reduceAdd,fE,List.range,List.range.loop];refine .stop λaz aa=>SA.recv rfl (λa C=>⟨_,stepG_comm (P:=prog) (cases:=#[rcase c zE]) (blocking:=true) (shape:=.recv true) (w':=a) rfl (by rfl) (by simp[base]) (by simp[execOp,go_sem];rfl),by rw[listed_nil (by simp[go_sem])];simp⟩) λa C=>?_;have Vy:=TT.trans _ _ _ _ aa C;have J:∀b,S b->b≠c:=λb j e=>by have:=(G.own b j).1;have:=G.chan;omega
 replace hT:nE B ss num time ps k S a now:=hT.heap (λ_ x=>x) y J λb j hl hc=>Vy.block b hc hl j;replace G:=G.rely Vy;have hF:H0 c B (λ_=>False) S a S a []:=H0.start G.own H.chan G.base aF;apply SA.n9 PP;rw[RN rfl];simp only[recvd,letter,fB]
 try walk_nrm
 revert hF
 refine zO λv1 hF=>?_;apply RT.nil TT;apply RT.seq TT;apply RT.cond TT true (by simp[Act.eval]);simp only[fB];apply RT.skip TT
 revert hF
 refine zO λv2 hF=>?_
 revert hF
 refine zA λT3 u3 N hF t ay=>?_;refine RT.op rfl (by rfl) (by simp[base]) λD hR K hK=>?_;replace hF:=hF.rely hR;have j:=hF.get (.head _);have b4:=hF.cell (i:=0) (.head _) rfl;have b1:=hF.cell (i:=1) (.head _) rfl;have b2:=hF.cell (i:=2) (.head _) rfl;have b6:=hF.cell (i:=3) (.head _) rfl;have b5:=hF.cell (i:=4) (.head _) rfl;have hz:∀i,D.frozen? (Ad N i)=false:=λi=>by simp[World.frozen?,j]
 go_simp;refine hK _ _ ⟨?_,?_⟩
 .refine Ax.U8 (b:=N) (.inl ay) (by simp only[eC]) (λk O=>(b_ _ _ _ O).trans ((b_ _ _ _ O).trans ((b_ _ _ _ O).trans ((b_ _ _ _ O).trans (b_ _ _ _ O))))) λe he=>?_;have hm:=mem_listed he;simp[go_sem,events_store (v:=Value.bool p.v) (hv:=rfl),events_store (v:=(Pt s.cX)) (hv:=rfl), *]at hm;obtain rfl|rfl|rfl|rfl|rfl:=hm<;>exact⟨_,rfl,rfl⟩
 rw[pG _ (by simp only[eC])];replace hF:=(((((hF.set (i:=0) (v:=(Pt s.cX)) (.inl t.1) aF).set (i:=1) (v:=(Iv num)) (.inl t.1) aF).set (i:=2) (v:=(Iv time)) (.inl t.1) aF).set (i:=3) (v:=(Iv p.cP)) (.inl t.1) aF).set (i:=4) (v:=(.bool p.v)) (.inl t.1) aF);simp only[P_,CC,Iq]at hF;generalize(((((D.setCell (Ad N 0) (Pt s.cX)).setCell (Ad N 1) (Iv num)).setCell (Ad N 2) (Iv time)).setCell (Ad N 3) (Iv p.cP)).setCell (Ad N 4) (.bool p.v))=u5 at hF⊢
 revert hF
 refine zO λv6 hF=>?_
 revert hF
 refine zO λv7 hF=>?_
 revert hF
 refine zO λv8 hF=>?_
 revert hF
 refine zO λv9 hF=>?_;refine RT.call TT (f:=89) (Post:=λ_ S' w'=>∃F d,H0 c B (λ_=>False) S a T3 F []/\H0 c B (λb=>b=s.cX\/s.sv.ownBlock=some b) T3 F S' w' [(s.cX,.cells #[d] 177 (0,0))]/\w'.ownsRow 0 59 4 d (s.n+1) (s.xs++fO num time p.cP p.v)/\(d.ownBlock=s.sv.ownBlock\/∃g,d.ownBlock=some g/\S' g/\F.heap.size<=g)) rfl (by rfl) (by simp[base]) rfl func89 aG (by rfl) (λF hR=>?call) ?next
 case call=>
  replace hF:=(hF.rely hR).less (fs':=[]) aF;have ae:=hT.heap hF.mine y J λb j hl hc=>hF.keep b j hl hc λx=>x;have W:=ae.ok s (iF ((ae.rest k aZ).trans hs));have h:=iF hs;have aq:=o s.cX ⟨s,h,.inl rfl⟩;have:=Y_ H s.cX s.sv s.n s.xs num time p.cP p.v T3 F hF.own hF.base (H.m _ aq).1 aq W.1 W.2 (λg hg=>⟨(y g ⟨s,h,.inr hg⟩).1,o g ⟨s,h,.inr hg⟩⟩) (hn s h);simp only[Dj,hY,sR]
  change lS prog true (IJ c B) (Ax B M) 89 #[Pt s.cX,.agg #[Iv num,Iv time,Iv p.cP,.bool p.v]] _ F _
  apply lS.mono this;rintro _ S' w' ⟨d,r1,r2,r3⟩;exact⟨F,d,hF,r1,r2,r3⟩
 rintro v S' w' ⟨F,d,I,r1,r2,r3⟩;have⟨aa7,Dc⟩:=(hT.heap I.mine y J λb j hl hc=>I.keep b j hl hc λx=>x).step hs hp y r1 r2 r3;have h:=iF hs
 try walk_nrm
 apply RT.nil TT;apply RT.inBlock TT;apply RT.inLoop TT;exact a1 _ _ _ _ _ _ _ _ _ S' w' aa7 ((G.step I (λ_ x=>x.elim) aF).step r1 (λb j=>j.elim (λe=>o b ⟨s,h,.inl e⟩) λe=>o b ⟨s,h,.inr e⟩) aF) Dc
theorem Tt(H:uW c B M Ro)(x0 x1 x2 x3 x4 x5 x6 Z X G y z Q E D J r q u I T F A R N O C L v U t:aE)(cs:aB Frame)(K:bU->aC->bQ)(ss:aB lx)(num time:Int)(ps:aB nk)(W:∀b,Ms ss b->M b)(hn:∀s∈ss,s.n<=1000000)
  (a1:ss.length=ps.length) (a6:∀(i:Nat)(s:lx)(p:nk),ss[i]?=some s->ps[i]?=some p->p.fY=some (Ad s.cX 0)) (o:aC)
  (hk:∀(V g d j f l h n a:aE)(S:Nat->bQ)(w:aC)(now:aB lx),H0 c B M (λ_=>False) o S w []->nE B ss num time ps ps.length S w now->K (KJ c x0 x1 x2 x3 x4 x5 x6 Z X G y z Q E D J r q u I T F A R N O C L v U t cs V g d j f l h n a) w):
  ∀(m k:Nat),k+m=ps.length->∀(V g d j f l h n a:aE)(S:Nat->bQ)(w:aC)(now:aB lx),H0 c B M (λ_=>False) o S w []->nE B ss num time ps k S w now->
   SA prog c zE (IJ c B) (Ax B M) (Sy B M) K ((ps.drop k).map (letter num time)) S (Ek c x0 x1 x2 x3 x4 x5 x6 Z X G y z Q E D J r q u I T F A R N O C L v U t cs V g d j f l h n a) w
 |0,k,a7,V,g,d,j,f,l,h,n,a,S,w,now,hG,hT=>by
  have P:k=ps.length:=aA
  subst P
  rw[List.drop_length]
  refine ZP H x0 x1 x2 x3 x4 x5 x6 Z X G y z Q E D J r q u I T F A R N O C L v U t cs V g d j f l h n a K S w λw' hR=>?_
  exact hk V g d j f l h n a S w' now (hG.rely hR) (hT.heap (λ_ x=>x) (λb hb=>H.m b (W b hb)) (λb hb e=>by have:=(hG.own b hb).1;have:=hG.chan;omega) λb hb hl hc=>hR.block b hc hl hb)
 |m+1,k,a7,V,g,d,j,f,l,h,n,a,S,w,now,hG,hT=>by
  have P:k<ps.length:=aA
  rw[pw P,hY]
  have Y:k<ss.length:=aA
  exact WV H x0 x1 x2 x3 x4 x5 x6 Z X G y z Q E D J r q u I T F A R N O C L v U t cs K _ ss num time ps W hn k ss[k] ps[k] (fH Y) (fH P) (a6 k _ _ (fH Y) (fH P)) o V g d j f l h n a S w now hG hT
   λV g d j f l h n a S w now h1 h2=>Tt H x0 x1 x2 x3 x4 x5 x6 Z X G y z Q E D J r q u I T F A R N O C L v U t cs K ss num time ps W hn a1 a6 o hk m (k+1) aA V g d j f l h n a S w now h1 h2
end Lf
namespace Lf
open Tryz Go Go.Conc Go.RowKit
noncomputable def J4(w:aC)(pv:aE)(num time:Int)(at_ sv:aE)(N:Nat):aC:=
 ((((w.alloc (.cells #[pv] 151)).alloc (.cells #[Iv num,Iv time,at_,sv] 159)).alloc (.chan N #[] false 0 0 false)).alloc (.cells #[.chan none] 235)).setCell (Ad (w.heap.size+3) 0) (.chan (some (w.heap.size+2)))
section
variable(w:aC)(pv:aE)(num time:Int)(at_ sv:aE)(N:Nat)
theorem Ak:(J4 w pv num time at_ sv N).heap.size=w.heap.size+4:=by unfold J4;rw[eC,bM,bM,bM,bM]
theorem Dx{k}(a:k<w.heap.size):(J4 w pv num time at_ sv N).heap[k]?=w.heap[k]?:=by
 unfold J4;rw[b_ _ _ _ (show k≠w.heap.size+3 from aA),dL _ _ (by rw[bM,bM,bM];omega),dL _ _ (by rw[bM,bM];omega),dL _ _ (by rw[bM];omega),dL _ _ a]
theorem Vp:(J4 w pv num time at_ sv N).heap[w.heap.size]?=some (.cells #[pv] 151):=by
 unfold J4;rw[b_ _ _ _ (show w.heap.size≠w.heap.size+3 from aA),dL _ _ (by rw[bM,bM,bM];omega),dL _ _ (by rw[bM,bM];omega),dL _ _ (by rw[bM];omega)];exact mq w _
theorem Za:(J4 w pv num time at_ sv N).heap[w.heap.size+1]?=some (.cells #[Iv num,Iv time,at_,sv] 159):=by
 unfold J4;rw[b_ _ _ _ (show w.heap.size+1≠w.heap.size+3 from aA),dL _ _ (by rw[bM,bM,bM];omega),dL _ _ (by rw[bM,bM];omega)];have:=mq (w.alloc (.cells #[pv] 151)) (.cells #[Iv num,Iv time,at_,sv] 159)
 rwa[bM]at this
theorem aay:(J4 w pv num time at_ sv N).heap[w.heap.size+2]?=some (.chan N #[] false 0 0 false):=by
 unfold J4;rw[b_ _ _ _ (show w.heap.size+2≠w.heap.size+3 from aA),dL _ _ (by rw[bM,bM,bM];omega)];have:=mq ((w.alloc (.cells #[pv] 151)).alloc (.cells #[Iv num,Iv time,at_,sv] 159)) (.chan N #[] false 0 0 false)
 rwa[bM,bM]at this
theorem O9:(J4 w pv num time at_ sv N).heap[w.heap.size+3]?=some (.cells #[.chan (some (w.heap.size+2))] 235):=by
 unfold J4;have:=mq (((w.alloc (.cells #[pv] 151)).alloc (.cells #[Iv num,Iv time,at_,sv] 159)).alloc (.chan N #[] false 0 0 false)) (.cells #[.chan none] 235);rw[bM,bM,bM]at this;exact ui (i:=0) (v:=.chan (some (w.heap.size+2))) this
end
noncomputable def IX:Code:=f88.body.getD .skip
noncomputable def AK:Code:=match nO with
 |.seq _ (.seq _ (.seq _ (.seq (.seq _ x) _)))=>x
 |_=>.skip
noncomputable def qo:aU Oper:=match nO with
 |.seq _ (.seq _ (.seq _ (.seq (.seq (.region _ x _) _) _)))=>x
 |_=>#[]
noncomputable def Us:aU Oper:=match IX with
 |.seq _ (.seq _ (.seq (.region _ x _) _))=>x
 |_=>#[]
noncomputable def Vl:Code:=match IX with
 |.seq _ (.seq _ (.seq _ x))=>x
 |_=>.skip
variable{w:aC}{Ro:Nat->Prop}
theorem Qs(pa cap num time at_ sv ss ps)(H:uW (w.heap.size+2) (w.heap.size+4) (Ms ss) Ro)(hn:∀s∈ss,s.n<=1000000)
  (X:ss.length=ps.length) (a6:∀(i:Nat)(s)(p),ss[i]?=some s->ps[i]?=some p->p.fY=some (Ad s.cX 0)) (a7:∀s∈ss,gh w s) (nz:Apart ss) (x0 x1 x2 x3 x4 x5 x6 x7 x8 J z A R F E M q o u L U I C Q O P D N y T r a1 cs Y h f l g m j n e y6 y7 y9 a) (d:a.heap=(J4 w (.slice pa ps.length cap) num time at_ sv ps.length).heap)
  (K) (hK:∀Y h f l g m j n e (S w') (now),H0 (w.heap.size+2) (w.heap.size+4) (Ms ss) (λ_=>False) a S w' []->nE (w.heap.size+4) ss num time ps ps.length S w' now->K (KJ (w.heap.size+2) x0 x1 x2 x3 x4 x5 x6 x7 x8 J z A R F E M q o u L U I C Q O P D N y T r cs Y h f l g m j n e) w'):
  SA prog (w.heap.size+2) zE (IJ (w.heap.size+2) (w.heap.size+4)) (Ax (w.heap.size+4) (Ms ss)) (Sy (w.heap.size+4) (Ms ss)) K (ps.map (letter num time)) (λ_=>False)
   (G ((base 88).at ⟨#[.slice pa ps.length cap,.agg #[Iv num,Iv time,at_,sv],Pt w.heap.size,Pt (w.heap.size+1),.chan none,Pt (w.heap.size+3),y6,y7,.chan (some (w.heap.size+2)),y9,undef],[]⟩ [.inRegion Us [],.code Vl]) (((base 46).at ⟨#[x0,x1,x2,x3,x4,x5,x6,x7,x8,Y,J,z,A,R,F,E,M,q,o,u,L,U,I,C,Q,O,P,D,N,y,T,r,a1,h,f,l,g,m,j,n,e],[]⟩ [.inRegion qo [5],.code AK,.code sF])::cs)) a:=by
 have ad:a.heap.size=w.heap.size+4:=d▸Ak _ _ _ _ _ _ _;have a8:a.heap[w.heap.size+3]?=some (.cells #[.chan (some (w.heap.size+2))] 235):=d▸O9 _ _ _ _ _ _ _;have PP:=kL _ _ _ _ H;have TT:=PP.t0;generalize hc:w.heap.size+2=c at*;generalize hB:w.heap.size+4=B at*;generalize hq:w.heap.size+3=p5 at*;have hF:H0 c B (λ_=>False) (λ_=>False) a (λ_=>False) a [(p5,.cells #[.chan (some c)] 235)]:=H0.start (λ_ x=>x.elim) H.chan aA (by intro p hp;simp at hp;subst hp;exact⟨.inr (show p5<B from aA),(show p5≠c from aA),a8⟩);have V:=Tt H x0 x1 x2 x3 x4 x5 x6 x7 x8 J z A R F E M q o u L U I C Q O P D N y T r cs K ss num time ps (λ_ x=>x) hn X a6 a hK ps.length 0 aA;rw[wF]at V;apply SA.n9 PP;simp only[Ek,zI,sF,Us,Vl,IX,f88,qo,AK,nO,f46,fD]at V⊢
 revert hF
 refine zO λv1 hF=>?_
 revert hF
 refine zO λv2 hF=>?_;apply RT.nil TT;apply RT.ret TT;refine RT.leave TT (v:=.chan (some c)) rfl rfl func88 (λW aa=>⟨by simp[results,go_sem,f88],?_⟩) ?_
 .rw[show∀t,Sem.events prog (results f88 t) W #[]=#[]from λt=>by simp[results,go_sem,f88],seen_none];exact TT.idle _ _
 rw[Vs]
 change RT prog true (IJ c B) (Ax B (Ms ss)) _ _ (G ((base 46).at ⟨#[x0,x1,x2,x3,x4,x5,x6,x7,x8,Y,J,z,A,R,F,E,M,q,o,u,L,U,I,C,Q,O,P,D,N,y,T,r,.chan (some c),h,f,l,g,m,j,n,e],[]⟩ _) cs) _
 apply RT.nil TT;apply RT.block TT;apply RT.loop TT;exact SA.walk PP (V Y h f l g m j n e _ _ _ ((H0.start (fs:=[]) (λ_ x=>x.elim) H.chan aA aF).step hF (λ_ x=>x.elim) aF) ((nE.start (λs hs=>(a7 s hs).heap λb Z _=>(λk hk=>by rw[d];exact Dx _ _ _ _ _ _ _ hk) b Z) nz).heap (c:=c) (λ_ x=>x) (λb Z=>H.m b Z) (λ_ x=>x.elim) λb Z hl hc=>hF.keep b Z hl hc λx=>x))
end Lf
namespace Lf
open Tryz Go Go.Conc Go.RowKit
theorem NJ:(prog.info? 165).map (λi=>i.bytes)=some 40:=aL
theorem OV{r w}(h:∀K:Result Next->bQ,K (.ok .skip w)->K r):r=.ok .skip w:=h (· =.ok .skip w) rfl
variable{w:aC}{Ro:Nat->Prop}
theorem Y4(pa cap num time at_ sv ss ps)(H:uW (w.heap.size+2) (w.heap.size+4) (Ms ss) Ro)(hn:∀s∈ss,s.n<=1000000)(hN:ps.length<=1000000)
  (a7:ss.length=ps.length) (a8:∀(i:Nat)(s)(p),ss[i]?=some s->ps[i]?=some p->p.fY=some (Ad s.cX 0)) (aa:∀s∈ss,gh w s) (nz:Apart ss) (x0 x1 x2 x3 x4 x5 x6 x7 x8 C r t F T M U A z J D V u L O x y B N Q P I Y cs) (ad:∀fr∈cs,bK fr) (W n l h f k j o m)
  (hB:∀a,a.heap=(J4 w (.slice pa ps.length cap) num time at_ sv ps.length).heap->SB prog (w.heap.size+2) (Dl (w.heap.size+2) Ro) (AD (w.heap.size+2) Ro) (MQ (w.heap.size+2) Ro) ps.length (ps.map (letter num time)) (λ_=>False) (born prog (call133 (w.heap.size+3) w.heap.size (w.heap.size+1))) a):
  aJ prog (λg w'=>∃W n l h f k j o m S E a,a.heap=(J4 w (.slice pa ps.length cap) num time at_ sv ps.length).heap/\a.os=w.os/\a.output=w.output/\H0 (w.heap.size+2) (w.heap.size+4) (Ms ss) (λ_=>False) a S w' []/\nE (w.heap.size+4) ss num time ps ps.length S w' E/\g=KJ (w.heap.size+2) x0 x1 x2 x3 x4 x5 x6 x7 x8 C r t F T M U A z J D V u L O x y B N Q P I cs W n l h f k j o m)
   (G (Frame.enter prog 88 #[.slice pa ps.length cap,.agg #[Iv num,Iv time,at_,sv]] .normal) (((base 46).at ⟨#[x0,x1,x2,x3,x4,x5,x6,x7,x8,W,C,r,t,F,T,M,U,A,z,J,D,V,u,L,O,x,y,B,N,Q,P,I,Y,n,l,h,f,k,j,o,m],[]⟩ [.inRegion qo [5],.code AK,.code sF])::cs)) w:=by
 have q:=aK;have af:bK ((base 46).at ⟨#[x0,x1,x2,x3,x4,x5,x6,x7,x8,W,C,r,t,F,T,M,U,A,z,J,D,V,u,L,O,x,y,B,N,Q,P,I,Y,n,l,h,f,k,j,o,m],[]⟩ [.inRegion qo [5],.code AK,.code sF]):=jP (bP trivial (bP trivial (bP trivial aF)));have xq:=lC af ad;have Z:∀it∈([]:aB Item),cY it:=aF;have b:∀(c:Code),∀it∈[Item.code c],cY it:=λc=>bP trivial aF;have aj:∀(c d:Code),∀it∈[Item.code c,Item.code d],cY it:=λc d=>bP trivial (bP trivial aF);obtain⟨ti,ae,a1⟩:=nA.1 NJ;rw[enter_at _ func88 rfl];simp only[ntmps88,ju,ic,jr,Nat.reduceAdd,Nat.reduceSub,uK,uL,uO,uM,jq,lq];apply aJ.seq q Z xq;apply aJ.region q (b _) xq;simp only[ju,ic,jr,Nat.reduceAdd,fE,List.range,List.range.loop];refine aJ.new q (b _) xq ?_
 try walk_nrm
 generalize e1:World.alloc w _=w1;have s1:w1.heap.size=w.heap.size+1:=by rw[<-e1,bM]
 refine aJ.new q (b _) xq ?_
 try walk_nrm
 generalize e2:World.alloc w1 _=X;have s2:X.heap.size=w.heap.size+2:=by rw[<-e2,bM,s1]
 rw[s1];refine aJ.v q (b _) xq ?_
 try walk_nrm
 apply aJ.nil q (b _) xq;apply aJ.seq q Z xq;apply aJ.region q (b _) xq;simp only[ju,ic,jr,Nat.reduceAdd,fE,List.range,List.range.loop];have ag:∀τ d,(re X τ d).cell? (Ad w.heap.size 0)=some (.slice pa ps.length cap):=λτ d=>aD (w:=re X τ d) (show X.heap[w.heap.size]?=some (.cells #[.slice pa ps.length cap] 151)by rw[<-e2,dL _ _ (by rw[s1];omega),<-e1];exact mq _ _) rfl
 iterate 2
  refine aJ.v q (b _) xq ?_
  try walk_nrm
 apply aJ.val q (w':=X.alloc (.chan ps.length #[] false 0 0 false)) (v:=.chan (some X.heap.size)) rfl (by rfl) (λτ d=>run_eq_of ?r5) (b _) xq
 case r5=>
  intro K hK;go_simp
  first|exact hK|(rw[(λw=>run_makeChan underlying235 ae .i64 ps.length aA (by rw[a1];omega))];exact hK)
 try walk_nrm
 generalize e3:World.alloc X _=w3;have s3:w3.heap.size=w.heap.size+3:=by rw[<-e3,bM,s2]
 rw[s2];refine aJ.new q (b _) xq ?_
 try walk_nrm
 generalize e4:World.alloc w3 _=w4;have a6:w4.heap[w.heap.size+3]?=some (.cells #[.chan none] 235):=by rw[<-s3,<-e4];exact mq _ _
 rw[s3];apply aJ.non q (w':=w4.setCell (Ad (w.heap.size+3) 0) (.chan (some (w.heap.size+2)))) rfl (by rfl) (λτ d=>OV ?r7) (b _) xq
 case r7=>
  intro K hK;have ah:=aD (w:=re w4 τ d) (i:=0) a6 rfl;have ai:(re w4 τ d).frozen? (Ad (w.heap.size+3) 0)=false:=by simp[World.frozen?,show(re w4 τ d).heap[w.heap.size+3]?=_ from a6]
  go_simp;exact hK
 try walk_nrm
 apply aJ.nil q (b _) xq;apply aJ.seq q Z xq;apply aJ.region q (b _) xq;simp only[ju,ic,jr,Nat.reduceAdd,fE,List.range,List.range.loop];generalize e5:World.setCell w4 _ _=w5;subst e4 e3 e2 e1;have R:w5.heap=(J4 w (.slice pa ps.length cap) num time at_ sv ps.length).heap:=by rw[<-e5];rfl
 refine aJ.v q (b _) xq ?_
 try walk_nrm
 refine aJ.spawn rfl λτ d=>⟨_,_,_,_,stepG_spawn (d:=call133 (w.heap.size+3) w.heap.size (w.heap.size+1)) (w':=re w5 τ d) rfl (by rfl) (by simp[base]) ?_ rfl,?_,?_⟩
 .simp[execOp,go_sem,call133]
 .intro e he;have hm:=mem_listed he;simp[go_sem]at hm
 refine⟨w.heap.size+2,zE,IJ (w.heap.size+2) (w.heap.size+4),Ax (w.heap.size+4) (Ms ss),Dl (w.heap.size+2) Ro,AD (w.heap.size+2) Ro,Sy (w.heap.size+4) (Ms ss),MQ (w.heap.size+2) Ro,ps.length,ps.map (letter num time),?_,hB _ R,?_,(show w5.heap[w.heap.size+2]?=_ from R▸aay w _ num time at_ sv ps.length),aF⟩
 .have e:(re w5 τ d).heap.size=w.heap.size+4:=(oB Array.size R).trans (Ak w (.slice pa ps.length cap) num time at_ sv ps.length);rw[e];exact kL _ _ _ _ H
 try walk_nrm
 have:=Qs (w:=w) pa cap num time at_ sv ss ps H hn a7 a8 aa nz x0 x1 x2 x3 x4 x5 x6 x7 x8 C r t F T M U A z J D V u L O x y B N Q P I Y cs W n l h f k j o m (.slice pa ps.length cap) (Iv ps.length) (.func (.func 133) #[] #[Pt (w.heap.size+3),Pt w.heap.size,Pt (w.heap.size+1)]) (re w5 τ d) R (λg w'=>∃(W n l h f k j o m:Value)(S:Nat->Prop)(E:List lx)(a:World),a.heap=(J4 w (.slice pa ps.length cap) num time at_ sv ps.length).heap/\a.os=w.os/\a.output=w.output/\H0 (w.heap.size+2) (w.heap.size+4) (Ms ss) (λ_=>False) a S w' []/\nE (w.heap.size+4) ss num time ps ps.length S w' E/\g=KJ (w.heap.size+2) x0 x1 x2 x3 x4 x5 x6 x7 x8 C r t F T M U A z J D V u L O x y B N Q P I cs W n l h f k j o m)
  (λW n l h f k j o m S w' E h1 h2=>⟨W,n,l,h,f,k,j,o,m,S,E,re w5 τ d,R,(by rw[<-e5];rfl),(by rw[<-e5];rfl),h1,h2,rfl⟩)
 simp only[Us,Vl,IX,f88,fD]at this;exact this
end Lf
namespace Lf
open Tryz Go Go.Conc Go.RowKit
variable{w:aC}{Ro:Nat->Prop}
structure uS(w w':aC)(ss:aB lx)(num time:Int)(ps:aB nk):Prop where
 os:w'.os=w.os
 output:w'.output=w.output
 size:w.heap.size<=w'.heap.size
 keep:∀b,b<w.heap.size->¬Ms ss b->w'.heap[b]?=w.heap[b]?
 taken:∃(S:Nat->Prop)(now:aB lx),(∀b,S b->w.heap.size<=b)/\nE (w.heap.size+4) ss num time ps ps.length S w' now
theorem uS.re{w':aC}{ss:aB lx}{num time:Int}{ps:aB nk}(h:uS w w' ss num time ps)(g:Tape)(d:Nat):uS w (re w' g d) ss num time ps:=by
 obtain⟨j,c,i,e,S,b,f,a⟩:=h;exact⟨j,c,i,e,S,b,f,a.len,a.rest,a.done,a.ok,a.apart,a.mine⟩
noncomputable def YJ:Code:=match nO with
 |.seq _ (.seq _ (.seq _ (.seq x _)))=>x
 |_=>.skip
theorem ZK(R:Ending->aC->bQ)(c x0 x1 x2 x3 x4 x5 x6 x7 x8 K B C W H F N r q u L Z I D X S U E P A a1 s cs)(f:∀l∈cs,bK l)(u9 J p T z V M Y o w)(hR:∀τ d,R (.returned .nilIface) (re w τ d)):
  aJ prog (λg n=>∃e l,g=G l cs/\bK l/\R e n/\l.fn=46/\l.leaving prog n e) (KJ c x0 x1 x2 x3 x4 x5 x6 x7 x8 K B C W H F N r q u L Z I D X S U E P A a1 s cs u9 J p T z V M Y o) w:=by
 let h:=aK;let k:∀(a b d:Code),∀j∈[Item.code a,.inLoop b,.inBlock 0,.code d],cY j:=λa b d=>bP trivial (bP trivial (bP trivial (bP trivial aF)));let O:∀(b d:Code),∀j∈[Item.inLoop b,.inBlock 0,.code d],cY j:=λb d=>bP trivial (bP trivial (bP trivial aF));let i:∀(c:Code),∀j∈[Item.code c],cY j:=λc=>bP trivial aF;let m:∀j∈([]:aB Item),cY j:=aF;simp only[KJ,zI,sF,YU,nO,f46,fD];refine aJ.v h (k _ _ _) f ?_
 try walk_nrm
 apply aJ.nil h (k _ _ _) f;apply aJ.seq h (O _ _) f;refine aJ.code (Q:=λe a' n=>e=.exit 0/\a'=_/\∃τ d,n=re w τ d) (eX.cond h (t:=false) rfl (eX.exit h λτ d=>⟨rfl,rfl,τ,d,rfl⟩)) ⟨k _ _ _,f,λid a w x=>by obtain⟨x,_⟩:=x;cases x;exact⟨_,rfl⟩,λid a w x=>by cases x.1⟩ λe a' n g x y=>?_;obtain⟨rfl,rfl,τ,d,rfl⟩:=x;obtain⟨k',v,rfl⟩:=y;cases v;refine aJ.other ?_ τ d;apply aJ.seq h m f;apply aJ.region h (i _) f;simp only[ju,ic,jr,fE,List.range,List.range.loop];refine aJ.v h (i _) f ?_
 try walk_nrm
 apply aJ.nil h (i _) f;exact aJ.ret h m f func46 rfl (λτ d=>by simp[results,go_sem,f46]) hR
theorem UX(aY a pa cap num time at_ sv ss ps)(H:uW (w.heap.size+2) (w.heap.size+4) (Ms ss) Ro)(hn:∀s∈ss,s.n<=1000000)(hN:ps.length<=1000000)
  (a1:ss.length=ps.length) (a6:∀(i:Nat)(s)(p),ss[i]?=some s->ps[i]?=some p->p.fY=some (Ad s.cX 0)) (a7:∀s∈ss,gh w s) (nz:Apart ss) (x1 x2 x3 x4 x5 x6 x7 J y z L R O T I F M K U A N Q C D aa af ai ag ae W cs) (f:∀j∈cs,bK j) (Z u q k h n l v r)
  (r1 r2 r3 r4) (a8:w.heap[aY]?=some (.cells #[r1,r2,r3,r4,.slice pa ps.length cap] 153 (0,0))) (E:w.heap[a]?=some (.cells #[Iv num,Iv time,at_,sv] 159 (0,0)))
  (hB:∀x,x.heap=(J4 w (.slice pa ps.length cap) num time at_ sv ps.length).heap->SB prog (w.heap.size+2) (Dl (w.heap.size+2) Ro) (AD (w.heap.size+2) Ro) (MQ (w.heap.size+2) Ro) ps.length (ps.map (letter num time)) (λ_=>False) (born prog (call133 (w.heap.size+3) w.heap.size (w.heap.size+1))) x):
  aJ prog (λg B=>∃e j,g=G j cs/\bK j/\(e=.returned .nilIface/\uS w B ss num time ps)/\j.fn=46/\j.leaving prog B e) (G ((base 46).at ⟨#[(Pt aY),x1,x2,x3,x4,x5,x6,x7,(Pt a),Z,J,y,z,L,R,O,T,I,F,M,K,U,A,N,Q,C,D,aa,af,ai,ag,ae,W,u,q,k,h,n,l,v,r],[]⟩ [.code YJ,.code sF]) cs) w:=by
 have hP:=aK;have aj:∀it∈([]:aB Item),cY it:=aF;have ah:∀(c:Code),∀it∈[Item.code c],cY it:=λc=>bP trivial aF;have X:∀(c d:Code),∀it∈[Item.code c,Item.code d],cY it:=λc d=>bP trivial (bP trivial aF);have last:aJ prog (λg B=>∃e j,g=G j cs/\bK j/\(e=.returned .nilIface/\uS w B ss num time ps)/\j.fn=46/\j.leaving prog B e) (G ((base 46).at ⟨#[(Pt aY),x1,x2,x3,x4,x5,x6,x7,(Pt a),Z,J,y,z,L,R,O,T,I,F,M,K,U,A,N,Q,C,D,(Pt aY),(Pt aY),(.pointer (some (Ad aY 4))),(.slice pa ps.length cap),(.agg #[Iv num,Iv time,at_,sv]),W,u,q,k,h,n,l,v,r],[]⟩ [.inRegion qo [5],.code AK,.code sF]) cs) w:=by
  refine aJ.enter hP (o:=qo.getD 5 default) (by simp[qo,nO,f46]) (by simp[qo,nO,f46,Region.wanted]) (λτ d=>by rw[run_call_body (o:=qo.getD 5 default) (args:=#[.tmp 30,.tmp 31]) (ats:=#[151,159]) rfl func88 aG rfl];simp only[Dj,hY,sR];rfl) (X _ _) f ((Y4 pa cap num time at_ sv ss ps H hn hN a1 a6 a7 nz (Pt aY) x1 x2 x3 x4 x5 x6 x7 (Pt a) J y z L R O T I F M K U A N Q C D (Pt aY) (Pt aY) (.pointer (some (Ad aY 4))) (.slice pa ps.length cap) (.agg #[Iv num,Iv time,at_,sv]) W cs f Z u q k h n l v r hB).trans ?_);rintro g B ⟨Z,u,q,k,h,n,l,v,r,S,ad,x,e1,e2,e3,Y,h2,rfl⟩;refine ZK (λe B=>e=.returned .nilIface/\uS w B ss num time ps) _ (Pt aY) x1 x2 x3 x4 x5 x6 x7 (Pt a) J y z L R O T I F M K U A N Q C D (Pt aY) (Pt aY) (.pointer (some (Ad aY 4))) (.slice pa ps.length cap) (.agg #[Iv num,Iv time,at_,sv]) cs f Z u q k h n l v r B λτ d=>⟨rfl,uS.re ⟨Y.os.trans e2,Y.output.trans e3,?_,λb hb V=>?_,S,ad,λb hb=>?_,h2⟩ τ d⟩
  .have:=Y.base;omega
  .rw[Y.keep b (.inr aA) (by have:=Y.low;omega) aA V,e1];exact Dx _ _ _ _ _ _ _ hb
  .have:=(Y.own b hb).1;omega
 simp only[YJ,sF,AK,qo,nO,f46,fD]at last⊢;apply aJ.seq hP (ah _) f;refine aJ.draw hP (X _ _) f λt=>?_;have m:=z_ (P:=prog) aL qo t;rw[show gJ .any qo qo.size (Array.replicate qo.size false)=[[0,1,2,3,4,5],[0,1,2,4,3,5],[0,1,4,2,3,5],[0,4,1,2,3,5],[4,0,1,2,3,5]]from by decide+kernel]at m;simp only[qo,nO,f46,fD,gA,gw,oP]at m;have q4:∀τ d,(re w τ d).cell? (Ad aY 4)=some (.slice pa ps.length cap):=λτ d=>aD (w:=re w τ d) a8 rfl;have e0:∀τ d,(re w τ d).cell? (Ad a 0)=some (Iv num):=λτ d=>aD (w:=re w τ d) E rfl;have e1:∀τ d,(re w τ d).cell? (Ad a 1)=some (Iv time):=λτ d=>aD (w:=re w τ d) E rfl;have e2:∀τ d,(re w τ d).cell? (Ad a 2)=some at_:=λτ d=>aD (w:=re w τ d) E rfl;have e3:∀τ d,(re w τ d).cell? (Ad a 3)=some sv:=λτ d=>aD (w:=re w τ d) E rfl;obtain V|V|V|V|V:=m<;>rw[V]<;>clear V
 all_goals
  iterate 5 (refine aJ.v hP (X _ _) f ?_;try walk_nrm)
  exact last
end Lf
namespace Lf
open Tryz Go Go.Conc Go.RowKit
variable{w:aC}
def iu(w:aC)(pa:aR bC)(cap:Nat)(ps:aB nk):Prop:=
 (pa=none/\ps=[]/\cap=0)\/∃pb b a c,pa=some (Ad pb b)/\w.heap[pb]?=some (.cells a 183 c)/\eI a b ps
def ZD(w:aC)(sv:aE)(ps:aB nk):Prop:=∃b so n cp a m,sv=.slice (some (Ad b so)) n cp/\w.heap[b]?=some (.cells a 4 m)/\∀p∈ps,a[so+p.node]?=some (.bool p.v)/\p.node<n
theorem Ms.tag{ss}(a:∀s∈ss,gh w s){b}(h:Ms ss b):∃f t,w.heap[b]?=some (.cells f t (0,0))/\(t=177\/t=59):=by
 obtain⟨s,d,rfl|c⟩:=h
 .exact⟨_,_,(a s d).1,.inl rfl⟩
 .obtain⟨l,e|⟨g,cap,k,i,_,j,_⟩⟩:=(a s d).2
  .rw[e.1]at c;cases c
  .rw[i]at c;cases c;exact⟨_,_,j,.inr rfl⟩
theorem Ms.not{ss}(a:∀s∈ss,gh w s){b d t m}(g:w.heap[b]?=some (.cells d t m))(f:t≠177)(c:t≠59):¬Ms ss b:=λh=>by
 let⟨cs',t',e,ht⟩:=Ms.tag a h
 rw[g]at e
 injection e with e
 injection e with _ e _
 subst e
 exact ht.elim f c
theorem UW(aY f pa cap num time at_ sv ss ps)(hP:iu w pa cap ps)(hS:ZD w sv ps)(hn:∀s∈ss,s.n<=1000000)(hN:ps.length<=1000000)
  (k:ss.length=ps.length) (aa:∀(i:Nat)(s)(p),ss[i]?=some s->ps[i]?=some p->p.fY=some (Ad s.cX 0)) (d:∀s∈ss,gh w s) (nz:Apart ss) (x1 x2 x3 x4 x5 x6 x7 L B C W I F O u r y M Z J D X R T E Q A Y v P cs) (a6:∀fr∈cs,bK fr) (u9 K o S z V N a1 l)
  (r1 r2 r3 r4) (a7:w.heap[aY]?=some (.cells #[r1,r2,r3,r4,.slice pa ps.length cap] 153 (0,0))) (ad:w.heap[f]?=some (.cells #[Iv num,Iv time,at_,sv] 159 (0,0))):
  aJ prog (λg w'=>∃e fr,g=G fr cs/\bK fr/\(e=.returned .nilIface/\uS w w' ss num time ps)/\fr.fn=46/\fr.leaving prog w' e) (G ((base 46).at ⟨#[(Pt aY),x1,x2,x3,x4,x5,x6,x7,(Pt f),u9,L,B,C,W,I,F,O,u,r,y,M,Z,J,D,X,R,T,E,Q,A,Y,v,P,K,o,S,z,V,N,a1,l],[]⟩ [.code YJ,.code sF]) cs) w:=by
 let a:∀b,Ms ss b->b<w.heap.size:=λb j=>by
  let⟨cs,t,e,_⟩:=Ms.tag d j;exact aN e
 obtain⟨sb,so,n,cp,ag,m,rfl,x,af⟩:=hS;obtain⟨rfl,rfl,rfl⟩|⟨pb,po,ae,mp,rfl,U,a8⟩:=hP
 .let H:uW (w.heap.size+2) (w.heap.size+4) (Ms ss) (λb=>b=w.heap.size+3\/b=w.heap.size):=by
   refine⟨aA,λb j=>by have:=a b j;omega,λb j=>?_⟩;obtain rfl|rfl:=j
   .exact⟨aA,aA,λh=>by have:=a _ h;omega⟩
   .exact⟨aA,aA,λh=>by have:=a _ h;omega⟩
  refine UX aY f none 0 num time at_ _ ss [] H hn hN k aa d nz x1 x2 x3 x4 x5 x6 x7 L B C W I F O u r y M Z J D X R T E Q A Y v P cs a6 u9 K o S z V N a1 l r1 r2 r3 r4 a7 ad λc hw=>?_;refine Ta H _ _ _ _ _ c (by rw[hw,Ak];omega) λq hq=>?_;simp at hq;obtain rfl|rfl:=hq
  .exact⟨.inr (.inl rfl),aF,by rw[hw];exact O9 _ _ _ _ _ _ _⟩
  .exact⟨.inr (.inr rfl),aF,by rw[hw];exact Vp _ _ _ _ _ _ _⟩
 .let l1:=aN U;let l2:=aN x;let H:uW (w.heap.size+2) (w.heap.size+4) (Ms ss) (λb=>b=w.heap.size+3\/b=w.heap.size\/b=w.heap.size+1\/b=pb\/b=sb):=by
   refine⟨aA,λb j=>by have:=a b j;omega,λb j=>?_⟩;rcases j with rfl|rfl|rfl|rfl|rfl
   .exact⟨aA,aA,λh=>by have:=a _ h;omega⟩
   .exact⟨aA,aA,λh=>by have:=a _ h;omega⟩
   .exact⟨aA,aA,λh=>by have:=a _ h;omega⟩
   .exact⟨aA,aA,Ms.not d U aG aG⟩
   .exact⟨aA,aA,Ms.not d x aG aG⟩
  refine UX aY f (some (Ad pb po)) cap num time at_ _ ss ps H hn hN k aa d nz x1 x2 x3 x4 x5 x6 x7 L B C W I F O u r y M Z J D X R T E Q A Y v P cs a6 u9 K o S z V N a1 l r1 r2 r3 r4 a7 ad λc hw=>?_;refine VW H _ _ _ pb po cap sb so n cp num time at_ ae mp ag m ps a8 aA af _ _ c (by rw[hw,Ak];omega) λq hq=>?_;simp at hq;obtain rfl|rfl|rfl|rfl|rfl:=hq
  .exact⟨.inr (.inl rfl),aF,by rw[hw];exact O9 _ _ _ _ _ _ _⟩
  .exact⟨.inr (.inr (.inl rfl)),aF,by rw[hw];exact Vp _ _ _ _ _ _ _⟩
  .exact⟨.inr (.inr (.inr (.inl rfl))),aF,by rw[hw];exact Za _ _ _ _ _ _ _⟩
  .exact⟨.inr (.inr (.inr (.inr (.inl rfl)))),bI,by rw[hw,Dx _ _ _ _ _ _ _ l1];exact U⟩
  .exact⟨.inr (.inr (.inr (.inr (.inr rfl)))),bI,by rw[hw,Dx _ _ _ _ _ _ _ l2];exact x⟩
end Lf
namespace Lf
open Go Go.Conc
variable{P:Program}
theorem stepG_end{a c t w v}(h:a.leaving P w (.returned v))(f:P.funcs[a.fn]?=some c)(d:c.results=#[.tmp t])(b:P.inits.idxOf? a.fn=none):stepG P true (G a []) w=.ended (.done v) w #[]:=by
 let⟨hm,hd,hk,fn',hf',hr'⟩:=h;rw[f]at hf';cases hf';rw[results_tmp d]at hr';simp only[Result.ok.injEq,kz]at hr';simp only[JY]at hr';simp[stepG,unwind,doReturn,hm,hd,f,hk,b,results,d,hr',G];let e:seen P a.fn #[]=#[]:=by simp[seen]
 rw[e];rfl
theorem cI.Yr{f l t a W R}(h:cI P f a W R)(J:P.funcs[f]?=some l)(A:l.results=#[.tmp t])(j:P.inits.idxOf? f=none)(s:∀e w C d,R e w->R e (re w C d))(g:∀e w,R e w->∃v,e=.returned v):
  ∃M last o b i,runNT P (M+1) (solo (G (Frame.enter P f a .normal) []) W) #[]=(.ended o b,i)/\runN P M (solo (G (Frame.enter P f a .normal) []) W)=.next last/\step P last=.ended o b/\Conc.Good P (λv b=>R (.returned v) b) last o b i:=by
 obtain⟨N,k,K,b,c,i,n,⟨E,⟨q,I⟩,⟨B,D⟩⟩,e,H,rfl,_,p,m,F⟩:=(h [] λ_ u=>by cases u).leads #[G (Frame.enter P f a .normal) []] none #[] ⟨rfl,⟨_,leavers_one P _⟩,⟨0,past_nil⟩⟩;obtain⟨v,rfl⟩:=g e b p;let z:Goes P true AtRel (λ_ _ _=>False) (AtEnd P (λ_=>False) B λv b=>R (.returned v) b) 0 (G H []) b:=by
  rintro r ⟨d,rfl⟩;exact⟨rfl,v,#[],stepG_end (qk F b.tape d) (m▸J) A (m▸j),λe y=>by simp at y,s _ _ b.tape d p⟩
 let⟨M,last,o,w2,t2,k1,k2,k3,k4⟩:=beside_ends (λ_ _ _ x=>x.elim) (sl:=c) E I D z;refine⟨N+M,last,o,w2,t2,?_,?_,k3,k4⟩
 .rw[qG,runNT_add];show(match runNT P N (crowd #[G (Frame.enter P f a .normal) []] W none) #[]with|(.next m',i)=>runNT P (M+1) m' i|x=>x)=_;rw[n];exact k1
 .let h1':runN P N (solo (G (Frame.enter P f a .normal) []) W)=.next (crowd k b c):=by
   rw[<-runNT_fst P N _ #[]];exact oB Prod.fst n
  rw[runN_add,h1'];exact k2
end Lf
end Go.Proofs.YtpbbmagjhkakgaaGreatDoor
