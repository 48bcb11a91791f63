import Derived.Test.YtpbbmagjhkakgaaGreatDoorD2
import Derived.Lib.AppendZerosOnto
import Derived.Lib.Overlaps
namespace Go.Proofs.YtpbbmagjhkakgaaGreatDoor
set_option maxHeartbeats 8000000
set_option maxRecDepth 100000
namespace Ev
open Go.RowKit Go.Deep Go.Maps Lf Tryz Go.Conc
def iB(p:nk):aB aE:=[.string p.name,.pointer p.eE,Iv p.node,Iv p.cP,.pointer p.fY]
theorem Oh(p):∀u∈iB p,u.oneCell'=true:=by
 intro u a;simp[iB]at a;obtain rfl|rfl|rfl|rfl|rfl:=a<;>rfl
theorem AP:∀(x:BT dD)(K:aB Key),pQ x->(Good x\/x=.nil)->(∀k∈K,nL k.op)->∀k∈(cO K x).2,nL k.op
 |.nil,_,_,_,j=>j
 |.node b o a l r,K,p,c,j=>by
  let c:Good (.node b o a l r):=by
   obtain c|c:=c
   .exact c
   .cases c
  let d:nL a.op/\(Good l\/l=.nil)/\(Good r\/r=.nil):=by
   let⟨c1,c2,_,_⟩:=p;obtain⟨e,_,_,_,m,i⟩|⟨e,_,_,_,m,i⟩|⟨e,_,_,_,g,n⟩|⟨e,_,_,_,g,n⟩:=c
   .exact⟨.inl e,.inr m,.inr i⟩
   .exact⟨.inr (.inl e),.inr m,.inr i⟩
   .refine⟨?_,.inl g,.inl n⟩;unfold nL;omega
   .refine⟨?_,.inl g,.inr n⟩;unfold nL;omega
  let q:=AP r (cO K l).2 p.2.2.2 d.2.2 (AP l K p.2.2.1 d.2.1 j);intro k f;simp only[cO,rL]at f;split at f
  .exact q k f
  .obtain h|h:=jc.1 f
   .exact q k h
   .simp at h;subst h;exact d.1
theorem Jq{w B nn K}(h:w.ownsRow B 226 6 nn K.length (mA K)):∃no bZ,nn=.slice no K.length bZ/\K.length<=bZ/\km w no K/\∀a,no=some a->B<=a.block/\∃t m,w.heap[a.block]?=some (.cells t 226 m):=by
 let s:=h;let j:=h.lt;obtain⟨x,⟨rfl,f⟩|⟨g,cap,d,rfl,r,o,p,v,z,y⟩⟩:=h
 .exact⟨none,0,by rw[f],aA,λe=>absurd (uJ.1 f) e,λa c=>by cases c⟩
 .refine⟨some (Ad g 0),cap,rfl,p,λ_=>⟨g,rfl,(j g rfl).2,λi k l=>?_⟩,λa c=>by cases c;exact⟨r,d,_,o⟩⟩;let b:∀q u,(jV k)[q]?=some u->w.cell? (Ad g (i*6+q))=some u:=λq u n=>d_ s rfl (jl jV 6 (λ_=>rfl) K i q k u l n);exact⟨b 0 _ rfl,b 1 _ rfl,b 2 _ rfl,b 3 _ rfl,b 4 _ rfl,b 5 _ rfl⟩
def J8(aY:Nat)(d room:Int)(ea:aR bC)(bO:Nat)(C:aB jb)(E:aB Pe)(K:aB Key)(V:aC)(nn:aE)(f:aC):Prop:=
 ∃(no:aR bC)(bZ:Nat)(h:aE)(g:aB jb),nn=.slice no K.length bZ/\K.length<=bZ/\km f no K/\(∀a,no=some a->∃j m,f.heap[a.block]?=some (.cells j 226 m))/\(∃k,V.heap[aY]?=some (.cells #[Iv d,Iv room,k,.slice ea C.length bO,h] 153 (0,0)))/\
  f.heap[aY]?=some (.cells #[Iv d,Iv room,nn,.slice ea C.length bO,h] 153 (0,0))/\fL f (.slice ea C.length bO) g/\g.length=C.length/\(∀(i:Nat) c c0,g[i]?=some c->C[i]?=some c0->c.number=c0.number/\c.time=c0.time/\c.ao=c0.ao)/\
  (∀(i:Nat) c e,g[i]?=some c->(kZ K E C.length)[i]?=some e->gU f c e)/\(∀c∈g,FQ f c)/\c_ (λb=>b=aY\/∃a,ea=some a/\a.block=b) V f
theorem F9(B g cap i n xs w)(d:w.ownsRow B 183 5 (Sl g n cap) n xs)(b:∀u∈xs,u.oneCell'=true)(a:i<n)(f:n<=1000):
  Calls prog 99 #[Sl g n cap,Iv (i),Iv ((i)+1)] w λe c=>e=.returned (Sl g (n-1) cap)/\c.ownsRow B 183 5 (Sl g (n-1) cap) (n-1) (xs.take (i*5)++xs.drop ((i+1)*5))/\Only g w c:=by
 have:=I5 (.inr (.inl ⟨rfl,rfl,rfl,rfl,rfl⟩)) B g cap i (i+1) n xs w d b aA a f
 rwa[Nat.add_sub_cancel_left]at this
theorem qV(w r g o e i a d f b t c k)(s:k=Nat.min d e)
  (n:w.heap[g]?=some (.cells b t (0,0))) (p:c.length=k*5)
  (l:∀j v,c[j]?=some v->w.cell? (a.add j)=some v) (h:o+c.length<=b.size) (q:∀v∈c,v.oneCell'=true):
  (Builtin.copy_ #[151,151] r #[.slice (some (Ad g o)) e i,.slice (some a) d f]).run prog w=
   .ok (goInt k) (w.setRow g (b.toList.take o++c++b.toList.drop (o+c.length)).toArray):=by
 let m:=run_loadCells_list (P:=prog) w a c l;let⟨i0,hi,nI,nJ,nS⟩:=eB l9;rw[p]at m;simp[Builtin.copy_,run_underlying underlying151,Builtin.lenOf,Builtin.firstCells,sizeOf,typeInfo,hi,nJ,<-s,m,(run_storeCells_at prog g o t c 0 b w n (by simpa using h) q)]
theorem NL(B g cap n i v xs w)(m:w.ownsRow B 183 5 (Sl g n cap) n v)(o:xs.length=5)(A:∀j u,xs[j]?=some u->w.cell? (Ad i j)=some u)(f:∀u∈xs,u.oneCell'=true)(G:n<=1000)(s:B<=w.heap.size):
  Calls prog 137 #[Sl g n cap,Iv (n),Sl i 1 1] w λe t=>∃d,e=.returned d/\t.ownsRow B 183 5 d (n+1) (v++xs)/\Below B w t:=by
 let⟨i0,hi,nI,nJ,nS⟩:=eB l9;let a:∀k,(Sl g n cap).ownBlock=some k->B<=k:=λk y=>(m.lt k y).1;let l:n<=cap/\cap<=9223372036854775807:=by
  obtain⟨_,⟨h,_⟩|⟨H,r,x,E,_,_,C,z,_⟩⟩:=m
  .cases h
  .cases E;exact⟨C,gH z aG⟩
 replace a:Hid _:=a;by_cases p:cap=n
 case' pos=>subst p
 all_goals
  go_enter func137,ntmps137;go_wp2_with (at_builtin;refine jz _ rfl _ _ 151 rfl B 183 i0 (.agg #[.string ⟨#[]⟩,.pointer none,Iv 0,Iv 0,.pointer none]) 5 48 underlying151 hi nI nJ nS rfl aG _ _ _ rfl m (Ad i 0) 1 1 xs rfl ?UI ?UJ ?UK ?UL ?UM ?UN ?_)
  case UI=>exact o
  case UJ=>
   intro j u D;rw[oZ,fE];exact A j u D
  case UK=>exact f
  case UL=>unfold maxLen;omega
  case UM=>omega
  case UN=>exact s
  intro d F c b q;go_wp2;go_ret;exact⟨d,rfl,c,(cD _ w).grown b s a.out⟩
theorem Jg(B g cap i n y E xs w)(hE:w.ownsRow B 183 5 (Sl g n cap) n E)(I:∀u∈E,u.oneCell'=true)(x:w.heap[y]?=some (.cells xs.toArray 183 (0,0)))(o:xs.length=5)(G:∀u∈xs,u.oneCell'=true)(J:y≠g)(Z:i<n)(A:n+1<=cap)(hn:n<=1000):
  Calls prog 137 #[Sl g n cap,Iv (i),Sl y 1 1] w λe Y=>e=.returned (Sl g (n+1) cap)/\Y.ownsRow B 183 5 (Sl g (n+1) cap) (n+1) (E.take (i*5)++xs++E.drop (i*5))/\Below B w Y:=by
 obtain⟨N,⟨h1,_⟩|⟨g',X,a,T,U,K,ah,H,f,z⟩⟩:=hE
 .cases h1
 cases T;obtain⟨i0,hi,a1,R,ae⟩:=eB l9;have W:cap<=9223372036854775807:=gH H aG;have Ej:a.toList.length=cap*5:=yB▸f;obtain⟨h,m⟩:∃h,h=E.drop (i*5):=⟨_,rfl⟩;have c:h.length=(n-i)*5:=by rw[m,nZ,N];omega
 have Q:∀V S,(callFunc 173 #[Sl y 1 1,.slice (some (Ad g ((i+1)*5))) V S]).run prog w=.ok (.value (.bool false)) w:=λV S=>by
  rw[qz func173 aL aL aL (e:=Extern.SlicesOverlaps.overlaps #[151,151] #[4]) aL,
   Lib.run_overlaps_apart w 151 4 183 underlying151 5 (λw=>by simp[sizeOf,typeInfo,hi,R]) (Ad y 0) (Ad g ((i+1)*5)) 1 1 V S J 183 183 5 (cap*5) (by simp[World.shape?,x,o]) (by simp[World.shape?,K,f]) aA (by simp[World.frozen?,x]) (by simp[World.frozen?,x])]
  rfl
 obtain⟨p,l⟩:∃p,p=w.drew.setRow g (a.toList.take ((i+1)*5)++h++a.toList.drop ((i+1)*5+h.length)).toArray:=⟨_,rfl⟩;have P:∀D C sc,(Builtin.copy_ #[151,151] D #[.slice (some (Ad g ((i+1)*5))) (n-i) C,.slice (some (Ad g (i*5))) (n+1-i) sc]).run prog w.drew=.ok (goInt ((n-i:Nat):Int)) p:=λD C sc=>by
  rw[l];refine qV w.drew D g ((i+1)*5) _ C (Ad g (i*5)) _ sc a 183 h (n-i) (by simp only[Nat.min_def];split<;>omega) K c (λj v O=>?_) (by rw[f,c];omega) λv x=>I v (by rw[m]at x;exact sN x);rw[oZ];have aa:=(eY.1 O).1;apply aD (w:=w.drew) K;rw[m,uN,<-z,BH,bY aA]at O;simpa using O
 have r:p.heap[g]?=some (.cells (a.toList.take ((i+1)*5)++h++a.toList.drop ((i+1)*5+h.length)).toArray 183 (0,0)):=by
  rw[l];exact CR w.drew g a _ _ (0,0) K
 obtain⟨t,b⟩:∃t,t=(a.toList.take ((i+1)*5)++h++a.toList.drop ((i+1)*5+h.length)):=⟨_,rfl⟩;rw[<-b]at r;have s:t.length=cap*5:=by
  rw[b];simp only[ky,kV,nZ,Ej,c];omega
 have M:p.heap[y]?=some (.cells xs.toArray 183 (0,0)):=by rw[l,Au _ _ _ _ J];exact x
 obtain⟨L,q⟩:∃L,L=p.setRow g (t.toArray.toList.take (i*5)++xs++t.toArray.toList.drop (i*5+xs.length)).toArray:=⟨_,rfl⟩;have F:∀D C,(Builtin.copy_ #[151,151] D #[.slice (some (Ad g (i*5))) (n+1-i) C,Sl y 1 1]).run prog p=.ok (goInt ((1:Nat):Int)) L:=λD C=>by
  rw[q];refine qV p D g (i*5) _ C (Ad y 0) _ 1 t.toArray 183 xs 1 (by simp only[Nat.min_def];split<;>omega) r aA (λj v O=>?_) (by simp only[ju];omega) G;rw[oZ,fE];exact aD M (by simpa using O)
 have d:L.ownsRow B 183 5 (Sl g (n+1) cap) (n+1) (E.take (i*5)++xs++h)/\Below B w L:=by
  refine⟨⟨?_,.inr ⟨g,cap,_,rfl,U,by rw[q];exact CR p g _ _ _ _ r,A,H,?_,?_⟩⟩,?_⟩
  .simp only[ky,kV,N,c,o];omega
  .simp only[ju,ky,kV,nZ,s,o];omega
  .have T:t.take (i*5)=E.take (i*5):=by
    rw[b,nC,FJ (by simp only[kV,Ej];omega),List.take_take,<-z,List.take_take];congr 1;omega
   have e2:t.drop (i*5+xs.length)=h++a.toList.drop ((i+1)*5+h.length):=by
    rw[b,nC,List.drop_append,ux (by simp only[kV,Ej];omega),jq];have:i*5+xs.length-(List.take ((i+1)*5) a.toList).length=0:=by simp only[kV,Ej];omega
    rw[this,wF]
   simp only[];rw[T,e2,<-nC,FJ (by simp only[ky,kV,N,c,o];omega),rD (by simp only[ky,kV,N,c,o];omega)]
  .have b1:Below B w p:=by rw[l];exact(cD _ w).drew.trans ⟨rfl,rfl,rfl,by simp[World.setRow],λk hk=>Au _ _ _ _ aA⟩
   rw[q];exact b1.trans ⟨rfl,rfl,rfl,by simp[World.setRow],λk hk=>Au _ _ _ _ aA⟩
 rw[m]at d;replace d:Hid _:=d;have ag:¬(cap=i+1):=aA;have a6:¬(cap=i):=aA;have aa3:¬((i:Int)=(n:Int)):=aA;have ad:IntKind.i64.wrap ((i:Int)+1)=(i:Int)+1:=by rw[IntKind.wrap_i64];omega
 have a7:(0:Int)<=(i:Int)+1:=aA;have aaW:i<=n:=aA;have a8:((i:Int)+1).toNat=i+1:=aA;have af:(i:Int)<=(n:Int)+1:=aA;clear r b s M q l K f z Ej m c I x G N;go_enter func137,ntmps137;go_wp2_with (simp only[Q])
 go_region_law (refine OY rfl (.tmp 73) (.tmp 76) 151 151 rfl _ _ (by simp[Act.eval,Act.put]) (by simp[Act.eval,Act.put]) (P _ _ _) ?_)
 go_wp2_with (at_builtin;refine JX _ rfl _ _ 151 151 rfl _ _ rfl rfl (F _ _) ?_);go_ret;exact⟨rfl,d.out⟩
theorem Lc(B g cap i n vb d xs w)(hE:w.ownsRow B 183 5 (Sl g n cap) n d)(a1:∀u∈d,u.oneCell'=true)(T:w.heap[vb]?=some (.cells xs.toArray 183 (0,0)))(o:xs.length=5)(V:∀u∈xs,u.oneCell'=true)(az:i<n)(K:cap<n+1)(hn:n<=1000)(hB:B<=w.heap.size):
  Calls prog 137 #[Sl g n cap,Iv (i),Sl vb 1 1] w λe w'=>∃v',e=.returned v'/\w'.ownsRow B 183 5 v' (n+1) (d.take (i*5)++xs++d.drop (i*5))/\Below B w w':=by
 obtain⟨y,⟨h1,_⟩|⟨g',aq,A,e1,b4,hg,b6,ax,J,a7⟩⟩:=hE
 .cases h1
 cases e1;obtain rfl:cap=n:=aA;obtain⟨i0,hi,ah,ai,X⟩:=eB l9;have af:=aN hg;have aj:=aN T;have Ej:A.toList.length=cap*5:=yB▸J;have O:A.toList=d:=by rw[<-a7,rD aA]
 obtain⟨Q,q⟩:∃Q,Q=d.drop (i*5):=⟨_,rfl⟩;have m:Q.length=(cap-i)*5:=by rw[q,nZ,y];omega
 have H:∀(j:Nat) v,d[j]?=some v->w.cell? (Ad g j)=some v:=λj v p=>aD hg (by rw[<-O]at p;simpa using p);have I:(Builtin.firstCells i0.size i (Sl g i cap)).run prog w.drew=.ok (d.take (i*5)).toArray w.drew:=by
  have hl:=run_loadCells_list (P:=prog) w.drew (Ad g 0) (d.take (i*5)) (λj v p=>by
   rw[oZ,fE];rw[BH]at p;split at p
   .exact H j v p
   .cases p)
  rw[kV,y,CD aA]at hl;rw[ai];simp[Builtin.firstCells,hl]
 have U:(cap:Int)+1-(i:Int)=((cap+1-i:Nat):Int):=aA;have R:i+(cap+1-i)=cap+1:=aA;obtain⟨G,hG⟩:∃G,G=grownCap w (cap+1) cap 183:=⟨_,rfl⟩;obtain⟨a,c⟩:∃a:aU aE,a=(d.take (i*5)).toArray++Builtin.zeroCells (Value.agg #[.string ⟨#[]⟩,.pointer none,Iv 0,Iv 0,.pointer none]).cells (cap+1-i)++Builtin.zeroCells (Value.agg #[.string ⟨#[]⟩,.pointer none,Iv 0,Iv 0,.pointer none]).cells (G-(cap+1)):=⟨_,rfl⟩;obtain⟨r,l⟩:∃r,r=w.drew.alloc (.cells a 183):=⟨_,rfl⟩;obtain⟨N,hN⟩:∃N,N=w.heap.size:=⟨_,rfl⟩;have ae:∀t,(Builtin.append_ #[151,3] t #[Sl g i cap,Iv ((cap:Int)+1-(i:Int))]).run prog w=
   .ok (Sl N (cap+1) G) r:=λt=>by
  have h:=Lib.run_append_grow_zeros w 151 3 t 183 i0 _ .i64 .i64 underlying151 underlying3 hi ah (some (Ad g 0)) i cap (d.take (i*5)) I (cap+1-i) aA aA aA aA (by rw[X];omega) (by rw[X,R];exact growslice_fits K aA);rw[R,<-hG,<-c,<-l,<-hN]at h;rw[U];exact h
 have ad:cap+1<=G:=hG▸grownCap_ge w _ _ _;have Y:G<=maxLen:=hG▸grownCap_le_maxLen w (cap+1) cap 183 eP;have ak:G<=9223372036854775807:=gH Y aG;have Z:a.toList.length=G*5:=by
  rw[c];simp[Builtin.zeroCells,Value.cells,y];omega
 have S:r.heap[N]?=some (.cells a 183 (0,0)):=by rw[l,hN];exact aQ _ _ _ rfl
 have a8:r.heap[vb]?=some (.cells xs.toArray 183 (0,0)):=l▸(ij _ _ _ aj).trans T;have C:r.heap[g]?=some (.cells A 183 (0,0)):=l▸(ij _ _ _ af).trans hg;obtain⟨s,x⟩:∃s,s=r.setRow N (a.toList.take (i*5)++xs++a.toList.drop (i*5+xs.length)).toArray:=⟨_,rfl⟩;have a6:∀t L,(Builtin.copy_ #[151,151] t #[.slice (some (Ad N (i*5))) (cap+1-i) L,Sl vb 1 1]).run prog r=.ok (goInt ((1:Nat):Int)) s:=λt L=>by
  rw[x];refine qV r t N (i*5) _ L (Ad vb 0) _ 1 a 183 xs 1 (by simp only[Nat.min_def];split<;>omega) S aA (λj v p=>?_) (by rw[<-yB];omega) V;rw[oZ,fE];exact aD a8 (by simpa using p)
 obtain⟨F,f⟩:∃F,F=a.toList.take (i*5)++xs++a.toList.drop (i*5+xs.length):=⟨_,rfl⟩;have M:s.heap[N]?=some (.cells F.toArray 183 (0,0)):=by rw[x,f];exact CR r N a _ _ (0,0) S
 have E:F.length=G*5:=by
  rw[f];simp only[ky,kV,nZ,Z,o];omega
 have ag:g≠N:=aA;have D:s.heap[g]?=some (.cells A 183 (0,0)):=by rw[x,Au _ _ _ _ ag];exact C
 obtain⟨W,z⟩:∃W,W=s.drew.setRow N (F.toArray.toList.take ((i+1)*5)++Q++F.toArray.toList.drop ((i+1)*5+Q.length)).toArray:=⟨_,rfl⟩;have aa:∀t L sc,(Builtin.copy_ #[151,151] t #[.slice (some (Ad N ((i+1)*5))) (cap-i) L,.slice (some (Ad g (i*5))) (cap-i) sc]).run prog s.drew=.ok (goInt ((cap-i:Nat):Int)) W:=λt L sc=>by
  rw[z];refine qV s.drew t N ((i+1)*5) _ L (Ad g (i*5)) _ sc F.toArray 183 Q (cap-i) (by simp only[Nat.min_def];split<;>omega) M m (λj v p=>?_) (by simp only[ju];omega) λv T=>a1 v (by rw[q]at T;exact sN T);rw[oZ];apply aD (w:=s.drew) D;rw[q,uN,<-O]at p;simpa using p
 have b:W.ownsRow B 183 5 (Sl N (cap+1) G) (cap+1) (d.take (i*5)++xs++Q)/\Below B w W:=by
  refine⟨⟨?_,.inr ⟨N,G,_,rfl,aA,by rw[z];exact CR s.drew N _ _ _ _ M,ad,Y,?_,?_⟩⟩,?_⟩
  .simp only[ky,kV,y,m,o];omega
  .simp only[ju,ky,kV,nZ,E,m];omega
  .have e0:a.toList.take (i*5)=d.take (i*5):=by
    rw[c];simp only[Array.toList_append,nC];rw[FJ (by simp only[kV,y];omega),rD (by simp only[kV];omega)]
   have e1:F.take ((i+1)*5)=d.take (i*5)++xs:=by
    rw[f,e0,FJ (by simp only[ky,kV,y,o];omega),rD (by simp only[ky,kV,y,o];omega)]
   simp only[];rw[e1,FJ (by simp only[ky,kV,y,m,o];omega),rD (by simp only[ky,kV,y,m,o];omega)]
  .have b1:Below B w r:=by rw[l];exact((cD _ w).drew).alloc hB _
   have b2:Below B w s:=x▸b1.trans ⟨rfl,rfl,rfl,by simp[World.setRow],λk hk=>Au _ _ _ _ aA⟩;rw[z];exact b2.drew.trans ⟨rfl,rfl,rfl,by simp[World.setRow],λk hk=>Au _ _ _ _ aA⟩
 rw[q]at b;replace b:Hid _:=b;have b5:¬(G=i):=aA;have an:¬(G=i+1):=aA;have aw:¬(cap=i):=aA;have aa3:¬((i:Int)=(cap:Int)):=aA;have au:IntKind.i64.wrap ((i:Int)+1)=(i:Int)+1:=by rw[IntKind.wrap_i64];omega
 have b0:(0:Int)<=(i:Int)+1:=aA;have aaW:i<=cap:=aA;have ar:((i:Int)+1).toNat=i+1:=aA;have ay:(i:Int)<=(cap:Int):=aA;have b3:(cap:Int)<(cap:Int)+1:=aA;clear hN S f E a8 z x l hg J a7 Ej q m a1 T V y M C D Z c hG I H O U R;go_enter func137,ntmps137;go_wp2_with (first
  |(at_builtin;refine Lib.wpList_append_run _ rfl _ _ _ _ rfl _ _ rfl rfl _ _ (ae _) ?_)
  |(at_builtin;refine JX _ rfl _ _ 151 151 rfl _ _ rfl rfl (a6 _ _) ?_))
 go_region_law (refine OY rfl (.tmp 50) (.tmp 53) 151 151 rfl _ _ (by simp[Act.eval,Act.put]) (by simp[Act.eval,Act.put]) (aa _ _ _) ?_)
 go_wp2;go_ret;exact⟨_,rfl,b.out⟩
theorem NK(B g cap i n d b xs w)(l:w.ownsRow B 183 5 (Sl g n cap) n b)(f:∀u∈b,u.oneCell'=true)(q:w.heap[d]?=some (.cells xs.toArray 183 (0,0)))(c:xs.length=5)(a:∀u∈xs,u.oneCell'=true)(p:d≠g)(v:i<=n)(o:n<=1000)(t:B<=w.heap.size):
  Calls prog 137 #[Sl g n cap,Iv (i),Sl d 1 1] w λe k=>∃h,e=.returned h/\k.ownsRow B 183 5 h (n+1) (b.take (i*5)++xs++b.drop (i*5))/\Below B w k:=by
 obtain hi|hi:=BI i n
 .obtain r|r:=BI cap (n+1)
  .exact Lc B g cap i n d b xs w l f q c a hi r o t
  .refine(Jg B g cap i n d b xs w l f q c a p hi r o).m λk ⟨s,m⟩=>?_;exact⟨_,rfl,s,m⟩
 .obtain rfl:i=n:=by omega
  apply(NL B g cap i d b xs w l c (λj u x=>aD q (by simpa using x)) a o t).mono;rintro e k ⟨h,rfl,s,m⟩;let y:=l.1;rw[rD aA,ux aA,CL];exact⟨h,rfl,s,m⟩
def gX(ps:aB nk):aB aE:=(ps.map iB).flatten
theorem rX(ps):(gX ps).length=ps.length*5:=eN iB 5 (λ_=>rfl) ps
theorem A9(ps):∀u∈gX ps,u.oneCell'=true:=by
 intro u a;let⟨c,hc,a⟩:=Ir.1 a;obtain⟨p,_,rfl⟩:=iZ.1 hc;exact Oh p u a
theorem wO(ps a):gX (ps++a)=gX ps++gX a:=by simp[gX]
theorem Eh(ps i)(hi:i<=ps.length):(gX ps).take (i*5)=gX (ps.take i):=by
 conv=>lhs;rw[<-yz i ps,wO]
 let h:=rX (ps.take i);rw[kV,CD hi]at h;rw[FJ aA,rD aA]
theorem Eg(ps i)(hi:i<=ps.length):(gX ps).drop (i*5)=gX (ps.drop i):=by
 conv=>lhs;rw[<-yz i ps,wO]
 let h:=rX (ps.take i);rw[kV,CD hi]at h;rw[List.drop_append,ux aA,jq,h,FF,wF]
theorem Tq{b c ps}(h:eI b c ps)(j u)(l:(gX ps)[j]?=some u):b[c+j]?=some u:=by
 let p:=rX ps;let m:=(eY.1 l).1;let g:ps[j/5]?=some ps[j/5]:=fH aA;let⟨a0,a1,a2,a3,a4⟩:=h (j/5) _ g;let d:j/5*5+j%5=j:=aA;let n:j%5=0\/j%5=1\/j%5=2\/j%5=3\/j%5=4:=aA;let a:∀v,(iB ps[j/5])[j%5]?=some v->b[c+j/5*5+j%5]?=some v->b[c+j]?=some u:=λv o f=>by
  let k:=(jl iB 5 (λ_=>rfl) ps (j/5) (j%5) ps[j/5]) v g o;rw[d]at k;let i:(gX ps)[j]?=some v:=k;rw[l]at i;cases i;rw[show c+j/5*5+j%5=c+j by omega]at f;exact f
 rcases n with e|e|e|e|e
 .exact a _ (by rw[e];rfl) (by rw[e];exact a0)
 .exact a _ (by rw[e];rfl) (by rw[e];exact a1)
 .exact a _ (by rw[e];rfl) (by rw[e];exact a2)
 .exact a _ (by rw[e];rfl) (by rw[e];exact a3)
 .exact a _ (by rw[e];rfl) (by rw[e];exact a4)
theorem Ce{b ps}(h:∀(j:Nat) u,(gX ps)[j]?=some u->b[j]?=some u):eI b 0 ps:=λj p c=>by
 let a:=λk v=>jl iB 5 (λ_=>rfl) ps j k p v c
 rw[fE]
 exact⟨h _ _ (a 0 _ rfl),h _ _ (a 1 _ rfl),h _ _ (a 2 _ rfl),h _ _ (a 3 _ rfl),h _ _ (a 4 _ rfl)⟩
theorem Oj{w:aC}{B v ps}(h:w.ownsRow B 183 5 v ps.length (gX ps))(b:ps≠[]):∃g cap a,v=Sl g ps.length cap/\B<=g/\w.heap[g]?=some (.cells a 183 (0,0))/\ps.length<=cap/\eI a 0 ps:=by
 obtain⟨o,⟨_,m⟩|⟨g,cap,a,k,i,f,l,_,n,c⟩⟩:=h
 .exact absurd (uJ.1 m) b
 .refine⟨g,cap,a,k,i,f,l,Ce λj u d=>?_⟩;let e:=(eY.1 d).1;rw[<-c,BH,bY aA]at d;simpa using d
theorem rh(w pa bS ps)(a:iu w pa bS ps)(h:ps.length<=1000000):
  Calls prog 100 #[.slice pa ps.length bS] w λe c=>∃b,e=.returned b/\c.ownsRow w.heap.size 183 5 b ps.length (gX ps)/\Bl w c:=by
 obtain⟨rfl,rfl,rfl⟩|⟨pb,g,d,k,rfl,f,a⟩:=a
 .refine(I1 _ _ w).m0 ?_;exact⟨_,rfl,fI _ _ _ _,aV⟩
 .exact F6 pb g ps.length bS (gX ps) w (rX ps) h (λj u i=>aD f (Tq a j u i)) (A9 ps)
theorem AE(X:Nat->BT dD):∀n,xw (jB X n)
 |0=>λi k a=>by simp[jB]at a
 |n+1=>(zT (aO (X n)) (jB X n) (AE X n)).1
theorem J9(X:Nat->BT dD):∀n,(∀j,j<n->Good (X j))->∀k∈jB X n,nL k.op
 |0,_=>λk a=>by simp[jB]at a
 |n+1,h=>AP (aO (X n)) (jB X n) (pV (h n aA)) (.inl (dK (h n aA))) (J9 X n λj b=>h j aA)
theorem Dk(X:Nat->BT dD):∀n j,j<n->pR (jB X n) (aO (X j)) (B_ X j)
 |0,j,h=>aA
 |n+1,j,h=>by
  by_cases a:j<n
  .let⟨M,hM⟩:=zU (aO (X n)) (jB X n)
   have:=(Dk X n j a).mono M
   show pR (cO (jB X n) (aO (X n))).2 _ _
   rw[hM]
   exact this
  .obtain rfl:j=n:=by omega
   exact(zT (aO (X j)) (jB X j) (AE X j)).2
theorem Wq(aY pb d room){O y K0}(ea bO C E){pa bS ps ss}(K)(hK:K.length<=40)(s:∀k∈K,nL k.op)(J:xw K)(w)(h:dJ w aY d room O y K0 ea bO C E pa bS ps ss){D}(Q:w.heap[pb]?=some (.cells D 183 (0,0)))(V nn M F)(B:V.ownsRow w.heap.size 226 6 nn K.length (mA K))(A:V.heap[aY]?=some (.cells #[Iv d,Iv room,M,.slice ea C.length bO,F] 153 (0,0)))(hs:c_ (λb=>b=aY\/b=pb) w V):
  Calls prog 142 #[Pt aY,nn] V λe I=>e=.returned (.tuple #[])/\J8 aY d room ea bO C E K V nn I:=by
 obtain⟨no,bZ,rfl,S,N,z⟩:=Jq B;let p:∀G,(153:TypeId)∉G->(183:TypeId)∉G->dQ w (λb=>b=aY\/b=pb) G:=λG o L b v t m n U e=>by
  obtain e|e:=e
  .subst e;rw[h.cell]at n;cases n;exact o U
  .subst e;rw[Q]at n;cases n;exact L U
 let u:=aH.zM hs;let q:=h.bH.move u (p _ aG aG);obtain⟨R,T⟩|⟨g,cp,R,T,_,X⟩:=q.cases
 .subst T;cases R;refine(NP aY (Iv d) (Iv room) M F (.slice no K.length bZ) no _ bZ rfl V A).m λI ⟨k1,k2⟩=>?_;let r:c_ (λb=>b=aY\/∃a,(none:aR bC)=some a/\a.block=b) V I:=c_.qR k2 λx Y=>.inl Y;let l:∀a,no=some a->¬(a.block=aY\/∃W,(none:aR bC)=some W/\W.block=a.block):=by
   rintro a f (e|⟨_,e,_⟩)
   .let⟨_,v,m,k⟩:=z a f;rw[e,A]at k;cases k
   .cases e
  refine⟨rfl,no,bZ,F,[],rfl,S,N.spare r l,λa f=>?_,⟨_,A⟩,k1,fI _ _ _ _,rfl,aF,aF,aF,r⟩;let⟨_,v,m,k⟩:=z a f;exact⟨v,m,(r.block _ (aN k) (l a f)).trans k⟩
 .cases R;refine(QZ aY (Iv d) (Iv room) M F no bZ K g bO C E V A q h.len (λi c e H Z=>(h.ins i c e H Z).move (h.typed c (iF H)) u (p _ aG aG)) (λc H=>(h.typed c H).move u (p _ aG aG)) h.few aA S N (λa f=>(z a f).2) s J).m λI ⟨Cs,j⟩=>?_;let⟨cg0,XE⟩:=cE q (g:=g) rfl;let l:∀a,no=some a->¬(a.block=aY\/a.block=g):=by
   rintro a f (e|e)
   .let⟨_,v,m,k⟩:=z a f;rw[e,A]at k;cases k
   .let⟨_,v,m,k⟩:=z a f;rw[e,XE]at k;cases k
  refine⟨rfl,no,bZ,F,Cs,rfl,S,N.spare j.sp l,λa f=>?_,⟨_,A⟩,j.hw,j.bH,j.len,λi c P o n=>⟨(j.same i c P o n).1,(j.same i c P o n).2.1,(j.same i c P o n).2.2.1⟩,λi c e o n=>j.done i c e ?_ o n,j.typed,j.sp.mono λb _ hb=>by rcases hb with e|e;exact .inl e;exact .inr ⟨_,rfl,e.symm⟩⟩
  .let⟨_,v,m,k⟩:=z a f;exact⟨v,m,(j.sp.block _ (aN k) (l a f)).trans k⟩
  .have:=(eY.1 o).1;rw[j.len]at this;exact this
def Qh(aY pb bS:Nat)(d room:Int)(ea:aR bC)(bO:Nat)(C:aB jb)(E:aB Pe)(X:Nat->BT dD)(f:aB nk)(ss:aB lx)(w g:aC):Prop:=
 ∃(no:aR bC)(bZ:Nat)(h:aB jb)(e:aU aE),dJ g aY d room no bZ (jB X f.length) ea bO h (kZ (jB X f.length) E C.length) (some (Ad pb 0)) bS (jW X f) ss/\g.heap[pb]?=some (.cells e 183 (0,0))/\eI e 0 (jW X f)/\h.length=C.length/\(∀(i:Nat) c c0,h[i]?=some c->C[i]?=some c0->c.number=c0.number/\c.time=c0.time/\c.ao=c0.ao)/\c_ (λb=>b=aY\/b=pb\/∃a,ea=some a/\a.block=b) w g
theorem WZ(aY pb bS d room){a6 z K0}(ea bO C E){pa n ps P}(X f ss B w)(h:dJ w aY d room a6 z K0 ea bO C E pa n ps P)
  (r:w.heap[pb]?=some (.cells B 183 (0,0))) (hP:eI B 0 f) (hq:f.length<=1000) (x:f.length<=bS) (hS:∀j (p),f[j]?=some p->bG 143 0 w (X j) (.pointer p.eE)/\Good (X j)/\cF (aO (X j))<=1000000) (hK:(jB X f.length).length<=40)
  (Y:ss.length=f.length) (T:∀(i:Nat)(s)(p),ss[i]?=some s->f[i]?=some p->p.fY=some (Ad s.cX 0)) (a7:∀s∈ss,gh w s) (nz:Apart ss):
  Calls prog 98 #[Pt aY,Sl pb f.length bS] w λe N=>e=.returned .nilIface/\Qh aY pb bS d room ea bO C E X f ss w N:=by
 have Q:∀j,j<f.length->Good (X j):=λj hj=>(hS j _ (fH hj)).2.1;have l:=J9 X f.length Q;have H:=AE X f.length;apply(RO aY pb bS (Iv d) (Iv room) _ (.slice ea C.length bO) pa ps.length n B f X w (J8 aY d room ea bO C E (jB X f.length)) h.cell r hP hq x hS hK λV nn oa h1 y M h4 h5=>Wq aY pb d room ea bO C E (jB X f.length) hK l H w h r V nn _ _ h1 y h5).mono;rintro e N ⟨rfl,V,nn,oa,a1,a2,L,a4,a5,no,bZ,pv,F,rfl,j1,j2,j3,⟨nv,o⟩,j5,j6,D,j8,j9,O,K⟩;refine⟨rfl,?_⟩;have a8:pv=Sl pb f.length bS:=by
  rw[a2]at o;injection o with o;injection o with o _ _;injection o with o;simp at o;exact o.2.symm
 subst a8;have v:∀a,ea=some a->∃U,w.heap[a.block]?=some (.cells U 159 (0,0)):=λa G=>by
  subst G;exact cE h.bH (g:=a.block) rfl
 have I:c_ (λb=>b=aY\/b=pb\/∃a,ea=some a/\a.block=b) w N:=(a5.mono λb _ W=>by rcases W with e|e;exact .inl e;exact .inr (.inl e)).trans (K.mono λb _ W=>by rcases W with e|e;exact .inl e;exact .inr (.inr e));have R:dQ w (λb=>b=aY\/b=pb\/∃a,ea=some a/\a.block=b) [177,59]:=λb cs t m y M e=>by
  rcases e with e|e|⟨a,G,e⟩
  .subst e;rw[h.cell]at y;cases y;simp at M
  .subst e;rw[r]at y;cases y;simp at M
  .obtain⟨U,k⟩:=v a G;rw[e,y]at k;cases k;simp at M
 have K_:N.heap[pb]?=some (.cells oa 183 (0,0)):=by
  refine(K.block pb (aN L) ?_).trans L;rintro(e|⟨a,G,e⟩)
  .subst e;rw[a2]at L;cases L
  .obtain⟨U,k⟩:=v a G;rw[e,r]at k;cases k
 have u:(jW X f).length=f.length:=by simp[jW]
 have J:∀(i:Nat) p,(jW X f)[i]?=some p->∃q,f[i]?=some q/\p={q with node:=(B_ X i).toNat}:=λi p A=>by
  unfold jW at A;rw[P8]at A;obtain⟨q,hq,rfl⟩:=nA.1 A;exact⟨q,hq,rfl⟩
 refine⟨no,bZ,F,oa,?_,K_,a4,D,j8,I⟩;exact{
   cell:=by rw[D,u];exact j5
   bH:=by rw[D];exact j6
   len:=by rw[rZ,D]
   ins:=j9
   typed:=O
   few:=D▸h.few
   ret:=h.ret
   Uo:=λc hc=>by
    have Dp:F[F.length-1]?=some c:=Sm▸hc;have hl:=(eY.1 Dp).1;have S:F.length-1<C.length:=aA;have h0:C[F.length-1]?=some C[F.length-1]:=fH S;have:=(j8 _ c _ Dp h0).1;rw[this];exact h.Uo _ (by rw[Sm,<-D];exact h0)
   Um:=aA
   ncp:=j1
   nodes:=j2
   ld:=j3
   core:=l
   ahead:=H
   rows:=Et _ E _
   aW:=.inr ⟨pb,0,oa,(0,0),rfl,K_,a4⟩
   wm:=u▸hq
   pcp:=u▸x
   na:=u▸Y
   zS:=λi s p Z A=>by
    obtain⟨q,hq,rfl⟩:=J i p A;exact T i s q Z hq
   E8:=λs Z=>gh.move (a7 s Z) (aH.zM I) R
   apart:=nz
   Hr:=λp A=>by
    have⟨i,hi⟩:=Aw.1 A;obtain⟨q,hq,rfl⟩:=J i p hi;have:=(pR.le (Dk X f.length i ((eY.1 hq).1))).2;show(B_ X i).toNat<=_;omega}
def iY(xs:aB (BT dD))(j:Nat):BT dD:=xs.getD j .nil
structure eZ(w:aC)(ps:aB nk)(xs:aB (BT dD)):Prop where
 len:xs.length=ps.length
 each:∀(j:Nat)(p:nk)(x:BT dD),ps[j]?=some p->xs[j]?=some x->bG 143 0 w x (.pointer p.eE)
 fine:∀x∈xs,gg x/\cF (aO x)<=1000000/\bD x<=12
theorem eZ.down{w W ps xs}(h:eZ w ps xs)(c:Bl w W):eZ W ps xs:=⟨h.len,λj p x b a=>bG.below (h.each j p x b a) c,h.fine⟩
theorem eZ.at{w ps xs}(h:eZ w ps xs)(j p)(b:ps[j]?=some p):bG 143 0 w (iY xs j) (.pointer p.eE)/\Good (iY xs j)/\cF (aO (iY xs j))<=1000000:=by
 let c:j<xs.length:=h.len▸(eY.1 b).1;let a:xs[j]?=some xs[j]:=fH c;let e:iY xs j=xs[j]:=by unfold iY;rw[qB,a];rfl
 rw[e];let⟨h1,h2,_⟩:=h.fine _ (iF a);exact⟨h.each j p _ b a,h1.1,h2⟩
theorem eZ.Tk{w ps xs}(h:eZ w ps xs)(j)(b:j<xs.length):gg (iY xs j):=by
 let a:=fH b;let e:iY xs j=xs[j]:=by unfold iY;rw[qB,a];rfl
 rw[e];exact(h.fine _ (iF a)).1
def After(aY:Nat)(d room:Int)(ea:aR bC)(bO:Nat)(C:aB jb)(E:aB Pe)(xs:aB (BT dD))(e:aB nk)(ss:aB lx)(w f:aC):Prop:=
 ∃(no:aR bC)(bZ:Nat)(g:aB jb)(pb bS:Nat),dJ f aY d room no bZ (jB (iY xs) e.length) ea bO g (kZ (jB (iY xs) e.length) E C.length) (some (Ad pb 0)) bS (jW (iY xs) e) ss/\w.heap.size<=pb/\eZ f (jW (iY xs) e) xs/\g.length=C.length/\(∀(i:Nat) c c0,g[i]?=some c->C[i]?=some c0->c.number=c0.number/\c.time=c0.time/\c.ao=c0.ao)/\c_ (λb=>b=aY\/∃a,ea=some a/\a.block=b) w f
theorem sw{X b}{i:Nat}{p}(a:(jW X b)[i]?=some p):∃q,b[i]?=some q/\p={q with node:=(B_ X i).toNat}:=by
 unfold jW at a;rw[P8]at a;obtain⟨q,c,rfl⟩:=nA.1 a;exact⟨q,c,rfl⟩
theorem uj{aY pb bS c room M o T ea bO C E pa n ps D xs d ss l w r}(h:dJ w aY c room M o T ea bO C E pa n ps D)(m:Bl w r)
  (y:r.heap[pb]?=some (.cells l 183 (0,0))) (G:w.heap.size<=pb) (S:eI l 0 d) (J:d.length<=1000) (v:d.length<=bS) (A:eZ r d xs) (W:(jB (iY xs) d.length).length<=40)
  (I:ss.length=d.length) (F:∀(i:Nat)(s)(p),ss[i]?=some s->d[i]?=some p->p.fY=some (Ad s.cX 0)) (L:∀s∈ss,gh r s) (nz:Apart ss):
  Calls prog 98 #[Pt aY,Sl pb d.length bS] r λe Q=>e=.returned .nilIface/\After aY c room ea bO C E xs d ss w Q:=by
 let H:=h.move (aH.aS (P:=λ_=>False) m) (dQ.none _ _);refine(WZ aY pb bS c room ea bO C E (iY xs) d ss l r H y S J v (λj p K=>A.at j p K) W I F L nz).m λQ ⟨no,bZ,X,N,U,a2,Y,V,a5,t⟩=>?_;let O:∀a,ea=some a->a.block<w.heap.size:=λa B=>by
  subst B;exact(h.bH.lt a.block rfl).2
 refine⟨rfl,no,bZ,X,pb,bS,U,G,⟨by rw[A.len];simp[jW],λj p x K R=>?_,A.fine⟩,V,a5,?_⟩
 .obtain⟨q,J,rfl⟩:=sw K;refine gF (λk Z f=>?_) (A.each j q x J R);refine(t.block k (aN f) ?_).trans f;rintro(e|e|⟨a,B,e⟩)
  .subst e;rw[H.cell]at f;cases f
  .subst e;rw[y]at f;cases f
  .subst B;let⟨cg,sS⟩:=cE H.bH (g:=a.block) rfl;rw[e,f]at sS;cases sS
 .refine⟨t.os.trans m.os,t.tape.trans m.tape,t.output.trans m.output,gH m.size t.size,λb z u=>?_⟩;refine(t.block b (fZ z m.size) ?_).trans (m.block b z);rintro(e|e|e)
  .exact u (.inl e)
  .omega
  .exact u (.inr e)
theorem LZ{w:aC}{B g n cap b}(h:w.ownsRow B 183 5 (Sl g n cap) n (gX b)):∃a,B<=g/\w.heap[g]?=some (.cells a 183 (0,0))/\n<=cap/\eI a 0 b/\n=b.length:=by
 obtain⟨s,⟨i,_⟩|⟨q,e,a,o,m,l,f,_,r,c⟩⟩:=h
 .cases i
 .cases o;let p:=rX b;refine⟨a,m,l,f,Ce λj u d=>?_,aA⟩;let k:=(eY.1 d).1;rw[<-c,BH,bY aA]at d;simpa using d
theorem fK{c:Type}{l:aB c}{i j a}(h:(l.take i++l.drop (i+1))[j]?=some a):l[if j<i then j else j+1]?=some a:=by
 rw[<-List.eraseIdx_eq_take_drop_succ,List.getElem?_eraseIdx]at h;split at h
 .rename_i b;rw[bY b];exact h
 .rename_i b;rw[bN b];exact h
theorem Qq{ss}(h:Apart ss)(i):Apart (ss.take i++ss.drop (i+1)):=by
 intro a b s t d e c;apply h _ _ s t (fK d) (fK e);split<;>split<;>omega
theorem Rv(name){aY a room no bZ ea bO C E pa bS ps ss xs w}(h:dJ w aY a room no bZ (jB (iY xs) ps.length) ea bO C E pa bS ps ss)(J:eV ps)(u:eZ w ps xs)(hK:(jB (iY xs) ps.length).length<=40)(i)(hi:dW name ps=i)(v:eW name ps=true):
  Calls prog 52 #[Pt aY,.string name] w λe R=>e=.returned .nilIface/\After aY a room ea bO C E (xs.take i++xs.drop (i+1)) (ps.take i++ps.drop (i+1)) (ss.take i++ss.drop (i+1)) w R:=by
 have M:=h.wm;have T:=mT aY (Iv a) (Iv room) _ _ pa bS ps name w h.cell h.aW J aA;rw[hi,v]at T;have I:i<ps.length:=by
  obtain⟨p,D,_⟩:=(uq name ps).1 v;rw[hi]at D;exact(eY.1 D).1
 have N:=hid λW (q:Bl w W)=>rh W pa bS ps (iu.move h.aW (aH.aS (P:=λ_=>False) q) (dQ.none _ _)) aA;have HS:=hid u;have Hc:Hid (∀W,Bl w W->W.cell? (Ad aY 4)=some (.slice pa ps.length bS)):=λW q=>aD (q.aT h.cell) rfl;have o:(ps.take i++ps.drop (i+1)).length=ps.length-1:=bI;have Y:Hid (∀(g t:Nat)(W:aC),Bl w W->W.ownsRow w.heap.size 183 5 (Sl g (ps.length-1) t) (ps.length-1) ((gX ps).take (i*5)++(gX ps).drop ((i+1)*5))->Calls prog 98 #[Pt aY,Sl g (ps.length-1) t] W λe R=>e=.returned .nilIface/\After aY a room ea bO C E (xs.take i++xs.drop (i+1)) (ps.take i++ps.drop (i+1)) (ss.take i++ss.drop (i+1)) w R):=λg t W q b=>by
  rw[Eh ps i aA,Eg ps (i+1) aA,<-wO]at b;have⟨H,q1,q2,q3,q4,q5⟩:=LZ b;have a1:=u.len;have l:eZ W (ps.take i++ps.drop (i+1)) (xs.take i++xs.drop (i+1)):=by
   refine⟨bI,λj p x r c=>(u.down q).each _ p x (fK r) (fK c),λx c=>u.fine x ?_⟩;rcases jc.1 c with c|c
   .exact GC c
   .exact sN c
  have G:(jB (iY (xs.take i++xs.drop (i+1))) (ps.take i++ps.drop (i+1)).length).length<=40:=by
   refine gH (VJ _ (iY xs) _ ps.length (λj r=>l.Tk j (l.len▸r)) (λj r=>u.Tk j aA) λj r=>?_) hK;rw[o]at r;refine⟨if j<i then j else j+1,by split<;>omega,?_⟩;obtain⟨y,c⟩:∃y,(xs.take i++xs.drop (i+1))[j]?=some y:=⟨_,fH (by rw[l.len,o];exact r)⟩;unfold iY;rw[qB,qB,c,fK c]
  have U:=h.na;rw[<-o];refine uj h q q2 q1 q4 aA aA l G bI (λj s p O D=>h.zS _ s p (fK O) (fK D)) (λs O=>?_) (Qq h.apart i);have hm:s∈ss:=by
   obtain c|c:=jc.1 O
   .exact GC c
   .exact sN c
  exact gh.move (h.E8 s hm) (aH.aS (P:=λ_=>False) q) (dQ.none _ _)
 have d:=A9 ps;replace d:Hid _:=d;generalize(gX ps)=Z at*;have S:=M;generalize ps.length=n at*;go_enter func52,ntmps52;go_wp2_with fail;refine T.m λF f=>?_;have c4:=Hc.out F f;go_wp2_with fail;apply(N.out F f).mono;rintro e w2 ⟨v',rfl,b,z⟩;have A:=f.tr z;obtain⟨r1,⟨_,r2⟩|⟨g,t,H,rfl,r3,_⟩⟩:=id b
 .omega
 have X:=F9 F.heap.size g t i n Z w2 b d.out I S;go_wp2_with fail;refine X.m λV ⟨m,B⟩=>?_;have L:=f.size;have Q:=A.trans ⟨B.os,B.tape,B.output,B.size,λk hk=>B.block k (by have:=z.size;omega) aA⟩;have K:=Y.out g t V Q (gY m L);go_wp2_with fail;refine K.m λw4 hA=>?_;go_wp2;go_ret;exact⟨rfl,hA⟩
theorem L8(aY pb cap r m u ev y z B a ps X w)
  (hw:w.heap[aY]?=some (.cells #[r,m,u,ev,.slice y z B] 153 (0,0))) (hp:w.heap[pb]?=some (.cells a 183 (0,0))) (x:eI a 0 ps) (C:ps.length<=1000) (h:ps.length<=cap)
  (s:∀j (p),ps[j]?=some p->bG 143 0 w (X j) (.pointer p.eE)/\Good (X j)/\cF (aO (X j))<=1000000) (hK:40<(jB X ps.length).length) (d:(jB X ps.length).length<=1000000000):
  Calls prog 98 #[Pt aY,Sl pb ps.length cap] w λe w'=>∃tb k,e=.returned (.iface 132 (Pt tb))/\w.heap.size<=tb/\w'.heap[tb]?=some (.cells #[Iv k] 245 (0,0))/\c_ (λb=>b=pb) w w':=by
 have t:aY≠pb:=by rintro rfl;rw[hw]at hp;cases hp
 have q:=aN hw;have hpl:=aN hp;have Hp:Hid (w.heap[pb]?=some (.cells a 183 (0,0))/\eI a 0 ps):=⟨hp,x⟩;have E:=hid hw;have HS:=hid s;have HK:=hid d;generalize c:ps.length=n at*;have VH:=hid c;go_enter func98,ntmps98;go_wp2;go_loopw [10] (λf wr=>∃(i:Nat),f=Iv i/\i<=n/\sX w.heap.size w.heap.size wr (jB X i)/\c_ (λb=>b=pb) w wr/\w.heap.size<wr.heap.size/\∃oa,wr.heap[pb]?=some (.cells oa 183 (0,0))/\nN X oa ps i) (λf _=>n-(intOf f).toNat)
 case atStart=>
  exact⟨0,rfl,cC,sX.new _ w aZ,c_.aS (aV.al _),aF,a,(ij _ _ _ hpl).trans Hp.out.1,nN.start Hp.out.2⟩
 case round=>
  obtain⟨i,rfl,o,hT,Sr,g,oa,hpb,ZX⟩:=hrel;by_cases hi:i<n
  .exact zSt
  .obtain rfl:i=n:=by omega
   have hKn:40<((jB X i).length:Int):=by have:=hK;omega
   have A:Hid (c_ (λb=>b=pb) w wr/\w.heap.size<wr.heap.size):=⟨Sr,g⟩;go_wp2_with fail;apply(AQ w.heap.size w.heap.size (jB X i) wr hT).m0;generalize(jB X i).length=D at*;go_wp2;go_ret;obtain⟨v,l⟩:=A.out;exact⟨_,_,rfl,MI l,aQ _ _ _ rfl,v.trans (c_.aS (aV.al _))⟩
def gS(a:Int):aB jb->aB jb
 |[]=>[]
 |c::C=>if c.number=1 then c::C else(c::C).filter λd=>decide (d.time-a>=c.time)
theorem Th(C):∀u∈iz C,u.oneCell'=true:=by
 intro u a;let⟨c,_,hc⟩:=MH.1 a;simp[dF]at hc;obtain rfl|rfl|rfl|rfl:=hc<;>rfl
theorem Ja(C):(iz C).length=C.length*4:=eN dF 4 (λ_=>rfl) C
theorem Q0(aY rt rm nv pv ea cap C b w)(hw:w.heap[aY]?=some (.cells #[rt,rm,nv,.slice ea C.length cap,pv] 153 (0,0)))(z:fL w (.slice ea C.length cap) C)(hn:C.length<=1000)(hr:0<=b/\b<=1000000000)(Y:∀c∈C,0<=c.time/\c.time<=1000000000000):
  Calls prog 138 #[Pt aY,Iv b] w λe J=>∃A,e=.returned A/\J.ownsRow w.heap.size 159 4 A (gS b C).length (iz (gS b C))/\Bl w J:=by
 have K:=aN hw;have c3:w.cell? (Ad aY 3)=some (.slice ea C.length cap):=aD hw rfl;obtain⟨ag,a1,S,a7,R,y⟩:=z.form;cases S;have m:Calls prog 175 #[.slice ea C.length cap] w λe J=>∃A,e=.returned A/\J.ownsRow w.heap.size 159 4 A C.length (iz C)/\Bl w J:=by
  cases ea with
  |none=>
   apply(Kv _ _ w).m0;have:C=[]:=by
    cases C with
    |nil=>rfl
    |cons c C=>obtain⟨g,h,_⟩:=y aF;cases h
   subst this;exact⟨_,rfl,fI _ _ _ _,aV⟩
  |some a=>
   have Pv:w.ownsRow 0 159 4 (.slice (some a) C.length cap) C.length (iz C):=z;obtain⟨_,⟨h,_⟩|⟨g,cp,af,h,_⟩⟩:=Pv
   .cases h
   .cases h;refine I0 g 0 C.length cap (iz C) w (Ja C) aA (λj u U=>?_) (Th C);rw[fE];exact d_ z rfl U
 cases C with
 |nil=>
  go_enter func138,ntmps138;go_wp2_with fail;apply m.mono;rintro e w1 ⟨v,rfl,O,h2⟩;go_wp2_with fail;go_ret;exact⟨v,rfl,O,h2⟩
 |cons c C=>
  obtain⟨g,rfl,L⟩:=y aF;have p0:w.cell? (Ad g 0)=some (Iv c.number):=z.cell (i:=0) (k:=0) rfl rfl;have p1:w.cell? (Ad g 1)=some (Iv c.time):=z.cell (i:=0) (k:=1) rfl rfl;have a6:Hid ((c::C).length=C.length+1):=rfl;have HE:Hid _:=z;have V:Hid _:=m;have HT:Hid _:=Y;have ad:=Y c aF;have a8:1<=(c::C).length:=aF;generalize N:(c::C).length=n at*;clear z m Y hw R y;by_cases O:c.number=1
  .have E:gS b (c::C)=c::C:=by simp[gS,O]
   rw[E];clear E;go_enter func138,ntmps138;go_wp2_with fail;apply ku V.out;rintro e w1 ⟨v,rfl,P,q2⟩;rw[<-N]at P;have Hq:Hid _:=P;clear P;go_wp2_with fail;go_ret;exact⟨v,rfl,Hq.out,q2⟩
  .have E:gS b (c::C)=(c::C).filter λd=>decide (d.time-b>=c.time):=by simp[gS,O]
   rw[E];clear E;obtain⟨i0,hi,W,X,Q⟩:=eB wP;generalize hD:(c::C)=D at*;have HD:Hid (c::C=D):=hD;clear hD;generalize c.time=B at*;generalize H:(λj=>(D.take j).filter λd=>decide (d.time-b>=B))=F;have F0:Hid (F 0=[]):=by subst H;rfl
   have FN:Hid (F n=D.filter λd=>decide (d.time-b>=B)):=by subst H;show List.filter _ _=_;rw[rD aA]
   have FS:Hid (∀j d,D[j]?=some d->F (j+1)=if d.time-b>=B then F j++[d]else F j):=by
    intro j d hd;subst H;show List.filter _ _=_;rw[yD,hd,List.filter_append];by_cases G:d.time-b>=B
    .simp[G]
    .simp[G]
   have FL:Hid (∀j,(F j).length<=j):=λj=>by subst H;exact gH (List.length_filter_le _ _) (by rw[kV];omega)
   rw[<-FN.out];clear H;go_enter func138,ntmps138;go_wp2_with fail
   .exfalso
    rcases‹((n:Int)==0)=true\/(c.number==1)=true›with Z|Z
    .have:=eq_of_beq Z;omega
    .exact O (eq_of_beq Z)
   go_loopw [34,5] (λiv v wr=>∃i:Nat,iv=Iv i/\i<=n/\wr.ownsRow w.heap.size 159 4 v (F i).length (iz (F i))/\Bl w wr) (λiv _ _=>n-(intOf iv).toNat)
   case atStart=>exact⟨0,rfl,cC,by rw[F0.out];exact fI _ _ _ _,aV⟩
   case round=>
    obtain⟨i,rfl,ae,r,q⟩:=hrel;have ah:wr.cell? (Ad aY 3)=some (Sl g n cap):=q.cell (p:=(Ad aY 3)) K▸c3;by_cases aa:i<n
    .have I:i<D.length:=by omega
     have l:D[i]?=some D[i]:=fH I;have ai:=HT.out D[i] (xu I);have M:Hid _:=FS.out i _ l;have Pv:fL w (Sl g D.length cap) D:=by show w.ownsRow 0 159 4 _ _ _;rw[N];exact HE.out
     generalize D[i]=x at*;have q0:wr.cell? (Ad g (i*4))=some (Iv x.number):=q.cell (p:=(Ad g (i*4))) L▸Pv.cell (k:=0) l rfl;have P:wr.cell? (Ad g (i*4+1))=some (Iv x.time):=q.cell (p:=(Ad g (i*4+1))) L▸Pv.cell (k:=1) l rfl;have q2:wr.cell? (Ad g (i*4+2))=some (.slice x.ao x.al x.ac):=q.cell (p:=(Ad g (i*4+2))) L▸Pv.cell (k:=2) l rfl;have q3:wr.cell? (Ad g (i*4+3))=some (.slice x.so x.sl x.sc):=q.cell (p:=(Ad g (i*4+3))) L▸Pv.cell (k:=3) l rfl;clear Pv l;go_wp2_with fail;have o:Bl w (wr.alloc (.cells #[Iv x.number,Iv x.time,.slice x.ao x.al x.ac,.slice x.so x.sl x.sc] 159)):=q.al _;have f:=r.alloc (.cells #[Iv x.number,Iv x.time,.slice x.ao x.al x.ac,.slice x.so x.sl x.sc] 159);have z3:(wr.alloc (.cells #[Iv x.number,Iv x.time,.slice x.ao x.al x.ac,.slice x.so x.sl x.sc] 159)).cell? (Ad aY 3)=some (Sl g n cap):=o.cell (p:=(Ad aY 3)) K▸c3;have z4:(wr.alloc (.cells #[Iv x.number,Iv x.time,.slice x.ao x.al x.ac,.slice x.so x.sl x.sc] 159)).cell? (Ad g 1)=some (Iv B):=o.cell (p:=(Ad g 1)) L▸p1;have y0:(wr.alloc (.cells #[Iv x.number,Iv x.time,.slice x.ao x.al x.ac,.slice x.so x.sl x.sc] 159)).cell? (Ad wr.heap.size 0)=some (Iv x.number):=aD (aQ _ _ _ rfl) rfl;have y1:(wr.alloc (.cells #[Iv x.number,Iv x.time,.slice x.ao x.al x.ac,.slice x.so x.sl x.sc] 159)).cell? (Ad wr.heap.size 1)=some (Iv x.time):=aD (aQ _ _ _ rfl) rfl;have y2:(wr.alloc (.cells #[Iv x.number,Iv x.time,.slice x.ao x.al x.ac,.slice x.so x.sl x.sc] 159)).cell? (Ad wr.heap.size 2)=some (.slice x.ao x.al x.ac):=aD (aQ _ _ _ rfl) rfl;have y3:(wr.alloc (.cells #[Iv x.number,Iv x.time,.slice x.ao x.al x.ac,.slice x.so x.sl x.sc] 159)).cell? (Ad wr.heap.size 3)=some (.slice x.so x.sl x.sc):=aD (aQ _ _ _ rfl) rfl;generalize(wr.alloc (.cells #[Iv x.number,Iv x.time,.slice x.ao x.al x.ac,.slice x.so x.sl x.sc] 159))=w2 at o f z3 z4 y0 y1 y2 y3⊢
     go_region
     by_cases G:x.time-b>=B
     .go_wp2_with (at_builtin;refine jz _ rfl _ _ 146 rfl w.heap.size 159 i0 (.agg #[Iv 0,Iv 0,.slice none 0 0,.slice none 0 0]) 4 64 underlying146 hi W X Q rfl aG _ _ _ rfl (f.alloc _) (Ad w2.heap.size 0) 1 1 (dF x) rfl rfl ?c1 ?c2 ?c3 ?c4 ?c5 ?_)
      case c1=>
       exact λj u U=>mP w2 x 159 j u U
      case c2=>exact λu hu=>Th [x] u (by simpa[iz]using hu)
      case c3=>have:=FL.out i;unfold maxLen;omega
      case c4=>have:=FL.out i;omega
      case c5=>have:=o.size;simp;omega
      intro A w3 s t _;have T:Bl w w3:=((o.al _).drew).grown t (gH o.size aF) λk e=>(f.lt k e).1;go_wp2_with fail
      try go_big_round
      exact⟨⟨i+1,dV,aA,by rw[M.out,bY G,tR,ky];exact s,T⟩,zm⟩
     .go_wp2_with fail
      try go_big_round
      exact⟨⟨i+1,dV,aA,by rw[M.out,bN G];first|exact f|exact eF f λ_ _=>rfl,by first|exact o|exact o.drew⟩,zm⟩
    .obtain rfl:i=n:=by omega
     go_wp2_with fail;go_ret;exact⟨_,rfl,r,q⟩
theorem WW(num time at_ a so n cap i v w)(b:a<w.heap.size)(d:w.cell? (Ad a (so+i))=some (.bool v))(hi:i<n):
  Calls prog 170 #[.agg #[num,time,at_,.slice (some (Ad a so)) n cap],Iv i] w λe f=>e=.returned (.bool v)/\Bl w f:=by
 go_enter func170,ntmps170;go_wp2_with fail;have c:=(cD w.heap.size w).al (.cells #[num,time,at_,.slice (some (Ad a so)) n cap] 159 (0,0));have g:=aD (i:=3) (aQ w (.cells #[num,time,at_,.slice (some (Ad a so)) n cap] 159 (0,0)) _ rfl) rfl;have h:=(c.cell (p:=(Ad a (so+i))) b).trans d;generalize w.alloc _=W at*;go_wp2_with fail;go_ret;exact⟨rfl,c⟩
theorem Mk(name eE fY ao al ac cP num time c so n cap node v)(w:World)(u:c<w.heap.size)(B:w.cell? ⟨c,so+node,none⟩=some (.bool v))(hi:node<n):
  Calls prog 134 #[.agg #[name,eE,.int .i64 node,.int .i64 cP,fY],.agg #[.int .i64 num,.int .i64 time,.slice ao al ac,.slice (some ⟨c,so,none⟩) n cap]] w λe w'=>e=.returned (.agg #[.int .i64 num,.int .i64 time,.int .i64 cP,.bool v])/\Below w.heap.size w w':=by
 have D:Hid (w.cell? ⟨c,so+node,none⟩=some (.bool v)):=B;clear B;go_enter func134,ntmps134;go_wp2_with fail;generalize l:((w.alloc _).alloc _).alloc _=W;have j:Below w.heap.size w W:=l▸(((cD _ w).al _).al _).al _;have h1:W.heap[w.heap.size]?=some (.cells #[name,eE,.int .i64 node,.int .i64 cP,fY] 183 (0,0)):=l▸(ij _ _ _ bI).trans ((ij _ _ _ aF).trans (aQ _ _ _ rfl));have h2:W.heap[w.heap.size+1]?=some (.cells #[.int .i64 num,.int .i64 time,.slice ao al ac,.slice (some ⟨c,so,none⟩) n cap] 159 (0,0)):=l▸(ij _ _ _ aF).trans (aQ _ _ _ aF);have h3:W.heap[w.heap.size+1+1]?=some (.cells #[.int .i64 0,.int .i64 0,.int .i64 0,.bool false] 59 (0,0)):=l▸aQ _ _ _ aF;clear l;have K:=aN h3;generalize H:w.heap.size=m at*;generalize N:m+1=k at*;generalize Q:k+1=o at*;obtain⟨S,hS⟩:∃S:World->Prop,S=λw'=>w'.cell? ⟨m,2,none⟩=some (.int .i64 node)/\w'.cell? ⟨m,3,none⟩=some (.int .i64 cP)/\w'.cell? ⟨k,0,none⟩=some (.int .i64 num)/\w'.cell? ⟨k,1,none⟩=some (.int .i64 time)/\w'.cell? ⟨k,2,none⟩=some (.slice ao al ac)/\w'.cell? ⟨k,3,none⟩=some (.slice (some ⟨c,so,none⟩) n cap):=⟨_,rfl⟩;have g:=hid λw' (hb:Below W.heap.size W w')=>show S w' by subst hS;exact⟨aD (hb.aT h1) rfl,aD (hb.aT h1) rfl,aD (hb.aT h2) rfl,aD (hb.aT h2) rfl,aD (hb.aT h2) rfl,aD (hb.aT h2) rfl⟩
 have a:=g.out _ (Below.refl _ W).drew;refine cA.begin (S:=S) (fin:=11) aL ?_;subst hS;simp only[ju,ic,jr,Nat.reduceAdd,fE];refine cA.tk 0 a ?_
 try walk_nrm
 refine cA.tk 1 a ?_
 try walk_nrm
 refine cA.tk 2 a ?_
 try walk_nrm
 refine cA.tk 3 a ?_
 try walk_nrm
 refine cA.tk 4 a ?_
 try walk_nrm
 refine cA.tk 5 a ?_
 try walk_nrm
 refine cA.tk 6 a ?_
 try walk_nrm
 refine cA.tk 7 a ?_
 try walk_nrm
 refine cA.tk 8 a ?_
 try walk_nrm
 have A:Below W.heap.size W W.drew:=(cD _ W).drew;refine cA.o 9 (MO func170 (WW (.int .i64 num) (.int .i64 time) (.slice ao al ac) c so n cap node v W.drew (by have:=j.size;show c<W.heap.size;omega) ?hcv hi) ?_)
 case hcv=>rw[(j.drew).cell (p:=⟨c,so+node,none⟩) u];exact D.out
 rintro e t ⟨rfl,z⟩;have b:Below W.heap.size W t:=A.tr z;have f:=b.aT h3;have y:Below m w t:=j.trans (b.mono (by omega));refine⟨_,rfl,λ_=>g.out _ b,?_⟩
 try walk_nrm
 refine cA.o 10 (PM ⟨λ_=>g.out _ b,?_⟩)
 try walk_nrm
 refine cA.op (i:=11) jZ rfl (by rfl) (λK' hK'=>?_);unfold Oper.wp;have r:=dS (i:=0) (v:=.int .i64 num) f;have q:=dS (i:=1) (v:=.int .i64 time) r;have s:=dS (i:=2) (v:=.int .i64 cP) q;have C:=dS (i:=3) (v:=.bool v) s;have d:m<=o:=aA;have x:=(((y.setCell (p:=⟨o,0,none⟩) d (.int .i64 num)).setCell (p:=⟨o,1,none⟩) d (.int .i64 time)).setCell (p:=⟨o,2,none⟩) d (.int .i64 cP)).setCell (p:=⟨o,3,none⟩) d (.bool v);have O:=aD (i:=0) f rfl;have E:=aD (i:=1) r rfl;have c2:=aD (i:=2) q rfl;have R:=aD (i:=3) s rfl;have L:=cK f 0;have I:=cK r 1;have G:=cK q 2;have F:=cK s 3;obtain⟨d0,M,J,P⟩:=cs4 C;go_simp;refine hK' _ _ ⟨λh=>absurd h aG,?_⟩;clear hK' K';refine cA.done jZ ?_ _
 try walk_nrm
 clear O E c2 R L I G F r q s C;generalize(((t.setCell _ _).setCell _ _).setCell _ _).setCell _ _=U at*;go_wp2_with fail;refine bodyPost_ret (v:=.agg #[.int .i64 num,.int .i64 time,.int .i64 cP,.bool v]) (by simp[results,results134,go_sem,d0,M,J,P]) rfl ⟨rfl,x⟩
def yP(a:jb->Bool)(cP:Int)(D:aB jb):aB aE:=D.flatMap λc=>fO c.number c.time cP (a c)
theorem NV{a C d}(h:d∈gS a C):d∈C:=by
 cases C with
 |nil=>simp[gS]at h
 |cons c C=>
  simp only[gS]at h;split at h
  .exact h
  .exact(Ix.1 h).1
theorem NU(a C):(gS a C).length<=C.length:=by
 cases C with
 |nil=>exact aZ
 |cons c C=>
  simp only[gS];split
  .exact aZ
  .exact List.length_filter_le _ _
theorem M8{hold cP}{D:aB jb}{i d}(h:D[i]?=some d):yP hold cP (D.take (i+1))=yP hold cP (D.take i)++fO d.number d.time cP (hold d):=by
 rw[yD,h];simp[yP]
theorem JQ(w:aC)(a b c v t):∀j u,(fO a b c v)[j]?=some u->(w.alloc (.cells #[Iv a,Iv b,Iv c,.bool v] t)).cell? (((Ad w.heap.size 0):bC).add j)=some u:=by
 intro j u d;rw[oZ,fE];apply aD (aQ w (.cells #[Iv a,Iv b,Iv c,.bool v] t (0,0)) _ rfl);obtain _|_|_|_|j:=j
 .exact d
 .exact d
 .exact d
 .exact d
 .simp[fO]at d
theorem Ko(aY:Nat)(rt rm nv:aE)(ea:aR bC)(bO:Nat)(C:aB jb)(pb cap:Nat)(ae:aU aE)(Q i:Nat)(ps:aB nk)(p:nk)(x:BT dD)(hold:jb->Bool)(w:aC)(hw:w.heap[aY]?=some (.cells #[rt,rm,nv,.slice ea C.length bO,.slice (some ⟨pb,0,none⟩) Q cap] 153 (0,0))){mp:Nat×Nat}(R:w.heap[pb]?=some (.cells ae 183 mp))(hP:eI ae 0 ps)(hi:ps[i]?=some p)(V:ps.length=Q)(_:Q<=1000)(hx:bG 143 0 w x (.pointer p.eE))(ax:Good x)(hd:bD x<=400)
  (hE:fL w (.slice ea C.length bO) C) (hn:C.length<=1000) (hr:0<=bE x/\bE x<=1000000000) (hT:∀c∈C,0<=c.time/\c.time<=1000000000000) (hH:∀c∈C,∃f so,c.so=some ⟨f,so,none⟩/\f<w.heap.size/\p.node<c.sl/\w.cell? ⟨f,so+p.node,none⟩=some (.bool (hold c))):
  Calls prog 92 #[.pointer (some ⟨aY,0,none⟩),.int .i64 (i:Int)] w λe w'=>∃v',e=.returned v'/\w'.ownsRow w.heap.size 59 4 v' (gS (bE x) C).length (yP hold p.cP (gS (bE x) C))/\Below w.heap.size w w':=by
 obtain⟨a0,a1,a2,a3,a4⟩:=hP i p hi;simp only[fE]at a0 a1 a2 a3 a4;have ak:i<Q:=V▸(eY.1 hi).1;have c4:=aD (i:=4) hw rfl;have y0:=aD R a0;have y1:=aD R a1;have y2:=aD R a2;have y3:=aD R a3;have y4:=aD R a4;have K:=ax.win;have Hw:Hid (w.heap[aY]?=some (.cells #[rt,rm,nv,.slice ea C.length bO,.slice (some ⟨pb,0,none⟩) Q cap] 153 (0,0))):=hw;have Hx:Hid (bG 143 0 w x (.pointer p.eE)):=hx;have HE:Hid _:=hE;have HT:Hid _:=hT;have HH:Hid _:=hH;have b3:=NU (bE x) C;clear hw R hP hi V a0 a1 a2 a3 a4 hx hE hT hH;go_enter func92,ntmps92;go_wp2_with fail;have a8:Below w.heap.size w _:=(cD _ w).al (.cells #[.string p.name,.pointer p.eE,.int .i64 p.node,.int .i64 p.cP,.pointer p.fY] 183 (0,0));have O:=aQ w (.cells #[.string p.name,.pointer p.eE,.int .i64 p.node,.int .i64 p.cP,.pointer p.fY] 183 (0,0)) _ rfl;generalize G:w.heap.size=P at*;generalize w.alloc _=W at*;clear c4 y0 y1 y2 y3 y4;have b:(λw':aC=>w'.cell? ⟨P,1,none⟩=some (.pointer p.eE)) W.drew:=aD ((cD _ W).drew.aT O) rfl;apply cA.begin (S:=(λw':aC=>w'.cell? ⟨P,1,none⟩=some (.pointer p.eE))) (fin:=9) aL;simp only[ju,ic,jr,Nat.reduceAdd,fE];refine cA.tk 0 b ?_
 try walk_nrm
 refine cA.tk 1 b ?_
 try walk_nrm
 refine cA.tk 2 b ?_
 try walk_nrm
 refine cA.tk 3 b ?_
 try walk_nrm
 refine cA.tk 4 b ?_
 try walk_nrm
 refine cA.tk 8 b ?_
 try walk_nrm
 have aj:Below W.heap.size W W.drew:=(cD _ W).drew;have b5:P<W.heap.size:=aN O;refine cA.o 5 (MO func42 (w_ x _ 0 W.drew ?hsx hd K) ?_)
 case hsx=>exact gF (λk cs I=>by rw[a8.drew.block k (by rw[<-G];exact aN I)];exact I) Hx.out
 rintro e V0 ⟨rfl,q,rfl⟩;have t:Below W.heap.size W (W.drew.drewN q):=aj.tr (below_drewN _ _);have m:Below P w (W.drew.drewN q):=a8.trans (t.mono (by omega));generalize W.drew.drewN q=V0 at*;refine⟨_,rfl,λ_=>aD (t.aT O) rfl,?_⟩
 try walk_nrm
 refine cA.o 6 (MO func138 (Q0 aY rt rm nv (.slice (some ⟨pb,0,none⟩) Q cap) ea bO C (bE x) V0 ?kw ?kE hn hr HT.out) ?_)
 case kw=>exact(m.block aY (G▸aN Hw.out)).trans Hw.out
 case kE=>exact eF HE.out λk I=>m.block k (G▸(HE.out.lt k I).2)
 rintro e s ⟨kv,rfl,y,ad⟩;have z:Below W.heap.size W s:=t.tr ad;have F:Below P w s:=m.trans (ad.mono (by have:=m.size;omega));refine⟨_,rfl,λ_=>aD (z.aT O) rfl,?_⟩;obtain⟨ka,az,rfl,b2,ag,T⟩:∃(a:aR bC)(c:Nat),kv=.slice a (gS (bE x) C).length c/\(gS (bE x) C).length<=c/\True/\(∀j d,(gS (bE x) C)[j]?=some d->∃g,a=some ⟨g,0,none⟩/\g<s.heap.size/\∀k u,(dF d)[k]?=some u->s.cell? ⟨g,j*4+k,none⟩=some u):=by
  have TV:=y;obtain⟨h1,⟨rfl,h2⟩|⟨g,cp,b6,rfl,h3,h4,h5,h6,h7,h8⟩⟩:=y
  .exact⟨none,0,by rw[h2],aA,trivial,λj d Y=>by have:=(eY.1 Y).1;omega⟩
  .refine⟨some ⟨g,0,none⟩,cp,rfl,h5,trivial,λj d Y=>⟨g,rfl,aN h4,λk u I=>d_ TV rfl (jl dF 4 (λ_=>rfl) _ j k d u Y I)⟩⟩
 try walk_nrm
 refine cA.o 7 (PM ⟨λ_=>aD (z.aT O) rfl,?_⟩)
 try walk_nrm
 refine cA.done jZ ?_ _
 try walk_nrm
 go_wp2_with fail;clear b hr K y;generalize hD:gS (bE x) C=D at*;have HD:Hid (∀d∈D,d∈C):=λd hd=>NV (hD▸hd);have ar:Hid (gS (bE x) C=D):=hD;have aq:Hid _:=T;clear hD T ag;generalize ah:D.length=n at*;obtain⟨i0,hi,aw,ay,af⟩:=eB Go.Proofs.YtpbbmagjhkakgaaGreatDoor.Lf.vN;have l:P<=s.heap.size:=by have:=F.size;omega
 go_loopw [24,6] (λiv v wr=>∃i:Nat,iv=.int .i64 i/\i<=n/\wr.ownsRow s.heap.size 59 4 v i (yP hold p.cP (D.take i))/\Below s.heap.size s wr) (λiv _ _=>n-(intOf iv).toNat)
 case atStart=>exact⟨0,rfl,cC,fI _ _ _ _,aV⟩
 case round=>
  obtain⟨i,rfl,ak,E,r⟩:=hrel;by_cases b0:i<n
  .have o:D[i]?=some D[i]:=fH aA;have au:Hid _:=M8 (hold:=hold) (cP:=p.cP) o;obtain⟨g,rfl,hg,U⟩:=aq.out i _ o;obtain⟨f,so,e1,e2,e3,e4⟩:=HH.out _ (HD.out _ (iF o));generalize D[i]=d at*;have hq:∀k u,(dF d)[k]?=some u->wr.cell? ⟨g,i*4+k,none⟩=some u:=λk u h=>(r.cell (p:=⟨g,i*4+k,none⟩) hg).trans (U k u h);have q0:wr.cell? ⟨g,i*4,none⟩=_:=hq 0 _ rfl;have q1:=hq 1 _ rfl;have q2:=hq 2 (.slice d.ao d.al d.ac) rfl;have q3:=hq 3 (.slice (some ⟨f,so,none⟩) d.sl d.sc) (by rw[<-e1];rfl);have a6:=r.aT (z.aT O);have aa:wr.cell? ⟨f,so+p.node,none⟩=some (.bool (hold d)):=by
    rw[r.cell (p:=⟨f,so+p.node,none⟩) (fZ e2 l),F.cell (p:=⟨f,so+p.node,none⟩) e2];exact e4
   have J:f<wr.heap.size:=fZ e2 (gH l r.size);clear o U e1 e4 hq;have N:Below wr.heap.size wr _:=(cD _ wr).al (.cells #[.int .i64 d.number,.int .i64 d.time,.slice d.ao d.al d.ac,.slice (some ⟨f,so,none⟩) d.sl d.sc] 159 (0,0));obtain⟨r0,r1,r2,r3,r4⟩:=cs5 (N.aT a6);obtain⟨s0,s1,s2,s3⟩:=cs4 (aQ wr (.cells #[.int .i64 d.number,.int .i64 d.time,.slice d.ao d.al d.ac,.slice (some ⟨f,so,none⟩) d.sl d.sc] 159 (0,0)) _ rfl);have X:=(N.cell (p:=⟨f,so+p.node,none⟩) J).trans aa;have A:=E.alloc (.cells #[.int .i64 d.number,.int .i64 d.time,.slice d.ao d.al d.ac,.slice (some ⟨f,so,none⟩) d.sl d.sc] 159);have a7:=r.al (.cells #[.int .i64 d.number,.int .i64 d.time,.slice d.ao d.al d.ac,.slice (some ⟨f,so,none⟩) d.sl d.sc] 159);have an:=hid (Mk (.string p.name) (.pointer p.eE) (.pointer p.fY) d.ao d.al d.ac p.cP d.number d.time f so d.sl d.sc p.node (hold d) _ (fZ J N.size) X e3);clear X aa a6;go_wp2_with fail;apply ku an.out;rintro e w1 ⟨rfl,Z⟩;have B:=eF A (w':=w1) λk I=>Z.block k (A.lt k I).2;have H:Below s.heap.size s w1:=a7.tr Z;have b4:=H.size;generalize hold d=hv at*;go_wp2_with (at_builtin;refine jz _ rfl _ _ 54 rfl s.heap.size 59 i0 (.agg #[.int .i64 0,.int .i64 0,.int .i64 0,.bool false]) 4 32 underlying54 hi aw ay af rfl aG _ _ _ rfl (B.alloc _) ⟨w1.heap.size,0,none⟩ 1 1 (fO d.number d.time p.cP hv) rfl rfl ?c1 ?c2 ?c3 ?c4 ?c5 ?_)
   case c1=>exact λj u Y=>JQ w1 _ _ _ _ 59 j u Y
   case c2=>
    intro u hu;simp[fO]at hu;rcases hu with rfl|rfl|rfl|rfl<;>rfl
   case c3=>unfold maxLen;omega
   case c4=>omega
   case c5=>simp;omega
   intro v' w2 L M _;have ai:Below s.heap.size s w2:=(H.al _).grown M (gH H.size aF) λk e=>(B.lt k e).1;go_wp2_with fail
   try go_big_round
   exact⟨⟨i+1,dV,aA,by rw[au.out];exact L,ai⟩,zm⟩
  .obtain rfl:i=n:=by omega
   rw[rD aA]at E;go_wp2_with fail;go_ret;exact⟨_,rfl,by rw[G,ar.out,ah];exact gY E l,by rw[G];exact F.trans (r.mono l)⟩
def B5(w:aC)(node:Nat)(c:jb):Bool:=
 match c.so with
 |some a=>match w.cell? (Ad a.block (a.off+node))with
  |some (.bool b)=>b
  |_=>false
 |none=>false
theorem TR{w node c e}(h:gU w c e)(b:node<e.so.length):∃a so,c.so=some (Ad a so)/\a<w.heap.size/\node<c.sl/\w.cell? (Ad a (so+node))=some (.bool (B5 w node c))/\B5 w node c=e.at (node):=by
 let⟨a,s1,s2,s3⟩:=h.so;let d:=gU.bit s3 b;let f:B5 w node c=e.at (node:Int):=by
  unfold B5;rw[s1];simp only[fE];rw[d]
 exact⟨a,0,s1,s2,by rw[h.sl];exact b,by rw[fE,f];exact d,f⟩
theorem MX(name s){aY w}{R:aE->aC->bQ}(i:Nat)
  (c:Calls prog 96 #[Pt aY,.string name,.string s] w λe a=>e=.returned (.tuple #[Iv (i),.nilIface])/\Calls prog 92 #[Pt aY,Iv (i)] a λe a=>∃v,e=.returned v/\R v a):
  Calls prog 51 #[Pt aY,.string name,.string s] w λe a=>∃v,e=.returned (.tuple #[v,.nilIface])/\R v a:=by
 go_enter func51,ntmps51;go_wp2_with fail;refine c.m λf d=>?_;go_wp2_with fail;apply d.mono;rintro e g ⟨v,rfl,b⟩;replace b:Hid _:=b;go_wp2;go_ret2;exact⟨v,rfl,b.out⟩
theorem Gl(mb name s){aY w}{R:aE->aC->bQ}(d:w.heap[mb]?=some (.cells #[Pt aY] 104 (0,0)))
  (c:Calls prog 51 #[Pt aY,.string name,.string s] w λe a=>∃v,e=.returned (.tuple #[v,.nilIface])/\R v a):
  Calls prog 31 #[Pt mb,.string name,.string s] w λe a=>∃v,e=.returned (.tuple #[v,Iv 0])/\R v a:=by
 let g:=aD (i:=0) d rfl;go_enter func31,ntmps31;go_wp2_with fail;apply c.mono;rintro e b ⟨v,rfl,f⟩;go_wp2_with fail;apply(pE b).m0;go_wp2;go_ret2;exact⟨v,rfl,f⟩
theorem SS(name s){aY w}{R:aE->aC->bQ}(i:Nat)
  (c:Calls prog 91 #[Pt aY,.string name,.string s] w λe a=>e=.returned (.tuple #[Iv (i),.nilIface])/\Calls prog 92 #[Pt aY,Iv (i)] a λe a=>∃v,e=.returned v/\R v a):
  Calls prog 48 #[Pt aY,.string name,.string s] w λe a=>∃v,e=.returned (.tuple #[v,.nilIface])/\R v a:=by
 go_enter func48,ntmps48;go_wp2_with fail;refine c.m λf d=>?_;go_wp2_with fail;apply d.mono;rintro e g ⟨v,rfl,b⟩;replace b:Hid _:=b;go_wp2;go_ret2;exact⟨v,rfl,b.out⟩
theorem Lt(mb name s){aY w}{R:aE->aC->bQ}(d:w.heap[mb]?=some (.cells #[Pt aY] 104 (0,0)))
  (c:Calls prog 48 #[Pt aY,.string name,.string s] w λe a=>∃v,e=.returned (.tuple #[v,.nilIface])/\R v a):
  Calls prog 27 #[Pt mb,.string name,.string s] w λe a=>∃v,e=.returned (.tuple #[v,Iv 0])/\R v a:=by
 let g:=aD (i:=0) d rfl;go_enter func27,ntmps27;go_wp2_with fail;apply c.mono;rintro e b ⟨v,rfl,f⟩;go_wp2_with fail;apply(pE b).m0;go_wp2;go_ret2;exact⟨v,rfl,f⟩
def I64(c:Int):Prop:=-9223372036854775808<=c/\c<=9223372036854775807
def VG(w:aC)(aY:Nat)(b room:Int)(no:aR bC)(bZ:Nat)(K:aB Key)(ea:aR bC)(C D:aB jb)(F:aB Pe)(pa:aR bC)(bS:Nat)(ps:aB nk)(ss:aB lx)(time:Int)(A:aB a_)(j:aC):Prop:=
 ∃(c:jb)(e:aR bC)(d:Nat)(f:aB lx),dJ j aY b room no bZ K e d (D++[c]) (F++[eG F.reverse K (⟨kr C,time,A,[]⟩:Pe).bare]) pa bS ps f/\c.time=time/\c.number=kr C/\aH (Kb aY ea ss) w j/\(∀a,e=some a->(∃h,ea=some h/\h.block=a.block)\/w.heap.size<=a.block)/\
  (∀(i:Nat)(s:lx)(p:nk),ss[i]?=some s->ps[i]?=some p->∃t,f[i]?=some t/\t.cX=s.cX/\t.n=s.n+1/\t.xs=s.xs++fO (kr C) time p.cP ((eG F.reverse K (⟨kr C,time,A,[]⟩:Pe).bare).at (p.node:Int))/\(t.sv.ownBlock=s.sv.ownBlock\/∃g,t.sv.ownBlock=some g/\w.heap.size<=g))/\∀a,c.ao=some a->w.heap.size<=a.block
def uV(aY:Nat)(d room:Int)(no:aR bC)(bZ:Nat)(K:aB Key)(ea:aR bC)(bO:Nat)(C D:aB jb)(F:aB Pe)(pa:aR bC)(bS:Nat)(ps:aB nk)(time:Int)(A:aB a_)(g:aC)(c:jb)(h:Nat)(f:aC):Prop:=
 ∃(e:aE)(j:Nat)(i:aU aE),c.so=some (Ad j 0)/\g.heap.size<=j/\f.heap[j]?=some (.cells i 4 (0,0))/\f.heap[aY]?=some (.cells #[Iv d,Iv room,.slice no K.length bZ,e,.slice pa ps.length bS] 153 (0,0))/\fL f e (D++[c])/\
  gU f c (eG F.reverse K (⟨kr C,time,A,[]⟩:Pe).bare)/\FQ f c/\aH (λb=>b=aY\/(Value.slice ea C.length bO).ownBlock=some b) g f/\(∀b,e.ownBlock=some b->(Value.slice ea C.length bO).ownBlock=some b\/g.heap.size<=b)/\f.heap[h]?=some (.cells #[Iv c.number,Iv c.time,c.av,c.sv] 159 (0,0))/\∀a,c.ao=some a->g.heap.size<=a.block
theorem uV.g_{aY a room no bZ K ea bO C D F pa bS ps time A f c b g}(h:uV aY a room no bZ K ea bO C D F pa bS ps time A f c b g)(e d):uV aY a room no bZ K ea bO C D F pa bS ps time A f c b (re g e d):=by
 let⟨Zm,sb,cur,t1,t2,t3,t4,t5,t6,t7,t8,t9,t10⟩:=h;exact⟨Zm,sb,cur,t1,t2,t3,t4,t5,t6.g_ e d,⟨t7.so,t7.ao⟩,t8.g_ e d,t9,t10⟩
theorem Nn{w aY f room no bZ K ea bO C E pa bS ps ss}(h:dJ w aY f room no bZ K ea bO C E pa bS ps ss)(time ao A cap)
  (ht:0<=time/\time<=1000000000000) (k) (au:nU (time-f) C=k) (hA:eQ w ao A) (b9:A.length<=10) (aw:A.length<=cap) (ag:∀j,j<A.length->(A.getD j ByteArray.empty).size<=1000)
  (b8:C.length+1<=1000) (b1:0<=kr C/\kr C<=1000000000) (ad:∀s∈ss,s.n<30)
  (ak:Hid (∀r d,Calls prog 86 #[Pt aY,Iv time,.slice ao A.length cap] (re w r d) λe w'=>e=.returned .nilIface/\Below (re w r d).heap.size (re w r d) w')):
  cI prog 46 #[Pt aY,Iv time,.slice ao A.length cap] w λe W'=>e=.returned .nilIface/\VG w aY f room no bZ K ea C (C.drop k) (E.drop k) pa bS ps ss time A W':=by
 have hP:=aK;obtain⟨D,z⟩:∃D,D=C.drop k:=⟨_,rfl⟩;obtain⟨F,L⟩:∃F,F=E.drop k:=⟨_,rfl⟩;have a8:D.length=F.length:=by rw[z,L,nZ,nZ,h.len]
 have a7:∀e∈F,e.so.length=K.length+1:=λe V=>h.rows e (by rw[L]at V;exact sN V);rw[<-z,<-L];replace z:Hid _:=z;replace L:Hid _:=L;have W:∀it∈([]:aB Item),cY it:=aF;have ae:∀(c:Code),∀it∈[Item.code c],cY it:=λc=>bP trivial aF;have bc:∀(c d:Code),∀it∈[Item.code c,Item.code d],cY it:=λc d=>bP trivial (bP trivial aF);refine cI.Js func46 rfl λcs B=>?_;simp only[ntmps46,ju,ic,jr,Nat.reduceAdd,Nat.reduceSub,uK,uL,uO,uM,jq,lq];apply aJ.seq hP W B;refine aJ.piece hP (λa' w'=>a'=⟨#[Pt aY,Iv time,.slice ao A.length cap,undef,undef,undef,.nilIface,undef,undef,undef,undef,undef,undef,undef,undef,undef,undef,undef,undef,undef,undef,undef,undef,undef,undef,undef,undef,undef,undef,undef,undef,undef,undef,undef,undef,undef,undef,undef,undef,undef,undef],[]⟩/\∃r d,w'=re w r d) (λa w r d x=>⟨x.1,by obtain⟨_,ba,d',rfl⟩:=x;exact⟨r,d,rfl⟩⟩) (ae _) B (λr d=>?_) ?_
 .go_wp2_with fail;exact⟨r,d,rfl⟩
 rintro a' w' ⟨rfl,r,d,rfl⟩;refine aJ.other ?_ r d;dsimp only;apply aJ.seq hP W B;refine aJ.piece hP (λa' w'=>a'=⟨#[Pt aY,Iv time,.slice ao A.length cap,undef,undef,undef,.nilIface,.nilIface,undef,undef,Pt aY,Iv time,.slice ao A.length cap,.nilIface,.nilIface,.bool false,undef,undef,undef,undef,undef,undef,undef,undef,undef,undef,undef,undef,undef,undef,undef,undef,undef,undef,undef,undef,undef,undef,undef,undef,undef],[]⟩/\aH (λ_=>False) w w') (λa w r d x=>⟨x.1,x.2.g_ r d⟩) (ae _) B (λr d=>?_) ?_
 .go_wp2_with fail;refine(ak.out r d).m λX b5=>?_;go_wp2_with fail;exact(aH.aS b5).Md
 rintro a' X ⟨rfl,Q⟩;dsimp only;have n:=h.move Q (dQ.none _ _);have b2:=hA.move Q;have ah:Hid (∀r d,Calls prog 87 #[Pt aY,Iv time,.slice ao A.length cap] (re X r d) (SK aY f (Iv room) no bZ K ea bO (.slice pa ps.length bS) C D F time A (re X r d))):=λr d=>by
  have M:=n.g_ r d;rw[z.out,L.out];exact take_drop aY f (Iv room) no bZ K ea bO _ C E time ao A cap (re X r d) M.cell M.bH M.len M.ins M.typed M.few ht M.ret k au (λc hc=>by have:=M.Uo c hc;omega) b2 aA aw ag M.Um M.ncp M.nodes M.ld M.core M.ahead M.rows
 apply aJ.seq hP W B;refine aJ.piece hP (λa' G=>∃c O,a'=⟨#[Pt aY,Iv time,.slice ao A.length cap,undef,undef,undef,.nilIface,.nilIface,Pt O,undef,Pt aY,Iv time,.slice ao A.length cap,.nilIface,.nilIface,.bool false,undef,undef,undef,undef,undef,Pt aY,Pt aY,Pt aY,Iv time,.slice ao A.length cap,nG c,undef,undef,undef,undef,undef,undef,undef,undef,undef,undef,undef,undef,undef,undef],[]⟩/\uV aY f room no bZ K ea bO C D F pa bS ps time A X c O G) (λa w r d x=>by obtain⟨c,O,x1,x2⟩:=x;exact⟨c,O,x1,x2.g_ r d⟩) (ae _) B (λr d=>?_) ?_
 .have hc:=ah.out r d;go_wp2_with fail;apply hc.mono;rintro e G ⟨c,ax,sb,af,rfl,t1,t2,t3,t4,t5,t6,t7,R,t9,Y⟩;have aq:uV aY f room no bZ K ea bO C D F pa bS ps time A X c G.heap.size (G.alloc (.cells #[Iv c.number,Iv c.time,.slice c.ao c.al c.ac,.slice c.so c.sl c.sc] 159)):=by
   have P:aH (λ_=>False) G (G.alloc (.cells #[Iv c.number,Iv c.time,.slice c.ao c.al c.ac,.slice c.so c.sl c.sc] 159)):=aH.aS (aV.al _);exact⟨ax,sb,af,t1,t2,P.get t3 λx=>x,P.get t4 λx=>x,t5.move P (dQ.none _ _),t6.move t7 P (dQ.none _ _),t7.move P (dQ.none _ _),(aH.zM R).Md.trans (P.mono λ_ _ x=>x.elim),t9,aQ _ _ _ rfl,Y⟩
  clear t1 t2 t3 t4 t5 t6 t7 R t9 Y;simp only[nG];go_wp2_with fail;refine⟨c,G.heap.size,?_,aq⟩;simp[nG]
 rintro a' G ⟨c,O,rfl,ax,sb,af,t1,t2,t3,t4,t5,t6,t7,R,t9,b0,Y⟩;clear ak ah;dsimp only;apply aJ.seq hP W B;obtain⟨q1,q2,q3,q4,_⟩:=iX F.reverse K (⟨kr C,time,A,[]⟩:Pe).bare;generalize az:eG F.reverse K (⟨kr C,time,A,[]⟩:Pe).bare=pe at*;have T:c.number=kr C:=t6.number.trans q1;have U:c.time=time:=t6.time.trans q2;have b4:pe.so.length=K.length+1:=by rw[q4];simp[Pe.bare];omega
 have J:dQ X (λb=>b=aY\/(Value.slice ea C.length bO).ownBlock=some b) [4,9,226,183,177,59]:=λb cs t m o ht hp=>by
  rcases hp with rfl|hp
  .rw[n.cell]at o;injection o with o;injection o with _ o _;subst o;simp at ht
  .obtain⟨b7,hc⟩:=cE n.bH hp;rw[hc]at o;injection o with o;injection o with _ o _;subst o;simp at ht
 have a6:∀s∈ss,gh G s:=λs hs=>gh.move (n.E8 s hs) R (J.less aF);have Z:=iu.move n.aW R (J.less aF);have an:ZD G c.sv (ps.map λp=>{p with v:=pe.at (p.node:Int)}):=by
  obtain⟨ai,s1,s2,s3⟩:=t6.so;have ay:ai=sb:=by rw[t1]at s1;simp at s1;exact s1.symm
  subst ay;refine⟨ai,0,c.sl,c.sc,af,(0,0),by simp[jb.sv,t1],t3,λp hp=>?_⟩;simp at hp;obtain⟨q,hq,rfl⟩:=hp;have bb:=h.Hr q hq;have aj:q.node<pe.so.length:=aA;refine⟨?_,by rw[t6.sl];exact aj⟩;simp only[fE];simpa[World.cell?,t3]using(gU.bit s3 aj)
 refine aJ.mono (UW (w:=G) aY O pa bS c.number c.time c.av c.sv ss (ps.map λp=>{p with v:=pe.at (p.node:Int)}) (LK _ Z) an (λs hs=>by have:=ad s hs;omega) (by have:=h.wm;simp;omega) (by simp[h.na]) (λi s p I H=>by simp at H;obtain⟨q,hq,rfl⟩:=H;exact h.zS i s q I hq) a6 h.apart _ _ _ _ _ _ _ _ _ _ _ _ _ _ _ _ _ _ _ _ _ _ _ _ _ _ _ _ _ _ cs B _ _ _ _ _ _ _ _ _ _ _ _ _ (by rw[uP];exact t4) b0) ?_;rintro g' W' ⟨e,fr,r1,r2,⟨rfl,p1,p2,p3,p4,S,b3,p5,p6⟩,r4,r5⟩;refine⟨_,fr,r1,r2,⟨rfl,?_⟩,r4,r5⟩;subst az;have l:aH (Ms ss) G W':=⟨p1,p2,p3,p4⟩;have y:dQ G (Ms ss) [4,9,226,183,159,153]:=λb cs t m o ht=>by
  refine Ms.not a6 o ?_ ?_<;>(rintro rfl;simp at ht)
 obtain⟨b6,aa,rfl,f1,f2,f3⟩:=t5.form;have ar:∀(i:Nat) N e,D[i]?=some N->F[i]?=some e->gU G N e:=λi N e I H=>(n.ins (k+i) N e (by rw[<-uN,<-z.out];exact I) (by rw[<-uN,<-L.out];exact H)).move (n.typed N (sN (z.out▸iF I))) R (J.less aF);have a1:∀N∈D,FQ G N:=λN u=>(n.typed N (sN (z.out▸u))).move R (J.less aF);have nz:=h.na;refine⟨c,b6,aa,b3,?_,U,T,?_,?_,?_,λa ha=>gH Q.size (Y a ha)⟩
 .refine⟨l.get t4 (y _ _ _ _ t4 aF),t5.move l (y.less aF),by simp[a8],λi N e I H=>?_,λN u=>?_,by simpa using(by rw[z,nZ];omega),h.ret,λN u=>?_,h.Um,h.ncp,(n.nodes.move n.ld R (J.less aF)).move (typed.move n.ld R (J.less aF)) l (y.less aF),typed.move (typed.move n.ld R (J.less aF)) l (y.less aF),h.core,h.ahead,λe V=>?_,iu.move Z l (y.less aF),h.wm,h.pcp,by rw[p6.len];exact h.na,λi s p I H=>?_,p6.ok,p6.apart,h.Hr⟩
  .obtain hi|hi:=BI i D.length
   .rw[uw hi]at I;rw[uw (by rw[<-a8];exact hi)]at H;exact(ar i N e I H).move (a1 N (iF I)) l (y.less aF)
   .have Z3:i=D.length:=by have:=(eY.1 I).1;simp at this;omega
    subst Z3;rw[a8]at H;simp at I H;subst I;subst H;exact t6.move t7 l (y.less aF)
  .obtain u|u:=jc.1 u
   .exact(a1 N u).move l (y.less aF)
   .simp at u;subst u;exact t7.move l (y.less aF)
  .simp at u;subst u;rw[T];exact b1
  .rcases jc.1 V with V|V
   .exact a7 e V
   .simp at V;subst V;exact b4
  .have hi:i<ss.length:=by rw[<-p6.len];exact(eY.1 I).1
   obtain⟨t,k1,k2,_⟩:=p6.done i ss[i] _ (by simp;rw[<-h.na];exact hi) (fH hi) (by rw[lj,H];rfl);rw[I]at k1;cases k1;rw[k2];exact h.zS i ss[i] p (fH hi) H
 .have s1:aH (Kb aY ea ss) w X:=Q.mono λ_ _ x=>x.elim;have s2:aH (Kb aY ea ss) X G:=R.mono λb _ o=>by
   rcases o with o|o
   .exact .inl o
   .cases ea with
    |none=>cases o
    |some a=>exact .inr (.inl ⟨a,rfl,by cases o;rfl⟩)
  exact(s1.trans s2).trans (l.mono λ_ _ x=>.inr (.inr x))
 .intro a ha;subst ha;rcases t9 a.block rfl with o|o
  .cases ea with
   |none=>cases o
   |some a0=>exact .inl ⟨a0,rfl,by simpa[Value.ownBlock]using o⟩
  .exact .inr (by have:=Q.size;omega)
 .intro i s p I H;have⟨t,k1,k2,k3,k4,k5⟩:=p6.done i s {p with v:=(eG F.reverse K (⟨kr C,time,A,[]⟩:Pe).bare).at (p.node:Int)} (by simp;exact(eY.1 H).1) I (by rw[lj,H];rfl);refine⟨t,k1,k2,k3,?_,k5.imp id λ⟨g,g1,g2⟩=>⟨g,g1,by have:=p5 g g2;have:=R.size;have:=Q.size;omega⟩⟩;rw[k4,T,U]
theorem pJ{y}(d:Good y):bE (eD y)<=bE y:=by
 cases y with
 |nil=>exact d.elim
 |node b o a l r=>
  let i:=eM (.inl d);let h:0<=a.hi:=by rcases d with⟨_,_,c,g,_⟩|⟨_,_,c,g,_⟩|⟨_,_,c,_⟩|⟨_,_,c,_⟩<;>omega
  show bE (if a.op=172 then l else mk 172 ByteArray.empty 0 0 (BT.node b o a l r) .nil)<=_;by_cases f:a.op=172
  .rw[bY f,qq];omega
  .rw[bN f];let e:bE (mk 172 ByteArray.empty 0 0 (BT.node b o a l r) .nil)=0+max (bE (BT.node b o a l r)) 0:=rfl;rw[e];omega
theorem qp:∀{x:BT dD},Good x->bE (aO x)<=bE x
 |.nil,h=>h.elim
 |.node b o a l r,h=>by
  obtain⟨c,_,_,_,rfl,rfl⟩|⟨c,_,_,_,rfl,rfl⟩|⟨c,p,m,s,f,n⟩|⟨c,p,m,s,f,j⟩:=h
  .unfold aO;rw[bY (.inl c)];exact Int.le_refl _
  .unfold aO;rw[bY (.inr c)];exact Int.le_refl _
  .let q:=qp f
   let v:=qp n
   let d:=dK f
   let g:=dK n
   rw[qq]
   obtain c|c|c:=c
   .let e:aO (.node b o a l r)=mk a.op ByteArray.empty a.lo a.hi (aO l) (aO r):=by simp[aO,c]
    rw[e]
    show a.hi+max (bE (aO l)) (bE (aO r))<=_
    omega
   .let e:aO (.node b o a l r)=eD (mk 8743 ByteArray.empty 0 0 (eD (aO l)) (eD (aO r))):=by simp[aO,c]
    let i:Good (mk 8743 ByteArray.empty 0 0 (eD (aO l)) (eD (aO r))):=.inr (.inr (.inl ⟨.inl rfl,rfl,⟨aG,aG,aG⟩,aF,iA d,iA g⟩))
    let u:=pJ i
    let k:=pJ d
    let w:=pJ g
    let t:bE (mk 8743 ByteArray.empty 0 0 (eD (aO l)) (eD (aO r)))=0+max (bE (eD (aO l))) (bE (eD (aO r))):=rfl
    rw[e];omega
   .let e:aO (.node b o a l r)=mk a.op ByteArray.empty a.lo a.hi (aO l) (aO r):=by simp[aO,c]
    rw[e]
    show a.hi+max (bE (aO l)) (bE (aO r))<=_
    omega
  .let q:=qp f
   let d:=dK f
   rw[qq]
   obtain c|c|c|c:=c
   .let e:aO (.node b o a l r)=eD (aO l):=by simp[aO,c]
    let k:=pJ d
    rw[e];omega
   .let e:aO (.node b o a l r)=mk a.op ByteArray.empty a.lo a.hi (aO l) .nil:=by simp[aO,c]
    rw[e]
    show a.hi+max (bE (aO l)) 0<=_
    subst j
    have:bE (.nil:BT dD)=0:=rfl
    omega
   .let e:aO (.node b o a l r)=mk a.op ByteArray.empty a.lo a.hi (aO l) .nil:=by simp[aO,c]
    rw[e]
    show a.hi+max (bE (aO l)) 0<=_
    subst j
    have:bE (.nil:BT dD)=0:=rfl
    omega
   .let e:aO (.node b o a l r)=eD (mk 79 ByteArray.empty a.lo a.hi (eD (aO l)) .nil):=by simp[aO,c]
    let i:Good (mk 79 ByteArray.empty a.lo a.hi (eD (aO l)) .nil):=.inr (.inr (.inr ⟨aF,rfl,m,λh=>absurd (show mi 79=false from h) aG,iA d,rfl⟩))
    let u:=pJ i
    let k:=pJ d
    let t:bE (mk 79 ByteArray.empty a.lo a.hi (eD (aO l)) .nil)=a.hi+max (bE (eD (aO l))) 0:=rfl
    rw[e]
    subst j
    have:bE (.nil:BT dD)=0:=rfl
    omega
theorem yO(t n)(h:t.size=n):t=((List.range n).map λj=>t.getD j undef).toArray:=by
 apply Array.ext
 .simp[h]
 .intro i b a;simp at a;simp[b]
theorem Ah(name){aY a room no bZ K ea bO C E pa bS ps ss w}(h:dJ w aY a room no bZ K ea bO C E pa bS ps ss)(d:eV ps)(i)(hi:dW name ps=i)(b:eW name ps=true)(s)(q:ss[i]?=some s):
  Calls prog 93 #[Pt aY,.string name] w λe t=>e=.returned (.tuple #[Pt s.cX,.nilIface])/\Bl w t:=by
 have o:=h.wm;have g:=mT aY (Iv a) (Iv room) _ _ pa bS ps name w h.cell h.aW d aA;rw[hi,b]at g;have⟨p,hp,_⟩:=(uq name ps).1 b;rw[hi]at hp;have l:=(eY.1 hp).1;obtain⟨_,e,_⟩|⟨pb,f,v,m,rfl,j,r⟩:=h.aW
 .subst e;simp at hp
 have⟨_,_,_,_,a4⟩:=r i p hp;rw[(h.zS i s p q hp)]at a4;have u:Hid (∀W,Bl w W->W.cell? (Ad aY 4)=some (.slice (some (Ad pb f)) ps.length bS)/\W.cell? (Ad pb (f+i*5+4))=some (Pt s.cX)):=λW c=>⟨aD (c.aT h.cell) rfl,aD (c.aT j) a4⟩;generalize ps.length=n at*;go_enter func93,ntmps93;go_wp2_with fail;refine g.m λk c=>?_;have⟨c4,y4⟩:=u.out k c;go_wp2;go_ret2;exact⟨rfl,c⟩
theorem Fj(name aY s w)(B:Calls prog 93 #[Pt aY,.string name] w λe d=>e=.returned (.tuple #[Pt s.cX,.nilIface])/\Bl w d)(h:gh w s)(q:s.n<=1000000)(z:∀u∈s.xs,u.oneCell'=true):
  Calls prog 49 #[Pt aY,.string name] w λe d=>∃v,e=.returned (.tuple #[v,.nilIface])/\d.ownsRow w.heap.size 59 4 v s.n s.xs/\Bl w d:=by
 have p:=hid h;have⟨cX,sv,n,xs⟩:=s;simp only at*;go_enter func49,ntmps49;go_wp2_with fail;refine B.m λl c=>?_;have a:l.ownsRow 0 59 4 sv n xs:=eF p.out.2 (λk t=>c.block k (p.out.2.lt k t).2);have b:=a;have D:=aD (i:=0) (c.aT p.out.1) rfl;obtain⟨f,⟨rfl,y⟩|⟨g,cap,r,rfl,_⟩⟩:=a
 .go_wp2_with fail;apply(I2 0 0 l).mono;rintro e C ⟨rfl,rfl⟩;go_wp2;go_ret2;refine⟨_,rfl,?_,c⟩;rw[y]at f⊢;simp at f;subst f;exact fI _ _ _ _
 .have m:=F7 g 0 n cap xs l f q (λj u A=>by rw[fE];exact d_ b rfl A) z;go_wp2_with fail;apply m.mono;rintro e C ⟨v,rfl,x,o⟩;go_wp2;go_ret2;exact⟨_,rfl,gY x c.size,c.tr o⟩
theorem Gk(mb name){aY a room no bZ K ea bO C E pa bS ps ss w}(c:w.heap[mb]?=some (.cells #[Pt aY] 104 (0,0)))(h:dJ w aY a room no bZ K ea bO C E pa bS ps ss)(d:eV ps)(i)(hi:dW name ps=i)(b:eW name ps=true)(s)(f:ss[i]?=some s)(l:s.n<=1000000)(m:∀u∈s.xs,u.oneCell'=true):
  Calls prog 28 #[Pt mb,.string name] w λe g=>∃v,e=.returned (.tuple #[v,Iv 0])/\g.ownsRow w.heap.size 59 4 v s.n s.xs/\Bl w g:=by
 let o:=aD (i:=0) c rfl;go_enter func28,ntmps28;go_wp2_with fail;apply(Fj name aY s w (Ah name h d i hi b s f) (h.E8 s (iF f)) l m).mono;rintro e j ⟨v,rfl,k,n⟩;go_wp2_with fail;apply(pE j).m0;go_wp2;go_ret2;exact⟨v,rfl,k,n⟩
theorem Uy(aY n a ev b no)(m bZ:Nat)(w)(h:w.heap[aY]?=some (.cells #[n,a,.slice no m bZ,ev,b] 153 (0,0))):Calls prog 95 #[Pt aY] w λe c=>e=.returned (Iv (m))/\c=w:=by
 let c2:w.cell? (Ad aY 2)=some (.slice no m bZ):=aD h rfl;go_enter func95,ntmps95;go_wp2;go_ret;exact⟨rfl,rfl⟩
theorem Sa(aY n a ev b no)(m bZ:Nat)(w)(h:w.heap[aY]?=some (.cells #[n,a,.slice no m bZ,ev,b] 153 (0,0))):Calls prog 50 #[Pt aY] w λe c=>e=.returned (Iv (m))/\c=w:=by
 go_enter func50,ntmps50;go_wp2_with fail;apply(Uy aY n a ev b no m bZ w h).m0;go_wp2;go_ret;exact⟨rfl,rfl⟩
theorem WH(mb aY n a ev b no)(m bZ:Nat)(w)(c:w.heap[mb]?=some (.cells #[Pt aY] 104 (0,0)))(h:w.heap[aY]?=some (.cells #[n,a,.slice no m bZ,ev,b] 153 (0,0))):Calls prog 30 #[Pt mb] w λe d=>e=.returned (Iv (m))/\d=w:=by
 let f:w.cell? (Ad mb 0)=some (Pt aY):=aD c rfl;go_enter func30,ntmps30;go_wp2_with fail;apply(Sa aY n a ev b no m bZ w h).m0;go_wp2;go_ret;exact⟨rfl,rfl⟩
end Ev
end Go.Proofs.YtpbbmagjhkakgaaGreatDoor
