import Derived.Test.YtpbbmagjhkakgaaGreatDoorE6
namespace Go.Proofs.YtpbbmagjhkakgaaGreatDoor
set_option maxHeartbeats 8000000
set_option maxRecDepth 100000
namespace Ev
open Go.Proofs.Tryz Go.RowKit Go.Deep Go.Maps Lf Go.Conc
section
variable{wb n m m' i:Nat}{T:Nat->Nat}{Ms:aB Mo}{E:aB mK}{w0 w w':aC}{x:Mo}
theorem wR{L:aB a_}{lv:aE}(h:kj w0.heap.size w0 L lv)(f:aH (λb=>w0.heap.size<=b) w0 w):kj w0.heap.size w L lv:=by
 obtain h|⟨d,e,cap,i,c,g⟩:=h
 .exact .inl h
 .exact .inr ⟨d,e,cap,i,c,λj k=>(fP (a:=(Ad d (e+j))) (f.block d c (sI.2 c))).trans (g j k)⟩
theorem mC{B:Nat}{L:aB a_}{lv:aE}(h:kj B w L lv):∃p c,lv=.slice p L.length c/\(p=none->c=0)/\∀j,j<L.length->∃b g,p=some (Ad b g)/\b<B/\w.cell? (Ad b (g+j))=some (.string (L.getD j ByteArray.empty)):=by
 obtain⟨⟨p,c,d,a⟩,rfl⟩|⟨k,l,cap,d,a,i⟩:=h
 .exact⟨p,c,d,a,λj f=>absurd f (Ao _)⟩
 .exact⟨_,_,d,(λe=>nomatch e),λj f=>⟨k,l,rfl,a,i j f⟩⟩
theorem cH.back(h:cH w0 wb T Ms n E m w)(x:n<=200000000000)(g cap a:Nat)(L:aB a_)(d:aR bC)(c:L.length<=100000000)(o:w.ownsRow 0 9 1 (Sl g (L.length+2) cap) (L.length+2) (cJ (L++[dG,dG])))(s:T g=0)(k:w0.heap.size<=g)(f:∀e∈E,e.gv.ownBlock≠some g/\e.tv.ownBlock≠some g)
  (hL:kj w0.heap.size w L (.slice d L.length a)):Calls prog 63 #[Pt wb,Sl g (L.length+2) cap,.slice d L.length a] w (pT w0 wb n m Ms):=by
 let⟨P,lN,kv,hX,hP,hO⟩:=h.fresh o aG λb l=>by cases l;exact⟨s,k,f⟩
 let p:=h.mR.1;refine(Q2 hX aA aA g cap a L d c o (hP g rfl) λj u=>?_).mono ?_
 .let⟨_,_,e,_,h3⟩:=mC hL;cases e;let⟨kb,ko,e1,e2,e3⟩:=h3 j u;have:=h.base.size;exact⟨kb,ko,e1,aA,λv=>by have:=(hO kb (.inl v)).1.2;omega,aA,e3⟩
 .rintro e w' ⟨rfl,y,i,q,t⟩;let⟨T',h'⟩:=h.lists (hX.mono λ_=>.inl) t (λb l=>hO b (l.imp id λe=>by rw[e];rfl)) q ⟨bI,λe r=>(jc.1 r).imp id (i.2 e)⟩;exact⟨rfl,T',_,_,aZ,h'⟩
theorem N0(h:cH w0 wb T Ms n E m w)(hg:dP w0)(H:cZ w0)(h7:14<=w0.heap.size)(X:n<=200000000000)(k a nn mm:Int)(Y:k=1\/k=2\/k=3)(s t:a_)(U:s.size<=2000000)(L:aB a_)(lv:aE)(hL:kj w0.heap.size w0 L lv)(M:L.length<=1100000)(x:∀j,j<L.length->(L.getD j ByteArray.empty).size<=2000000):
  Calls prog 54 #[Pt wb,fV k a nn mm s t lv] w (pT w0 wb n m Ms):=by
 have q:=h.base.size;have i:=h.KY hg h7;have d:=h.B0 H;have S:Hid (∀W,Bl w W->pT w0 wb n m Ms (.returned (.bool true)) W):=λW b=>⟨rfl,T,n,E,qA n,h.still (aH.aS b)⟩;obtain rfl|rfl|rfl:=Y
 .refine(LP wb a nn mm s t lv w i d aA U).m λw' b=>?_;exact S.out w' b
 .refine(LQ wb a nn mm s t lv w i d aA U).m λw' b=>?_;exact S.out w' b
 obtain⟨p,o,rfl,_⟩:=mC hL;unfold fV;have A:=(cD w.heap.size w).al (.cells #[Iv 3,Iv a,Iv nn,Iv mm,.string s,.string t,.slice p L.length o] 73 (0,0));have K:=hid λW (b:Bl w W)=>(wR hL h.base).below (b.mono q);have HB:Hid (∀(W:aC)(g cap:Nat),Bl w W->W.ownsRow w.heap.size 9 1 (Sl g (L.length+2) cap) (L.length+2) (cJ (L++[dG,dG]))->Calls prog 63 #[Pt wb,Sl g (L.length+2) cap,.slice p L.length o] W (pT w0 wb n m Ms)):=λW g cap b R=>by
  have V:=R.lt g rfl;refine(h.still (aH.aS b)).back X g cap o L p aA (R.mono cC) (GB λD=>?_) aA (λe Q=>⟨λb=>?_,λb=>?_⟩) (K.out W b)
  .have:=h.dom g D;omega
  .have:=h.BQ e Q g (.inl b);omega
  .have:=h.BQ e Q g (.inr b);omega
 go_enter func54,ntmps54;go_wp2_with fail;apply(Hb w0.heap.size L _ _ (K.out _ A) (gH q A.size) M).mono;rintro e C ⟨N,v,rfl,c⟩;obtain⟨g,cap,rfl,a6,G,Z,a1⟩:=fS c aA;have f:=A.tr N;have r:=N.aT (aQ w (.cells #[Iv 3,Iv a,Iv nn,Iv mm,.string s,.string t,.slice p L.length o] 73 (0,0)) _ rfl);have c6:C.cell? (Ad w.heap.size 6)=some (.slice p L.length o):=aD r rfl;have hc:∀j,j<L.length->C.cell? (Ad g (0+j))=some (.string (L.getD j ByteArray.empty)):=λj y=>by
  rw[fE,c.cellAt j aA];unfold cJ;rw[lj,uw y,fH y];simp[List.getD,y]
 have I:(L.length:Int)<=(cap:Int):=aA;generalize u:jO [] L=res at*;go_wp2_with fail;refine(Hj L g 0 cap C (i.below f) (d.keep f.block) (by have:=f.size;omega) aA G hc λj y=>gH (x j y) eP).m λJ z=>?_;have l:=f.tr z;have c6':J.cell? (Ad w.heap.size 6)=some (.slice p L.length o):=aD (z.aT r) rfl;have O:=LY w0.heap.size L _ J (K.out J l) (gH q l.size) M x;rw[u]at O;go_wp2_with fail;refine O.m λP F=>?_;have abf:P.cell? (Ad w.heap.size 6)=some (.slice p L.length o):=aD (F.aT (z.aT r)) rfl;go_wp2_with fail;apply(HB.out P g cap (l.tr F) ((fQ (fQ c z) F).mono A.size)).mono;intro e w4 B;obtain rfl:e=.returned (.bool true):=B.1;replace B:Hid (pT w0 wb n m Ms (.returned (.bool true)) w4):=B;go_wp2_with fail;refine(wV res.2 _).m λw5 e5=>?_;obtain rfl:=e5.symm;go_wp2;go_ret;exact B.out
end
section
variable{O:Nat->Prop}{S:f_}{mb n:Nat}{w:aC}{l:PL}
theorem Ys(a:dP w)(b:Tape)(d:Nat):dP (re w b d):=⟨⟨a.conv.syn,a.conv.rng⟩,a.ns,a.et,a.tab⟩
theorem Ty(h:cZ w)(a:Tape)(d:Nat):cZ (re w a d):=h.keep λ_ _=>rfl
theorem dN.g_(h:dN O S mb l w)(a:Tape)(d:Nat):dN O S mb l (re w a d):=
 {h with watch:=h.watch.g_ a d,jy:=⟨h.jy.len,λj p x c b=>gF (w:=w) (w':=re w a d) (λ_ _ e=>e) (h.jy.each j p x c b),h.jy.fine⟩}
theorem lR.g_(h:lR O S mb w)(a:Tape)(d:Nat):lR O S mb (re w a d):=by
 obtain⟨l,h⟩:=h;exact⟨l,h.g_ a d⟩
theorem dN.times(h:dN O S mb l w):Ke S l.C:=h.ry.times h.watch.len h.watch.ins
theorem dN.ZI(h:dN O S mb l w)(a:S.OK n):l.C.length=S.bH.length-S.off:=by rw[h.watch.len,h.ry.len a]
theorem dN.last(h:dN O S mb l w)(c:S.OK n):l.C.getLast?.map (·.time)=S.bH.getLast?.map (·.1):=by
 let a:=oB List.getLast? h.times;rw[List.getLast?_map,List.getLast?_map,List.getLast?_drop]at a;rw[a];rcases c.last with b|⟨b,d⟩
 .rw[bN aA]
 .rw[b];simp
theorem dN.late(h:dN O S mb l w)(d:S.OK n)(t:Int):B8 l.C t=om S t:=by
 have:=h.last d;unfold B8 om;cases b:l.C.getLast? with
 |none=>
  rw[b]at this;cases a:S.bH.getLast? with
  |none=>rfl
  |some e=>rw[a]at this;cases this
 |some c=>
  rw[b]at this;cases a:S.bH.getLast? with
  |none=>rw[a]at this;cases this
  |some e=>
   rw[a]at this;simp only[Iu,GD]at this;simp only[this]
theorem dN.old(h:dN O S mb l w)(t:Int):sq S t=S.off+nU (t-S.ret) l.C:=by
 unfold sq;rw[Dm,N4,h.times]
theorem dN.check(h:dN O S mb l w)(a:S.OK n)(t:Int)(A:aB a_):IZ S.ret S.room l.C (l.us.map λu=>u.str.length) t A=eJ S t A:=by
 unfold IZ eJ;let f:=h.ZI a;let e:=tX (t-S.ret) l.C;let d:=a.Jt;let b:(l.us.map λu=>u.str.length).any (λn=>decide (30<=n))=S.aW.any (λp=>decide (30<=p.str.length)):=by
  rw[List.any_map];exact h.perm.any_eq
 rw[h.late a,b,h.old t];let c:S.room<(l.C.length:Int)-(nU (t-S.ret) l.C:Nat)+1↔S.room<(S.bH.length:Int)+1-((S.off+nU (t-S.ret) l.C:Nat):Int):=aA;simp only[c]
theorem dN.roomy(h:dN O S mb l w):∀(i:Nat)(p:nk),l.ps[i]?=some p->∃cX o c,p.fY=some (Ad cX 0)/\w.heap[cX]?=some (.cells #[.slice o ((l.us.map λu=>u.str.length).getD i 0) c] 177 (0,0)):=λi p d=>by
 let hi:=(eY.1 d).1
 let f:l.us[i]?=some (l.us[i]'(h.aW.len▸hi)):=fH _
 let b:l.ss[i]?=some (l.ss[i]'(h.watch.na▸hi)):=fH _
 obtain⟨_,_,g,_⟩:=h.aW.each i _ p _ f d b
 let a:=h.watch.E8 _ (iF b)
 obtain⟨o,c,e,_⟩:=bT a.2
 refine⟨_,o,c,h.watch.zS i _ p b d,?_⟩
 rw[qB,lj,f,Iu,fD,<-g,<-e]
 exact a.1
theorem Uz(h:dN O S mb l w)(m:S.OK n)(c:cZ w)(t:Int)(ao:aR bC)(A:aB a_)(a:Nat)(j:eQ w ao A)(b:A.length<=a)(i:A.length<=1000000000)(d:∀s∈A,s.size<=maxLen):
  Calls prog 86 #[Pt l.aY,Iv t,.slice ao A.length a] w λe k=>VE w k e (eJ S t A):=by
 let g:=h.watch.wm;let f:=h.watch.few;have:=DW l.aY S.ret S.room _ _ l.pa l.bS l.ps l.C (l.us.map λu=>u.str.length) t ao A a w h.watch.cell h.watch.bH aA h.watch.ret j i d b h.watch.aW aA h.watch.pcp (by rw[uP,h.aW.len]) h.roomy c
 rwa[h.check m]at this
theorem Ob(h:dN O S mb l w)(u:S.OK n)(y:dP w)(d:cZ w)(t:Int)(ao:aR bC)(A:aB a_)(b:Nat)(B:eQ w ao A)(r:A.length<=b)(D:A.length<=1000000000)(m:∀s∈A,s.size<=maxLen)(k:eJ S t A≠0):
  Calls prog 24 #[Pt mb,Iv t,.slice ao A.length b] w λe j=>e=.returned (Iv (eJ S t A))/\Bl w j:=by
 have x:=Uz h u d t ao A b B r D m;generalize eJ S t A=z at*;have H:=aD (i:=0) h.vU rfl;have F:Hid (∀W T q,Bl w W->lQ W (.iface T q) z->Calls prog 40 #[.iface T q] W λe j=>e=.returned (Iv z)/\Bl W j):=λW T q g c=>j' _ z W (y.below g) (d.keep g.block) c;generalize l.aY=aY at*;clear h u y d B m;generalize A.length=al at*;have E:Calls prog 46 #[Pt aY,Iv t,.slice ao al b] w λe j=>∃T q,e=.returned (.iface T q)/\lQ j (.iface T q) z/\Bl w j:=by
  have k:Hid (z≠0):=k;go_enter func46,ntmps46;go_wp2_with fail;apply x.mono;rintro e o ⟨g,⟨h,_⟩|⟨_,T,q,rfl,c⟩⟩
  .exact absurd h k.out
  replace c:Hid _:=c;go_wp2_with fail;go_ret;obtain⟨L,a,G,C⟩:=lQ.down (w:=o) (v:=.iface T q) (n:=z) ((cD _ o).al (.cells #[Iv t,.iface T q] 156 (0,0))) c.out;exact⟨_,_,rfl,⟨L,a,Dn (f:=260) aF (aQ _ _ _ rfl) G,C⟩,g.al _⟩
 clear x;go_enter func24,ntmps24;go_wp2_with fail;apply E.mono;rintro e o ⟨T,q,rfl,c,g⟩;have k:=F.out o T q g c;clear c;go_wp2_with fail;refine k.m λI p=>?_;go_wp2_with fail;go_ret;exact⟨rfl,g.tr p⟩
theorem Np{t:Int}{A:aB a_}(a:eJ S t A=0):(0<=t/\t<=1000000000000/\om S t=false)/\fu A=true/\(∀p∈S.aW,p.str.length<30)/\(S.bH.length:Int)+1-sq S t<=S.room:=by
 unfold eJ at a;split at a
 .cases a
 rename_i f;split at a
 .cases a
 rename_i c;split at a
 .cases a
 rename_i b;split at a
 .cases a
 rename_i g;refine⟨⟨aA,aA,?_⟩,by simpa using c,λp d=>?_,aA⟩
 .cases e:om S t with
  |false=>rfl
  |true=>exact absurd (.inr (.inr e)) f
 .simp only[Ap,pz,not_exists,not_and]at b;have:=b p d;omega
theorem ER(h:dN O S mb l w)(o:S.OK n)(hn:n<1000000000)(W:dP w)(a8:cZ w)(t:Int)(ao:aR bC)(A:aB a_)(i:Nat)(hA:eQ w ao A)(N:A.length<=i)(hl:A.length<=1000000000)(ad:∀s∈A,s.size<=maxLen):
  cI prog 24 #[Pt mb,Iv t,.slice ao A.length i] w λe w'=>e=.returned (Iv (eJ S t A))/\lR (λb=>O b\/w.heap.size<=b) (jf S t A) mb w'/\aH O w w':=by
 by_cases J:eJ S t A=0
 case neg=>
  let P:jf S t A=S:=by unfold jf;rw[bN J]
  rw[P];refine cI.EL aK (λe w r d x=>⟨x.1,x.2.1.g_ r d,x.2.2.g_ r d⟩) (λw x=>by cases x.1) λr d=>?_;refine(Ob (h.g_ r d) o (Ys W r d) (Ty a8 r d) t ao A i hA N hl ad J).mono λe w' ⟨F,B⟩=>⟨F,?_⟩;have:=(h.g_ r d).below B;exact⟨this.1,this.2.Md⟩
 obtain⟨⟨t1,t2,t3⟩,X,f1,r1⟩:=Np J;let P:jf S t A=S.take t A:=by unfold jf;rw[bY J]
 rw[J,P];obtain⟨k,R⟩:∃k,nU (t-S.ret) l.C=k:=⟨_,rfl⟩;let ax:k<=l.C.length:=R▸tX _ _;let U:=h.ZI o;let ay:=o.Jt;let au:=o.many;let ar:=o.room;let aw:=o.kept;rw[h.old t,R]at r1;let V:A.length<=10/\(∀s∈A,ja s=true)/\A.Nodup:=by
  unfold fu at X;simp only[sP,pz,yE]at X;exact⟨X.1.1,X.1.2,X.2⟩
 let L:kr l.C=(S.bH.length:Int)+1:=by
  unfold kr;cases hc:l.C.getLast? with
  |none=>
   let Q:l.C=[]:=List.getLast?_eq_none_iff.1 hc;rcases o.last with F|⟨F,_⟩
   .rw[Q]at U;simp at U;omega
   .rw[F];rfl
  |some c=>
   rw[Sm]at hc;let f:=(eY.1 hc).1;have:=h.ry.num _ c hc;show c.number+1=_;rw[this];omega
 let af:=Nn h.watch t ao A i ⟨t1,t2⟩ k R hA V.1 N (λj E=>by have:=(wS (V.2.1 (A.getD j ByteArray.empty) (by rw[qB,fH E];exact xu _))).high;omega) (by have:=o.room;omega) (by rw[L];omega) (λs P=>by
   obtain⟨j,E⟩:=Aw.1 P;let f:=(eY.1 E).1;let b1:l.us[j]?=some (l.us[j]'(h.E7▸f)):=fH _;let b2:l.ps[j]?=some (l.ps[j]'(h.watch.na▸f)):=fH _;rw[(h.aW.each j _ _ s b1 b2 E).2.2.1];exact f1 _ (h.perm.mem_iff.1 (iF b1))) λr d=>(Uz (h.g_ r d) o (Ty a8 r d) t ao A i hA N hl ad).mono λe w' ⟨C,c⟩=>⟨c.elim (·.2) λx=>absurd J x.1,C⟩
 refine Ul h.vU (D:=λW'=>lR (λb=>O b\/w.heap.size<=b) (S.take t A) mb W'/\aH O w W') (λw r d x=>⟨x.1.g_ r d,x.2.g_ r d⟩) (af.mono ?_);rintro e W' ⟨rfl,c,ak,M,ah,k1,k2,k3,k4,k5,k6,k7⟩;refine⟨rfl,?_⟩;let Z:∀b,Kb l.aY l.ea l.ss b->O b:=by
  rintro b (rfl|⟨a,z,rfl⟩|⟨s',aa,z|z⟩)
  .exact h.own.wt
  .exact h.own.ev a z
  .rw[z];exact(h.own.st s' aa).1
  .exact(h.own.st s' aa).2 b z
 let y:dQ w (Kb l.aY l.ea l.ss) [104,143]:=λb cs t m C ht hO=>by
  rcases hO with e|⟨a,z,T⟩|hM
  .subst e;rw[h.watch.cell]at C;cases C;simp at ht
  .let an:(Value.slice l.ea l.C.length l.bO).ownBlock=some b:=by rw[z];rw[<-T];rfl
   obtain⟨cs,aj⟩:=cE h.watch.bH an;rw[aj]at C;cases C;simp at ht
  .obtain⟨cs,t',ai,e|e⟩:=Ms.tag h.watch.E8 hM<;>rw[ai]at C<;>cases C<;>subst e<;>simp at ht
 let ae:aH O w W':=k4.mono λb _ C=>Z b C;let H:=h.ry.take o h.watch.len h.times (A:=A) (num:=kr l.C) (c:=c) (by rw[k3,L]) R;refine⟨⟨⟨l.aY,l.no,l.bZ,ak,M,l.C.drop k++[c],l.E.drop k++[eG (l.E.drop k).reverse l.K (⟨kr l.C,t,A,[]⟩:Pe).bare],l.pa,l.bS,l.ps,ah,l.us.map λu=>{u with str:=u.str++[R8 u.x u.cP (S.bH++[(t,A)]) S.bH.length]}⟩,?_⟩,ae⟩;let v:(l.us.map λu=>{u with str:=u.str++[R8 u.x u.cP (S.bH++[(t,A)]) S.bH.length]}).map (·.x)=l.xs:=by rw[CM];rfl
 refine{watch:=?_,ry:=?_,perm:=h.perm.map _,sorted:=h.sorted,aW:=?_,jy:=?_,node:=?_,own:=?_,vU:=?_}
 .simp only[PL.K,PL.xs];rw[v];exact k1
 .simp only[PL.K,PL.xs];rw[v];exact H
 .refine⟨by rw[uP];exact h.aW.len,λj u p s F B h3=>?_⟩;rw[lj]at F;obtain⟨u0,Q,rfl⟩:=nA.1 F;let f:=(eY.1 Q).1;let b3:l.ss[j]?=some (l.ss[j]'(h.E7▸f)):=fH _;obtain⟨p1,p2,p3,p4⟩:=h.aW.each j u0 p _ Q B b3;obtain⟨s',q0,q1,q2,q3,_⟩:=k6 j _ p b3 B;rw[h3]at q0;cases q0;refine⟨p1,p2,by rw[q2,p3];simp,?_⟩;let Y:=(o.each u0 (h.perm.mem_iff.1 (iF Q)));let ag:iY l.xs j=u0.x:=by unfold iY PL.xs;rw[qB,lj,Q];rfl
  let a7:=Dk (iY l.xs) l.ps.length j (h.aW.len▸f);rw[ag]at a7;let K:(l.E.drop k++[eG (l.E.drop k).reverse l.K (⟨kr l.C,t,A,[]⟩:Pe).bare])[(l.E.drop k).length]?=some (eG (l.E.drop k).reverse l.K (⟨kr l.C,t,A,[]⟩:Pe).bare):=aF;obtain⟨_,w2,w3,_⟩:=iX (l.E.drop k).reverse l.K (⟨kr l.C,t,A,[]⟩:Pe).bare;let I:=H.sem K Y.2.1.1 a7 (λd G=>by
   have:=(II o J).far d G (t,A) (by simp[f_.take]);let aq:=qp Y.2.1.1;rw[w2];show d.1<t-_;have:d.1<t-S.ret:=this;omega)
  let az:l.E.length=S.bH.length-S.off:=h.ry.len o;let a6:(S.take t A).off+(l.E.drop k).length=S.bH.length:=by
   show sq S t+_=_;rw[h.old t,R,nZ];omega
  rw[a6]at I;rw[q3,p4,h.node j p B,I,L,p2];unfold lr;rw[ml,MD];congr 1;simp[R8,J3,fO];rfl
 .refine⟨by rw[<-h.jy.len];unfold PL.xs;simp,λj p x F B=>?_,λx hx=>?_⟩
  .refine gF (λq cs hq=>(k4.block q (aN hq) (y _ _ _ _ hq aF)).trans hq) (h.jy.each j p x F ?_);let B:((l.us.map λu=>{u with str:=u.str++[R8 u.x u.cP (S.bH++[(t,A)]) S.bH.length]}).map (·.x))[j]?=some x:=B;rw[v]at B;exact B
  .let hx:x∈(l.us.map λu=>{u with str:=u.str++[R8 u.x u.cP (S.bH++[(t,A)]) S.bH.length]}).map (·.x):=hx;rw[v]at hx;exact h.jy.fine x hx
 .intro j p E;show(p.node:Int)=B_ (iY ((l.us.map λu=>{u with str:=u.str++[R8 u.x u.cP (S.bH++[(t,A)]) S.bH.length]}).map (·.x))) j;rw[v];exact h.node j p E
 .refine⟨.inl h.own.wt,λa ha=>?_,λs P=>?_,λd G a ha=>?_⟩
  .rcases k5 a ha with⟨a0,z,T⟩|e
   .rw[<-T];exact .inl (h.own.ev a0 z)
   .exact .inr e
  .obtain⟨j,E⟩:=Aw.1 P;let f:=(eY.1 E).1;rw[k1.na]at f;let b2:l.ps[j]?=some l.ps[j]:=fH _;let b3:l.ss[j]?=some (l.ss[j]'(h.watch.na▸f)):=fH _;obtain⟨s',q0,q1,q2,q3,q4⟩:=k6 j _ _ b3 b2;rw[E]at q0;cases q0;let ho:=h.own.st _ (iF b3);refine⟨.inl (q1▸ho.1),λg W=>?_⟩;rcases q4 with e|⟨g',z,T⟩
   .exact .inl (ho.2 g (e▸W))
   .rw[z]at W;cases W;exact .inr T
  .rcases jc.1 G with G|G
   .exact .inl (h.own.at_ d (sN G) a ha)
   .simp at G;subst G;exact .inr (k7 a ha)
 .exact(k4.block mb (aN h.vU) (y _ _ _ _ h.vU aF)).trans h.vU
end
theorem aH.UQ(w:aC)(a:Tape)(d:Nat):aH (λ_=>False) w (re w a d):=⟨rfl,rfl,aZ,λ_ _ _=>rfl⟩
def iJ(w0:aC)(wb n m:Nat)(e:Ending)(d:aC):Prop:=e=.returned (.bool true)/\∃f a b c,b<=n+1/\cH w0 wb f a b c m d/\∀x∈a,x.S=x.R
section
variable{wb n m i:Nat}{T:Nat->Nat}{Ms:aB Mo}{E:aB mK}{w0 w:aC}{x:Mo}
theorem W_{B:Nat}{L:aB a_}{p:aR bC}{c:Nat}{W:aC}(h:kj B W L (.slice p L.length c))(r:B<=W.heap.size):eQ W p L/\(p=none->c=0):=by
 obtain⟨_,_,e,f,b⟩:=mC h;cases e;refine⟨λa=>?_,f⟩;obtain⟨g,m,d,q,_⟩:=b 0 (List.length_pos_iff.2 a);refine⟨g,m,d,aA,λj k=>?_⟩;obtain⟨l,i,n,_,o⟩:=b j k;cases d.symm.trans n;exact o
theorem cH.event(h:cH w0 wb T Ms n E m w)(hn:n<=200000000000)(z:∀x∈Ms,x.S=x.R)(hi:Ms[i]?=some x)(hm:m<1000000)(hg:dP w0)(a7:cZ w0)(h7:14<=w0.heap.size)(nn:Int)(L:aB a_)(g cap:Nat)(a:w.ownsRow 0 9 1 (Sl g (L.length+2) cap) (L.length+2) (cJ (L++[dG,dG])))(hT:T g=0)(X:w0.heap.size<=g)(Z:∀e∈E,e.gv.ownBlock≠some g/\e.tv.ownBlock≠some g)(v:aR bC)(A:Nat)(hL:kj w0.heap.size w0 L (.slice v L.length A))(hl:L.length<=1100000)(F:∀s∈L,s.size<=2000000):
  cI prog 24 #[Pt x.mb,Iv nn,Sl g L.length cap] w λe N=>e=.returned (Iv (eJ x.S nn L))/\(∀c,T c=0\/c=x.pb->c<w.heap.size->N.heap[c]?=w.heap[c]?)/\∀W,aH (λ_=>False) N W->Calls prog 62 #[Pt x.yb,Iv nn,.slice v L.length A] W λe K=>e=.returned (Iv (eJ x.S nn L))/\(∀c,T c=0\/c=x.pb->c<w.heap.size->K.heap[c]?=w.heap[c]?)/\∀R,aH (λ_=>False) K R->Calls prog 63 #[Pt wb,Sl g (L.length+2) cap,.slice v L.length A] R (iJ w0 wb n (m+1)):=by
 let hl':=(eY.1 hi).1;let hx:=iF hi;let r:=a.lt g rfl;obtain⟨⟨l,hM⟩,O⟩:=((h.part (2*i+1)).2 i x hi).1 rfl;obtain⟨P,hX,M⟩:=hM.exact;let J2:=pS O nn L;let J:L.length<=cap:=by
  obtain⟨_,⟨e,_⟩|⟨_,_,_,e,_,_,h1,_⟩⟩:=a
  .cases e
  .cases e;omega
 let hA:eQ w (some (Ad g 0)) L:=λa8=>⟨g,0,rfl,r.2,λj V=>by
  rw[fE,a.cellAt j aA];unfold cJ;rw[lj,uw V,fH V];simp[List.getD,V]⟩
 apply(ER hX O aA (h.KY hg h7) (h.B0 a7) nn _ L cap hA J aA λs hs=>gH (F s hs) aG).mono;rintro e N ⟨rfl,Q,o⟩;obtain⟨T1,k1,D⟩:=h.XU hi o M none (Q.mono λb hb=>hb.imp id λy=>⟨y,λe=>nomatch e⟩) (qA m) J2;let G:∀c,T c=0\/c=x.pb->¬P c:=λc f I=>by
  rcases f with f|rfl
  .have:=(M c I).1.1;omega
  .exact M.kinds _ _ _ _ (h.pair x hx) aG I
 refine⟨rfl,λc f d=>o.block c d (G c f),λW sW=>?_⟩;let B:=k1.still sW;let t:(Ms.set i {x with S:=jf x.S nn L})[i]?=some {x with S:=jf x.S nn L}:=rF hl';obtain⟨⟨ev,pv,C,L',hR⟩,_⟩:=((B.part (2*i+2)).2 i _ t).2 rfl;obtain⟨P2,U,q⟩:=hR.exact;let a1:=wR hL B.base;obtain⟨s1,s2⟩:=W_ a1 B.base.size;refine(Oy (z x hx▸U:eT P2 x.S x.yb ev pv C L' W) O aA nn v L A s1 s2 λs hs=>gH (F s hs) aG).m λK ⟨Y,u⟩=>?_;obtain⟨T2,k3,a6⟩:=B.XW t u q Y aZ J2;rw[List.set_set]at k3;let z1:=o.size;let z2:=sW.size;let p:∀c,T c=0\/c=x.pb->c<w.heap.size->K.heap[c]?=w.heap[c]?:=λc f d=>by
  rw[u.block c aA λI=>?_,sW.block c aA id,o.block c d (G c f)];rcases f with f|rfl
  .have:=(q c I).1.1;have:=D c f (.inl d);omega
  .exact q.kinds _ _ _ _ (B.pair _ (iF t)) aG I
 refine⟨rfl,p,λR H=>?_⟩;let k4:=k3.still H;refine(k4.back hn g cap A L v aA (cG (eF a λk hk=>by cases hk;exact p g (.inl hT) r.2) H λ_ _ x=>x) (a6 g (D g hT (.inl r.2)) aA) X Z (wR hL k4.base)).mono ?_;rintro e w4 ⟨e1,T',n',E',h1,h2⟩;refine⟨e1,T',_,n',E',h1,h2,λy hy=>?_⟩;rcases BD hy with hy|rfl
 .exact z y hy
 .rfl
end
noncomputable def AL:Code:=f36.body.getD .skip
noncomputable def UE:aB Code:=match AL with
 |.seq a (.seq b (.seq c _))=>[a,b,c]
 |_=>[]
noncomputable def PQ:aU Oper:=match AL with
 |.seq _ (.seq _ (.seq _ (.seq (.region _ x _) _)))=>x
 |_=>#[]
noncomputable def Ok:Code:=match AL with
 |.seq _ (.seq _ (.seq _ (.seq _ x)))=>x
 |_=>.skip
theorem QB:f36.body=some (oX UE (.seq (.region 13 PQ true) Ok)):=rfl
section
variable(wb pb cX g cap:Nat)(pL:aR bC)(ln cL:Nat)
def X3:aB (Nat×aE):=[(0,Pt wb),(1,Pt pb),(5,Pt cX),(11,Sl g (ln+2) cap)]
def ZA(mb:Nat)(nn:Int):aB (Nat×aE):=[(64,Pt pb),(65,Pt pb),(66,Pt pb),(67,Pt mb),(68,.pointer (some (Ad cX 2))),(69,Iv nn),(70,Sl g (ln+2) cap),(71,.pointer (some (Ad cX 6))),(72,.slice pL ln cL),(73,Iv ln),(74,Sl g ln cap)]
theorem N8(mb:Nat)(nn:Int)(w:aC)(k:ln+2<=cap)(f:w.cell? (Ad pb 0)=some (Pt mb))(c2:w.cell? (Ad cX 2)=some (Iv nn))(d:w.cell? (Ad cX 6)=some (.slice pL ln cL))(i:Nat)(o:Oper)(p:Nat×aE)(c:PQ[i]?=some o)(j:(ZA pb cX g cap pL ln cL mb nn)[i]?=some p)(A:Act)(a:Fx 97 ((ZA pb cX g cap pL ln cL mb nn).reverse++X3 wb pb cX g cap ln) A):
  look ((ZA pb cX g cap pL ln cL mb nn).reverse++X3 wb pb cX g cap ln) p.1=some p.2/\∀b e,(execOp A.eval o).run prog (re w b e)=.ok (.value p.2) (re w b e):=by
 have hi:i<11:=(eY.1 j).1;have s:A.tmps[1]?=some (Pt pb):=a.get _ _ rfl;have m:A.tmps[5]?=some (Pt cX):=a.get _ _ rfl;have r:A.tmps[11]?=some (Sl g (ln+2) cap):=a.get _ _ rfl;have y:A.tmps[64]?=some (Pt pb):=a.get _ _ rfl;have q:A.tmps[65]?=some (Pt pb):=a.get _ _ rfl;have t:A.tmps[66]?=some (Pt pb):=a.get _ _ rfl;have n:A.tmps[68]?=some (.pointer (some (Ad cX 2))):=a.get _ _ rfl;have u:A.tmps[70]?=some (Sl g (ln+2) cap):=a.get _ _ rfl;have x:A.tmps[71]?=some (.pointer (some (Ad cX 6))):=a.get _ _ rfl;have v:A.tmps[72]?=some (.slice pL ln cL):=a.get _ _ rfl;have l:A.tmps[73]?=some (Iv ln):=a.get _ _ rfl;have h:i=0\/i=1\/i=2\/i=3\/i=4\/i=5\/i=6\/i=7\/i=8\/i=9\/i=10:=aA;simp only[PQ,AL,f36,fD]at c;rcases h with rfl|rfl|rfl|rfl|rfl|rfl|rfl|rfl|rfl|rfl|rfl<;>cases j<;>simp only[List.getElem?_toArray,My,Il,GD]at c<;>subst c<;>refine⟨rfl,λb e=>?_⟩
 all_goals have c0':(re w b e).cell? (Ad pb 0)=some (Pt mb):=f
 all_goals have c2':(re w b e).cell? (Ad cX 2)=some (Iv nn):=c2
 all_goals have c6':(re w b e).cell? (Ad cX 6)=some (.slice pL ln cL):=d
 all_goals generalize re w b e=W at*
 all_goals clear a f c2 d hi
 all_goals unfold execOp
 all_goals go_simp
 intro h;omega
end
def J36(w0:aC)(wb n m:Nat)(T:Nat->Nat)(Ms:aB Mo)(E:aB mK)(pb cX:Nat)(nn:Int)(L:aB a_)(pL:aR bC)(cL:Nat)(c:Act)(b:aC):Prop:=
 ∃g cap,Fx 97 (X3 wb pb cX g cap L.length) c/\cH w0 wb T Ms n E m b/\b.ownsRow 0 9 1 (Sl g (L.length+2) cap) (L.length+2) (cJ (L++[dG,dG]))/\(T g=0/\w0.heap.size<=g/\∀e∈E,e.gv.ownBlock≠some g/\e.tv.ownBlock≠some g)/\T cX=0/\∃k a mm s t,b.heap[cX]?=some (.cells #[Iv k,Iv a,Iv nn,Iv mm,.string s,.string t,.slice pL L.length cL] 73 (0,0))
def Zw(w0:aC)(wb n m pb yb cX:Nat)(z nn:Int)(L:aB a_)(pL:aR bC)(cL:Nat)(i:Act)(b:aC):Prop:=
 ∃g cap,Fx 97 ((12,Iv z)::X3 wb pb cX g cap L.length) i/\∀c d,∃k a mm s t,(re b c d).heap[cX]?=some (.cells #[Iv k,Iv a,Iv nn,Iv mm,.string s,.string t,.slice pL L.length cL] 73 (0,0))/\(re b c d).cell? (Ad pb 1)=some (Pt yb)/\∀W,aH (λ_=>False) (re b c d) W->Calls prog 62 #[Pt yb,Iv nn,.slice pL L.length cL] W λe f=>e=.returned (Iv z)/\f.cell? (Ad cX 6)=some (.slice pL L.length cL)/\∀h,aH (λ_=>False) f h->Calls prog 63 #[Pt wb,Sl g (L.length+2) cap,.slice pL L.length cL] h (iJ w0 wb n m)
theorem iJ.re{w0:aC}{wb n m:Nat}(e:Ending)(w:aC)(b:Tape)(d:Nat)(h:iJ w0 wb n m e w):iJ w0 wb n m e (re w b d):=by
 obtain⟨k,f,a,j,g,i,c,l⟩:=h;exact⟨k,f,a,j,g,i,c.still (aH.UQ w b d),l⟩
theorem YT{A:Act}{l:aB (Nat×aE)}(h:Fx 97 l A):∃u:Nat->aE,(∀j v,look l j=some v->u j=v)/\A=⟨#[u 0,u 1,u 2,u 3,u 4,u 5,u 6,u 7,u 8,u 9,u 10,u 11,u 12,u 13,u 14,u 15,u 16,u 17,u 18,u 19,u 20,u 21,u 22,u 23,u 24,u 25,u 26,u 27,u 28,u 29,u 30,u 31,u 32,u 33,u 34,u 35,u 36,u 37,u 38,u 39,u 40,u 41,u 42,u 43,u 44,u 45,u 46,u 47,u 48,u 49,u 50,u 51,u 52,u 53,u 54,u 55,u 56,u 57,u 58,u 59,u 60,u 61,u 62,u 63,u 64,u 65,u 66,u 67,u 68,u 69,u 70,u 71,u 72,u 73,u 74,u 75,u 76,u 77,u 78,u 79,u 80,u 81,u 82,u 83,u 84,u 85,u 86,u 87,u 88,u 89,u 90,u 91,u 92,u 93,u 94,u 95,u 96],[]⟩:=by
 have⟨Jf,hd,hg⟩:=h;refine⟨λj=>A.tmps.getD j undef,λj v h=>by show A.tmps.getD j undef=v;rw[JY,hg j v h];rfl,?_⟩;have e:=yO A.tmps 97 Jf;have⟨t,d⟩:=A;simp only at*;subst hd;rw[Act.mk.injEq];exact⟨e.trans rfl,rfl⟩
section
variable{wb n m i:Nat}{T:Nat->Nat}{Ms:aB Mo}{E:aB mK}{w0 w:aC}{x:Mo}
theorem Rn{pb yb cX:Nat}{z nn:Int}{L:aB a_}{pL:aR bC}{cL:Nat}(A:Act)(b:aC)(h:Zw w0 wb n m pb yb cX z nn L pL cL A b)(c:Tape)(d:Nat):Ok.wp prog (bodyPost prog f36 (iJ w0 wb n m)) A (re b c d):=by
 have⟨g,cap,hA,h⟩:=h;have⟨k,a,mm,s,t,hO,c1,j⟩:=h c d;obtain⟨u,f,rfl⟩:=YT hA;simp only[f 0 _ rfl,f 1 _ rfl,f 5 _ rfl,f 11 _ rfl,f 12 _ rfl];have q:(re b c d).cell? (Ad cX 2)=some (Iv nn):=aD hO rfl;have x:(re b c d).cell? (Ad cX 6)=some (.slice pL L.length cL):=aD hO rfl;generalize re b c d=W at*;generalize L.length=ln at*;replace j:Hid _:=j;simp only[Ok,AL,f36,fD]
 go_upto_region 14 with fail
 go_region_with (go_at_call 62;refine(j.out _ ?_).mono ?_;(first|exact aH.aS (aV.drew)|exact aH.refl _ _);rintro e v ⟨rfl,w,l⟩;replace l:Hid _:=l)
 all_goals go_wp2_with fail
 all_goals refine(l.out _ (aH.refl _ _)).mono ?_
 all_goals intro e p i
 all_goals obtain rfl:e=.returned (.bool true):=i.1
 all_goals replace i:Hid (iJ w0 wb n m (.returned (.bool true)) p):=i
 all_goals clear l j
 all_goals go_wp2_with fail
 all_goals refine(wV z _).mono ?_
 all_goals rintro e r ⟨rfl,o⟩
 all_goals obtain rfl:=o.symm
 all_goals go_wp2_with fail
 all_goals go_ret
 all_goals exact i.out
theorem UF(wb pb:Nat)(a nn mm:Int)(s t:a_)(L:aB a_)(pL:aR bC)(cL:Nat)(w:aC)(J:Act->aC->bQ)(c:Calls prog 61 #[.slice pL L.length cL] (w.alloc (.cells #[Iv 5,Iv a,Iv nn,Iv mm,.string s,.string t,.slice pL L.length cL] 73)) λe f=>∃g cap,e=.returned (Sl g (L.length+2) cap)/\∀d,Fx 97 (X3 wb pb w.heap.size g cap L.length) d->J d f):
  kW prog UE J ⟨#[Pt wb,Pt pb,.agg #[Iv 5,Iv a,Iv nn,Iv mm,.string s,.string t,.slice pL L.length cL]]++Array.replicate 94 undef,[]⟩ w:=by
 simp only[UE,AL,f36,fD,uK,uL,uO,uM,jq,lq];generalize L.length=ln at*;unfold kW;go_wp2
 try refine⟨rfl,?_⟩
 unfold kW;go_wp2
 try refine⟨rfl,?_⟩
 unfold kW;go_wp2_with fail;apply c.mono;rintro e h ⟨g,cap,rfl,b⟩;replace b:Hid _:=b;go_wp2
 try refine⟨rfl,?_⟩
 unfold kW;refine b.out _ (i_ rfl rfl ?_);simp only[X3,lh,gw,ni,nj,kz];exact⟨rfl,rfl,rfl,rfl⟩
end
theorem W6:gN PQ 11=true:=aL
section
variable{wb n m i:Nat}{T:Nat->Nat}{Ms:aB Mo}{E:aB mK}{w0 w:aC}{x:Mo}
theorem Mm(h:cH w0 wb T Ms n E m w)(J:∀x∈Ms,x.S=x.R)(hi:Ms[i]?=some x)(hg:dP w0)(y:cZ w0)(h7:14<=w0.heap.size)(hm:m<1000000)(hn:n<=200000000000)(a nn mm:Int)(s t:a_)(L:aB a_)(lv:aE)(hL:kj w0.heap.size w0 L lv)(O:L.length<=1100000)(G:∀s∈L,s.size<=2000000):
  cI prog 36 #[.pointer (some ⟨wb,0,none⟩),.pointer (some ⟨x.pb,0,none⟩),fV 5 a nn mm s t lv] w (iJ w0 wb n (m+1)):=by
 let U:=h.base.size;obtain⟨f,j,rfl,_⟩:=mC hL;let H:T w.heap.size=0:=GB λe=>Nat.lt_irrefl _ (h.dom _ e);refine cI.hole aK func36 QB iJ.re (λw h=>by cases h.1) (J36 w0 wb n m T Ms E x.pb w.heap.size nn L f j) (Zw w0 wb n (m+1) x.pb x.yb w.heap.size (eJ x.S nn L) nn L f j) ?_ (λc d=>?_) ?_ Rn
 .rintro a w c d ⟨g,cap,u,h2,h3,h4,h5,h6⟩;exact⟨g,cap,u,h2.still (aH.UQ w c d),eF h3 λ_ _=>rfl,h4,h5,h6⟩
 .let N:=(cD (re w c d).heap.size (re w c d)).al (.cells #[.int .i64 5,.int .i64 a,.int .i64 nn,.int .i64 mm,.string s,.string t,.slice f L.length j] 73 (0,0));let l:=aQ (re w c d) (.cells #[.int .i64 5,.int .i64 a,.int .i64 nn,.int .i64 mm,.string s,.string t,.slice f L.length j] 73 (0,0)) _ rfl;let p:=(h.still (aH.UQ w c d)).still (aH.aS N);refine UF wb x.pb a nn mm s t L f j (re w c d) _ ((Hb w0.heap.size L _ _ (wR hL p.base) p.base.size O).mono ?_);rintro e R ⟨K,v,rfl,b⟩;obtain⟨g,cap,rfl,_⟩:=fS b aA;let C:=b.lt g rfl;let z0:w.heap.size<=g:=gH N.size C.1;refine⟨g,cap,rfl,λa' F=>⟨g,cap,F,p.still (aH.aS K),b.mono cC,⟨GB λD=>?_,aA,λe M=>⟨λB=>?_,λB=>?_⟩⟩,H,_,_,_,_,_,K.aT l⟩⟩
  .have:=h.dom g D;omega
  .have:=h.BQ e M g (.inl B);omega
  .have:=h.BQ e M g (.inr B);omega
 .rintro A R ⟨g,cap,F,S,o,⟨q1,Z,q3⟩,Q,k,a,mm,s,t,l⟩;let r:L.length+2<=cap:=by
   obtain⟨_,⟨e,_⟩|⟨_,_,_,e,_,_,u,_⟩⟩:=o
   .cases e
   .cases e;omega
  let I:=S.pair x (iF hi);refine eX.ud (n:=11) (m:=ZA x.pb w.heap.size g cap f L.length j x.mb nn) (q:=12) (d:=75) rfl F rfl ?_ W6 ?_ (N8 wb x.pb w.heap.size g cap f L.length j x.mb nn R r (aD I rfl) (aD l rfl) (aD l rfl)) ⟨_,rfl,rfl,rfl,rfl⟩ func24 rfl rfl rfl aG (S.event hn J hi hm hg y h7 nn L g cap o q1 Z q3 f j hL O G) ?_ ⟨_,rfl,rfl,rfl,rfl⟩ aG ?_
  .simp[ZA]
  .intro i hi;let h:i=0\/i=1\/i=2\/i=3\/i=4\/i=5\/i=6\/i=7\/i=8\/i=9\/i=10:=aA;obtain rfl|rfl|rfl|rfl|rfl|rfl|rfl|rfl|rfl|rfl|rfl:=h<;>rfl
  .rintro e w' ⟨u,_⟩;exact⟨_,u⟩
  .rintro a' v w2 ⟨V,P,Y⟩ hF c d;cases V;refine⟨g,cap,hF.less ?_,λX d'=>⟨k,a,mm,s,t,(P _ (.inl Q) (aN l)).trans l,aD ((P _ (.inr rfl) (aN I)).trans I) rfl,λW sW=>(Y W sW.Md.Md).mono ?_⟩⟩
   .simp only[X3,lh,gw,ni,nj,kz];exact⟨rfl,rfl,rfl,rfl,rfl⟩
   .rintro e w3 ⟨rfl,z,hB⟩;exact⟨rfl,aD ((z _ (.inl Q) (aN l)).trans l) rfl,hB⟩
end
theorem iq.val{P:Program}(k:Plain P){f:aU Oper}{Q:Exit->Act->aC->bQ}{i d:Nat}{rest:aB Nat}{a:Act}{w w':aC}{o:Oper}{v:aE}(p:f[i]?=some o)(h:o.guard=none)(n:o.dst=some d)(q:∀c a w b d,Q (.panic c) a w->Q (.panic c) a (re w b d))(g:¬LetsOut Q)(l:∀b e,(execOp a.eval o).run P (re w b e)=.ok (.value v) (re w' b e))(m:iq P f Q rest (a.put (some d) v) w'):iq P f Q (i::rest) a w:=by
 refine iq.cons k (λj W=>j=a.put (some d) v/\∃b e,W=re w' b e) (λ_ _ b e x=>⟨x.1,b,e,by obtain⟨_,_,rfl⟩:=x.2;rfl⟩) q g (λb e=>?_) ?_
 .unfold wpOp;let hw:Region.wanted o (yielded f a.tmps)=true:=by simp[Region.wanted,h]
  simp only[p,hw,fB];refine .inl ?_;unfold Oper.wp;rw[l];simp only[Oper.upon,n];exact⟨trivial,b,e,rfl⟩
 .rintro j W ⟨rfl,b,e,rfl⟩;exact m.re b e
def HM(w:aC)(mb:Nat)(S:f_)(w':aC):Prop:=lR (λb=>w.heap.size<=b) S mb w'/\aH (λb=>w.heap.size<=b) w w'
section
variable{w w':aC}{mb:Nat}{S:f_}
theorem Ba(d:dP w)(e:14<=w.heap.size)(a:aH (λb=>w.heap.size<=b) w w'):dP w':=
 let k:=dP.oF (w':=re w' w.tape w'.drawn) d ⟨a.os,rfl,a.output,a.size,λk c=>a.block k c (sI.2 c)⟩ e
 ⟨⟨k.conv.syn,k.conv.rng⟩,k.ns,k.et,k.tab⟩
theorem yd(d:cZ w)(c:aH (λb=>w.heap.size<=b) w w'):cZ w':=d.keep λk a=>c.block k a (sI.2 a)
theorem HM.still{W:aC}(h:HM w mb S w')(a:aH (λ_=>False) w' W):HM w mb S W:=⟨h.1.move a (λ_ _ x=>x) (dQ.none _ _),h.2.trans (a.mono λ_ _ x=>x.elim)⟩
theorem HM.re(h:HM w mb S w')(a:Tape)(d:Nat):HM w mb S (re w' a d):=h.still (aH.UQ w' a d)
theorem HM.event(h:HM w mb S w')(r:S.OK 100)(o:dP w)(c:cZ w)(k:14<=w.heap.size)(t:Int)(ao:aR bC)(A:aB a_)(a:Nat)(m:eQ w' ao A)(d:A.length<=a)(u:A.length<=10)(f:∀s∈A,s.size<=10)(i:eJ S t A=0):
  cI prog 24 #[.pointer (some ⟨mb,0,none⟩),.int .i64 t,.slice ao A.length a] w' λe g=>e=.returned (.int .i64 0)/\HM w mb (jf S t A) g:=by
 let⟨⟨l,hM⟩,hs⟩:=h;apply(ER hM r aA (Ba o k hs) (yd c hs) t ao A a m d aA λs n=>gH (f s n) aG).mono;rintro e g ⟨rfl,q,p⟩;rw[i];have:=hs.size;exact⟨rfl,q.mono λb j=>j.elim id λh=>aA,hs.trans p⟩
end
noncomputable def DQ:Code:=f34.body.getD .skip
noncomputable def PV:aB Code:=match DQ with
 |.seq a (.seq b (.seq c (.seq d (.seq e (.seq f (.seq g (.seq h (.seq i _))))))))=>[a,b,c,d,e,f,g,h,i]
 |_=>[]
noncomputable def Bv:Code:=match DQ with
 |.seq _ (.seq _ (.seq _ (.seq _ (.seq _ (.seq _ (.seq _ (.seq _ (.seq _ x))))))))=>x
 |_=>.skip
noncomputable def yl:aU Oper:=match Bv with
 |.seq (.region _ x _) _=>x
 |_=>#[]
noncomputable def Jv:aU Oper:=match Bv with
 |.seq _ (.seq (.region _ x _) _)=>x
 |_=>#[]
noncomputable def Jw:aU Oper:=match Bv with
 |.seq _ (.seq _ (.seq (.region _ x _) _))=>x
 |_=>#[]
noncomputable def Bj:Code:=match Bv with
 |.seq _ (.seq _ (.seq _ x))=>x
 |_=>.skip
theorem Qz:f34.body=some (oX PV (.seq (.region 12 yl false) (.seq (.region 13 Jv false) (.seq (.region 14 Jw false) Bj)))):=rfl
theorem U9:gN Jv 1=true:=aL
theorem U_:gN Jw 1=true:=aL
theorem PK{A:Act}{l:aB (Nat×aE)}(h:Fx 159 l A):∃u:Nat->aE,(∀j v,look l j=some v->u j=v)/\A=⟨#[u 0,u 1,u 2,u 3,u 4,u 5,u 6,u 7,u 8,u 9,u 10,u 11,u 12,u 13,u 14,u 15,u 16,u 17,u 18,u 19,u 20,u 21,u 22,u 23,u 24,u 25,u 26,u 27,u 28,u 29,u 30,u 31,u 32,u 33,u 34,u 35,u 36,u 37,u 38,u 39,u 40,u 41,u 42,u 43,u 44,u 45,u 46,u 47,u 48,u 49,u 50,u 51,u 52,u 53,u 54,u 55,u 56,u 57,u 58,u 59,u 60,u 61,u 62,u 63,u 64,u 65,u 66,u 67,u 68,u 69,u 70,u 71,u 72,u 73,u 74,u 75,u 76,u 77,u 78,u 79,u 80,u 81,u 82,u 83,u 84,u 85,u 86,u 87,u 88,u 89,u 90,u 91,u 92,u 93,u 94,u 95,u 96,u 97,u 98,u 99,u 100,u 101,u 102,u 103,u 104,u 105,u 106,u 107,u 108,u 109,u 110,u 111,u 112,u 113,u 114,u 115,u 116,u 117,u 118,u 119,u 120,u 121,u 122,u 123,u 124,u 125,u 126,u 127,u 128,u 129,u 130,u 131,u 132,u 133,u 134,u 135,u 136,u 137,u 138,u 139,u 140,u 141,u 142,u 143,u 144,u 145,u 146,u 147,u 148,u 149,u 150,u 151,u 152,u 153,u 154,u 155,u 156,u 157,u 158],[]⟩:=by
 have⟨Jf,hd,hg⟩:=h;refine⟨λj=>A.tmps.getD j undef,λj v h=>by show A.tmps.getD j undef=v;rw[JY,hg j v h];rfl,?_⟩;have e:=yO A.tmps 159 Jf;have⟨t,d⟩:=A;simp only at*;subst hd;rw[Act.mk.injEq];exact⟨e.trans rfl,rfl⟩
def ID(last:Int)(mb:Nat)(o:aR bC)(c:Nat):aB (Nat×aE):=[(0,.int .i64 last),(9,.pointer (some ⟨mb,0,none⟩)),(11,.slice o 0 c),(12,.int .i64 0)]
theorem UC(last:Int)(T:4<=last)(p w:aC)(s:aH (λ_=>False) p w)(Q:p.heap.size=w.heap.size)(j:dP w)(d:cZ w)(u:14<=w.heap.size)(J:Act->aC->bQ)(q:∀D w' mb o c,Fx 159 (ID last mb o c) D->HM p mb ye w'->J D w'):
  kW prog PV J ⟨#[.int .i64 last]++Array.replicate 158 undef,[]⟩ w:=by
 let N:decide (last<4)=false:=j_ aA;let n:=Hu ⟨#[79,32,91,48,32,44,32,53,93,40,32,112,32,83,91,49,44,50,93,32,33,116,114,117,101,32,41]⟩ w aG j d u;rw[NF]at n;let O:Hid (∀W,Below w.heap.size w W->Calls prog 23 #[.int .i64 10,.int .i64 20] W λe A=>∃mb,e=.returned (.tuple #[.pointer (some ⟨mb,0,none⟩),.int .i64 0])/\Calls prog 27 #[.pointer (some ⟨mb,0,none⟩),.string ⟨#[112]⟩,.string ⟨#[79,91,50,44,53,93,97]⟩] A λe y=>∃o c,e=.returned (.tuple #[.slice o 0 c,.int .i64 0])/\HM p mb ye y):=λW a=>by
  apply(LI 10 20 W (j.below a) (d.keep λk t=>a.block k t)).mono;rintro e A ⟨I,⟨h,_⟩|⟨_,mb,rfl,P,⟨l,i⟩⟩⟩
  .cases h
  refine⟨mb,rfl,?_⟩;let g:=a.tr I;refine(LD i (DC aG aG) (j.below g) (d.keep λk t=>g.block k t) (by have:=g.size;omega) oR B3 aG aG).mono ?_;rintro e y ⟨v,rfl,H,B,z⟩;let f:=TC;rw[oO]at f;let m:(kO Jc oR B3).1.length=0:=by have:=oB List.length f.1;simpa using this
  obtain⟨o,c,rfl,_⟩:=bT (H.mono cC);let V:=a.size;let S:=g.size;let G:(kO (kJ 10 20) oR B3).1.length=0:=m;let K:(kO (kJ 10 20) oR B3).2.1=0:=f.2;rw[G,K];exact⟨o,c,rfl,B.mono λb a=>a.elim (λh=>aA) λh=>aA,(s.mono λ_ _ x=>x.elim).trans ((aH.aS g).trans (z.mono λb _ h=>aA))⟩
 replace q:Hid _:=q;replace n:Hid _:=n;let F:Hid (∀W,Below w.heap.size w W->Calls prog 15 #[.string ⟨#[89,91,48,44,51,93,79,91,49,44,53,93,112]⟩] W λe w'=>e=.returned (.tuple #[.int .i64 8,.int .i64 0])/\Below W.heap.size W w'):=λW a=>by
  have:=zX ⟨#[89,91,48,44,51,93,79,91,49,44,53,93,112]⟩ W aG (j.below a) (d.keep a.block) (gH u a.size)
  rwa[NG]at this
 let E:=hid λW (a:Below w.heap.size w W)=>Rg ⟨#[40,97,32,124,32,98,41]⟩ ⟨#[33,40,33,97,32,38,32,33,98,41]⟩ W aG aG (j.below a) (d.keep a.block) (gH u a.size);rw[ND]at E;simp only[PV,DQ,f34,fD,uK,uL,uO,uM,jq,lq];unfold kW;go_wp2
 try refine⟨rfl,?_⟩
 unfold kW;go_wp2_with fail;apply ku n.out;rintro e X ⟨rfl,C⟩;go_wp2
 try refine⟨rfl,?_⟩
 unfold kW;go_wp2_with fail;refine(F.out _ C).m λR L=>?_;let Yd:=C.tr L;go_wp2
 try refine⟨rfl,?_⟩
 unfold kW;go_wp2_with fail;refine(E.out _ Yd).m λU M=>?_;go_wp2
 try refine⟨rfl,?_⟩
 unfold kW;go_wp2
 try refine⟨rfl,?_⟩
 unfold kW;go_wp2
 try refine⟨rfl,?_⟩
 unfold kW;go_wp2_with fail;apply(O.out _ (Yd.tr M)).mono;rintro e A ⟨mb,rfl,r⟩;replace r:Hid _:=r;go_wp2
 try refine⟨rfl,?_⟩
 unfold kW;go_wp2
 try refine⟨rfl,?_⟩
 unfold kW;go_wp2_with fail;apply ku r.out;rintro e y ⟨o,c,rfl,i⟩;replace i:Hid _:=i;go_wp2
 try refine⟨rfl,?_⟩
 unfold kW;refine q.out _ _ mb o c (i_ rfl rfl ?_) i.out;simp only[ID,lh,gw,ni,nj,kz];exact⟨rfl,rfl,rfl,rfl⟩
section
variable{w w1:aC}{mb:Nat}{last:Int}{o:aR bC}{c:Nat}{A:Act}
theorem OK1:ye.OK 1:=MT (DC aG aG) oR B3
theorem ZB:yf.OK 2/\Bb.OK 3/\l8.OK 4:=⟨pS OK1 0 headA,pS (pS OK1 0 headA) 3 [],pS (pS (pS OK1 0 headA) 3 []) 9 []⟩
theorem Yl(m:Fx 159 (ID last mb o c) A)(h:HM w mb ye w1)(D:dP w)(i:cZ w)(z:14<=w.heap.size):
  eX prog (.region 12 yl false) (λe k w'=>e=.normal/\Fx 159 ((13,.int .i64 0)::ID last mb o c) k/\HM w mb yf w') A w1:=by
 obtain⟨O,q,d0,E,I⟩:ra yl 0 73 (.move (.tmp 9)):=⟨_,rfl,rfl,rfl,rfl⟩;obtain⟨P,y,L,G,B⟩:ra yl 1 74 (.buildSlice 31 1 #[(0,.const (.string ⟨#[97]⟩))]):=⟨_,rfl,rfl,rfl,rfl⟩;obtain⟨N,t,s,F,u⟩:ra yl 2 75 (.call {callee:=.value (.func 24),args:=#[.tmp 73,.const (.int .i64 0),.tmp 74],argTypes:=#[47,3,31]}):=⟨_,rfl,rfl,rfl,rfl⟩;obtain⟨Q,J,K,C,H⟩:ra yl 3 13 (.assign (.tmp 75)):=⟨_,rfl,rfl,rfl,rfl⟩;let a:¬LetsOut (λ(e:Exit)(k:Act)(w':aC)=>e=.normal/\Fx 159 ((13,.int .i64 0)::ID last mb o c) k/\HM w mb yf w'):=λ⟨_,_,h,_⟩=>by cases h
 apply eX.region aK;show iq prog yl _ [0,1,2,3] A w1;let M:A.tmps[9]?=some (.pointer (some ⟨mb,0,none⟩)):=m.get _ _ rfl;refine iq.val aK q I d0 (λ_ _ _ _ _ h=>by cases h.1) a (v:=.pointer (some ⟨mb,0,none⟩)) (w':=w1) (λf e=>?_) ?_
 .unfold execOp;simp only[E];go_simp
 let n:=aQ w1 (.cells #[.string ⟨#[97]⟩] 9 (0,0)) _ rfl;refine iq.val aK y B L (λ_ _ _ _ _ h=>by cases h.1) a (v:=.slice (some ⟨w1.heap.size,0,none⟩) 1 1) (w':=w1.alloc (.cells #[.string ⟨#[97]⟩] 9)) (λf e=>?_) ?_
 .unfold execOp;simp only[G];go_simp;exact⟨rfl,rfl⟩
 let g:=(m.put (d:=73) aG (.pointer (some ⟨mb,0,none⟩))).put (d:=74) aG (.slice (some ⟨w1.heap.size,0,none⟩) 1 1);let hC:=(h.still (aH.aS ((cD w1.heap.size w1).al (.cells #[.string ⟨#[97]⟩] 9 (0,0))))).event (OK1.mono aG) D i z 0 (some ⟨w1.heap.size,0,none⟩) headA 1 (λ_=>⟨_,_,rfl,aN n,λj r=>by
  obtain rfl:j=0:=by have:j<1:=r;omega
  exact aD n rfl⟩) aG aG aG TD
 refine iq.call aK t (by simp[Region.wanted,u]) (λf d=>?_) hC (λc w' h=>by cases h.1) (λw' h=>by cases h.1) λv p l=>?_
 .rw[run_call_body F func24 rfl rfl,Dj,g.bH (vs:=[.pointer (some ⟨mb,0,none⟩),.int .i64 0,.slice (some ⟨w1.heap.size,0,none⟩) 1 1]) rfl];rfl
 cases l.1;rw[s];let b:=g.put (d:=75) aG (.int .i64 0);refine iq.val aK J H K (λ_ _ _ _ _ h=>by cases h.1) a (v:=.int .i64 0) (w':=p) (λf e=>?_) (iq.nil aK λf d=>⟨rfl,(b.put aG _).less ?_,l.2.re f d⟩)
 .unfold execOp;simp only[C,b.ev (x:=.tmp 75) (v:=.int .i64 0) rfl];rfl
 .simp only[ID,lh,gw,ni,nj,kz];exact⟨rfl,rfl,rfl,rfl,rfl⟩
theorem Ym(u:Fx 159 ((13,.int .i64 0)::ID last mb o c) A)(h:HM w mb yf w1)(y:dP w)(a:cZ w)(t:14<=w.heap.size):
  eX prog (.region 13 Jv false) (λe k b=>e=.normal/\Fx 159 ((14,.int .i64 0)::(13,.int .i64 0)::ID last mb o c) k/\HM w mb Bb b) A w1:=by
 obtain⟨C,r,d0,z,D⟩:ra Jv 0 76 (.move (.tmp 9)):=⟨_,rfl,rfl,rfl,rfl⟩;refine eX.ud (n:=1) (m:=[(76,.pointer (some ⟨mb,0,none⟩))]) (q:=14) (d:=77) rfl u rfl aF U9 (λi hi=>?_) (λi o p B l A f=>?_) ⟨_,rfl,rfl,rfl,rfl⟩ func24 rfl rfl rfl aG (h.event (ZB.1.mono aG) y a t 3 none [] 0 (λh=>absurd rfl h) aG aG (λs h=>by cases h) TE) (λe b h=>⟨_,h.1⟩) ⟨_,rfl,rfl,rfl,rfl⟩ aG λk v b j f g d=>?_
 .obtain rfl:i=0:=by omega
  rfl
 .obtain rfl:i=0:=by have:=(eY.1 l).1;simp at this;omega
  cases l;cases r.symm.trans B;refine⟨rfl,λg e=>?_⟩;unfold execOp;simp only[z,f.ev (x:=.tmp 9) (v:=.pointer (some ⟨mb,0,none⟩)) rfl];rfl
 .cases j.1;refine⟨f.less ?_,j.2.re g d⟩;simp only[ID,lh,gw,ni,nj,kz];exact⟨rfl,rfl,rfl,rfl,rfl,rfl⟩
theorem Yn(u:Fx 159 ((14,.int .i64 0)::(13,.int .i64 0)::ID last mb o c) A)(h:HM w mb Bb w1)(y:dP w)(a:cZ w)(t:14<=w.heap.size):
  eX prog (.region 14 Jw false) (λe k b=>e=.normal/\Fx 159 ((15,.int .i64 0)::(14,.int .i64 0)::(13,.int .i64 0)::ID last mb o c) k/\HM w mb l8 b) A w1:=by
 obtain⟨C,r,d0,z,D⟩:ra Jw 0 78 (.move (.tmp 9)):=⟨_,rfl,rfl,rfl,rfl⟩;refine eX.ud (n:=1) (m:=[(78,.pointer (some ⟨mb,0,none⟩))]) (q:=15) (d:=79) rfl u rfl aF U_ (λi hi=>?_) (λi o p B l A f=>?_) ⟨_,rfl,rfl,rfl,rfl⟩ func24 rfl rfl rfl aG (h.event (ZB.2.1.mono aG) y a t 9 none [] 0 (λh=>absurd rfl h) aG aG (λs h=>by cases h) TF) (λe b h=>⟨_,h.1⟩) ⟨_,rfl,rfl,rfl,rfl⟩ aG λk v b j f g d=>?_
 .obtain rfl:i=0:=by omega
  rfl
 .obtain rfl:i=0:=by have:=(eY.1 l).1;simp at this;omega
  cases l;cases r.symm.trans B;refine⟨rfl,λg e=>?_⟩;unfold execOp;simp only[z,f.ev (x:=.tmp 9) (v:=.pointer (some ⟨mb,0,none⟩)) rfl];rfl
 .cases j.1;refine⟨f.less ?_,j.2.re g d⟩;simp only[ID,lh,gw,ni,nj,kz];exact⟨rfl,rfl,rfl,rfl,rfl,rfl,rfl⟩
end
def rH(w:aC)(e:Ending)(a:aC):Prop:=e=.returned (.bool true)/\aH (λb=>w.heap.size<=b) w a
def tvd(t:Int×Int×Int×Bool):aB aE:=[.int .i64 t.1,.int .i64 t.2.1,.int .i64 t.2.2.1,.bool t.2.2.2]
theorem Vo{L:aB Vd}{M:aB (Int×Int×Int×Bool)}(h:L.map vdT=M):lr L=(M.map tvd).flatten/\L.length=M.length:=by
 subst h;refine⟨?_,aF⟩;unfold lr;rw[CM];rfl
section
variable{w w1:aC}{mb:Nat}{last:Int}{o:aR bC}{c:Nat}{A:Act}
theorem HM.stream{W:aC}(h:HM w mb l8 W)(i:dP w)(f:cZ w)(j:14<=w.heap.size):
  Calls prog 28 #[.pointer (some ⟨mb,0,none⟩),.string ⟨#[112]⟩] W λe b=>∃g c,e=.returned (.tuple #[.slice (some ⟨g,0,none⟩) 3 c,.int .i64 0])/\b.cell? ⟨g,3,none⟩=some (.bool false)/\b.cell? ⟨g,7,none⟩=some (.bool true)/\b.cell? ⟨g,11,none⟩=some (.bool false)/\HM w mb l8 b:=by
 let⟨⟨l,hM⟩,hs⟩:=h;apply(Cf hM ZB.2.2 (Ba i j hs) (yd f hs) oR).mono;rintro e b ⟨v,rfl,d,k⟩;let a:=K5;rw[oO]at a;let⟨e1,e2⟩:=Vo a.1;rw[a.2];rw[e1,e2]at d;obtain⟨g,c,rfl,_⟩:=fS d aG;exact⟨g,c,rfl,d_ d rfl rfl,d_ d rfl rfl,d_ d rfl rfl,h.still (aH.aS k)⟩
theorem UB(q:last<12)(n:Fx 159 ((15,.int .i64 0)::(14,.int .i64 0)::(13,.int .i64 0)::ID last mb o c) A)(h:HM w mb l8 w1)(l:dP w)(b:cZ w)(m:14<=w.heap.size)(f:Tape)(d:Nat):Bj.wp prog (bodyPost prog f34 (rH w)) A (re w1 f d):=by
 have j:=(h.re f d).stream l b m;have p:=jS q;obtain⟨u,a,rfl⟩:=PK n;simp only[a 0 _ rfl,a 9 _ rfl,a 11 _ rfl,a 12 _ rfl,a 13 _ rfl,a 14 _ rfl,a 15 _ rfl];generalize re w1 f d=W at*;simp only[Bj,Bv,DQ,f34,fD];go_wp2_with fail;apply j.mono;rintro e k ⟨g,c,rfl,t,s,r,i⟩;replace i:Hid (rH w (.returned (.bool true)) k):=⟨rfl,i.2⟩;go_wp2;go_ret;exact i.out
theorem rH.re(e:Ending)(w':aC)(a:Tape)(d:Nat)(h:rH w e w'):rH w e (re w' a d):=⟨h.1,h.2.g_ a d⟩
theorem K7(s:4<=last)(i:dP w)(f:cZ w)(l:14<=w.heap.size)(j:∀{mb:Nat}{o:aR bC}{c:Nat}{A:Act}{w1:aC},Fx 159 ((15,.int .i64 0)::(14,.int .i64 0)::(13,.int .i64 0)::ID last mb o c) A->HM w mb l8 w1->∀g d,Bj.wp prog (bodyPost prog f34 (rH w)) A (re w1 g d)):cI prog 34 #[.int .i64 last] w (rH w):=by
 apply cI.wX aK rH.re func34 Qz;apply eX.pieces aK PV (λA b=>∃mb o c,Fx 159 (ID last mb o c) A/\HM w mb ye b) (λA b g d ⟨mb,o,c,m,k⟩=>⟨mb,o,c,m,k.re g d⟩) λg d=>UC last s w (re w g d) (aH.UQ w g d) rfl ⟨⟨i.conv.syn,i.conv.rng⟩,i.ns,i.et,i.tab⟩ (f.keep λ_ _=>rfl) l _ λu b mb o c m k=>⟨mb,o,c,m,k⟩;rintro A w1 ⟨mb,o,c,r,q⟩;refine eX.seq' aK (λA b=>Fx 159 ((13,.int .i64 0)::ID last mb o c) A/\HM w mb yf b) ((Yl r q i f l).mono ?_) λA t k=>?_
 .rintro e A b ⟨rfl,h⟩;exact h
 refine eX.seq' aK (λA b=>Fx 159 ((14,.int .i64 0)::(13,.int .i64 0)::ID last mb o c) A/\HM w mb Bb b) ((Ym k.1 k.2 i f l).mono ?_) λA v n=>?_
 .rintro e A b ⟨rfl,h⟩;exact h
 refine eX.seq' aK (λA b=>Fx 159 ((15,.int .i64 0)::(14,.int .i64 0)::(13,.int .i64 0)::ID last mb o c) A/\HM w mb l8 b) ((Yn n.1 n.2 i f l).mono ?_) λA x p=>?_
 .rintro e A b ⟨rfl,h⟩;exact h
 exact eX.of_wp aK (qI rH.re) (λa w h=>by cases h.1) λg d=>j p.1 p.2 g d
theorem Wa(i:4<=last)(g:last<12)(b:dP w)(a:cZ w)(c:14<=w.heap.size):cI prog 34 #[.int .i64 last] w (rH w):=
 K7 i b a c λf e h d=>UB g f e b a c h d
end
end Ev
end Go.Proofs.YtpbbmagjhkakgaaGreatDoor
