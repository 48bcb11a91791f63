import Derived.Test.YtpbbmagjhkakgaaGreatDoorE4
namespace Go.Proofs.YtpbbmagjhkakgaaGreatDoor
set_option maxHeartbeats 8000000
set_option maxRecDepth 100000
namespace Ev
open Go.Proofs.Tryz Go.RowKit Go.Deep Go.Maps Lf Go.Conc
section
variable{wb n m m' i:Nat}{T:Nat->Nat}{Ms:aB Mo}{E:aB mB}{w0 w w':aC}{x:Mo}
theorem wo{L:aB aZ}{lv:aF}(h:j_ w0.heap.size w0 L lv)(f:aI (λb=>w0.heap.size<=b) w0 w):j_ w0.heap.size w L lv:=by
 obtain h|⟨d,e,cap,i,c,g⟩:=h
 .exact .inl h
 .exact .inr ⟨d,e,cap,i,c,λj k=>(fT (a:=(Ad d (e+j))) (f.block d c (xp.2 c))).trans (g j k)⟩
theorem nI{B:Nat}{L:aB aZ}{lv:aF}(h:j_ B w L lv):∃p c,lv=.slice p L.length c/\(p=none->c=0)/\∀j,j<L.length->∃b g,p=some (Ad b g)/\b<B/\w.cell? (Ad b (g+j))=some (.string (L.getD j ByteArray.empty)):=by
 obtain⟨⟨p,c,d,a⟩,rfl⟩|⟨k,l,cap,d,a,i⟩:=h
 .exact⟨p,c,d,a,λj f=>absurd f (zX _)⟩
 .exact⟨_,_,d,(λe=>nomatch e),λj f=>⟨k,l,rfl,a,i j f⟩⟩
theorem cH.back(h:cH w0 wb T Ms n E m w)(x:n<=200000000000)(g cap a:Nat)(L:aB aZ)(d:aQ a_)(c:L.length<=100000000)(o:w.ownsRow 0 9 1 (Sl g (L.length+2) cap) (L.length+2) (cI (L++[dE,dE])))(s:T g=0)(k:w0.heap.size<=g)(f:∀e∈E,e.gv.ownBlock≠some g/\e.tv.ownBlock≠some g)
  (hL:j_ w0.heap.size w L (.slice d L.length a)):Calls prog 63 #[Pt wb,Sl g (L.length+2) cap,.slice d L.length a] w (pH w0 wb n m Ms):=by
 let⟨P,lT,kv,hX,hP,hO⟩:=h.fresh o aG λb l=>by cases l;exact⟨s,k,f⟩
 let p:=h.nD.1;refine(Qq hX aA aA g cap a L d c o (hP g rfl) λj u=>?_).mono ?_
 .let⟨_,_,e,_,h3⟩:=nI hL;cases e;let⟨kb,ko,e1,e2,e3⟩:=h3 j u;have:=h.base.size;exact⟨kb,ko,e1,aA,λv=>by have:=(hO kb (.inl v)).1.2;omega,aA,e3⟩
 .rintro e w' ⟨rfl,y,i,q,t⟩;let⟨T',h'⟩:=h.lists (hX.mono λ_=>.inl) t (λb l=>hO b (l.imp id λe=>by rw[e];rfl)) q ⟨bI,λe r=>(i_.1 r).imp id (i.2 e)⟩;exact⟨rfl,T',_,_,aX,h'⟩
theorem Nn(h:cH w0 wb T Ms n E m w)(hg:dW w0)(H:dG w0)(h7:14<=w0.heap.size)(X:n<=200000000000)(k a nn mm:Int)(Y:k=1\/k=2\/k=3)(s t:aZ)(U:s.size<=2000000)(L:aB aZ)(lv:aF)(hL:j_ w0.heap.size w0 L lv)(M:L.length<=1100000)(x:∀j,j<L.length->(L.getD j ByteArray.empty).size<=2000000):
  Calls prog 54 #[Pt wb,gV k a nn mm s t lv] w (pH w0 wb n m Ms):=by
 have q:=h.base.size;have i:=h.Kt hg h7;have d:=h.BF H;have S:Hid (∀W,Bl w W->pH w0 wb n m Ms (.returned (.bool true)) W):=λW b=>⟨rfl,T,n,E,rj n,h.still (aI.aR b)⟩;obtain rfl|rfl|rfl:=Y
 .refine(Lh wb a nn mm s t lv w i d aA U).m λw' b=>?_;exact S.out w' b
 .refine(Li wb a nn mm s t lv w i d aA U).m λw' b=>?_;exact S.out w' b
 obtain⟨p,o,rfl,_⟩:=nI hL;unfold gV;have A:=(cC w.heap.size w).al (.cells #[Iv 3,Iv a,Iv nn,Iv mm,.string s,.string t,.slice p L.length o] 73 (0,0));have K:=hid λW (b:Bl w W)=>(wo hL h.base).below (b.mono q);have HB:Hid (∀(W:aC)(g cap:Nat),Bl w W->W.ownsRow w.heap.size 9 1 (Sl g (L.length+2) cap) (L.length+2) (cI (L++[dE,dE]))->Calls prog 63 #[Pt wb,Sl g (L.length+2) cap,.slice p L.length o] W (pH w0 wb n m Ms)):=λW g cap b R=>by
  have V:=R.lt g rfl;refine(h.still (aI.aR b)).back X g cap o L p aA (R.mono cD) (F8 λD=>?_) aA (λe Q=>⟨λb=>?_,λb=>?_⟩) (K.out W b)
  .have:=h.dom g D;omega
  .have:=h.Bu e Q g (.inl b);omega
  .have:=h.Bu e Q g (.inr b);omega
 go_enter func54,ntmps54;go_wp2_with fail;apply(Gu w0.heap.size L _ _ (K.out _ A) (gC q A.size) M).mono;rintro e C ⟨N,v,rfl,c⟩;obtain⟨g,cap,rfl,a6,G,Z,a1⟩:=fO c aA;have f:=A.tr N;have r:=N.aS (aP w (.cells #[Iv 3,Iv a,Iv nn,Iv mm,.string s,.string t,.slice p L.length o] 73 (0,0)) _ rfl);have c6:C.cell? (Ad w.heap.size 6)=some (.slice p L.length o):=aD r rfl;have hc:∀j,j<L.length->C.cell? (Ad g (0+j))=some (.string (L.getD j ByteArray.empty)):=λj y=>by
  rw[fC,c.cellAt j aA];unfold cI;rw[kY,tZ y,fG y];simp[List.getD,y]
 have I:(L.length:Int)<=(cap:Int):=aA;generalize u:jJ [] L=res at*;go_wp2_with fail;refine(GB L g 0 cap C (i.below f) (d.keep f.block) (by have:=f.size;omega) aA G hc λj y=>gC (x j y) eP).m λJ z=>?_;have l:=f.tr z;have c6':J.cell? (Ad w.heap.size 6)=some (.slice p L.length o):=aD (z.aS r) rfl;have O:=Lp w0.heap.size L _ J (K.out J l) (gC q l.size) M x;rw[u]at O;go_wp2_with fail;refine O.m λP F=>?_;have aaR:P.cell? (Ad w.heap.size 6)=some (.slice p L.length o):=aD (F.aS (z.aS r)) rfl;go_wp2_with fail;apply(HB.out P g cap (l.tr F) ((fN (fN c z) F).mono A.size)).mono;intro e w4 B;obtain rfl:e=.returned (.bool true):=B.1;replace B:Hid (pH w0 wb n m Ms (.returned (.bool true)) w4):=B;go_wp2_with fail;refine(wC res.2 _).m λw5 e5=>?_;obtain rfl:=e5.symm;go_wp2;go_ret;exact B.out
end
section
variable{O:Nat->Prop}{S:fX}{mb n:Nat}{w:aC}{l:PL}
theorem XF(a:dW w)(b:Tape)(d:Nat):dW (re w b d):=⟨⟨a.conv.syn,a.conv.rng⟩,a.ns,a.et,a.tab⟩
theorem SU(h:dG w)(a:Tape)(d:Nat):dG (re w a d):=h.keep λ_ _=>rfl
theorem dN.jT(h:dN O S mb l w)(a:Tape)(d:Nat):dN O S mb l (re w a d):=
 {h with watch:=h.watch.jT a d,jr:=⟨h.jr.len,λj p x c b=>gw (w:=w) (w':=re w a d) (λ_ _ e=>e) (h.jr.each j p x c b),h.jr.fine⟩}
theorem lH.jT(h:lH O S mb w)(a:Tape)(d:Nat):lH O S mb (re w a d):=by
 obtain⟨l,h⟩:=h;exact⟨l,h.jT a d⟩
theorem dN.times(h:dN O S mb l w):JM S l.C:=h.q8.times h.watch.len h.watch.ins
theorem dN.YK(h:dN O S mb l w)(a:S.OK n):l.C.length=S.bH.length-S.off:=by rw[h.watch.len,h.q8.len a]
theorem dN.last(h:dN O S mb l w)(c:S.OK n):l.C.getLast?.map (·.time)=S.bH.getLast?.map (·.1):=by
 let a:=og List.getLast? h.times;rw[List.getLast?_map,List.getLast?_map,List.getLast?_drop]at a;rw[a];rcases c.last with b|⟨b,d⟩
 .rw[bN aA]
 .rw[b];simp
theorem dN.late(h:dN O S mb l w)(d:S.OK n)(t:Int):BM l.C t=nZ S t:=by
 have:=h.last d;unfold BM nZ;cases b:l.C.getLast? with
 |none=>
  rw[b]at this;cases a:S.bH.getLast? with
  |none=>rfl
  |some e=>rw[a]at this;cases this
 |some c=>
  rw[b]at this;cases a:S.bH.getLast? with
  |none=>rw[a]at this;cases this
  |some e=>
   rw[a]at this;simp only[HJ,Jt]at this;simp only[this]
theorem dN.old(h:dN O S mb l w)(t:Int):rU S t=S.off+nK (t-S.ret) l.C:=by
 unfold rU;rw[C5,Nt,h.times]
theorem dN.check(h:dN O S mb l w)(a:S.OK n)(t:Int)(A:aB aZ):Il S.ret S.room l.C (l.us.map λu=>u.str.length) t A=eJ S t A:=by
 unfold Il eJ;let f:=h.YK a;let e:=tI (t-S.ret) l.C;let d:=a.I4;let b:(l.us.map λu=>u.str.length).any (λn=>decide (30<=n))=S.aU.any (λp=>decide (30<=p.str.length)):=by
  rw[List.any_map];exact h.perm.any_eq
 rw[h.late a,b,h.old t];let c:S.room<(l.C.length:Int)-(nK (t-S.ret) l.C:Nat)+1↔S.room<(S.bH.length:Int)+1-((S.off+nK (t-S.ret) l.C:Nat):Int):=aA;simp only[c]
theorem dN.roomy(h:dN O S mb l w):∀(i:Nat)(p:mW),l.ps[i]?=some p->∃cW o c,p.fV=some (Ad cW 0)/\w.heap[cW]?=some (.cells #[.slice o ((l.us.map λu=>u.str.length).getD i 0) c] 177 (0,0)):=λi p d=>by
 let hi:=(e_.1 d).1
 let f:l.us[i]?=some (l.us[i]'(h.aU.len▸hi)):=fG _
 let b:l.ss[i]?=some (l.ss[i]'(h.watch.mS▸hi)):=fG _
 obtain⟨_,_,g,_⟩:=h.aU.each i _ p _ f d b
 let a:=h.watch.EI _ (iA b)
 obtain⟨o,c,e,_⟩:=bT a.2
 refine⟨_,o,c,h.watch.zp i _ p b d,?_⟩
 rw[qp,kY,f,HJ,ig,<-g,<-e]
 exact a.1
theorem TS(h:dN O S mb l w)(m:S.OK n)(c:dG w)(t:Int)(ao:aQ a_)(A:aB aZ)(a:Nat)(j:eQ w ao A)(b:A.length<=a)(i:A.length<=1000000000)(d:∀s∈A,s.size<=maxLen):
  Calls prog 86 #[Pt l.aW,Iv t,.slice ao A.length a] w λe k=>UX w k e (eJ S t A):=by
 let g:=h.watch.vL;let f:=h.watch.few;have:=Dx l.aW S.ret S.room _ _ l.pa l.bS l.ps l.C (l.us.map λu=>u.str.length) t ao A a w h.watch.cell h.watch.bH aA h.watch.ret j i d b h.watch.aU aA h.watch.Zw (by rw[ux,h.aU.len]) h.roomy c
 rwa[h.check m]at this
theorem Nz(h:dN O S mb l w)(u:S.OK n)(y:dW w)(d:dG w)(t:Int)(ao:aQ a_)(A:aB aZ)(b:Nat)(B:eQ w ao A)(r:A.length<=b)(D:A.length<=1000000000)(m:∀s∈A,s.size<=maxLen)(k:eJ S t A≠0):
  Calls prog 24 #[Pt mb,Iv t,.slice ao A.length b] w λe j=>e=.returned (Iv (eJ S t A))/\Bl w j:=by
 have x:=TS h u d t ao A b B r D m;generalize eJ S t A=z at*;have H:=aD (i:=0) h.vz rfl;have F:Hid (∀W T q,Bl w W->lG W (.iface T q) z->Calls prog 40 #[.iface T q] W λe j=>e=.returned (Iv z)/\Bl W j):=λW T q g c=>jX _ z W (y.below g) (d.keep g.block) c;generalize l.aW=aW at*;clear h u y d B m;generalize A.length=al at*;have E:Calls prog 46 #[Pt aW,Iv t,.slice ao al b] w λe j=>∃T q,e=.returned (.iface T q)/\lG j (.iface T q) z/\Bl w j:=by
  have k:Hid (z≠0):=k;go_enter func46,ntmps46;go_wp2_with fail;apply x.mono;rintro e o ⟨g,⟨h,_⟩|⟨_,T,q,rfl,c⟩⟩
  .exact absurd h k.out
  replace c:Hid _:=c;go_wp2_with fail;go_ret;obtain⟨L,a,G,C⟩:=lG.down (w:=o) (v:=.iface T q) (n:=z) ((cC _ o).al (.cells #[Iv t,.iface T q] 156 (0,0))) c.out;exact⟨_,_,rfl,⟨L,a,C6 (f:=260) aE (aP _ _ _ rfl) G,C⟩,g.al _⟩
 clear x;go_enter func24,ntmps24;go_wp2_with fail;apply E.mono;rintro e o ⟨T,q,rfl,c,g⟩;have k:=F.out o T q g c;clear c;go_wp2_with fail;refine k.m λI p=>?_;go_wp2_with fail;go_ret;exact⟨rfl,g.tr p⟩
theorem MK{t:Int}{A:aB aZ}(a:eJ S t A=0):(0<=t/\t<=1000000000000/\nZ S t=false)/\ft A=true/\(∀p∈S.aU,p.str.length<30)/\(S.bH.length:Int)+1-rU S t<=S.room:=by
 unfold eJ at a;split at a
 .cases a
 rename_i f;split at a
 .cases a
 rename_i c;split at a
 .cases a
 rename_i b;split at a
 .cases a
 rename_i g;refine⟨⟨aA,aA,?_⟩,by simpa using c,λp d=>?_,aA⟩
 .cases e:nZ S t with
  |false=>rfl
  |true=>exact absurd (.inr (.inr e)) f
 .simp only[zY,oX,not_exists,not_and]at b;have:=b p d;omega
theorem Ep(h:dN O S mb l w)(o:S.OK n)(hn:n<1000000000)(W:dW w)(a8:dG w)(t:Int)(ao:aQ a_)(A:aB aZ)(i:Nat)(hA:eQ w ao A)(N:A.length<=i)(hl:A.length<=1000000000)(ad:∀s∈A,s.size<=maxLen):
  dI prog 24 #[Pt mb,Iv t,.slice ao A.length i] w λe w'=>e=.returned (Iv (eJ S t A))/\lH (λb=>O b\/w.heap.size<=b) (jc S t A) mb w'/\aI O w w':=by
 by_cases J:eJ S t A=0
 case neg=>
  let P:jc S t A=S:=by unfold jc;rw[bN J]
  rw[P];refine dI.El bE (λe w r d x=>⟨x.1,x.2.1.jT r d,x.2.2.jT r d⟩) (λw x=>by cases x.1) λr d=>?_;refine(Nz (h.jT r d) o (XF W r d) (SU a8 r d) t ao A i hA N hl ad J).mono λe w' ⟨F,B⟩=>⟨F,?_⟩;have:=(h.jT r d).below B;exact⟨this.1,this.2.LK⟩
 obtain⟨⟨t1,t2,t3⟩,X,f1,r1⟩:=MK J;let P:jc S t A=S.take t A:=by unfold jc;rw[bY J]
 rw[J,P];obtain⟨k,R⟩:∃k,nK (t-S.ret) l.C=k:=⟨_,rfl⟩;let ax:k<=l.C.length:=R▸tI _ _;let U:=h.YK o;let ay:=o.I4;let au:=o.many;let ar:=o.room;let aw:=o.kept;rw[h.old t,R]at r1;let V:A.length<=10/\(∀s∈A,iY s=true)/\A.Nodup:=by
  unfold ft at X;simp only[sB,oX,yn]at X;exact⟨X.1.1,X.1.2,X.2⟩
 let L:kn l.C=(S.bH.length:Int)+1:=by
  unfold kn;cases hc:l.C.getLast? with
  |none=>
   let Q:l.C=[]:=List.getLast?_eq_none_iff.1 hc;rcases o.last with F|⟨F,_⟩
   .rw[Q]at U;simp at U;omega
   .rw[F];rfl
  |some c=>
   rw[RE]at hc;let f:=(e_.1 hc).1;have:=h.q8.num _ c hc;show c.number+1=_;rw[this];omega
 let af:=MJ h.watch t ao A i ⟨t1,t2⟩ k R hA V.1 N (λj E=>by have:=(wu (V.2.1 (A.getD j ByteArray.empty) (by rw[qp,fG E];exact w_ _))).high;omega) (by have:=o.room;omega) (by rw[L];omega) (λs P=>by
   obtain⟨j,E⟩:=Ae.1 P;let f:=(e_.1 E).1;let b1:l.us[j]?=some (l.us[j]'(h.EH▸f)):=fG _;let b2:l.ps[j]?=some (l.ps[j]'(h.watch.mS▸f)):=fG _;rw[(h.aU.each j _ _ s b1 b2 E).2.2.1];exact f1 _ (h.perm.mem_iff.1 (iA b1))) λr d=>(TS (h.jT r d) o (SU a8 r d) t ao A i hA N hl ad).mono λe w' ⟨C,c⟩=>⟨c.elim (·.2) λx=>absurd J x.1,C⟩
 refine TC h.vz (D:=λW'=>lH (λb=>O b\/w.heap.size<=b) (S.take t A) mb W'/\aI O w W') (λw r d x=>⟨x.1.jT r d,x.2.jT r d⟩) (af.mono ?_);rintro e W' ⟨rfl,c,ak,M,ah,k1,k2,k3,k4,k5,k6,k7⟩;refine⟨rfl,?_⟩;let Z:∀b,JJ l.aW l.ea l.ss b->O b:=by
  rintro b (rfl|⟨a,z,rfl⟩|⟨s',aa,z|z⟩)
  .exact h.own.wt
  .exact h.own.ev a z
  .rw[z];exact(h.own.st s' aa).1
  .exact(h.own.st s' aa).2 b z
 let y:dP w (JJ l.aW l.ea l.ss) [104,143]:=λb cs t m C ht hO=>by
  rcases hO with e|⟨a,z,T⟩|hM
  .subst e;rw[h.watch.cell]at C;cases C;simp at ht
  .let an:(Value.slice l.ea l.C.length l.bO).ownBlock=some b:=by rw[z];rw[<-T];rfl
   obtain⟨cs,aj⟩:=cE h.watch.bH an;rw[aj]at C;cases C;simp at ht
  .obtain⟨cs,t',ai,e|e⟩:=Ms.tag h.watch.EI hM<;>rw[ai]at C<;>cases C<;>subst e<;>simp at ht
 let ae:aI O w W':=k4.mono λb _ C=>Z b C;let H:=h.q8.take o h.watch.len h.times (A:=A) (num:=kn l.C) (c:=c) (by rw[k3,L]) R;refine⟨⟨⟨l.aW,l.no,l.bZ,ak,M,l.C.drop k++[c],l.E.drop k++[eG (l.E.drop k).reverse l.K (⟨kn l.C,t,A,[]⟩:Pe).bare],l.pa,l.bS,l.ps,ah,l.us.map λu=>{u with str:=u.str++[Rn u.x u.cO (S.bH++[(t,A)]) S.bH.length]}⟩,?_⟩,ae⟩;let v:(l.us.map λu=>{u with str:=u.str++[Rn u.x u.cO (S.bH++[(t,A)]) S.bH.length]}).map (·.x)=l.xs:=by rw[Co];rfl
 refine{watch:=?_,q8:=?_,perm:=h.perm.map _,sorted:=h.sorted,aU:=?_,jr:=?_,node:=?_,own:=?_,vz:=?_}
 .simp only[PL.K,PL.xs];rw[v];exact k1
 .simp only[PL.K,PL.xs];rw[v];exact H
 .refine⟨by rw[ux];exact h.aU.len,λj u p s F B h3=>?_⟩;rw[kY]at F;obtain⟨u0,Q,rfl⟩:=na.1 F;let f:=(e_.1 Q).1;let b3:l.ss[j]?=some (l.ss[j]'(h.EH▸f)):=fG _;obtain⟨p1,p2,p3,p4⟩:=h.aU.each j u0 p _ Q B b3;obtain⟨s',q0,q1,q2,q3,_⟩:=k6 j _ p b3 B;rw[h3]at q0;cases q0;refine⟨p1,p2,by rw[q2,p3];simp,?_⟩;let Y:=(o.each u0 (h.perm.mem_iff.1 (iA Q)));let ag:iU l.xs j=u0.x:=by unfold iU PL.xs;rw[qp,kY,Q];rfl
  let a7:=C1 (iU l.xs) l.ps.length j (h.aU.len▸f);rw[ag]at a7;let K:(l.E.drop k++[eG (l.E.drop k).reverse l.K (⟨kn l.C,t,A,[]⟩:Pe).bare])[(l.E.drop k).length]?=some (eG (l.E.drop k).reverse l.K (⟨kn l.C,t,A,[]⟩:Pe).bare):=aE;obtain⟨_,w2,w3,_⟩:=iT (l.E.drop k).reverse l.K (⟨kn l.C,t,A,[]⟩:Pe).bare;let I:=H.sem K Y.2.1.1 a7 (λd G=>by
   have:=(H9 o J).ZT d G (t,A) (by simp[fX.take]);let aq:=qa Y.2.1.1;rw[w2];show d.1<t-_;have:d.1<t-S.ret:=this;omega)
  let az:l.E.length=S.bH.length-S.off:=h.q8.len o;let a6:(S.take t A).off+(l.E.drop k).length=S.bH.length:=by
   show rU S t+_=_;rw[h.old t,R,nQ];omega
  rw[a6]at I;rw[q3,p4,h.node j p B,I,L,p2];unfold kZ;rw[l8,L3];congr 1;simp[Rn,Jz,fM];rfl
 .refine⟨by rw[<-h.jr.len];unfold PL.xs;simp,λj p x F B=>?_,λx hx=>?_⟩
  .refine gw (λq cs hq=>(k4.block q (aL hq) (y _ _ _ _ hq aE)).trans hq) (h.jr.each j p x F ?_);let B:((l.us.map λu=>{u with str:=u.str++[Rn u.x u.cO (S.bH++[(t,A)]) S.bH.length]}).map (·.x))[j]?=some x:=B;rw[v]at B;exact B
  .let hx:x∈(l.us.map λu=>{u with str:=u.str++[Rn u.x u.cO (S.bH++[(t,A)]) S.bH.length]}).map (·.x):=hx;rw[v]at hx;exact h.jr.fine x hx
 .intro j p E;show(p.node:Int)=BO (iU ((l.us.map λu=>{u with str:=u.str++[Rn u.x u.cO (S.bH++[(t,A)]) S.bH.length]}).map (·.x))) j;rw[v];exact h.node j p E
 .refine⟨.inl h.own.wt,λa ha=>?_,λs P=>?_,λd G a ha=>?_⟩
  .rcases k5 a ha with⟨a0,z,T⟩|e
   .rw[<-T];exact .inl (h.own.ev a0 z)
   .exact .inr e
  .obtain⟨j,E⟩:=Ae.1 P;let f:=(e_.1 E).1;rw[k1.mS]at f;let b2:l.ps[j]?=some l.ps[j]:=fG _;let b3:l.ss[j]?=some (l.ss[j]'(h.watch.mS▸f)):=fG _;obtain⟨s',q0,q1,q2,q3,q4⟩:=k6 j _ _ b3 b2;rw[E]at q0;cases q0;let ho:=h.own.st _ (iA b3);refine⟨.inl (q1▸ho.1),λg W=>?_⟩;rcases q4 with e|⟨g',z,T⟩
   .exact .inl (ho.2 g (e▸W))
   .rw[z]at W;cases W;exact .inr T
  .rcases i_.1 G with G|G
   .exact .inl (h.own.at_ d (sx G) a ha)
   .simp at G;subst G;exact .inr (k7 a ha)
 .exact(k4.block mb (aL h.vz) (y _ _ _ _ h.vz aE)).trans h.vz
end
theorem aI.Ud(w:aC)(a:Tape)(d:Nat):aI (λ_=>False) w (re w a d):=⟨rfl,rfl,aX,λ_ _ _=>rfl⟩
def iF(w0:aC)(wb n m:Nat)(e:Ending)(d:aC):Prop:=e=.returned (.bool true)/\∃f a b c,b<=n+1/\cH w0 wb f a b c m d/\∀x∈a,x.S=x.R
section
variable{wb n m i:Nat}{T:Nat->Nat}{Ms:aB Mo}{E:aB mB}{w0 w:aC}{x:Mo}
theorem Wn{B:Nat}{L:aB aZ}{p:aQ a_}{c:Nat}{W:aC}(h:j_ B W L (.slice p L.length c))(r:B<=W.heap.size):eQ W p L/\(p=none->c=0):=by
 obtain⟨_,_,e,f,b⟩:=nI h;cases e;refine⟨λa=>?_,f⟩;obtain⟨g,m,d,q,_⟩:=b 0 (List.length_pos_iff.2 a);refine⟨g,m,d,aA,λj k=>?_⟩;obtain⟨l,i,n,_,o⟩:=b j k;cases d.symm.trans n;exact o
theorem cH.event(h:cH w0 wb T Ms n E m w)(hn:n<=200000000000)(z:∀x∈Ms,x.S=x.R)(hi:Ms[i]?=some x)(hm:m<1000000)(hg:dW w0)(a7:dG w0)(h7:14<=w0.heap.size)(nn:Int)(L:aB aZ)(g cap:Nat)(a:w.ownsRow 0 9 1 (Sl g (L.length+2) cap) (L.length+2) (cI (L++[dE,dE])))(hT:T g=0)(X:w0.heap.size<=g)(Z:∀e∈E,e.gv.ownBlock≠some g/\e.tv.ownBlock≠some g)(v:aQ a_)(A:Nat)(hL:j_ w0.heap.size w0 L (.slice v L.length A))(hl:L.length<=1100000)(F:∀s∈L,s.size<=2000000):
  dI prog 24 #[Pt x.mb,Iv nn,Sl g L.length cap] w λe N=>e=.returned (Iv (eJ x.S nn L))/\(∀c,T c=0\/c=x.pb->c<w.heap.size->N.heap[c]?=w.heap[c]?)/\∀W,aI (λ_=>False) N W->Calls prog 62 #[Pt x.yb,Iv nn,.slice v L.length A] W λe K=>e=.returned (Iv (eJ x.S nn L))/\(∀c,T c=0\/c=x.pb->c<w.heap.size->K.heap[c]?=w.heap[c]?)/\∀R,aI (λ_=>False) K R->Calls prog 63 #[Pt wb,Sl g (L.length+2) cap,.slice v L.length A] R (iF w0 wb n (m+1)):=by
 let hl':=(e_.1 hi).1;let hx:=iA hi;let r:=a.lt g rfl;obtain⟨⟨l,hM⟩,O⟩:=((h.part (2*i+1)).2 i x hi).1 rfl;obtain⟨P,hX,M⟩:=hM.exact;let Jy:=pG O nn L;let J:L.length<=cap:=by
  obtain⟨_,⟨e,_⟩|⟨_,_,_,e,_,_,h1,_⟩⟩:=a
  .cases e
  .cases e;omega
 let hA:eQ w (some (Ad g 0)) L:=λa8=>⟨g,0,rfl,r.2,λj V=>by
  rw[fC,a.cellAt j aA];unfold cI;rw[kY,tZ V,fG V];simp[List.getD,V]⟩
 apply(Ep hX O aA (h.Kt hg h7) (h.BF a7) nn _ L cap hA J aA λs hs=>gC (F s hs) aG).mono;rintro e N ⟨rfl,Q,o⟩;obtain⟨T1,k1,D⟩:=h.Xb hi o M none (Q.mono λb hb=>hb.imp id λy=>⟨y,λe=>nomatch e⟩) (rj m) Jy;let G:∀c,T c=0\/c=x.pb->¬P c:=λc f I=>by
  rcases f with f|rfl
  .have:=(M c I).1.1;omega
  .exact M.kinds _ _ _ _ (h.pair x hx) aG I
 refine⟨rfl,λc f d=>o.block c d (G c f),λW sW=>?_⟩;let B:=k1.still sW;let t:(Ms.set i {x with S:=jc x.S nn L})[i]?=some {x with S:=jc x.S nn L}:=rh hl';obtain⟨⟨ev,pv,C,L',hR⟩,_⟩:=((B.part (2*i+2)).2 i _ t).2 rfl;obtain⟨P2,U,q⟩:=hR.exact;let a1:=wo hL B.base;obtain⟨s1,s2⟩:=Wn a1 B.base.size;refine(NV (z x hx▸U:eT P2 x.S x.yb ev pv C L' W) O aA nn v L A s1 s2 λs hs=>gC (F s hs) aG).m λK ⟨Y,u⟩=>?_;obtain⟨T2,k3,a6⟩:=B.Xd t u q Y aX Jy;rw[List.set_set]at k3;let z1:=o.size;let z2:=sW.size;let p:∀c,T c=0\/c=x.pb->c<w.heap.size->K.heap[c]?=w.heap[c]?:=λc f d=>by
  rw[u.block c aA λI=>?_,sW.block c aA id,o.block c d (G c f)];rcases f with f|rfl
  .have:=(q c I).1.1;have:=D c f (.inl d);omega
  .exact q.kinds _ _ _ _ (B.pair _ (iA t)) aG I
 refine⟨rfl,p,λR H=>?_⟩;let k4:=k3.still H;refine(k4.back hn g cap A L v aA (cG (eF a λk hk=>by cases hk;exact p g (.inl hT) r.2) H λ_ _ x=>x) (a6 g (D g hT (.inl r.2)) aA) X Z (wo hL k4.base)).mono ?_;rintro e w4 ⟨e1,T',n',E',h1,h2⟩;refine⟨e1,T',_,n',E',h1,h2,λy hy=>?_⟩;rcases Bh hy with hy|rfl
 .exact z y hy
 .rfl
end
noncomputable def Au:Code:=f36.body.getD .skip
noncomputable def TX:aB Code:=match Au with
 |.seq a (.seq b (.seq c _))=>[a,b,c]
 |_=>[]
noncomputable def Pa:aY Oper:=match Au with
 |.seq _ (.seq _ (.seq _ (.seq (.region _ x _) _)))=>x
 |_=>#[]
noncomputable def NJ:Code:=match Au with
 |.seq _ (.seq _ (.seq _ (.seq _ x)))=>x
 |_=>.skip
theorem PZ:f36.body=some (uo TX (.seq (.region 13 Pa true) NJ)):=rfl
section
variable(wb pb cW g cap:Nat)(pL:aQ a_)(ln cL:Nat)
def Xk:aB (Nat×aF):=[(0,Pt wb),(1,Pt pb),(5,Pt cW),(11,Sl g (ln+2) cap)]
def YD(mb:Nat)(nn:Int):aB (Nat×aF):=[(64,Pt pb),(65,Pt pb),(66,Pt pb),(67,Pt mb),(68,.pointer (some (Ad cW 2))),(69,Iv nn),(70,Sl g (ln+2) cap),(71,.pointer (some (Ad cW 6))),(72,.slice pL ln cL),(73,Iv ln),(74,Sl g ln cap)]
theorem Nw(mb:Nat)(nn:Int)(w:aC)(k:ln+2<=cap)(f:w.cell? (Ad pb 0)=some (Pt mb))(c2:w.cell? (Ad cW 2)=some (Iv nn))(d:w.cell? (Ad cW 6)=some (.slice pL ln cL))(i:Nat)(o:Oper)(p:Nat×aF)(c:Pa[i]?=some o)(j:(YD pb cW g cap pL ln cL mb nn)[i]?=some p)(A:Act)(a:Fx 97 ((YD pb cW g cap pL ln cL mb nn).reverse++Xk wb pb cW g cap ln) A):
  look ((YD pb cW g cap pL ln cL mb nn).reverse++Xk wb pb cW g cap ln) p.1=some p.2/\∀b e,(execOp A.eval o).run prog (re w b e)=.ok (.value p.2) (re w b e):=by
 have hi:i<11:=(e_.1 j).1;have s:A.tmps[1]?=some (Pt pb):=a.get _ _ rfl;have m:A.tmps[5]?=some (Pt cW):=a.get _ _ rfl;have r:A.tmps[11]?=some (Sl g (ln+2) cap):=a.get _ _ rfl;have y:A.tmps[64]?=some (Pt pb):=a.get _ _ rfl;have q:A.tmps[65]?=some (Pt pb):=a.get _ _ rfl;have t:A.tmps[66]?=some (Pt pb):=a.get _ _ rfl;have n:A.tmps[68]?=some (.pointer (some (Ad cW 2))):=a.get _ _ rfl;have u:A.tmps[70]?=some (Sl g (ln+2) cap):=a.get _ _ rfl;have x:A.tmps[71]?=some (.pointer (some (Ad cW 6))):=a.get _ _ rfl;have v:A.tmps[72]?=some (.slice pL ln cL):=a.get _ _ rfl;have l:A.tmps[73]?=some (Iv ln):=a.get _ _ rfl;have h:i=0\/i=1\/i=2\/i=3\/i=4\/i=5\/i=6\/i=7\/i=8\/i=9\/i=10:=aA;simp only[Pa,Au,f36,ig]at c;rcases h with rfl|rfl|rfl|rfl|rfl|rfl|rfl|rfl|rfl|rfl|rfl<;>cases j<;>simp only[List.getElem?_toArray,Pr,LY,Jt]at c<;>subst c<;>refine⟨rfl,λb e=>?_⟩
 all_goals have c0':(re w b e).cell? (Ad pb 0)=some (Pt mb):=f
 all_goals have c2':(re w b e).cell? (Ad cW 2)=some (Iv nn):=c2
 all_goals have c6':(re w b e).cell? (Ad cW 6)=some (.slice pL ln cL):=d
 all_goals generalize re w b e=W at*
 all_goals clear a f c2 d hi
 all_goals unfold execOp
 all_goals go_simp
 intro h;omega
end
def J36(w0:aC)(wb n m:Nat)(T:Nat->Nat)(Ms:aB Mo)(E:aB mB)(pb cW:Nat)(nn:Int)(L:aB aZ)(pL:aQ a_)(cL:Nat)(c:Act)(b:aC):Prop:=
 ∃g cap,Fx 97 (Xk wb pb cW g cap L.length) c/\cH w0 wb T Ms n E m b/\b.ownsRow 0 9 1 (Sl g (L.length+2) cap) (L.length+2) (cI (L++[dE,dE]))/\(T g=0/\w0.heap.size<=g/\∀e∈E,e.gv.ownBlock≠some g/\e.tv.ownBlock≠some g)/\T cW=0/\∃k a mm s t,b.heap[cW]?=some (.cells #[Iv k,Iv a,Iv nn,Iv mm,.string s,.string t,.slice pL L.length cL] 73 (0,0))
def YA(w0:aC)(wb n m pb yb cW:Nat)(z nn:Int)(L:aB aZ)(pL:aQ a_)(cL:Nat)(i:Act)(b:aC):Prop:=
 ∃g cap,Fx 97 ((12,Iv z)::Xk wb pb cW g cap L.length) i/\∀c d,∃k a mm s t,(re b c d).heap[cW]?=some (.cells #[Iv k,Iv a,Iv nn,Iv mm,.string s,.string t,.slice pL L.length cL] 73 (0,0))/\(re b c d).cell? (Ad pb 1)=some (Pt yb)/\∀W,aI (λ_=>False) (re b c d) W->Calls prog 62 #[Pt yb,Iv nn,.slice pL L.length cL] W λe f=>e=.returned (Iv z)/\f.cell? (Ad cW 6)=some (.slice pL L.length cL)/\∀h,aI (λ_=>False) f h->Calls prog 63 #[Pt wb,Sl g (L.length+2) cap,.slice pL L.length cL] h (iF w0 wb n m)
theorem iF.re{w0:aC}{wb n m:Nat}(e:Ending)(w:aC)(b:Tape)(d:Nat)(h:iF w0 wb n m e w):iF w0 wb n m e (re w b d):=by
 obtain⟨k,f,a,j,g,i,c,l⟩:=h;exact⟨k,f,a,j,g,i,c.still (aI.Ud w b d),l⟩
theorem X4{A:Act}{l:aB (Nat×aF)}(h:Fx 97 l A):∃u:Nat->aF,(∀j v,look l j=some v->u j=v)/\A=⟨#[u 0,u 1,u 2,u 3,u 4,u 5,u 6,u 7,u 8,u 9,u 10,u 11,u 12,u 13,u 14,u 15,u 16,u 17,u 18,u 19,u 20,u 21,u 22,u 23,u 24,u 25,u 26,u 27,u 28,u 29,u 30,u 31,u 32,u 33,u 34,u 35,u 36,u 37,u 38,u 39,u 40,u 41,u 42,u 43,u 44,u 45,u 46,u 47,u 48,u 49,u 50,u 51,u 52,u 53,u 54,u 55,u 56,u 57,u 58,u 59,u 60,u 61,u 62,u 63,u 64,u 65,u 66,u 67,u 68,u 69,u 70,u 71,u 72,u 73,u 74,u 75,u 76,u 77,u 78,u 79,u 80,u 81,u 82,u 83,u 84,u 85,u 86,u 87,u 88,u 89,u 90,u 91,u 92,u 93,u 94,u 95,u 96],[]⟩:=by
 have⟨KB,hd,hg⟩:=h;refine⟨λj=>A.tmps.getD j undef,λj v h=>by show A.tmps.getD j undef=v;rw[Ma,hg j v h];rfl,?_⟩;have e:=C4 A.tmps 97 KB;have⟨t,d⟩:=A;simp only at*;subst hd;rw[Act.mk.injEq];exact⟨e.trans rfl,rfl⟩
section
variable{wb n m i:Nat}{T:Nat->Nat}{Ms:aB Mo}{E:aB mB}{w0 w:aC}{x:Mo}
theorem QL{pb yb cW:Nat}{z nn:Int}{L:aB aZ}{pL:aQ a_}{cL:Nat}(A:Act)(b:aC)(h:YA w0 wb n m pb yb cW z nn L pL cL A b)(c:Tape)(d:Nat):NJ.wp prog (bodyPost prog f36 (iF w0 wb n m)) A (re b c d):=by
 have⟨g,cap,hA,h⟩:=h;have⟨k,a,mm,s,t,hO,c1,j⟩:=h c d;obtain⟨u,f,rfl⟩:=X4 hA;simp only[f 0 _ rfl,f 1 _ rfl,f 5 _ rfl,f 11 _ rfl,f 12 _ rfl];have q:(re b c d).cell? (Ad cW 2)=some (Iv nn):=aD hO rfl;have x:(re b c d).cell? (Ad cW 6)=some (.slice pL L.length cL):=aD hO rfl;generalize re b c d=W at*;generalize L.length=ln at*;replace j:Hid _:=j;simp only[NJ,Au,f36,ig]
 go_upto_region 14 with fail
 go_region_with (go_at_call 62;refine(j.out _ ?_).mono ?_;(first|exact aI.aR (aT.drew)|exact aI.refl _ _);rintro e v ⟨rfl,w,l⟩;replace l:Hid _:=l)
 all_goals go_wp2_with fail
 all_goals refine(l.out _ (aI.refl _ _)).mono ?_
 all_goals intro e p i
 all_goals obtain rfl:e=.returned (.bool true):=i.1
 all_goals replace i:Hid (iF w0 wb n m (.returned (.bool true)) p):=i
 all_goals clear l j
 all_goals go_wp2_with fail
 all_goals refine(wC z _).mono ?_
 all_goals rintro e r ⟨rfl,o⟩
 all_goals obtain rfl:=o.symm
 all_goals go_wp2_with fail
 all_goals go_ret
 all_goals exact i.out
theorem TY(wb pb:Nat)(a nn mm:Int)(s t:aZ)(L:aB aZ)(pL:aQ a_)(cL:Nat)(w:aC)(J:Act->aC->bQ)(c:Calls prog 61 #[.slice pL L.length cL] (w.alloc (.cells #[Iv 5,Iv a,Iv nn,Iv mm,.string s,.string t,.slice pL L.length cL] 73)) λe f=>∃g cap,e=.returned (Sl g (L.length+2) cap)/\∀d,Fx 97 (Xk wb pb w.heap.size g cap L.length) d->J d f):
  qo prog TX J ⟨#[Pt wb,Pt pb,.agg #[Iv 5,Iv a,Iv nn,Iv mm,.string s,.string t,.slice pL L.length cL]]++Array.replicate 94 undef,[]⟩ w:=by
 simp only[TX,Au,f36,ig,ye,yf,yi,yh,jW,mz];generalize L.length=ln at*;unfold qo;go_wp2
 try refine⟨rfl,?_⟩
 unfold qo;go_wp2
 try refine⟨rfl,?_⟩
 unfold qo;go_wp2_with fail;apply c.mono;rintro e h ⟨g,cap,rfl,b⟩;replace b:Hid _:=b;go_wp2
 try refine⟨rfl,?_⟩
 unfold qo;refine b.out _ (pX rfl rfl ?_);simp only[Xk,qu,iW,uu,uv,oD];exact⟨rfl,rfl,rfl,rfl⟩
end
theorem Wj:iJ Pa 11=true:=aM
section
variable{wb n m i:Nat}{T:Nat->Nat}{Ms:aB Mo}{E:aB mB}{w0 w:aC}{x:Mo}
theorem LS(h:cH w0 wb T Ms n E m w)(J:∀x∈Ms,x.S=x.R)(hi:Ms[i]?=some x)(hg:dW w0)(y:dG w0)(h7:14<=w0.heap.size)(hm:m<1000000)(hn:n<=200000000000)(a nn mm:Int)(s t:aZ)(L:aB aZ)(lv:aF)(hL:j_ w0.heap.size w0 L lv)(O:L.length<=1100000)(G:∀s∈L,s.size<=2000000):
  dI prog 36 #[.pointer (some ⟨wb,0,none⟩),.pointer (some ⟨x.pb,0,none⟩),gV 5 a nn mm s t lv] w (iF w0 wb n (m+1)):=by
 let U:=h.base.size;obtain⟨f,j,rfl,_⟩:=nI hL;let H:T w.heap.size=0:=F8 λe=>Nat.lt_irrefl _ (h.dom _ e);refine dI.hole bE func36 PZ iF.re (λw h=>by cases h.1) (J36 w0 wb n m T Ms E x.pb w.heap.size nn L f j) (YA w0 wb n (m+1) x.pb x.yb w.heap.size (eJ x.S nn L) nn L f j) ?_ (λc d=>?_) ?_ QL
 .rintro a w c d ⟨g,cap,u,h2,h3,h4,h5,h6⟩;exact⟨g,cap,u,h2.still (aI.Ud w c d),eF h3 λ_ _=>rfl,h4,h5,h6⟩
 .let N:=(cC (re w c d).heap.size (re w c d)).al (.cells #[.int .i64 5,.int .i64 a,.int .i64 nn,.int .i64 mm,.string s,.string t,.slice f L.length j] 73 (0,0));let l:=aP (re w c d) (.cells #[.int .i64 5,.int .i64 a,.int .i64 nn,.int .i64 mm,.string s,.string t,.slice f L.length j] 73 (0,0)) _ rfl;let p:=(h.still (aI.Ud w c d)).still (aI.aR N);refine TY wb x.pb a nn mm s t L f j (re w c d) _ ((Gu w0.heap.size L _ _ (wo hL p.base) p.base.size O).mono ?_);rintro e R ⟨K,v,rfl,b⟩;obtain⟨g,cap,rfl,_⟩:=fO b aA;let C:=b.lt g rfl;let z0:w.heap.size<=g:=gC N.size C.1;refine⟨g,cap,rfl,λa' F=>⟨g,cap,F,p.still (aI.aR K),b.mono cD,⟨F8 λD=>?_,aA,λe M=>⟨λB=>?_,λB=>?_⟩⟩,H,_,_,_,_,_,K.aS l⟩⟩
  .have:=h.dom g D;omega
  .have:=h.Bu e M g (.inl B);omega
  .have:=h.Bu e M g (.inr B);omega
 .rintro A R ⟨g,cap,F,S,o,⟨q1,Z,q3⟩,Q,k,a,mm,s,t,l⟩;let r:L.length+2<=cap:=by
   obtain⟨_,⟨e,_⟩|⟨_,_,_,e,_,_,u,_⟩⟩:=o
   .cases e
   .cases e;omega
  let I:=S.pair x (iA hi);refine gX.zF (n:=11) (m:=YD x.pb w.heap.size g cap f L.length j x.mb nn) (q:=12) (d:=75) rfl F rfl ?_ Wj ?_ (Nw wb x.pb w.heap.size g cap f L.length j x.mb nn R r (aD I rfl) (aD l rfl) (aD l rfl)) ⟨_,rfl,rfl,rfl,rfl⟩ func24 rfl rfl rfl aG (S.event hn J hi hm hg y h7 nn L g cap o q1 Z q3 f j hL O G) ?_ ⟨_,rfl,rfl,rfl,rfl⟩ aG ?_
  .simp[YD]
  .intro i hi;let h:i=0\/i=1\/i=2\/i=3\/i=4\/i=5\/i=6\/i=7\/i=8\/i=9\/i=10:=aA;obtain rfl|rfl|rfl|rfl|rfl|rfl|rfl|rfl|rfl|rfl|rfl:=h<;>rfl
  .rintro e w' ⟨u,_⟩;exact⟨_,u⟩
  .rintro a' v w2 ⟨V,P,Y⟩ hF c d;cases V;refine⟨g,cap,hF.less ?_,λX d'=>⟨k,a,mm,s,t,(P _ (.inl Q) (aL l)).trans l,aD ((P _ (.inr rfl) (aL I)).trans I) rfl,λW sW=>(Y W sW.LK.LK).mono ?_⟩⟩
   .simp only[Xk,qu,iW,uu,uv,oD];exact⟨rfl,rfl,rfl,rfl,rfl⟩
   .rintro e w3 ⟨rfl,z,hB⟩;exact⟨rfl,aD ((z _ (.inl Q) (aL l)).trans l) rfl,hB⟩
end
theorem kx.val{P:Program}(k:Plain P){f:aY Oper}{Q:Exit->Act->aC->bQ}{i d:Nat}{rest:aB Nat}{a:Act}{w w':aC}{o:Oper}{v:aF}(p:f[i]?=some o)(h:o.guard=none)(n:o.dst=some d)(q:∀c a w b d,Q (.panic c) a w->Q (.panic c) a (re w b d))(g:¬LetsOut Q)(l:∀b e,(execOp a.eval o).run P (re w b e)=.ok (.value v) (re w' b e))(m:kx P f Q rest (a.put (some d) v) w'):kx P f Q (i::rest) a w:=by
 refine kx.cons k (λj W=>j=a.put (some d) v/\∃b e,W=re w' b e) (λ_ _ b e x=>⟨x.1,b,e,by obtain⟨_,_,rfl⟩:=x.2;rfl⟩) q g (λb e=>?_) ?_
 .unfold wpOp;let hw:Region.wanted o (yielded f a.tmps)=true:=by simp[Region.wanted,h]
  simp only[p,hw,fA];refine .inl ?_;unfold Oper.wp;rw[l];simp only[Oper.upon,n];exact⟨trivial,b,e,rfl⟩
 .rintro j W ⟨rfl,b,e,rfl⟩;exact m.re b e
def HM(w:aC)(mb:Nat)(S:fX)(w':aC):Prop:=lH (λb=>w.heap.size<=b) S mb w'/\aI (λb=>w.heap.size<=b) w w'
section
variable{w w':aC}{mb:Nat}{S:fX}
theorem AQ(d:dW w)(e:14<=w.heap.size)(a:aI (λb=>w.heap.size<=b) w w'):dW w':=
 let k:=dW.oq (w':=re w' w.tape w'.drawn) d ⟨a.os,rfl,a.output,a.size,λk c=>a.block k c (xp.2 c)⟩ e
 ⟨⟨k.conv.syn,k.conv.rng⟩,k.ns,k.et,k.tab⟩
theorem xI(d:dG w)(c:aI (λb=>w.heap.size<=b) w w'):dG w':=d.keep λk a=>c.block k a (xp.2 a)
theorem HM.still{W:aC}(h:HM w mb S w')(a:aI (λ_=>False) w' W):HM w mb S W:=⟨h.1.move a (λ_ _ x=>x) (dP.none _ _),h.2.trans (a.mono λ_ _ x=>x.elim)⟩
theorem HM.re(h:HM w mb S w')(a:Tape)(d:Nat):HM w mb S (re w' a d):=h.still (aI.Ud w' a d)
theorem HM.event(h:HM w mb S w')(r:S.OK 100)(o:dW w)(c:dG w)(k:14<=w.heap.size)(t:Int)(ao:aQ a_)(A:aB aZ)(a:Nat)(m:eQ w' ao A)(d:A.length<=a)(u:A.length<=10)(f:∀s∈A,s.size<=10)(i:eJ S t A=0):
  dI prog 24 #[.pointer (some ⟨mb,0,none⟩),.int .i64 t,.slice ao A.length a] w' λe g=>e=.returned (.int .i64 0)/\HM w mb (jc S t A) g:=by
 let⟨⟨l,hM⟩,hs⟩:=h;apply(Ep hM r aA (AQ o k hs) (xI c hs) t ao A a m d aA λs n=>gC (f s n) aG).mono;rintro e g ⟨rfl,q,p⟩;rw[i];have:=hs.size;exact⟨rfl,q.mono λb j=>j.elim id λh=>aA,hs.trans p⟩
end
noncomputable def Ii:Code:=f34.body.getD .skip
noncomputable def Pf:aB Code:=match Ii with
 |.seq a (.seq b (.seq c (.seq d (.seq e (.seq f (.seq g (.seq h (.seq i _))))))))=>[a,b,c,d,e,f,g,h,i]
 |_=>[]
noncomputable def EL:Code:=match Ii with
 |.seq _ (.seq _ (.seq _ (.seq _ (.seq _ (.seq _ (.seq _ (.seq _ (.seq _ x))))))))=>x
 |_=>.skip
noncomputable def xR:aY Oper:=match EL with
 |.seq (.region _ x _) _=>x
 |_=>#[]
noncomputable def I6:aY Oper:=match EL with
 |.seq _ (.seq (.region _ x _) _)=>x
 |_=>#[]
noncomputable def I7:aY Oper:=match EL with
 |.seq _ (.seq _ (.seq (.region _ x _) _))=>x
 |_=>#[]
noncomputable def I_:Code:=match EL with
 |.seq _ (.seq _ (.seq _ x))=>x
 |_=>.skip
theorem PX:f34.body=some (uo Pf (.seq (.region 12 xR false) (.seq (.region 13 I6 false) (.seq (.region 14 I7 false) I_)))):=rfl
theorem Uu:iJ I6 1=true:=aM
theorem Uv:iJ I7 1=true:=aM
theorem V5{A:Act}{l:aB (Nat×aF)}(h:Fx 159 l A):∃u:Nat->aF,(∀j v,look l j=some v->u j=v)/\A=⟨#[u 0,u 1,u 2,u 3,u 4,u 5,u 6,u 7,u 8,u 9,u 10,u 11,u 12,u 13,u 14,u 15,u 16,u 17,u 18,u 19,u 20,u 21,u 22,u 23,u 24,u 25,u 26,u 27,u 28,u 29,u 30,u 31,u 32,u 33,u 34,u 35,u 36,u 37,u 38,u 39,u 40,u 41,u 42,u 43,u 44,u 45,u 46,u 47,u 48,u 49,u 50,u 51,u 52,u 53,u 54,u 55,u 56,u 57,u 58,u 59,u 60,u 61,u 62,u 63,u 64,u 65,u 66,u 67,u 68,u 69,u 70,u 71,u 72,u 73,u 74,u 75,u 76,u 77,u 78,u 79,u 80,u 81,u 82,u 83,u 84,u 85,u 86,u 87,u 88,u 89,u 90,u 91,u 92,u 93,u 94,u 95,u 96,u 97,u 98,u 99,u 100,u 101,u 102,u 103,u 104,u 105,u 106,u 107,u 108,u 109,u 110,u 111,u 112,u 113,u 114,u 115,u 116,u 117,u 118,u 119,u 120,u 121,u 122,u 123,u 124,u 125,u 126,u 127,u 128,u 129,u 130,u 131,u 132,u 133,u 134,u 135,u 136,u 137,u 138,u 139,u 140,u 141,u 142,u 143,u 144,u 145,u 146,u 147,u 148,u 149,u 150,u 151,u 152,u 153,u 154,u 155,u 156,u 157,u 158],[]⟩:=by
 have⟨KB,hd,hg⟩:=h;refine⟨λj=>A.tmps.getD j undef,λj v h=>by show A.tmps.getD j undef=v;rw[Ma,hg j v h];rfl,?_⟩;have e:=C4 A.tmps 159 KB;have⟨t,d⟩:=A;simp only at*;subst hd;rw[Act.mk.injEq];exact⟨e.trans rfl,rfl⟩
def Jv(last:Int)(mb:Nat)(o:aQ a_)(c:Nat):aB (Nat×aF):=[(0,.int .i64 last),(9,.pointer (some ⟨mb,0,none⟩)),(11,.slice o 0 c),(12,.int .i64 0)]
theorem TV(last:Int)(T:4<=last)(p w:aC)(s:aI (λ_=>False) p w)(Q:p.heap.size=w.heap.size)(j:dW w)(d:dG w)(u:14<=w.heap.size)(J:Act->aC->bQ)(q:∀D w' mb o c,Fx 159 (Jv last mb o c) D->HM p mb xJ w'->J D w'):
  qo prog Pf J ⟨#[.int .i64 last]++Array.replicate 158 undef,[]⟩ w:=by
 let N:decide (last<4)=false:=kg aA;let n:=GK ⟨#[79,32,91,48,32,44,32,53,93,40,32,112,32,83,91,49,44,50,93,32,33,116,114,117,101,32,41]⟩ w aG j d u;rw[M0]at n;let O:Hid (∀W,Below w.heap.size w W->Calls prog 23 #[.int .i64 10,.int .i64 20] W λe A=>∃mb,e=.returned (.tuple #[.pointer (some ⟨mb,0,none⟩),.int .i64 0])/\Calls prog 27 #[.pointer (some ⟨mb,0,none⟩),.string ⟨#[112]⟩,.string ⟨#[79,91,50,44,53,93,97]⟩] A λe y=>∃o c,e=.returned (.tuple #[.slice o 0 c,.int .i64 0])/\HM p mb xJ y):=λW a=>by
  apply(K_ 10 20 W (j.below a) (d.keep λk t=>a.block k t)).mono;rintro e A ⟨I,⟨h,_⟩|⟨_,mb,rfl,P,⟨l,i⟩⟩⟩
  .cases h
  refine⟨mb,rfl,?_⟩;let g:=a.tr I;refine(K4 i (Dg aG aG) (j.below g) (d.keep λk t=>g.block k t) (by have:=g.size;omega) oH BG aG aG).mono ?_;rintro e y ⟨v,rfl,H,B,z⟩;let f:=SX;rw[oC]at f;let m:(kK IG oH BG).1.length=0:=by have:=og List.length f.1;simpa using this
  obtain⟨o,c,rfl,_⟩:=bT (H.mono cD);let V:=a.size;let S:=g.size;let G:(kK (kF 10 20) oH BG).1.length=0:=m;let K:(kK (kF 10 20) oH BG).2.1=0:=f.2;rw[G,K];exact⟨o,c,rfl,B.mono λb a=>a.elim (λh=>aA) λh=>aA,(s.mono λ_ _ x=>x.elim).trans ((aI.aR g).trans (z.mono λb _ h=>aA))⟩
 replace q:Hid _:=q;replace n:Hid _:=n;let F:Hid (∀W,Below w.heap.size w W->Calls prog 15 #[.string ⟨#[89,91,48,44,51,93,79,91,49,44,53,93,112]⟩] W λe w'=>e=.returned (.tuple #[.int .i64 8,.int .i64 0])/\Below W.heap.size W w'):=λW a=>by
  have:=zC ⟨#[89,91,48,44,51,93,79,91,49,44,53,93,112]⟩ W aG (j.below a) (d.keep a.block) (gC u a.size)
  rwa[M4]at this
 let E:=hid λW (a:Below w.heap.size w W)=>QE ⟨#[40,97,32,124,32,98,41]⟩ ⟨#[33,40,33,97,32,38,32,33,98,41]⟩ W aG aG (j.below a) (d.keep a.block) (gC u a.size);rw[MZ]at E;simp only[Pf,Ii,f34,ig,ye,yf,yi,yh,jW,mz];unfold qo;go_wp2
 try refine⟨rfl,?_⟩
 unfold qo;go_wp2_with fail;apply kq n.out;rintro e X ⟨rfl,C⟩;go_wp2
 try refine⟨rfl,?_⟩
 unfold qo;go_wp2_with fail;refine(F.out _ C).m λR L=>?_;let Xt:=C.tr L;go_wp2
 try refine⟨rfl,?_⟩
 unfold qo;go_wp2_with fail;refine(E.out _ Xt).m λU M=>?_;go_wp2
 try refine⟨rfl,?_⟩
 unfold qo;go_wp2
 try refine⟨rfl,?_⟩
 unfold qo;go_wp2
 try refine⟨rfl,?_⟩
 unfold qo;go_wp2_with fail;apply(O.out _ (Xt.tr M)).mono;rintro e A ⟨mb,rfl,r⟩;replace r:Hid _:=r;go_wp2
 try refine⟨rfl,?_⟩
 unfold qo;go_wp2
 try refine⟨rfl,?_⟩
 unfold qo;go_wp2_with fail;apply kq r.out;rintro e y ⟨o,c,rfl,i⟩;replace i:Hid _:=i;go_wp2
 try refine⟨rfl,?_⟩
 unfold qo;refine q.out _ _ mb o c (pX rfl rfl ?_) i.out;simp only[Jv,qu,iW,uu,uv,oD];exact⟨rfl,rfl,rfl,rfl⟩
section
variable{w w1:aC}{mb:Nat}{last:Int}{o:aQ a_}{c:Nat}{A:Act}
theorem ZP:xJ.OK 1:=Mi (Dg aG aG) oH BG
theorem YE:xK.OK 2/\AR.OK 3/\mP.OK 4:=⟨pG ZP 0 headA,pG (pG ZP 0 headA) 3 [],pG (pG (pG ZP 0 headA) 3 []) 9 []⟩
theorem Xz(m:Fx 159 (Jv last mb o c) A)(h:HM w mb xJ w1)(D:dW w)(i:dG w)(z:14<=w.heap.size):
  gX prog (.region 12 xR false) (λe k w'=>e=.normal/\Fx 159 ((13,.int .i64 0)::Jv last mb o c) k/\HM w mb xK w') A w1:=by
 obtain⟨O,q,d0,E,I⟩:Cw xR 0 73 (.move (.tmp 9)):=⟨_,rfl,rfl,rfl,rfl⟩;obtain⟨P,y,L,G,B⟩:Cw xR 1 74 (.buildSlice 31 1 #[(0,.const (.string ⟨#[97]⟩))]):=⟨_,rfl,rfl,rfl,rfl⟩;obtain⟨N,t,s,F,u⟩:Cw xR 2 75 (.call {callee:=.value (.func 24),args:=#[.tmp 73,.const (.int .i64 0),.tmp 74],argTypes:=#[47,3,31]}):=⟨_,rfl,rfl,rfl,rfl⟩;obtain⟨Q,J,K,C,H⟩:Cw xR 3 13 (.assign (.tmp 75)):=⟨_,rfl,rfl,rfl,rfl⟩;let a:¬LetsOut (λ(e:Exit)(k:Act)(w':aC)=>e=.normal/\Fx 159 ((13,.int .i64 0)::Jv last mb o c) k/\HM w mb xK w'):=λ⟨_,_,h,_⟩=>by cases h
 apply gX.region bE;show kx prog xR _ [0,1,2,3] A w1;let M:A.tmps[9]?=some (.pointer (some ⟨mb,0,none⟩)):=m.get _ _ rfl;refine kx.val bE q I d0 (λ_ _ _ _ _ h=>by cases h.1) a (v:=.pointer (some ⟨mb,0,none⟩)) (w':=w1) (λf e=>?_) ?_
 .unfold execOp;simp only[E];go_simp
 let n:=aP w1 (.cells #[.string ⟨#[97]⟩] 9 (0,0)) _ rfl;refine kx.val bE y B L (λ_ _ _ _ _ h=>by cases h.1) a (v:=.slice (some ⟨w1.heap.size,0,none⟩) 1 1) (w':=w1.alloc (.cells #[.string ⟨#[97]⟩] 9)) (λf e=>?_) ?_
 .unfold execOp;simp only[G];go_simp;exact⟨rfl,rfl⟩
 let g:=(m.put (d:=73) aG (.pointer (some ⟨mb,0,none⟩))).put (d:=74) aG (.slice (some ⟨w1.heap.size,0,none⟩) 1 1);let hC:=(h.still (aI.aR ((cC w1.heap.size w1).al (.cells #[.string ⟨#[97]⟩] 9 (0,0))))).event (ZP.mono aG) D i z 0 (some ⟨w1.heap.size,0,none⟩) headA 1 (λ_=>⟨_,_,rfl,aL n,λj r=>by
  obtain rfl:j=0:=by have:j<1:=r;omega
  exact aD n rfl⟩) aG aG aG SY
 refine kx.call bE t (by simp[Region.wanted,u]) (λf d=>?_) hC (λc w' h=>by cases h.1) (λw' h=>by cases h.1) λv p l=>?_
 .rw[run_call_body F func24 rfl rfl,F9,g.bH (vs:=[.pointer (some ⟨mb,0,none⟩),.int .i64 0,.slice (some ⟨w1.heap.size,0,none⟩) 1 1]) rfl];rfl
 cases l.1;rw[s];let b:=g.put (d:=75) aG (.int .i64 0);refine kx.val bE J H K (λ_ _ _ _ _ h=>by cases h.1) a (v:=.int .i64 0) (w':=p) (λf e=>?_) (kx.nil bE λf d=>⟨rfl,(b.put aG _).less ?_,l.2.re f d⟩)
 .unfold execOp;simp only[C,b.ev (x:=.tmp 75) (v:=.int .i64 0) rfl];rfl
 .simp only[Jv,qu,iW,uu,uv,oD];exact⟨rfl,rfl,rfl,rfl,rfl⟩
theorem XA(u:Fx 159 ((13,.int .i64 0)::Jv last mb o c) A)(h:HM w mb xK w1)(y:dW w)(a:dG w)(t:14<=w.heap.size):
  gX prog (.region 13 I6 false) (λe k b=>e=.normal/\Fx 159 ((14,.int .i64 0)::(13,.int .i64 0)::Jv last mb o c) k/\HM w mb AR b) A w1:=by
 obtain⟨C,r,d0,z,D⟩:Cw I6 0 76 (.move (.tmp 9)):=⟨_,rfl,rfl,rfl,rfl⟩;refine gX.zF (n:=1) (m:=[(76,.pointer (some ⟨mb,0,none⟩))]) (q:=14) (d:=77) rfl u rfl aE Uu (λi hi=>?_) (λi o p B l A f=>?_) ⟨_,rfl,rfl,rfl,rfl⟩ func24 rfl rfl rfl aG (h.event (YE.1.mono aG) y a t 3 none [] 0 (λh=>absurd rfl h) aG aG (λs h=>by cases h) SZ) (λe b h=>⟨_,h.1⟩) ⟨_,rfl,rfl,rfl,rfl⟩ aG λk v b j f g d=>?_
 .obtain rfl:i=0:=by omega
  rfl
 .obtain rfl:i=0:=by have:=(e_.1 l).1;simp at this;omega
  cases l;cases r.symm.trans B;refine⟨rfl,λg e=>?_⟩;unfold execOp;simp only[z,f.ev (x:=.tmp 9) (v:=.pointer (some ⟨mb,0,none⟩)) rfl];rfl
 .cases j.1;refine⟨f.less ?_,j.2.re g d⟩;simp only[Jv,qu,iW,uu,uv,oD];exact⟨rfl,rfl,rfl,rfl,rfl,rfl⟩
theorem XB(u:Fx 159 ((14,.int .i64 0)::(13,.int .i64 0)::Jv last mb o c) A)(h:HM w mb AR w1)(y:dW w)(a:dG w)(t:14<=w.heap.size):
  gX prog (.region 14 I7 false) (λe k b=>e=.normal/\Fx 159 ((15,.int .i64 0)::(14,.int .i64 0)::(13,.int .i64 0)::Jv last mb o c) k/\HM w mb mP b) A w1:=by
 obtain⟨C,r,d0,z,D⟩:Cw I7 0 78 (.move (.tmp 9)):=⟨_,rfl,rfl,rfl,rfl⟩;refine gX.zF (n:=1) (m:=[(78,.pointer (some ⟨mb,0,none⟩))]) (q:=15) (d:=79) rfl u rfl aE Uv (λi hi=>?_) (λi o p B l A f=>?_) ⟨_,rfl,rfl,rfl,rfl⟩ func24 rfl rfl rfl aG (h.event (YE.2.1.mono aG) y a t 9 none [] 0 (λh=>absurd rfl h) aG aG (λs h=>by cases h) S0) (λe b h=>⟨_,h.1⟩) ⟨_,rfl,rfl,rfl,rfl⟩ aG λk v b j f g d=>?_
 .obtain rfl:i=0:=by omega
  rfl
 .obtain rfl:i=0:=by have:=(e_.1 l).1;simp at this;omega
  cases l;cases r.symm.trans B;refine⟨rfl,λg e=>?_⟩;unfold execOp;simp only[z,f.ev (x:=.tmp 9) (v:=.pointer (some ⟨mb,0,none⟩)) rfl];rfl
 .cases j.1;refine⟨f.less ?_,j.2.re g d⟩;simp only[Jv,qu,iW,uu,uv,oD];exact⟨rfl,rfl,rfl,rfl,rfl,rfl,rfl⟩
end
def yr(w:aC)(e:Ending)(a:aC):Prop:=e=.returned (.bool true)/\aI (λb=>w.heap.size<=b) w a
def tvd(t:Int×Int×Int×Bool):aB aF:=[.int .i64 t.1,.int .i64 t.2.1,.int .i64 t.2.2.1,.bool t.2.2.2]
theorem UJ{L:aB Vd}{M:aB (Int×Int×Int×Bool)}(h:L.map vdT=M):kZ L=(M.map tvd).flatten/\L.length=M.length:=by
 subst h;refine⟨?_,aE⟩;unfold kZ;rw[Co];rfl
section
variable{w w1:aC}{mb:Nat}{last:Int}{o:aQ a_}{c:Nat}{A:Act}
theorem HM.stream{W:aC}(h:HM w mb mP W)(i:dW w)(f:dG w)(j:14<=w.heap.size):
  Calls prog 28 #[.pointer (some ⟨mb,0,none⟩),.string ⟨#[112]⟩] W λe b=>∃g c,e=.returned (.tuple #[.slice (some ⟨g,0,none⟩) 3 c,.int .i64 0])/\b.cell? ⟨g,3,none⟩=some (.bool false)/\b.cell? ⟨g,7,none⟩=some (.bool true)/\b.cell? ⟨g,11,none⟩=some (.bool false)/\HM w mb mP b:=by
 let⟨⟨l,hM⟩,hs⟩:=h;apply(BV hM YE.2.2 (AQ i j hs) (xI f hs) oH).mono;rintro e b ⟨v,rfl,d,k⟩;let a:=Ky;rw[oC]at a;let⟨e1,e2⟩:=UJ a.1;rw[a.2];rw[e1,e2]at d;obtain⟨g,c,rfl,_⟩:=fO d aG;exact⟨g,c,rfl,d_ d rfl rfl,d_ d rfl rfl,d_ d rfl rfl,h.still (aI.aR k)⟩
theorem yr.re(e:Ending)(w':aC)(a:Tape)(d:Nat)(h:yr w e w'):yr w e (re w' a d):=⟨h.1,h.2.jT a d⟩
theorem S2(s:4<=last)(i:dW w)(f:dG w)(l:14<=w.heap.size)(j:∀{mb:Nat}{o:aQ a_}{c:Nat}{A:Act}{w1:aC},Fx 159 ((15,.int .i64 0)::(14,.int .i64 0)::(13,.int .i64 0)::Jv last mb o c) A->HM w mb mP w1->∀g d,I_.wp prog (bodyPost prog f34 (yr w)) A (re w1 g d)):dI prog 34 #[.int .i64 last] w (yr w):=by
 apply dI.I2 bE yr.re func34 PX;apply gX.pieces bE Pf (λA b=>∃mb o c,Fx 159 (Jv last mb o c) A/\HM w mb xJ b) (λA b g d ⟨mb,o,c,m,k⟩=>⟨mb,o,c,m,k.re g d⟩) λg d=>TV last s w (re w g d) (aI.Ud w g d) rfl ⟨⟨i.conv.syn,i.conv.rng⟩,i.ns,i.et,i.tab⟩ (f.keep λ_ _=>rfl) l _ λu b mb o c m k=>⟨mb,o,c,m,k⟩;rintro A w1 ⟨mb,o,c,r,q⟩;refine gX.seq' bE (λA b=>Fx 159 ((13,.int .i64 0)::Jv last mb o c) A/\HM w mb xK b) ((Xz r q i f l).mono ?_) λA t k=>?_
 .rintro e A b ⟨rfl,h⟩;exact h
 refine gX.seq' bE (λA b=>Fx 159 ((14,.int .i64 0)::(13,.int .i64 0)::Jv last mb o c) A/\HM w mb AR b) ((XA k.1 k.2 i f l).mono ?_) λA v n=>?_
 .rintro e A b ⟨rfl,h⟩;exact h
 refine gX.seq' bE (λA b=>Fx 159 ((15,.int .i64 0)::(14,.int .i64 0)::(13,.int .i64 0)::Jv last mb o c) A/\HM w mb mP b) ((XB n.1 n.2 i f l).mono ?_) λA x p=>?_
 .rintro e A b ⟨rfl,h⟩;exact h
 exact gX.of_wp bE (uK yr.re) (λa w h=>by cases h.1) λg d=>j p.1 p.2 g d
end
end Ev
end Go.Proofs.YtpbbmagjhkakgaaGreatDoor
