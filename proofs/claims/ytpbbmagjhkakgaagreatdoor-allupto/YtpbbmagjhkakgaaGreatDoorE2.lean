import Derived.Test.YtpbbmagjhkakgaaGreatDoorD9
import Derived.Test.YtpbbmagjhkakgaaGreatDoorE1
namespace Go.Proofs.YtpbbmagjhkakgaaGreatDoor
set_option maxHeartbeats 4000000
set_option maxRecDepth 100000
namespace Ev
open Go.Proofs.Tryz Go.RowKit Go.Deep Lf Go.Maps
theorem P0{l}:∀(i:Nat)(b:Int),b<i->sM l i b=l.map (·.x):=by
 induction l with
 |nil=>intro i b _;rfl
 |cons a l c=>intro i b h;rw[sM,bN aA,c _ _ aA];rfl
theorem J2{l}(b:(l.map (·.name)).Nodup):∀{k i:Nat}{p},l[k]?=some p->sM l i ((i+k:Nat):Int)=(l.filter λq=>decide (q.name≠p.name)).map (·.x):=by
 induction l with
 |nil=>intro k i p h;simp at h
 |cons a l d=>
  intro k i p h;rw[gW,HU]at b;cases k with
  |zero=>
   simp at h;subst h;rw[sM,bY aA,P0 _ _ aA,List.filter_cons_of_neg aE];congr 1;refine(List.filter_eq_self.2 λq c=>?_).symm;simp only[oX];exact λe=>b.1 (iX.2 ⟨q,c,e⟩)
  |succ k=>
   let h':l[k]?=some p:=by simpa using h
   rw[sM,bN aA,List.filter_cons_of_pos,gW,<-d b.2 h' (i:=i+1),show i+1+k=i+(k+1)by omega];simp only[oX];exact λe=>b.1 (iX.2 ⟨p,iA h',e.symm⟩)
section
variable{O:Nat->Prop}{S:fX}{n yb:Nat}{ev pv:aF}{C:aB CE}{L:aB CP}{w:aC}
theorem eT.Sg{g cap}(h:eT O S yb ev (Sl g L.length cap) C L w)(F:(S.aU.map (·.name)).Nodup){k c}(r:L[k]?=some c){x q}(G:bX 0 w x q):
  eT O (S.upd c.1.name λp=>{p with x:=x,cO:=p.cO+1}) yb ev (Sl g L.length cap) C (L.set k ({c.1 with x:=x,cO:=c.1.cO+1},q,c.2.2)) ((w.setCell (Ad g (k*4+1)) q).setCell (Ad g (k*4+2)) (Iv (c.1.cO+1)))/\aI O w ((w.setCell (Ad g (k*4+1)) q).setCell (Ad g (k*4+2)) (Iv (c.1.cO+1))):=by
 let u:aI (λb=>b=g) w ((w.setCell (Ad g (k*4+1)) q).setCell (Ad g (k*4+2)) (Iv (c.1.cO+1))):=(fH w (Ad g (k*4+1)) q).trans (fH _ (Ad g (k*4+2)) _);let⟨cg,sF⟩:=cE h.aU (g:=g) rfl;let a:∀{t E m b},w.heap[b]?=some (.cells E t m)->t≠86->b≠g:=λn H e=>by
  subst e;rw[sF]at n;cases n;exact H rfl
 let z:dP w (λb=>b=g) [193,9,252,199]:=by
  intro b E t m n v e;simp only[gp,iW,oF]at v;obtain y|y|y|y:=v<;>exact a n (by rw[y];decide) e
 refine⟨h.change u (λ_ B=>B) z ((u.block yb (aL h.cell) (a h.cell aG)).trans h.cell) ⟨rfl,rfl,rfl,rfl⟩ ?_ ?_ (λb B=>h.own.2.2.1 b B) (λl d=>?_) (λl d=>?_) ?_,u.mono λb _ e=>by rw[e];exact h.own.2.2.1 g rfl⟩
 .rw[xq,h.hL];exact wN (f:=λp=>{p with x:=x,cO:=p.cO+1}) F (by rw[<-h.hL,kY,r];rfl)
 .have:=iQ (iQ h.aU (k*4+1) q) (k*4+2) (Iv (c.1.cO+1));rw[Ff];let I:uy (L.set k (c.1,q,c.2.2))=(uy L).set (k*4+1) q:=vh Jx 4 (λ_=>rfl) 1 aG q L k c _ r (by simp[Jx]);let D:uy ((L.set k (c.1,q,c.2.2)).set k ({c.1 with x:=x,cO:=c.1.cO+1},q,c.2.2))=(uy (L.set k (c.1,q,c.2.2))).set (k*4+2) (Iv (c.1.cO+1)):=vh Jx 4 (λ_=>rfl) 2 aG _ _ k _ _ (rh ((e_.1 r).1)) (by simp[Jx]);rw[List.set_set]at D;rw[D,I];exact this
 .obtain d|rfl:=Bh d
  .exact .inl ⟨l,d,rfl,rfl⟩
  .exact .inl ⟨c,iA r,rfl,rfl⟩
 .obtain d|rfl:=Bh d
  .exact fQ u (z.less aE) (h.eE l d)
  .exact fQ u (z.less aE) G
 .refine CX.2 λi j hi o A b n v=>?_;simp only[Ff]at hi o;let s:∀(j:Nat)(o:j<L.length),((L.set k ({c.1 with x:=x,cO:=c.1.cO+1},q,c.2.2))[j]'(by simpa using o)).2.2=L[j].2.2:=λj o=>by
   rw[List.getElem_set];split
   .rename_i e;subst e;rw[fG o]at r;cases r;rfl
   .rfl
  rw[s i hi]at n;rw[s j o]at v;exact CX.1 h.apart i j hi o A b n v
theorem NN(h:eT O S yb ev pv C L w)(s:S.OK n)(hn:n<1000000000)(name a)(hs:name.size<=1000000000)(ht:a.size<=2000000):
  Calls prog 66 #[Pt yb,.string name,.string a] w (H4 O yb w (gb S name a)):=by
 have U:=Ez h s name a hs ht;have Y:=hid λW (B:Bl w W)=>zv (h.below B) s name;have ad:=h.mS;have hf:=s.few;have l:=hid λW z (B:Bl w W)=>Dj h B z;go_enter func66,ntmps66;go_wp2_with fail;apply U.mono;rintro e w1 ⟨m,⟨x,p,D,rfl,T⟩|⟨z,D,hz,rfl⟩⟩
 .obtain⟨g1,g2,g3⟩:=nG D;obtain⟨X,r2,r3,_⟩:=dH g2;have u:=Y.out w1 m;rcases vY name S.aU 0 with⟨H,P⟩|⟨k,q,H,P,h3,h4⟩
  .have b:gb S name a=([],6,S):=by
    unfold gb;rw[D];simp only;rw[show S.get name=none from H]
   rw[P]at u;go_wp2_with fail;apply u.mono;rintro e w2 ⟨rfl,rfl⟩;clear Y U;go_wp2_with fail;go_ret2;rw[b];exact l.out _ 6 m
  .rw[h4,fC]at u;go_wp2_with fail;apply u.mono;rintro e w2 ⟨rfl,rfl⟩;have Q:=A8 (h.below m) s (k:Int) (some x) (some p) ⟨⟨p,rfl⟩,T,X,r3⟩;have A:=J2 s.nodup (i:=0) H;rw[fC,P]at A;rw[A]at Q;have Q:=hid Q;generalize G:iI ((S.aU.filter λq=>decide (q.name≠name)).map (·.x)++(some x).toList)=nd at*;have S9:iI (Lo S name x)=nd:=G;have V:=hid λW (B:Bl w2 W)=>bX.below T B;clear Y U T A G;go_wp2_with fail;apply kq Q.out;rintro e v ⟨rfl,K⟩;have j:=m.tr K;by_cases E:40<nd
   .have b:gb S name a=([],8,S):=by unfold gb;rw[D];simp only;rw[show S.get name=some q from h3];simp only;rw[bY (S9▸E)]
    go_wp2_with fail;go_ret2;rw[b];exact l.out _ 8 j
   .have b:gb S name a=(mf S x (q.cO+1),0,S.upd name λp=>{p with x:=x,cO:=p.cO+1}):=by unfold gb;rw[D];simp only;rw[show S.get name=some q from h3];simp only;rw[bN (S9▸E)]
    have Jy:=Df s name a;rw[b]at Jy;have d:=h.below j;obtain⟨c,y,rfl⟩:=h.get H;have Z:=(e_.1 y).1;have a6:=(s.each c.1 (iA H)).2.2.2.2;obtain⟨o,cap,rfl,a7,_,f⟩:=bT d.aU;obtain⟨g,rfl,aa,_,f⟩:=f aA;obtain⟨r,J⟩:=d.Sg s.nodup y (V.out v K);rw[P]at r;have y3:v.cell? (Ad yb 4)=some (Sl g L.length cap):=aD d.cell rfl;obtain⟨q0,a1⟩:=tN (d.eE c (iA y));have c1:v.cell? (Ad g (k*4+1))=some (.pointer q0):=a1▸f _ _ (jx (k:=1) y rfl);have c2:v.cell? (Ad g (k*4+2))=some (Iv c.1.cO):=f _ _ (jx (k:=2) y rfl);have f1:v.frozen? (Ad g (k*4+1))=false:=d.aU.frozenAt _;have f2:v.frozen? (Ad g (k*4+2))=false:=d.aU.frozenAt _;have a8:yb≠g:=by
     rintro rfl;obtain⟨cg,I⟩:=cE d.aU (g:=yb) rfl;rw[d.cell]at I;cases I
    obtain⟨so,sc,R,_⟩:=bT (d.fV c (iA y));have c0:v.cell? (Ad g (k*4))=some (.string c.1.name):=f _ _ (jx (k:=0) y rfl);have c3:v.cell? (Ad g (k*4+3))=some (.slice so c.1.str.length sc):=R▸f _ _ (jx (k:=3) y rfl);have N:=r.eE _ (iA (rh Z));have hB:=xj r Jy aA x X r3 ⟨eM (.inl X),by have:=s.ret;omega⟩ (some p) N name (c.1.cO+1) so c.1.str.length sc;have HB:=hid hB;have HX:=hid r;have HO:=hid J;clear hB r J d f N;go_wp2_with fail;apply kq HB.out;rintro e w6 ⟨t,rfl,F,M⟩;go_wp2_with fail;go_ret2;rw[b];exact⟨_,rfl,lr F,⟨_,_,_,_,(HX.out.below M).mono λ_ B=>.inl B⟩,((aI.aR j).trans HO.out).trans (aI.aR M)⟩
 .have b:gb S name a=([],z,S):=by unfold gb;rw[D]
  go_wp2;go_ret2;rw[b];exact l.out _ z m
end
theorem KP:∀x y:aB aV,Op.bytesLess x y=decide (Lib.compareBytes x y<0)
 |[],[]=>by simp[Op.bytesLess,Lib.compareBytes]
 |_::_,[]=>by simp[Op.bytesLess,Lib.compareBytes]
 |[],_::_=>by simp[Op.bytesLess,Lib.compareBytes]
 |a::x,b::y=>by
  rw[Op.bytesLess,KP x y,Lib.compareBytes]
  by_cases h:a<b
  .simp[h]
  .by_cases h':b<a
   .simp[h,h']
    intro e
    subst e
    exact absurd h' h
   .have e:a=b:=UInt8.toNat_inj.1 (by simp only[UInt8.lt_iff_toNat_lt]at h h';omega)
    subst e
    simp[h]
theorem Zn(a b):Op.bytesLess a.toList b.toList=decide (nW a b<0):=by
 rw[KP,H3,H3]
theorem sorted_put{M s k}(d:lz M)(o:k<=M.length)(f:∀t,0<k->M[k-1]?=some t->nW t s<0)(i:∀t∈M.drop k,nW s t<0):lz (M.take k++s::M.drop k):=by
 let hM':=d;unfold lz at d;rw[<-yg k M]at d;let⟨h1,h2,h3⟩:=Hu.1 d;refine Hu.2 ⟨h1,Cf.2 ⟨i,h2⟩,λa m b l=>?_⟩;obtain rfl|l:=gp.1 l
 .let⟨j,hj⟩:=Ae.1 m;rw[Bm]at hj;split at hj
  .rename_i n;let h:k-1<M.length:=aA;let c:=f M[k-1] aA (fG h);by_cases e:j=k-1
   .subst e;rw[fG h]at hj;cases hj;exact c
   .obtain⟨g,rfl⟩:=e_.1 hj;exact wh _ _ _ (CX.1 hM' j (k-1) g h aA) c
  .cases hj
 .exact h3 a m b l
theorem V8{a:Type}{M:aB a}{s k}(b:k<=M.length):(M.take k++s::M.drop k)[k]?=some s:=by
 rw[sr bI];simp[Ch b]
theorem TZ{a:Type}{M:aB a}{s t k}(h:M[k]?=some t):(M.take (k+1)++s::M.drop (k+1))[k]?=some t:=by
 have:=(e_.1 h).1;rw[tZ bI,Bm,bY aA,h]
theorem T5{c:Type}{M:aB c}{s t k}(h:M[k]?=some t):((M.take (k+1)++s::M.drop (k+1)).set (k+1) t).set k s=M.take k++s::M.drop k:=by
 obtain⟨a,rfl⟩:=e_.1 h;rw[List.take_succ_eq_append_getElem a,oV a];let b:(M.take k++[M[k]]).length=k+1:=bI;rw[E5 _ _ aA,b,E9,Cg,nc,E5 _ _ bI];simp[Ch (L8 a)]
section
variable{O:Nat->Prop}{S:fX}{n yb:Nat}{ev pv:aF}{C:aB CE}{L:aB CP}{w:aC}
theorem QU(h:eT O S yb ev pv C L w)(hS:S.OK n):
  Calls prog 59 #[Pt yb] w λe w'=>∃v M,e=.returned v/\w'.ownsRow w.heap.size 9 1 v M.length (cI M)/\lz M/\M.Perm (S.aU.map (·.name))/\Bl w w':=by
 have a6:=h.mS;have hf:=hS.few;obtain⟨i0,a7,a8,aa,X⟩:=eB nT;obtain⟨o,cap,rfl,ag,_,z⟩:=bT h.aU;have HY:Hid (∀W,Bl w W->W.cell? (Ad yb 4)=some (.slice o L.length cap)):=λW B=>aD (h.below B).cell rfl;have HN:Hid (∀W (i:Nat),Bl w W->i<L.length->∃g s,o=some (Ad g 0)/\W.cell? (Ad g (i*4))=some (.string s)/\(S.aU.map (·.name)).take (i+1)=(S.aU.map (·.name)).take i++[s]/\s∉(S.aU.map (·.name)).take i):=λW i B hi=>by
  obtain⟨g,rfl,_,_,z⟩:=z aA;have e1:(S.aU.map (·.name))[i]?=some L[i].1.name:=by rw[<-h.hL,kY,kY,fG hi];rfl
  have e2:(S.aU.map (·.name)).take (i+1)=(S.aU.map (·.name)).take i++[L[i].1.name]:=by rw[ym,e1];rfl
  refine⟨g,L[i].1.name,rfl,eR B (z _ _ (jx (k:=0) (fG hi) rfl)),e2,λhm=>?_⟩;have Q:=hS.nodup.sublist (List.take_sublist (i+1) _);rw[e2]at Q;exact(L5.1 Q).2.2 _ hm _ aE rfl
 have HF:Hid ((S.aU.map (·.name)).take L.length=S.aU.map (·.name)):=by show _=_;rw[rf];simp[a6]
 generalize S.aU.map (·.name)=N at*;clear h z;generalize af:L.length=len at*;go_enter func59,ntmps59;go_wp2_with fail;go_loopw [4,3] (λiv v wr=>∃(i:Nat)(M:aB aZ),iv=Iv i/\i<=len/\M.length=i/\wr.ownsRow w.heap.size 9 1 v i (cI M)/\lz M/\M.Perm (N.take i)/\Bl w wr) (λiv _ _=>len-(intOf iv).toNat)
 case atStart=>exact⟨0,[],rfl,cD,rfl,fF _ _ _ _,List.Pairwise.nil,aE,aT⟩
 case round=>
  obtain⟨i,M,rfl,ak,b,f,A,m,B⟩:=hrel;have c4:=HY.out wr B;by_cases hi:i<len
  .obtain⟨g,s,rfl,ah,V,P⟩:=HN.out wr i B hi;have hz:=B.size;clear HY HN HF;go_wp2_with (at_builtin;refine js _ rfl _ _ 31 rfl w.heap.size 9 i0 _ 1 16 underlying31 a7 a8 aa X rfl aG _ _ _ rfl (f.alloc _) (Ad wr.heap.size 0) 1 1 [.string s] rfl rfl (oY wr _ _) xr eP aA bI ?_);intro v' w2 c r _;have a1:Bl w w2:=(B.al _).grown r (gC hz aE) λk e=>(f.lt k e).1;obtain⟨F,E,rfl,T,aj,ai,aq⟩:=fO c aA;have d:w2.ownsRow w.heap.size 9 1 (Sl F (i+1) E) (i+1) (cI (M.take i++s::M.drop i)):=by
    have e:cI (M.take i++s::M.drop i)=cI M++[.string s]:=by rw[rf aA,t_ aA];simp[cI]
    rw[e];exact c
   have I:∀t∈M,t≠s:=λt q e=>P (e▸m.mem_iff.1 q);replace I:Hid _:=I;replace b:Hid _:=b;replace A:Hid _:=A;replace m:Hid _:=m;clear c r f P;go_wp2_with fail;go_loopw [5] (λU wq=>∃k:Nat,U=Iv k/\k<=i/\wq.ownsRow w.heap.size 9 1 (Sl F (i+1) E) (i+1) (cI (M.take k++s::M.drop k))/\Bl w wq/\Hid (∀t∈M.drop k,nW s t<0)) (λU _=>(intOf U).toNat)
   case atStart=>exact⟨i,dU,aX,d,a1,λt q=>by rw[t_ (b.out▸aX)]at q;simp at q⟩
   case round=>
    obtain⟨k,rfl,hk,a,J,y⟩:=hrel;have fin:Hid ((∀t,0<k->M[k-1]?=some t->nW t s<0)->∃D,D.length=i+1/\cI D=cI (M.take k++s::M.drop k)/\lz D/\D.Perm (N.take (i+1))):=λZ=>⟨_,by have:=b.out;simp;omega,rfl,sorted_put A.out (b.out▸hk) Z y.out,by
     rw[V];apply List.perm_middle.trans;rw[yg];exact(List.perm_append_comm (l₁:=[s])).trans (m.out.append_right [s])⟩
    cases k with
    |zero=>
     obtain⟨D,Y,K,m3,m4⟩:=fin.out λt h=>aA;rw[<-K]at a;clear fin y K;have b1:decide ((0:Int)<((0:Nat):Int))=false:=rfl;go_wp2_with fail;go_quiet(fail);go_wp2_with fail
     try go_big_round
     exact⟨⟨i+1,D,dU,hi,Y,a,m3,m4,J.tr (below_drewN _ _)⟩,zm⟩
    |succ j=>
     obtain⟨t,q⟩:∃t,M[j]?=some t:=⟨_,fG (by rw[b.out];omega)⟩;have c1:wr.cell? (Ad F (j+1))=some (.string s):=d_ a rfl (by unfold cI;rw[kY,V8 (by rw[b.out];omega)];rfl);have c0:wr.cell? (Ad F j)=some (.string t):=d_ a rfl (by unfold cI;rw[kY,TZ q];rfl);have b1:decide ((0:Int)<(j:Int)+1)=true:=kh aA;have an:IntKind.i64.wrap (j:Int)=j:=qN aA;have ae:IntKind.i64.wrap ((j:Int)+1)=(j:Int)+1:=qN aA;have x:=Zn s t;have f0:wr.frozen? (Ad F j)=false:=a.frozenAt _;have f1:wr.frozen? (Ad F (j+1))=false:=a.frozenAt _;by_cases l:nW s t<0
     .rw[kh l]at x;have G:=hid ((iQ (iQ a (j+1) (.string t)) j (.string s)));have R:Hid (∀u∈M.drop j,nW s u<0):=λu H=>by
       obtain⟨hj,rfl⟩:=e_.1 q;rw[oV hj]at H;rcases gp.1 H with rfl|H
       .exact l
       .exact y.out u H
      have ad:Hid (((cI (M.take (j+1)++s::M.drop (j+1))).set (j+1) (.string t)).set j (.string s)=cI (M.take j++s::M.drop j)):=by
       show _=_;unfold cI;rw[<-xq,<-xq,T5 q]
      clear fin y d a l q;go_wp2_with fail;go_quiet(fail);go_wp2_with fail
      try go_big_round
      exact⟨⟨j,rfl,aA,by rw[<-ad.out];exact G.out,((J.tr (below_drewN _ nq)).setCell (p:=(Ad F (j+1))) T _).setCell (p:=(Ad F j)) T _,R⟩,zm⟩
     .rw[kg l]at x;obtain⟨D,Y,K,m3,m4⟩:=fin.out λu _ H=>by
       rw[Nat.add_sub_cancel,q]at H;cases H;have h1:=mt (v_ t s).1 (I.out t (iA q));have h2:=mt (uL s.data.toList t.data.toList).2;have h3:=uL t.data.toList s.data.toList;have h4:¬0<Lib.compareBytes t.data.toList s.data.toList:=h2 l;show Lib.compareBytes t.data.toList s.data.toList<0;have h1:¬Lib.compareBytes t.data.toList s.data.toList=0:=h1;omega
      rw[<-K]at a;clear fin y K l d q;go_wp2_with fail;go_quiet(fail);go_wp2_with fail
      try go_big_round
      exact⟨⟨i+1,D,dU,hi,Y,a,m3,m4,J.tr (below_drewN _ _)⟩,zm⟩
  .obtain rfl:i=len:=by omega
   rw[HF.out]at m;clear HY HN HF;go_wp2_with fail;go_ret;exact⟨_,M,rfl,by rw[b];exact f,A,m,B⟩
end
section
variable{O:Nat->Prop}{S:fX}{mb n:Nat}{w w':aC}{l:PL}
theorem dN.after{P us i ss}(h:dN O S mb l w)(D:After l.aW S.ret S.room l.ea l.bO l.C l.E (us.map (·.x)) i ss w w')(d:us.Perm P)(x:eV i)(r:ub us i ss){Q}(v:∀b,O b->Q b)(m:∀s∈ss,f_ w' s->Q s.cW/\∀g,s.sv.ownBlock=some g->Q g):
  lH Q {S with aU:=P} mb w'/\aI O w w':=by
 let⟨no,bZ,Cs,pb,Zv,a1,a2,a3,a4,a5,a6⟩:=D;let k:(jQ (iU (us.map (·.x))) i).length=i.length:=by simp[jQ]
 refine⟨⟨⟨l.aW,no,bZ,l.ea,l.bO,Cs,kU (jw (iU (us.map (·.x))) i.length) l.E l.C.length,some (Ad pb 0),Zv,jQ (iU (us.map (·.x))) i,ss,us⟩,?_,?_,d,Ji _ x,⟨by rw[k];exact r.len,λj u p s z y H=>?_⟩,a3,λj p t=>?_,⟨v _ h.own.wt,λa f=>v _ (h.own.ev a f),λs A=>m s A (a1.EI s A),λc E a f=>?_⟩,?_⟩,?_⟩
 .simp only[PL.K,PL.xs];rw[k];exact a1
 .simp only[PL.K,PL.xs];rw[k];exact h.q8.Tj (S':={S with aU:=P}) rfl rfl h.watch.len (λj c G z y=>(a5 j c G z y).1) a4 _
 .obtain⟨q,F,rfl⟩:=rY y;exact r.each j u q s z F H
 .obtain⟨q,_,rfl⟩:=rY t;exact Int.toNat_of_nonneg (tH _ _)
 .let⟨j,t⟩:=Ae.1 (show c∈Cs from E);let I:=(e_.1 t).1;let B:l.C[j]?=some (l.C[j]'aA):=fG aA;exact v _ (h.own.at_ _ (iA B) a ((a5 j c _ t B).2.2▸f))
 .let o:=h.vz;refine(a6.block mb (aL o) ?_).trans o;rintro(e|⟨a,f,e⟩)
  .subst e;rw[h.watch.cell]at o;cases o
  .let n:=h.watch.bH;rw[f]at n;let⟨cg,sF⟩:=cE n (g:=a.block) rfl;rw[e,o]at sF;cases sF
 .exact(aI.zj a6).mono λb _ C=>by
   obtain e|⟨a,f,e⟩:=C
   .rw[e];exact h.own.wt
   .rw[<-e];exact h.own.ev a f
theorem dN.below(h:dN O S mb l w)(a:Bl w w'):lH (λb=>O b\/w.heap.size<=b) S mb w'/\aI O w w':=
 ⟨(lH.move ⟨l,h⟩ (aI.aR (P:=λ_=>False) a) (λ_ _ x=>x) (dP.none _ _)).mono λ_ a=>.inl a,aI.aR a⟩
theorem dN.Zr(h:dN O S mb l w)(a:Bl w w'):dN O S mb l w':={h with
 watch:=h.watch.move (aI.aR (P:=λ_=>False) a) (dP.none _ _)
 jr:=h.jr.down a
 vz:=a.aS h.vz}
theorem dN.EH(h:dN O S mb l w):l.ss.length=l.us.length:=by rw[h.watch.mS,h.aU.len]
theorem dN.find(h:dN O S mb l w)(r:S.OK n)(name):
  (S.get name=none/\eW name l.ps=false)\/∃i u p s,S.get name=some u/\eW name l.ps=true/\dV name l.ps=i/\l.us[i]?=some u/\l.ps[i]?=some p/\l.ss[i]?=some s/\p.name=name/\u.name=name:=by
 let a:∀(j:Nat) p,l.ps[j]?=some p->∃u s,l.us[j]?=some u/\l.ss[j]?=some s/\p.name=u.name:=λj p c=>by
  let d:=(e_.1 c).1;let b:l.us[j]?=some (l.us[j]'(h.aU.len▸d)):=fG _;let f:l.ss[j]?=some (l.ss[j]'(h.watch.mS▸d)):=fG _;exact⟨_,_,b,f,(h.aU.each j _ p _ b c f).1⟩
 cases g:eW name l.ps with
 |true=>
  obtain⟨p,c,k⟩:=(tV name l.ps).1 g;let⟨u,s,b,f,h3⟩:=a _ p c;let o:u.name=name:=h3▸k;refine .inr ⟨_,u,p,s,?_,rfl,rfl,b,c,f,k,o⟩;rw[<-o];exact get_mem r.nodup (h.perm.mem_iff.1 (iA b))
 |false=>
  refine .inl ⟨get_none.2 λq t e=>?_,rfl⟩;let⟨j,d⟩:=Ae.1 (h.perm.mem_iff.2 t);let m:=(e_.1 d).1;let c:l.ps[j]?=some (l.ps[j]'(h.aU.len▸m)):=fG _;let⟨u,s,b,f,h3⟩:=a j _ c;rw[d]at b;cases b;have:eW name l.ps=true:=(ER h.sorted).2 ⟨_,iA c,h3.trans e⟩;rw[g]at this;cases this
theorem DK{us P:aB Ag}(a:us.Perm P)(b:(P.map (·.name)).Nodup){i u}(hi:us[i]?=some u):(us.take i++us.drop (i+1)).Perm (P.filter λq=>decide (q.name≠u.name)):=by
 rw[erase_filter ((a.map _).nodup_iff.2 b) hi];exact a.filter _
theorem ub.erase{us ps ss}(h:ub us ps ss)(i):ub (us.take i++us.drop (i+1)) (ps.take i++ps.drop (i+1)) (ss.take i++ss.drop (i+1)):=
 ⟨by simp[h.len],λ_ u p s a b c=>h.each _ u p s (fI a) (fI b) (fI c)⟩
theorem Lc(h:dN O S mb l w)(f:S.OK n)(j:dW w)(k:dG w)(name):
  Calls prog 32 #[Pt mb,.string name] w λe w'=>e=.returned (Iv (iM S name).1)/\lH (λb=>O b\/w.heap.size<=b) (iM S name).2 mb w'/\aI O w w':=by
 obtain⟨c,d⟩|⟨i,u,p,s,c,d,x,v,A,y,z,o⟩:=h.find f name
 .let m:iM S name=(6,S):=by
   unfold iM;rw[bN];intro e;let⟨p,hp,hpn⟩:=oT.1 e;exact get_none.1 c p hp hpn
  rw[m];exact(Ef mb name h.vz h.watch h.sorted d j k).mono λe w' ⟨c,d⟩=>⟨c,h.below d⟩
 .let m:iM S name=(0,{S with aU:=S.aU.filter λp=>decide (p.name≠name)}):=by
   unfold iM;rw[bY (oT.2 ⟨u,(get_some c).1,o⟩)]
  rw[m];let r:l.K.length<=40:=h.nodes f▸f.nodes;refine(IY mb name h.vz h.watch h.sorted h.jr r i x d).mono λe w' ⟨c,t⟩=>⟨c,?_⟩;refine h.after (us:=l.us.take i++l.us.drop (i+1)) (by rw[l8,List.map_take,List.map_drop];exact t) (o▸DK h.perm f.nodup v) (h.sorted.erase i) (h.aU.erase i) (Q:=λb=>O b\/w.heap.size<=b) (λb q=>.inl q) λs a _=>?_;let a:s∈l.ss:=by
   obtain a|a:=i_.1 a
   .exact F_ a
   .exact sx a
  exact⟨.inl (h.own.st s a).1,λg j=>.inl ((h.own.st s a).2 g j)⟩
theorem xn(name){aW b room no bZ K ea bO C E pa bS ps ss}(h:dJ w aW b room no bZ K ea bO C E pa bS ps ss)(f:eV ps)(g:eW name ps=false)(i:dG w):
  Calls prog 93 #[Pt aW,.string name] w λe w'=>∃T q,e=.returned (.tuple #[.pointer none,.iface T q])/\lG w' (.iface T q) 6/\Bl w w':=by
 let⟨a,hE⟩:=i.OM;let l:=h.vL;let k:=mJ aW (Iv b) (Iv room) _ _ pa bS ps name w h.cell h.aU f aA;rw[g]at k;let j:=hid hE;go_enter func93,ntmps93;go_wp2_with fail;refine k.m λm d=>?_;let c:=(j.out.down d).cell;go_wp2
 go_region
 all_goals go_wp2_with fail
 all_goals go_ret2
 all_goals exact⟨_,_,rfl,⟨_,a,yF (aP _ _ _ rfl) (nX (by simp[leaves])),.inl ⟨rfl,_,_,by simp[jk],j.out.down (d.drew.al _)⟩⟩,d.drew.al _⟩
theorem BV(h:dN O S mb l w)(k:S.OK n)(r:dW w)(c:dG w)(name):
  Calls prog 28 #[Pt mb,.string name] w λe w'=>∃v,e=.returned (.tuple #[v,Iv (gm S name).2])/\w'.ownsRow w.heap.size 59 4 v (gm S name).1.length (kZ (gm S name).1)/\Bl w w':=by
 obtain⟨d,j⟩|⟨i,u,p,s,d,j,B,y,z,o,E,G⟩:=h.find k name
 .have g:gm S name=([],6):=by unfold gm;rw[d]
  rw[g];have t:=xn name h.watch h.sorted j c;have F:=aD (i:=0) h.vz rfl;have x:=hid λW T q (a:Bl w W) (b:lG W (.iface T q) 6)=>jX _ 6 W (r.below a) (c.keep a.block) b;generalize l.aW=aW at*;have A:Calls prog 49 #[Pt aW,.string name] w λe w'=>∃T q,e=.returned (.tuple #[.slice none 0 0,.iface T q])/\lG w' (.iface T q) 6/\Bl w w':=by
   go_enter func49,ntmps49;go_wp2_with fail;apply t.mono;rintro e m ⟨T,q,rfl,b,a⟩;replace b:Hid _:=b;go_wp2;go_ret2;exact⟨T,q,rfl,b.out,a⟩
  go_enter func28,ntmps28;go_wp2_with fail;apply A.mono;rintro e m ⟨T,q,rfl,b,a⟩;go_wp2_with fail;refine(x.out m T q a b).m λD f=>?_;go_wp2;go_ret2;exact⟨_,rfl,fF _ _ _ _,a.tr f⟩
 .have g:gm S name=(u.str,0):=by unfold gm;rw[d]
  rw[g];have⟨_,_,e3,e4⟩:=h.aU.each i u p s y z o;have C:=(k.each u (get_some d).1).2.2.2.2.2.2;have:=FW mb name h.vz h.watch h.sorted i B j s o aA (e4▸Dc _);rw[e3,e4]at this;exact this
theorem QK(h:dN O S mb l w):
  Calls prog 33 #[Pt mb] w λe w'=>∃v M,e=.returned v/\w'.ownsRow w.heap.size 9 1 v M.length (cI M)/\lz M/\M.Perm (S.aU.map (·.name))/\Bl w w':=by
 apply(VV mb h.vz h.watch).mono;rintro e w' ⟨v,rfl,d,g⟩;let f:jI l.ps=l.us.map (·.name):=by
  unfold jI;refine Ci λj=>?_;rw[kY,kY];cases a:l.us[j]? with
  |none=>rw[List.getElem?_eq_none (h.aU.len▸Ho.1 a)];rfl
  |some u=>
   let b:=(e_.1 a).1;let c:l.ps[j]?=some (l.ps[j]'(h.aU.len▸b)):=fG _;let i:l.ss[j]?=some (l.ss[j]'(h.EH▸b)):=fG _;rw[c];exact og some (h.aU.each j u _ _ a c i).1
 refine⟨v,jI l.ps,rfl,?_,L6.2 h.sorted,by rw[f];exact h.perm.map _,g⟩;let k:(jI l.ps).length=l.ps.length:=by simp[jI]
 rw[k];exact d
end
def Py(z:Int)(w:aC)(e:Ending)(a:aC):Prop:=∃k T q,e=.returned (.tuple #[Iv k,.iface T q])/\lG a (.iface T q) z/\Bl w a
theorem Dy(aW a c d f ev g w)(hw:w.heap[aW]?=some (.cells #[Iv a,d,f,ev,g] 153 (0,0)))(h:a<c):
  Calls prog 171 #[Pt aW,Iv c] w λe j=>∃b,e=.returned (.iface 131 (.pointer (some b)))/\Bl w j:=by
 let k:=aD (i:=0) hw rfl;go_enter func171,ntmps171;go_wp2;go_ret;exact⟨_,rfl,aT.al _⟩
section
variable{O:Nat->Prop}{S:fX}{mb n:Nat}{w:aC}{l:PL}
theorem GJ(h:dN O S mb l w)(L:dW w)(r:dG w)(H:14<=w.heap.size)(name s)(I:name.size<=maxLen)(R:s.size<=maxLen){z}(X:kG S name s=(none,z)):
  Calls prog 135 #[Pt l.aW,.string name,.string s] w λe t=>∃p T q,e=.returned (.tuple #[.pointer p,.iface T q])/\lG t (.iface T q) z/\Bl w t:=by
 have y:=D6 name w I;have⟨a,hs⟩:=r.WK;have G:=hid hs;have j:=hid λm (g:Bl w m)=>n9 s m R (L.below g) (by have:=g.size;omega);have U:=hid h.watch.cell;generalize l.aW=aW at*;obtain⟨f,rfl⟩|⟨f,u⟩|⟨x,f,u,P,rfl⟩:=MU X<;>rw[f]at y
 .go_enter func135,ntmps135;go_wp2_with fail;refine y.m λm g=>?_;have c:=(G.out.down g).cell;go_wp2
  go_region
  all_goals go_wp2_with fail
  all_goals go_ret2
  all_goals exact⟨_,_,_,rfl,AA (by simp[jk]) (G.out.down g.drew),g.drew⟩
 .rw[u]at j;go_enter func135,ntmps135;go_wp2_with fail;refine y.m λm d=>?_;go_wp2_with fail;apply(j.out m d).mono;rintro e A ⟨i,⟨Q,v,f,rfl,D,M⟩|⟨Y,T,tb,fa,f,N,rfl,J⟩⟩
  .cases f
  .have V:Hid (lG A (.iface 125 (Pt tb)) z):=by
    cases f;exact zD (r.keep (d.tr i).block) N J
   go_wp2;go_ret2;exact⟨_,_,_,rfl,V.out,d.tr i⟩
 .rw[u]at j;have⟨OX,_,Y4,_⟩:=dH u;go_enter func135,ntmps135;go_wp2_with fail;refine y.m λm d=>?_;go_wp2_with fail;apply(j.out m d).mono;rintro e A ⟨i,⟨Q,v,f,rfl,D,M⟩|⟨_,_,_,_,f,_⟩⟩
  .cases f;obtain⟨K,rfl⟩:=gU D;have k:=d.tr i;have B:=k.aS U.out;go_wp2_with fail;have F:Hid (∀W,Bl A W->Calls prog 42 #[.pointer K] W λe t=>e=.returned (Iv (bD x))/\Bl W t):=λW g=>(wG x _ _ _ (bG.below (wM D) g) aA OX.win).mono λe t h=>⟨h.1,by obtain⟨_,n,rfl⟩:=h;exact below_drewN _ _⟩;have E:=hid λW (g:Bl A W)=>Dy aW S.ret (bD x) _ _ _ _ W (g.aS B) P
   go_region_with (first
    |(go_at_call 42;refine(F.out _ ?_).mono ?_;(first|exact aT.drew|exact aT);rintro e Z ⟨rfl,o⟩)
    |(go_at_call 171;refine(E.out _ ?_).mono ?_;(first|exact aT.drew.trans o|exact o);rintro e w4 ⟨b,rfl,C⟩))
   all_goals go_wp2_with fail
   all_goals go_ret2
   all_goals exact⟨_,_,_,rfl,rD (by simp[rN]) (by simp[leaves]),(k.tr (aT.drew.trans o)).tr C⟩
  .cases f
theorem U8(name s){aW z w}(c:Calls prog 135 #[Pt aW,.string name,.string s] w λe b=>∃p T q,e=.returned (.tuple #[.pointer p,.iface T q])/\lG b (.iface T q) z/\Bl w b):
  Calls prog 91 #[Pt aW,.string name,.string s] w (Py z w):=by
 go_enter func91,ntmps91;go_wp2_with fail;apply c.mono;rintro e f ⟨p,T,q,rfl,a,d⟩;replace a:Hid _:=a;go_wp2;go_ret2;exact⟨_,_,_,rfl,a.out,d⟩
theorem zl(mb name s){aW z w}(l:w.heap[mb]?=some (.cells #[Pt aW] 104 (0,0)))(j:dW w)(g:dG w)(m:Calls prog 91 #[Pt aW,.string name,.string s] w (Py z w)):
  Calls prog 27 #[Pt mb,.string name,.string s] w λe f=>e=.returned (.tuple #[.slice none 0 0,Iv z])/\Bl w f:=by
 let t:=aD (i:=0) l rfl;let p:=hid λW T q (c:Bl w W) (b:lG W (.iface T q) z)=>jX _ z W (j.below c) (g.keep c.block) b;let o:Calls prog 48 #[Pt aW,.string name,.string s] w λe f=>∃T q,e=.returned (.tuple #[.slice none 0 0,.iface T q])/\lG f (.iface T q) z/\Bl w f:=by
  go_enter func48,ntmps48;go_wp2_with fail;apply m.mono;rintro e d ⟨k,T,q,rfl,b,c⟩;replace b:Hid _:=b;go_wp2;go_ret2;let⟨L,a,h1,h2⟩:=lG.down (w:=d) (v:=.iface T q) (n:=z) ((cC _ d).al (.cells #[.string name,.iface T q] 171 (0,0))) b.out;exact⟨_,_,rfl,⟨L,a,yF (aP _ _ _ rfl) h1,h2⟩,c.al _⟩
 go_enter func27,ntmps27;go_wp2_with fail;apply o.mono;rintro e d ⟨T,q,rfl,b,c⟩;go_wp2_with fail;refine(p.out d T q c b).m λr h=>?_;go_wp2;go_ret2;exact⟨rfl,c.tr h⟩
theorem PJ(name s){aW z w}(c:Calls prog 135 #[Pt aW,.string name,.string s] w λe b=>∃p T q,e=.returned (.tuple #[.pointer p,.iface T q])/\lG b (.iface T q) z/\Bl w b):
  Calls prog 96 #[Pt aW,.string name,.string s] w (Py z w):=by
 go_enter func96,ntmps96;go_wp2_with fail;apply c.mono;rintro e f ⟨p,T,q,rfl,a,d⟩;replace a:Hid _:=a;go_wp2;go_ret2;exact⟨_,_,_,rfl,a.out,d⟩
theorem xS(mb name s){aW z w}(l:w.heap[mb]?=some (.cells #[Pt aW] 104 (0,0)))(j:dW w)(g:dG w)(m:Calls prog 96 #[Pt aW,.string name,.string s] w (Py z w)):
  Calls prog 31 #[Pt mb,.string name,.string s] w λe f=>e=.returned (.tuple #[.slice none 0 0,Iv z])/\Bl w f:=by
 let t:=aD (i:=0) l rfl;let p:=hid λW T q (c:Bl w W) (b:lG W (.iface T q) z)=>jX _ z W (j.below c) (g.keep c.block) b;let o:Calls prog 51 #[Pt aW,.string name,.string s] w λe f=>∃T q,e=.returned (.tuple #[.slice none 0 0,.iface T q])/\lG f (.iface T q) z/\Bl w f:=by
  go_enter func51,ntmps51;go_wp2_with fail;apply m.mono;rintro e d ⟨k,T,q,rfl,b,c⟩;replace b:Hid _:=b;go_wp2;go_ret2;let⟨L,a,h1,h2⟩:=lG.down (w:=d) (v:=.iface T q) (n:=z) ((cC _ d).al (.cells #[.string name,.iface T q] 171 (0,0))) b.out;exact⟨_,_,rfl,⟨L,a,yF (aP _ _ _ rfl) h1,h2⟩,c.al _⟩
 go_enter func31,ntmps31;go_wp2_with fail;apply o.mono;rintro e d ⟨T,q,rfl,b,c⟩;go_wp2_with fail;refine(p.out d T q c b).m λr h=>?_;go_wp2;go_ret2;exact⟨rfl,c.tr h⟩
theorem R_(h:dN O S mb l w)(t:dW w)(k:dG w)(g:14<=w.heap.size)(name s){x}(A:s.size<=maxLen)(p:oh name)(r:cV s=(some x,0))(q:bD x<=S.ret)(i:eW name l.ps=false)(F:8<=l.ps.length):
  Calls prog 91 #[Pt l.aW,.string name,.string s] w (Py 7 w):=by
 have⟨a,hE⟩:=k.WJ;have u:=h.watch.vL;have j:=qe l.aW S.ret (Iv S.room) _ _ _ name s x w h.watch.cell p A t g r q;have B:Hid (∀W,Bl w W->Calls prog 97 #[Pt l.aW,.string name] W λe v=>e=.returned (.tuple #[Iv (dV name l.ps:Nat),.bool false])/\Bl W v):=λW f=>by
  have:=mJ l.aW (Iv S.ret) (Iv S.room) _ _ l.pa l.bS l.ps name W (f.aS h.watch.cell) (ij.move h.watch.aU (aI.aR (P:=λ_=>False) f) (dP.none _ _)) h.sorted aA;rw[i]at this;exact this
 have z:Hid (∀W,Bl w W->W.cell? (Ad l.aW 4)=some (.slice l.pa l.ps.length l.bS)):=λW f=>aD (f.aS h.watch.cell) rfl;have n:=hid hE;generalize dV name l.ps=E at*;generalize l.ps.length=D at*;generalize l.aW=aW at*;generalize l.pa=pa at*;generalize l.bS=bS at*;go_enter func91,ntmps91;go_wp2_with fail;apply j.mono;rintro e o ⟨sp,rfl,y,d⟩;go_wp2_with fail;refine(B.out o d).m λC m=>?_;have b:=d.tr m;have c:=(n.out.down b).cell;have G:=z.out C b;go_wp2
 go_region
 all_goals go_wp2_with fail
 all_goals go_ret2
 all_goals exact⟨_,_,_,rfl,AA (by simp[jk]) (n.out.down b.drew),b.drew⟩
theorem D4{us P:aB Ag}(a:us.Perm P)(i u):(us.take i++u::us.drop i).Perm (P++[u]):=by
 apply List.perm_middle.trans;rw[yg];exact(a.cons u).trans (List.perm_append_singleton u P).symm
theorem ub.ins{us ps ss}(h:ub us ps ss)(n:ss.length=ps.length){i}(hi:i<=ps.length){u p s}(k:p.name=u.name/\p.cO=u.cO/\s.n=u.str.length/\s.xs=kZ u.str):ub (us.take i++u::us.drop i) (ps.take i++p::ps.drop i) (ss.take i++s::ss.drop i):=by
 let m:=h.len;refine⟨bI,λj a b c f d e=>?_⟩;rcases lC aA f with⟨rfl,rfl⟩|⟨o,f⟩<;>rcases lC hi d with⟨l,rfl⟩|⟨l,d⟩<;>rcases lC aA e with⟨g,rfl⟩|⟨g,e⟩<;>first|exact k|omega|exact h.each _ a b c f d e
theorem ub.set{us ps ss}(h:ub us ps ss){i u g p k}(o:us[i]?=some u)(n:ps[i]?=some p)(l:k.name=g.name/\k.cO=g.cO)(q:g.str=u.str):ub (us.set i g) (ps.set i k) ss:=by
 refine⟨by simp[h.len],λj a b c f d m=>?_⟩;rw[List.getElem?_set]at f d;split at f
 .rename_i e;subst e;rw[bY rfl]at d;split at f
  .split at d
   .cases f;cases d;have:=h.each _ u p c o n m;rw[q];exact⟨l.1,l.2,this.2.2⟩
   .cases d
  .cases f
 .rename_i e;rw[bN e]at d;exact h.each j a b c f d m
def yt(O:Nat->Prop)(mb:Nat)(w:aC)(res:aB Vd×Int×fX)(e:Ending)(a:aC):Prop:=
 ∃v,e=.returned (.tuple #[v,Iv res.2.1])/\a.ownsRow w.heap.size 59 4 v res.1.length (kZ res.1)/\lH (λb=>O b\/(w.heap.size<=b/\v.ownBlock≠some b)) res.2.2 mb a/\aI O w a
theorem dN.xu{b}(h:dN O S mb l w){z e}(c:e=.returned (.tuple #[.slice none 0 0,Iv z]))(a:Bl w b):yt O mb w ([],z,S) e b:=⟨_,c,fF _ _ _ _,(h.below a).1.mono λ_ a=>a.imp id λx=>⟨x,λe=>nomatch e⟩,(h.below a).2⟩
theorem dN.OQ(h:dN O S mb l w)(b:S.OK n):∀c∈l.C,0<=c.time/\c.time<=1000000000000:=λc a=>by
 have:c.time∈(S.bH.drop S.off).map (·.1):=(h.q8.times h.watch.len h.watch.ins)▸iX.2 ⟨c,a,rfl⟩
 let⟨e,he,hee⟩:=iX.1 this
 rw[<-hee]
 exact b.time e (sx he)
theorem KT{v a}(k)(h:H8 v w a):Py 8 w (.returned (.tuple #[Iv k,v])) a:=by
 obtain⟨tb,q,rfl,_,b⟩:=h;exact⟨_,_,_,rfl,rD (by simp[rN]) (by simp[leaves]),b⟩
theorem dN.Sb{C P us d ss i v x cO}(h:dN O S mb l w)(I:S.OK n)(J:fZ x)(r:(us.map (·.x))[i]?=some x)(t:i<d.length)(T:H5 l.aW S.ret S.room l.ea l.bO l.C l.E (us.map (·.x)) d ss i cO w C v)(k:us.Perm P)(u:eV d)(o:ub us d ss)(a:∀s∈ss,(O s.cW\/w.heap.size<=s.cW)/\∀g,s.sv.ownBlock=some g->O g):
  yt O mb w (mf S x cO,0,{S with aU:=P}) (.returned (.tuple #[v,Iv 0])) C:=by
 obtain⟨no,bZ,E,pb,f,B,D,V,K,q,a5,N,G,y⟩:=T;let m:iU (us.map (·.x)) i=x:=by unfold iU;rw[qp,r];rfl
 let z:qQ S (jw (iU (us.map (·.x))) d.length) E (kU (jw (iU (us.map (·.x))) d.length) l.E l.C.length):=h.q8.Tj rfl rfl h.watch.len (λj c Q L F=>(a5 j c Q L F).1) q _;let U:=o.len;let H:pF (jw (iU (us.map (·.x))) d.length) (aN x) (BO (iU (us.map (·.x))) i):=by
  have:=C1 (iU (us.map (·.x))) d.length i t;rw[m]at this;exact this
 let p:=back_eq z I (by rw[rL,q]) (z.times (by rw[rL,q]) D.ins) J.1 H G cO;rw[m,p.1,p.2]at y;refine⟨v,rfl,y,h.after ⟨no,bZ,E,pb,f,D,V,K,q,a5,N⟩ k u o (λb p=>.inl p) λs A R=>⟨(a s A).1.imp id λx=>⟨x,λe=>?_⟩,λg M=>.inl ((a s A).2 g M)⟩⟩;let⟨cg,sF⟩:=cE y e;rw[R.1]at sF;cases sF
theorem K4(h:dN O S mb l w)(I:S.OK n)(r:dW w)(c:dG w)(j:14<=w.heap.size)(name b)(J:name.size<=maxLen)(t:b.size<=maxLen):
  Calls prog 27 #[Pt mb,.string name,.string b] w (yt O mb w (kK S name b)):=by
 cases d:kG S name b with
 |mk o z=>
 cases o with
 |none=>
  rw[show kK S name b=([],z,S)by unfold kK;rw[d]];exact(zl mb name b h.vz r c (U8 name b (GJ h r c j name b J t d))).mono λe E ⟨m,f⟩=>h.xu m f
 |some x=>
  let⟨g1,g2,g3⟩:=nG d;let⟨r1,r2,r3,_⟩:=dH g2;let G:=wu g1;let W:=G.high;let Q:cF (aN x)<=1000000:=gC (rS r3) aG;let R:l.ps.length=S.aU.length:=by rw[<-h.aU.len,h.perm.length_eq]
  obtain⟨m,f⟩|⟨i,u,p,s,m,f,h3,h4,h5,h6,h7,H⟩:=h.find I name
  .let C:¬S.has name=true:=λe=>by obtain⟨p,hp,N⟩:=oT.1 e;exact get_none.1 m p hp N
   by_cases H:8<=S.aU.length
   .rw[show kK S name b=([],7,S)by unfold kK;rw[d];simp only[bN C,bY H]];exact(zl mb name b h.vz r c (R_ h r c j name b t G g2 g3 f aA)).mono λe E ⟨m,f⟩=>h.xu m f
   obtain⟨i,hi⟩:∃i,dV name l.ps=i:=⟨_,rfl⟩;let K:i<=l.ps.length:=hi▸pj _ _;let a1:=h.jr.len;let D:(l.us.take i++(⟨name,x,1,[]⟩:Ag)::l.us.drop i).map (·.x)=l.xs.take i++x::l.xs.drop i:=by simp[PL.xs,List.map_take,List.map_drop]
   let L:∀u∈l.us.take i++(⟨name,x,1,[]⟩:Ag)::l.us.drop i,fZ u.x:=λu A=>by
    obtain A|A:=i_.1 ((D4 h.perm i _).mem_iff.1 A)
    .exact(I.each u A).2.1
    .simp at A;subst A;exact⟨r1,r2⟩
   let X:(jw (iU (l.xs.take i++x::l.xs.drop i)) (l.ps.length+1)).length=iI (S.aU.map (·.x)++[x]):=by
    let P:(l.xs.take i++x::l.xs.drop i).length=l.ps.length+1:=bI;rw[<-P,<-D,Al _ λy hy=>by obtain⟨u,A,rfl⟩:=iX.1 hy;exact L u A];rw[show S.aU.map (·.x)++[x]=(S.aU++[(⟨name,x,1,[]⟩:Ag)]).map (·.x)by simp];exact vD ((D4 h.perm i _).map _)
   by_cases F:40<iI (S.aU.map (·.x)++[x])
   .rw[show kK S name b=([],8,S)by unfold kK;rw[d];simp only[bN C,bN H,bY F]];refine(zl mb name b h.vz r c ((OE name b x h.watch h.sorted h.jr aA G aA t r j g2 Q g3 i hi f).mono ?_)).mono λe E ⟨m,f⟩=>h.xu m f;rintro e E ⟨v,rfl,⟨hk,_⟩|⟨_,Z⟩⟩
    .omega
    .exact KT _ Z
   .rw[show kK S name b=(mf S x 1,0,{S with aU:=S.aU++[⟨name,x,1,[]⟩]})by unfold kK;rw[d];simp only[bN C,bN H,bN F]];apply(Qy mb name b x h.vz h.watch h.sorted h.jr G t r j g2 Q ⟨eM (.inl r1),g3⟩ (h.OQ I) aA aA i hi f aA).mono;rintro e E ⟨v,rfl,sp,cW,M,U⟩;rw[<-D]at U;refine h.Sb I ⟨r1,r2⟩ (D▸KF aA) bI U (D4 h.perm i _) (hi▸h.sorted.insert (p:=fresh name sp cW) f) (h.aU.ins h.watch.mS K ⟨rfl,rfl,rfl,rfl⟩) λs B=>?_;obtain B|B:=i_.1 B
    .have:=h.own.st s (F_ B);exact⟨.inl this.1,this.2⟩
    .obtain rfl|B:=gp.1 B
     .exact⟨.inr M,λg r=>by cases r⟩
     .have:=h.own.st s (sx B);exact⟨.inl this.1,this.2⟩
  .rw[show kK S name b=([],5,S)by unfold kK;rw[d];simp only[bY (oT.2 ⟨u,(get_some m).1,H⟩)]];let⟨a,hE⟩:=c.Sz;exact(zl mb name b h.vz r c ((PG name b x h.watch h.sorted G t r j g2 g3 f hE).mono λe E ⟨k,T,q,a',e1,Y,e3,V⟩=>⟨k,T,q,e1,⟨_,a',Y,.inl ⟨rfl,2,EK,by simp[jk],by rw[e3];exact hE.down V⟩⟩,V⟩)).mono λe E ⟨m,f⟩=>h.xu m f
theorem set_perm{us:aB Ag}{i}(hi:i<us.length)(a):(us.set i a).Perm ((us.take i++us.drop (i+1))++[a]):=by
 rw[List.set_eq_take_append_cons_drop,bY hi];exact List.perm_middle.trans (List.perm_append_singleton _ _).symm
theorem LG{ps}(h:eV ps){i p c}(d:ps[i]?=some p)(f:c.name=p.name):eV (ps.set i c):=by
 have:(ps.set i c).map (·.name)=ps.map (·.name):=by
  rw[xq,f];refine Ci λj=>?_;rw[List.getElem?_set];split
  .rename_i e;subst e;rw[kY,d];simp[(e_.1 d).1]
  .rfl
 exact L6.1 (by rw[this];exact L6.2 h:((ps.set i c).map (·.name)).Pairwise λa b=>nW a b<0)
theorem Eo(h:dN O S mb l w)(C:S.OK n)(hn:n<1000000)(E:dW w)(d:dG w)(t:14<=w.heap.size)(name b)(Q:name.size<=maxLen)(A:b.size<=maxLen):
  Calls prog 31 #[Pt mb,.string name,.string b] w (yt O mb w (gb S name b)):=by
 cases c:kG S name b with
 |mk o z=>
 cases o with
 |none=>
  rw[show gb S name b=([],z,S)by unfold gb;rw[c]];exact(xS mb name b h.vz E d (PJ name b (GJ h E d t name b Q A c))).mono λe M ⟨r,m⟩=>h.xu r m
 |some x=>
  obtain⟨g1,N,X⟩:=nG c;obtain⟨W,r2,r3,_⟩:=dH N;let P:=wu g1;let hX:cF (aN x)<=1000000:=gC (rS r3) aG;rcases h.find C name with⟨r,m⟩|⟨i,u,p,s,r,m,h3,K,H,h6,h7,h8⟩
  .rw[show gb S name b=([],6,S)by unfold gb;rw[c];simp only[r]];obtain⟨a,hE⟩:=d.OM;exact(xS mb name b h.vz E d ((Mn name b x h.watch h.sorted P A E t N X m hE).mono λe M ⟨k,T,q,a',Y,U,e3,e4⟩=>⟨k,T,q,Y,⟨_,a',U,.inl ⟨rfl,3,B8,by simp[jk],by rw[e3];exact hE.down e4⟩⟩,e4⟩)).mono λe M ⟨r,m⟩=>h.xu r m
  .let a8:=(e_.1 H).1;let a7:l.xs.length=l.ps.length:=h.jr.len;obtain⟨Y,U,e3,e4⟩:=h.aU.each i u p s K H h6;let B:∀p∈l.ps,0<=p.cO/\p.cO<=1000000:=λq hq=>by
    obtain⟨j,hj⟩:=Ae.1 hq;let L:=(e_.1 hj).1;let a1:l.us[j]?=some (l.us[j]'(h.aU.len▸L)):=fG _;let a2:l.ss[j]?=some (l.ss[j]'(h.watch.mS▸L)):=fG _;obtain⟨_,e,_,_⟩:=h.aU.each j _ q _ a1 hj a2;have:=C.each _ (h.perm.mem_iff.1 (iA a1));omega
   obtain⟨D,g⟩:∃D,D=({u with x:=x,cO:=u.cO+1}:Ag):=⟨_,rfl⟩;let G:D.x=x:=by rw[g]
   let F:(l.us.set i D).map (·.x)=l.xs.set i x:=by rw[xq,G];rfl
   let R:∀v∈l.us.set i D,fZ v.x:=λv J=>by
    obtain J|rfl:=Bh J
    .exact(C.each v (h.perm.mem_iff.1 J)).2.1
    .rw[G];exact⟨W,r2⟩
   let a6:(jw (iU (l.xs.set i x)) l.ps.length).length=iI (Lo S name x):=by
    let Z:(l.xs.set i x).length=l.ps.length:=bI;rw[<-Z,<-F,Al _ λy hy=>by obtain⟨v,J,rfl⟩:=iX.1 hy;exact R v J];let h9:=DK h.perm C.nodup K;rw[h8]at h9;have:=((set_perm ((e_.1 K).1) D).trans (h9.append_right _)).map (·.x);rw[l8,gW,G]at this;exact vD this
   by_cases I:40<iI (Lo S name x)
   .rw[show gb S name b=([],8,S)by unfold gb;rw[c];simp only[r,bY I]];refine(xS mb name b h.vz E d ((Gd name b x h.watch h.sorted h.jr B P A E t N hX X i h3 p H m).mono ?_)).mono λe M ⟨r,m⟩=>h.xu r m;rintro e M ⟨v,rfl,⟨hk,_⟩|⟨_,hM⟩⟩
    .omega
    .exact KT _ hM
   .let V:(l.us.set i D).Perm (S.upd name λp=>{p with x:=x,cO:=p.cO+1}).aU:=by
     rw[g,wN (f:=λp:Ag=>{p with x:=x,cO:=p.cO+1}) ((h.perm.map _).nodup_iff.2 C.nodup) K,h8];exact h.perm.map _
    rw[show gb S name b=(mf S x (u.cO+1),0,{S with aU:=(S.upd name λp=>{p with x:=x,cO:=p.cO+1}).aU})by unfold gb;rw[c];simp only[r,bN I];rfl];apply(KU mb name b x h.vz h.watch h.sorted h.jr P A E t N hX ⟨eM (.inl W),X⟩ (h.OQ C) B i h3 p H m aA).mono;rintro e M ⟨v,rfl,sp,hB⟩;rw[<-F,U]at hB;refine h.Sb C ⟨W,r2⟩ (F▸rh aA) bI hB V (LG h.sorted H rfl) (h.aU.set K H ⟨by rw[g];exact Y,by rw[g];show p.cO+1=u.cO+1;omega⟩ (by rw[g])) λs hs=>⟨.inl (h.own.st s hs).1,(h.own.st s hs).2⟩
end
section
variable{wb n m m' i:Nat}{T:Nat->Nat}{Ms:aB Mo}{E:aB mB}{w0 w w':aC}{x:Mo}
theorem cH.Kt(h:cH w0 wb T Ms n E m w)(b:dW w0)(c:14<=w0.heap.size):dW w:=
 let k:=dW.oq (w':=re w w0.tape w.drawn) b ⟨h.base.os,rfl,h.base.output,h.base.size,λk a=>h.base.block k a (xp.2 a)⟩ c
 ⟨⟨k.conv.syn,k.conv.rng⟩,k.ns,k.et,k.tab⟩
theorem cH.BF(h:cH w0 wb T Ms n E m w)(b:dG w0):dG w:=b.keep λk a=>h.base.block k a (xp.2 a)
end
theorem FF(g cap k n xs w)(d:w.ownsRow 0 59 4 (Sl g n cap) n xs)(c:∀u∈xs,u.oneCell'=true)(b:0<k)(a:k<=n)(f:n<=1000):
  Calls prog 184 #[Sl g n cap,Iv 0,Iv (k)] w λe w'=>e=.returned (Sl g (n-k) cap)/\w'.ownsRow 0 59 4 (Sl g (n-k) cap) (n-k) (xs.drop (k*4))/\Only g w w':=by
 have:=Iu (.inr (.inr ⟨rfl,rfl,rfl,rfl,rfl⟩)) 0 g cap 0 k n xs w d c b a f
 rwa[Nat.zero_mul,List.take_zero,jW]at this
theorem MF(ea n cap w)(a:n<=cap):Calls prog 184 #[.slice ea n cap,Iv 0,Iv 0] w λe w'=>e=.returned (.slice ea n cap)/\w'=w:=by
 go_enter func184,ntmps184;go_wp2;go_ret;exact⟨rfl,rfl⟩
theorem pI(s v lo hi w)(h:v<lo\/hi<v):Calls prog 124 #[.string s,Iv v,Iv lo,Iv hi] w λe w'=>∃b,e=.returned (.iface 287 (.pointer (some b)))/\Bl w w':=by
 by_cases c:v<lo
 .go_enter func124,ntmps124;go_wp2;go_ret;exact⟨_,rfl,aT.al _⟩
 .have a:hi<v:=by omega
  go_enter func124,ntmps124;go_wp2;go_ret;exact⟨⟨_,rfl⟩,(Below.refl _ _).al _⟩
theorem Sx(s k w)(h:f_ w s)(d:k<0\/(s.n:Int)<k):
  Calls prog 150 #[Pt s.cW,Iv k] w λe w'=>∃b,e=.returned (.iface 287 (.pointer (some b)))/\Bl w w':=by
 have⟨o,cap,Qh,hc,hm,_⟩:=bT h.2;have g:w.cell? (Ad s.cW 0)=some (.slice o s.n cap):=by have:=aD (i:=0) h.1 rfl;rw[Qh]at this;exact this
 have a:=λW=>pI ⟨#[116,104,101,32,110,117,109,98,101,114,32,111,102,32,118,101,114,100,105,99,116,115]⟩ k 0 s.n W d;replace a:Hid _:=a;generalize s.n=n at*;generalize s.cW=cW at*;go_enter func150,ntmps150;go_wp2_with fail;apply(a.out _).mono;rintro e f ⟨b,rfl,c⟩;go_wp2;go_ret;exact⟨b,rfl,c⟩
theorem Vl(s k w)(h:f_ w s)(E:s.n<=1000)(H:k<=s.n)(J:∀u∈s.xs,u.oneCell'=true):
  Calls prog 150 #[Pt s.cW,Iv (k)] w λe w'=>e=.returned .nilIface/\∃v,f_ w' ⟨s.cW,v,s.n-k,s.xs.drop (k*4)⟩/\v.ownBlock=s.sv.ownBlock/\aI (λb=>b=s.cW\/s.sv.ownBlock=some b) w w':=by
 have⟨o,cap,Qh,hc,hm,_⟩:=bT h.2;have P:w.cell? (Ad s.cW 0)=some (.slice o s.n cap):=by have:=aD (i:=0) h.1 rfl;rw[Qh]at this;exact this
 have F:=hid λW=>nR ⟨#[116,104,101,32,110,117,109,98,101,114,32,111,102,32,118,101,114,100,105,99,116,115]⟩ k 0 s.n W ⟨aA,aA⟩;have D:=cJ h.1 0;have r:Calls prog 184 #[.slice o s.n cap,Iv 0,Iv (k:Int)] w λe w'=>e=.returned (.slice o (s.n-k) cap)/\w'.heap[s.cW]?=some (.cells #[s.sv] 177 (0,0))/\w'.ownsRow 0 59 4 (.slice o (s.n-k) cap) (s.n-k) (s.xs.drop (k*4))/\aI (λb=>b=s.cW\/s.sv.ownBlock=some b) w w':=by
  have a:=h.2;rw[Qh]at a;by_cases L:k=0
  .subst L;apply(MF o s.n cap w hc).mono;rintro e w' ⟨rfl,rfl⟩;exact⟨rfl,h.1,by simpa using a,aI.refl _ _⟩
  .obtain⟨g,rfl⟩:∃g,o=some (Ad g 0):=by
    obtain⟨_,⟨C,y⟩|⟨g,cp,G,C,_⟩⟩:=a
    .omega
    .cases C;exact⟨g,rfl⟩
   refine(FF g cap k s.n s.xs w a J aA H E).m λw' ⟨y,d⟩=>?_;have p:s.cW≠g:=by
    rintro e;have⟨cg,sF⟩:=cE a (g:=g) rfl;rw[<-e,h.1]at sF;cases sF
   exact⟨rfl,d.heap h.1 p,y,⟨d.os,d.output,d.size,λb t j=>d.block b t λe=>j (.inr (by rw[Qh];subst e;rfl))⟩⟩
 have c:Hid (∀W:aC,W.heap[s.cW]?=some (.cells #[s.sv] 177 (0,0))->W.ownsRow 0 59 4 (.slice o (s.n-k) cap) (s.n-k) (s.xs.drop (k*4))->aI (λb=>b=s.cW\/s.sv.ownBlock=some b) w W->f_ (W.setCell (Ad s.cW 0) (.slice o (s.n-k) cap)) ⟨s.cW,.slice o (s.n-k) cap,s.n-k,s.xs.drop (k*4)⟩/\(Value.slice o (s.n-k) cap).ownBlock=s.sv.ownBlock/\aI (λb=>b=s.cW\/s.sv.ownBlock=some b) w (W.setCell (Ad s.cW 0) (.slice o (s.n-k) cap))):=λW A B f=>by
  refine⟨⟨dR (i:=0) A,eF B λg K=>?_⟩,by rw[Qh];cases o<;>rfl,⟨f.os,f.output,by simpa using f.size,λb t j=>((mn _ _ _ _ λe=>j (.inl e)).trans (f.block b t j))⟩⟩
  .refine mn _ _ _ _ λe=>?_;have⟨cg,sF⟩:=cE B K;rw[e,A]at sF;cases sF
 have q:Hid (∀W:aC,W.heap[s.cW]?=some (.cells #[s.sv] 177 (0,0))->W.cell? (Ad s.cW 0)=some s.sv/\W.frozen? (Ad s.cW 0)=false):=λW x=>⟨aD x rfl,cJ x 0⟩;generalize s.xs.drop (k*4)=O at*;generalize s.n=n at*;generalize s.sv=sv at*;generalize s.cW=cW at*;go_enter func150,ntmps150;go_wp2_with fail;refine(F.out _).m λl M=>?_;obtain rfl:=M.symm;go_wp2_with fail;refine r.m λl ⟨z,I,N⟩=>?_;have⟨f1,f2⟩:=q.out l z;have m:=c.out l z I N;replace m:Hid _:=m;go_wp2;go_ret;exact⟨rfl,_,m.out⟩
section
variable{O:Nat->Prop}{S:fX}{mb n:Nat}{w w':aC}{l:PL}
theorem nN{c:Type}{L:aB c}{i j a b}(h:(L.set i a)[j]?=some b):(j=i/\b=a)\/(j≠i/\L[j]?=some b):=by
 rw[List.getElem?_set]at h;split at h
 .rename_i e;split at h
  .cases h;exact .inl ⟨e.symm,rfl⟩
  .cases h
 .rename_i e;exact .inr ⟨λx=>e x.symm,h⟩
theorem dN.cut{i k u p s v}(h:dN O S mb l w)(M:l.us[i]?=some u)(W:l.ps[i]?=some p)(F:l.ss[i]?=some s)(ho:f_ w' ⟨s.cW,v,s.n-k,s.xs.drop (k*4)⟩)(N:v.ownBlock=s.sv.ownBlock)(d:aI (λb=>b=s.cW\/s.sv.ownBlock=some b) w w'){P}(Z:(l.us.set i {u with str:=u.str.drop k}).Perm P):
  lH (λb=>O b\/w.heap.size<=b) {S with aU:=P} mb w'/\aI O w w':=by
 let r:=iA F;let B:=h.watch.EI s r;let A:dP w (λb=>b=s.cW\/s.sv.ownBlock=some b) [4,9,226,183,159,153,104,143]:=λb cs t m D C e=>by
  obtain e|e:=e
  .subst e;rw[B.1]at D;cases D;simp at C
  .let⟨cg,sF⟩:=cE B.2 e;rw[sF]at D;cases D;simp at C
 let Y:=(e_.1 F).1;let⟨q1,q2,q3,q4⟩:=h.aU.each i u p s M W F;let o:(l.us.set i {u with str:=u.str.drop k}).map (·.x)=l.xs:=by
  rw[xq];refine Ci λj=>?_;rw[List.getElem?_set];split
  .rename_i e;subst e;rw[PL.xs,kY,M];simp[(e_.1 M).1]
  .rfl
 refine⟨⟨⟨l.aW,l.no,l.bZ,l.ea,l.bO,l.C,l.E,l.pa,l.bS,l.ps,l.ss.set i ⟨s.cW,v,s.n-k,s.xs.drop (k*4)⟩,l.us.set i {u with str:=u.str.drop k}⟩,?_⟩,d.mono λb _ D=>?_⟩
 .refine{watch:=?_,q8:=?_,perm:=Z,sorted:=h.sorted,aU:=?_,jr:=?_,node:=?_,own:=?_,vz:=d.get h.vz (A _ _ _ _ h.vz aE)}
  .simp only[PL.K,PL.xs];rw[o];exact{h.watch with
    cell:=d.get h.watch.cell (A _ _ _ _ h.watch.cell aE)
    bH:=h.watch.bH.move d (A.less aE)
    ins:=λj c e n f=>(h.watch.ins j c e n f).move (h.watch.typed c (iA n)) d (A.less aE)
    typed:=λc Q=>(h.watch.typed c Q).move d (A.less aE)
    nodes:=h.watch.nodes.move h.watch.kV d (A.less aE)
    kV:=typed.move h.watch.kV d (A.less aE)
    aU:=ij.move h.watch.aU d (A.less aE)
    mS:=by rw[Ff];exact h.watch.mS
    zp:=λj t q n f=>by
     obtain⟨rfl,rfl⟩|⟨_,n⟩:=nN n
     .exact h.watch.zp j s q F f
     .exact h.watch.zp j t q n f
    EI:=λt C=>by
     let⟨j,I⟩:=Ae.1 C;obtain⟨_,rfl⟩|⟨y,I⟩:=nN I
     .exact ho
     .let H:=h.watch.apart j i t s I F y;let G:=h.watch.EI t (iA I);refine G.heap λb D L=>d.block b D λe=>?_;obtain rfl|L:=L
      .obtain e|e:=e
       .exact H.1 e
       .exact B.ne G e
      .obtain e|e:=e
       .exact G.ne B (by rw[<-e];exact L)
       .exact H.2 b L e
    apart:=λa b X T n f z=>by
     rcases nN n with⟨rfl,rfl⟩|⟨_,V⟩<;>rcases nN f with⟨rfl,rfl⟩|⟨_,U⟩
     .exact absurd rfl z
     .have:=h.watch.apart a b s T F U z;exact⟨this.1,λg E=>this.2 g (by rw[<-N];exact E)⟩
     .have:=h.watch.apart a b X s V F z;exact⟨this.1,λg E e=>this.2 g E (by rw[<-N];exact e)⟩
     .exact h.watch.apart a b X T V U z}
  .simp only[PL.K,PL.xs];rw[o];exact⟨h.q8.q8,h.q8.ok,h.q8.num⟩
  .refine⟨by rw[Ff];exact h.aU.len,λj a b c n f K=>?_⟩;obtain⟨rfl,rfl⟩|⟨y,n⟩:=nN n
   .rw[W]at f;cases f;obtain⟨_,rfl⟩|⟨y,_⟩:=nN K
    .exact⟨q1,q2,by show s.n-k=_;rw[q3,nQ],by show s.xs.drop _=_;rw[q4,LP]⟩
    .exact absurd rfl y
   .obtain⟨e,_⟩|⟨_,K⟩:=nN K
    .exact absurd e y
    .exact h.aU.each j a b c n f K
  .refine⟨by show((l.us.set i _).map (·.x)).length=_;rw[o];exact h.jr.len,λj p x n f=>?_,λx J=>?_⟩
   .let f:((l.us.set i {u with str:=u.str.drop k}).map (·.x))[j]?=some x:=f;rw[o]at f;exact gw (λq cs R=>(d.block q (aL R) (A _ _ _ _ R aE)).trans R) (h.jr.each j p x n f)
   .let J:x∈(l.us.set i {u with str:=u.str.drop k}).map (·.x):=J;rw[o]at J;exact h.jr.fine x J
  .intro j p I;show(p.node:Int)=BO (iU ((l.us.set i {u with str:=u.str.drop k}).map (·.x))) j;rw[o];exact h.node j p I
  .refine⟨.inl h.own.wt,λa H=>.inl (h.own.ev a H),λt C=>?_,λc Q a H=>.inl (h.own.at_ c Q a H)⟩;obtain C|rfl:=Bh C
   .exact⟨.inl (h.own.st t C).1,λg E=>.inl ((h.own.st t C).2 g E)⟩
   .exact⟨.inl (h.own.st s r).1,λg E=>.inl ((h.own.st s r).2 g (by rw[<-N];exact E))⟩
 .obtain e|e:=D
  .rw[e];exact(h.own.st s r).1
  .exact(h.own.st s r).2 b e
theorem OD(name m){aW z}(h:w.heap[mb]?=some (.cells #[Pt aW] 104 (0,0)))(f:dW w)(c:dG w)(j:Calls prog 112 #[Pt aW,.string name,Iv m] w λe w'=>∃T q,e=.returned (.iface T q)/\lG w' (.iface T q) z/\Bl w w'):
  Calls prog 69 #[Pt mb,.string name,Iv m] w λe w'=>e=.returned (Iv z)/\Bl w w':=by
 let n:=aD (i:=0) h rfl;let k:=hid λW T q (a:Bl w W) (b:lG W (.iface T q) z)=>jX _ z W (f.below a) (c.keep a.block) b;go_enter func69,ntmps69;go_wp2_with fail;apply j.mono;rintro e g ⟨T,q,rfl,b,a⟩;go_wp2_with fail;refine(k.out g T q a b).m λl d=>?_;go_wp2;go_ret;exact⟨rfl,a.tr d⟩
theorem TN(h:dN O S mb l w)(A:S.OK n)(E:dW w)(j:dG w)(name m):
  Calls prog 69 #[Pt mb,.string name,Iv m] w λe w'=>e=.returned (Iv (qR S name m).1)/\lH (λb=>O b\/w.heap.size<=b) (qR S name m).2 mb w'/\aI O w w':=by
 obtain⟨d,g⟩|⟨i,u,p,s,d,g,I,B,F,t,R,J⟩:=h.find A name
 .rw[show qR S name m=(6,S)by unfold qR;rw[d]];have z:=xn name h.watch h.sorted g j;refine(OD name m h.vz E j ?_).mono λe w' ⟨d,g⟩=>⟨d,h.below g⟩;generalize l.aW=aW at*;go_enter func112,ntmps112;go_wp2_with fail;apply z.mono;rintro e r ⟨T,q,rfl,c,a⟩;replace c:Hid _:=c;go_wp2;go_ret;exact⟨T,q,rfl,c.out,a⟩
 .have⟨e1,e2,e3,e4⟩:=h.aU.each i u p s B F t;have N:=(A.each u (get_some d).1).2.2.2.2.2.2;have z:=zR name h.watch h.sorted i I g s t;by_cases G:m<0\/(u.str.length:Int)<m
  .rw[show qR S name m=(13,S)by unfold qR;rw[d];simp only[bY G]];refine(OD name m h.vz E j ?_).mono λe w' ⟨d,g⟩=>⟨d,h.below g⟩;have C:=hid λW (a:Bl w W)=>Sx s m W (f_.move (h.watch.EI s (iA t)) (aI.aR (P:=λ_=>False) a) (dP.none _ _)) aA;generalize l.aW=aW at*;generalize s.cW=cW at*;go_enter func112,ntmps112;go_wp2_with fail;refine z.m λr a=>?_;go_wp2_with fail;apply(C.out r a).mono;rintro e M ⟨b,rfl,o⟩;go_wp2;go_ret;exact⟨_,_,rfl,⟨_,b,yF (aP _ _ _ rfl) (nX (by simp[leaves])),.inr (by simp[rN])⟩,(a.tr o).al _⟩
  .obtain⟨k,rfl⟩:∃k:Nat,m=k:=⟨m.toNat,aA⟩;have D:(l.us.set i {u with str:=u.str.drop k}).Perm (S.upd name λp=>{p with str:=p.str.drop k}).aU:=by
    rw[wN (f:=λp:Ag=>{p with str:=p.str.drop k}) ((h.perm.map _).nodup_iff.2 A.nodup) B,J];exact h.perm.map _
   rw[show qR S name k=(0,{S with aU:=(S.upd name λp=>{p with str:=p.str.drop k}).aU})by unfold qR;rw[d];simp only[bN G,Int.toNat_natCast];rfl];have y:Calls prog 112 #[Pt l.aW,.string name,Iv (k:Int)] w λe w'=>e=.returned .nilIface/\lH (λb=>O b\/w.heap.size<=b) {S with aU:=(S.upd name λp=>{p with str:=p.str.drop k}).aU} mb w'/\aI O w w':=by
    have C:Hid (∀W,Bl w W->Calls prog 150 #[Pt s.cW,Iv (k:Int)] W λe w'=>e=.returned .nilIface/\lH (λb=>O b\/w.heap.size<=b) {S with aU:=(S.upd name λp=>{p with str:=p.str.drop k}).aU} mb w'/\aI O w w'):=λW a=>by
     have y:=dN.Zr h a;refine(Vl s k W (y.watch.EI s (iA t)) aA aA (e4▸Dc _)).m λw' ⟨v,K,L,H⟩=>?_;have:=y.cut B F t K L H D;refine⟨rfl,this.1.mono λb o=>o.imp id λx=>gC a.size x,(aI.aR a).trans this.2⟩
    generalize l.aW=aW at*;generalize s.cW=cW at*;go_enter func112,ntmps112;go_wp2_with fail;refine z.m λr a=>?_;go_wp2_with fail;refine(C.out r a).m λM c=>?_;replace c:Hid _:=c;go_wp2;go_ret;exact⟨rfl,c.out⟩
   have Q:=aD (i:=0) h.vz rfl;generalize l.aW=aW at*;go_enter func69,ntmps69;go_wp2_with fail;refine y.m λr c=>?_;replace c:Hid _:=c;go_wp2_with fail;apply(o9 r).m0;go_wp2;go_ret;exact⟨rfl,c.out⟩
end
section
variable{wb n m m' i:Nat}{T:Nat->Nat}{Ms:aB Mo}{E:aB mB}{w0 w w':aC}{x:Mo}
theorem cH.Bu(h:cH w0 wb T Ms n E m w):∀e∈E,∀b,e.gv.ownBlock=some b\/e.tv.ownBlock=some b->b<w.heap.size:=by
 let⟨_,⟨_,h⟩,_⟩:=(h.part 0).1 rfl;intro e c b a;let⟨⟨_,_,h1⟩,⟨_,_,h2⟩,_⟩:=h.nD e c;exact a.elim (λa=>(h1.lt b a).2) λa=>(h2.lt b a).2
theorem cH.fresh(h:cH w0 wb T Ms n E m w){t:TypeId}{s k:Nat}{l:aF}{xs:aB aF}(o:w.ownsRow 0 t s l k xs)(p:t∉KK/\t≠70/\t≠123)(c:∀g,l.ownBlock=some g->T g=0/\w0.heap.size<=g/\∀e∈E,e.gv.ownBlock≠some g/\e.tv.ownBlock≠some g):
  ∃P f j,k_ P wb f j n E w/\(∀g,l.ownBlock=some g->¬P g)/\Own w (λb=>T b=0/\w0.heap.size<=b) λb=>P b\/l.ownBlock=some b:=by
 let⟨f,⟨j,hX⟩,_⟩:=(h.part 0).1 rfl;refine⟨λb=>b=wb\/j.ownBlock=some b\/∃e∈E,e.gv.ownBlock=some b\/e.tv.ownBlock=some b,f,j,⟨hX.cell,hX.kept,λe d=>⟨(hX.nD e d).g,(hX.nD e d).t,λb a=>.inr (.inr ⟨e,d,a⟩)⟩,.inl rfl,λb a=>.inr (.inl a)⟩,λg i=>?_,λb a=>?_⟩
 .rintro(rfl|a|⟨e,d,a⟩)
  .exact kW o hX.cell p.2.1 i
  .let⟨cur,k⟩:=cE hX.kept a;exact kW o k p.2.2 i
  .exact a.elim ((c g i).2.2 e d).1 ((c g i).2.2 e d).2
 .obtain(rfl|a|⟨e,d,a⟩)|a:=a
  .exact⟨hX.own.1,_,_,_,hX.cell,aG⟩
  .exact⟨hX.own.2 b a,lD hX.kept a aG⟩
  .have:=hX.nD e d;let⟨_,_,k1⟩:=this.g;let⟨_,_,k2⟩:=this.t;exact⟨this.own b a,a.elim (lD k1 · aG) (lD k2 · aG)⟩
  .exact⟨⟨(c b a).1,(c b a).2.1⟩,lD o a p.1⟩
theorem cH.gives(h:cH w0 wb T Ms n E m w)(s:n<=200000000000)(l k:aF)(L:aB Vd)(f:w.ownsRow 0 59 4 l L.length (kZ L))(r:w.ownsRow 0 199 4 k L.length (kZ L))(a:∀g,l.ownBlock=some g->T g=0/\w0.heap.size<=g/\∀e∈E,e.gv.ownBlock≠some g/\e.tv.ownBlock≠some g)(b:L.length<=1000):
  Calls prog 71 #[Pt wb,l,k] w λe w'=>e=.returned (.bool true)/\∃d i,cH w0 wb d Ms (n+1) i m w':=by
 let⟨P,lT,kv,hX,hP,hO⟩:=h.fresh f aG a;let p:=h.nD.1;refine(Qf hX aA aA l k L f r hP b).m λw' ⟨i,c,q,j⟩=>?_;let⟨d,h'⟩:=h.lists (hX.mono λ_=>.inl) j hO q ⟨bI,λe o=>(i_.1 o).imp id (c.2 e)⟩;exact⟨rfl,d,_,h'⟩
def RS(b:Bool)(v:aF)(z:Int)(e:Ending):Prop:=if b then e=.returned (.tuple #[v,Iv z])else e=.returned (Iv z)/\v=.slice none 0 0
def Mo.UQ(x:Mo):Nat×Nat×Nat:=(x.pb,x.mb,x.yb)
def JK(w0:aC)(wb n m':Nat)(d:aB (Nat×Nat×Nat))(e:Ending)(w':aC):Prop:=e=.returned (.bool true)/\∃c a b,cH w0 wb c a (n+1) b m' w'/\(∀x∈a,x.S=x.R)/\a.map Mo.UQ=d
def aaf(w0:aC)(wb n m':Nat)(T:Nat->Nat)(Ms:aB Mo)(x:Mo)(b:Bool)(z:Int)(g:FuncId)(d:aY aF)(w:aC)(e:Ending)(a:aC):Prop:=
 ∃v,RS b v z e/\(∀c,T c=0\/c=x.pb->c<w.heap.size->a.heap[c]?=w.heap[c]?)/\w.heap.size<=a.heap.size/\∀W,Bl a W->Calls prog g d W λe f=>∃k,RS b k z e/\Calls prog 71 #[Pt wb,v,k] f (JK w0 wb n m' (Ms.map Mo.UQ))
theorem cH.UH(h:cH w0 wb T Ms n E m w)(hn:n<=200000000000)(s:∀x∈Ms,x.S=x.R)(hi:Ms[i]?=some x)(hm:m<=m')(b:Bool)(Q M:FuncId)(X Y:aY aF)(res:aB Vd×Int×fX)(f:res.2.2.OK m')(hL:res.1.length<=1000)
  (h1:∀P l,dN P x.S x.mb l w->Calls prog Q X w λe w'=>∃v,RS b v res.2.1 e/\yt P x.mb w res (.returned (.tuple #[v,Iv res.2.1])) w')
  (Z:∀W P ev I C L,eT P x.S x.yb ev I C L W->Calls prog M Y W λe w'=>∃v,RS b v res.2.1 e/\H4 P x.yb W res (.returned (.tuple #[v,Iv res.2.1])) w'):
  Calls prog Q X w (aaf w0 wb n m' T Ms x b res.2.1 M Y w):=by
 let u:=(e_.1 hi).1;let N:=iA hi;let⟨⟨l,hM⟩,hS⟩:=((h.part (2*i+1)).2 i x hi).1 rfl;let⟨P,hX,hO⟩:=hM.exact;apply(h1 P l hX).mono;rintro e w1 ⟨v,a,v',p,O,F,o⟩;cases p;let⟨T1,k1,hT1⟩:=h.Xb hi o hO v.ownBlock F hm f;refine⟨v,a,λc R G=>o.block c G λt=>?_,o.size,λW z=>?_⟩
 .obtain R|rfl:=R
  .have:=(hO c t).1.1;omega
  .exact hO.kinds _ _ _ _ (h.pair x N) aG t
 let U:=k1.still (aI.aR z);let r:(Ms.set i {x with S:=res.2.2})[i]?=some {x with S:=res.2.2}:=rh u;let⟨⟨ev,I,C,L,hR⟩,_⟩:=((U.part (2*i+2)).2 i _ r).2 rfl;let⟨P2,hX2,hO2⟩:=hR.exact;apply(Z W P2 ev I C L (s x N▸hX2)).mono;rintro e w2 ⟨k,H,k',p,hk,D,q⟩;cases p;let⟨T2,k3,CR⟩:=U.Xd r q hO2 D aX f;rw[List.set_set]at k3;let d:∀g,v.ownBlock=some g->T1 g=0/\w.heap.size<=g/\g<W.heap.size:=λg a=>by
  let u:=O.lt g a;have:=z.size;refine⟨hT1 g (F8 λB=>?_) (.inr a),aA,aA⟩;have:=h.dom g B;omega
 let A:w2.ownsRow 0 59 4 v res.1.length (kZ res.1):=cG (fN (O.mono cD) z) q λg a t=>by
  have:=(hO2 g t).1.1;have:=(d g a).1;omega
 refine⟨k,H,(k3.gives hn v k res.1 A hk (λg a=>⟨CR g (d g a).1 (d g a).2.2,?_,λe p=>?_⟩) hL).mono ?_⟩
 .have:=(d g a).2.1;have:=h.base.size;omega
 .have:=(d g a).2.1;exact⟨λK=>by have:=h.Bu e p g (.inl K);omega,λK=>by have:=h.Bu e p g (.inr K);omega⟩
 .rintro e w' ⟨rfl,T',E',h'⟩;refine⟨rfl,T',_,E',h',λy J=>?_,?_⟩
  .obtain J|rfl:=Bh J
   .exact s y J
   .rfl
  .rw[xq];refine Ci λj=>?_;by_cases V:i=j
   .subst V;simp[u,Mo.UQ,(e_.1 hi).2]
   .simp[V]
theorem JW{S:fX}(h:S.OK n)(y:BT c_)(v:Int):(mf S y v).length<=1000:=by
 let c:S.off<=pW S y:=by unfold pW;split<;>omega
 let a:=h.kept;let b:=h.room;unfold mf Wq;rw[ux,List.length_range];omega
theorem U9{S:fX}(h:S.OK n)(s t:aZ):(kK S s t).1.length<=1000:=by
 unfold kK
 repeat' split
 all_goals first|exact cD|exact JW h _ _
theorem PK{S:fX}(h:S.OK n)(s t:aZ):(gb S s t).1.length<=1000:=by
 unfold gb
 repeat' split
 all_goals first|exact cD|exact JW h _ _
theorem Om{S:fX}(h:S.OK n)(s:aZ):(gm S s).1.length<=1000:=by
 unfold gm;split
 .exact cD
 .rename_i p a;let⟨_,_,_,_,_,_,h⟩:=h.each p (List.mem_of_find?_eq_some a);exact gC h aG
end
end Ev
end Go.Proofs.YtpbbmagjhkakgaaGreatDoor
