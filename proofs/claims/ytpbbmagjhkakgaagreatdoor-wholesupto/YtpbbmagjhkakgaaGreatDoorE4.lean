import Derived.Test.YtpbbmagjhkakgaaGreatDoorE2
import Derived.Test.YtpbbmagjhkakgaaGreatDoorE3
namespace Go.Proofs.YtpbbmagjhkakgaaGreatDoor
set_option maxHeartbeats 4000000
set_option maxRecDepth 100000
namespace Ev
open Go.Proofs.Tryz Go.RowKit Go.Deep Lf Go.Maps
theorem QC{l}:∀(i:Nat)(b:Int),b<i->s8 l i b=l.map (·.x):=by
 induction l with
 |nil=>intro i b _;rfl
 |cons a l c=>intro i b h;rw[s8,bN aA,c _ _ aA];rfl
theorem Kt{l}(b:(l.map (·.name)).Nodup):∀{k i:Nat}{p},l[k]?=some p->s8 l i ((i+k:Nat):Int)=(l.filter λq=>decide (q.name≠p.name)).map (·.x):=by
 induction l with
 |nil=>intro k i p h;simp at h
 |cons a l d=>
  intro k i p h;rw[hY,Iw]at b;cases k with
  |zero=>
   simp at h;subst h;rw[s8,bY aA,QC _ _ aA,List.filter_cons_of_neg aF];congr 1;refine(List.filter_eq_self.2 λq c=>?_).symm;simp only[pz];exact λe=>b.1 (iZ.2 ⟨q,c,e⟩)
  |succ k=>
   let h':l[k]?=some p:=by simpa using h
   rw[s8,bN aA,List.filter_cons_of_pos,hY,<-d b.2 h' (i:=i+1),show i+1+k=i+(k+1)by omega];simp only[pz];exact λe=>b.1 (iZ.2 ⟨p,iF h',e.symm⟩)
section
variable{O:Nat->Prop}{S:f_}{n yb:Nat}{ev pv:aE}{C:aB CE}{L:aB CP}{w:aC}
theorem eT.S1{g cap}(h:eT O S yb ev (Sl g L.length cap) C L w)(F:(S.aW.map (·.name)).Nodup){k c}(r:L[k]?=some c){x q}(G:bX 0 w x q):
  eT O (S.upd c.1.name λp=>{p with x:=x,cP:=p.cP+1}) yb ev (Sl g L.length cap) C (L.set k ({c.1 with x:=x,cP:=c.1.cP+1},q,c.2.2)) ((w.setCell (Ad g (k*4+1)) q).setCell (Ad g (k*4+2)) (Iv (c.1.cP+1)))/\aH O w ((w.setCell (Ad g (k*4+1)) q).setCell (Ad g (k*4+2)) (Iv (c.1.cP+1))):=by
 let u:aH (λb=>b=g) w ((w.setCell (Ad g (k*4+1)) q).setCell (Ad g (k*4+2)) (Iv (c.1.cP+1))):=(fJ w (Ad g (k*4+1)) q).trans (fJ _ (Ad g (k*4+2)) _);let⟨cg,sS⟩:=cE h.aW (g:=g) rfl;let a:∀{t E m b},w.heap[b]?=some (.cells E t m)->t≠86->b≠g:=λn H e=>by
  subst e;rw[sS]at n;cases n;exact H rfl
 let z:dQ w (λb=>b=g) [193,9,252,199]:=by
  intro b E t m n v e;simp only[gA,gw,oP]at v;obtain y|y|y|y:=v<;>exact a n (by rw[y];decide) e
 refine⟨h.change u (λ_ B=>B) z ((u.block yb (aN h.cell) (a h.cell aG)).trans h.cell) ⟨rfl,rfl,rfl,rfl⟩ ?_ ?_ (λb B=>h.own.2.2.1 b B) (λl d=>?_) (λl d=>?_) ?_,u.mono λb _ e=>by rw[e];exact h.own.2.2.1 g rfl⟩
 .rw[xL,h.hL];exact xg (f:=λp=>{p with x:=x,cP:=p.cP+1}) F (by rw[<-h.hL,lj,r];rfl)
 .have:=iW (iW h.aW (k*4+1) q) (k*4+2) (Iv (c.1.cP+1));rw[FK];let I:uQ (L.set k (c.1,q,c.2.2))=(uQ L).set (k*4+1) q:=vJ J1 4 (λ_=>rfl) 1 aG q L k c _ r (by simp[J1]);let D:uQ ((L.set k (c.1,q,c.2.2)).set k ({c.1 with x:=x,cP:=c.1.cP+1},q,c.2.2))=(uQ (L.set k (c.1,q,c.2.2))).set (k*4+2) (Iv (c.1.cP+1)):=vJ J1 4 (λ_=>rfl) 2 aG _ _ k _ _ (rF ((eY.1 r).1)) (by simp[J1]);rw[List.set_set]at D;rw[D,I];exact this
 .obtain d|rfl:=BD d
  .exact .inl ⟨l,d,rfl,rfl⟩
  .exact .inl ⟨c,iF r,rfl,rfl⟩
 .obtain d|rfl:=BD d
  .exact fU u (z.less aF) (h.eE l d)
  .exact fU u (z.less aF) G
 .refine Dg.2 λi j hi o A b n v=>?_;simp only[FK]at hi o;let s:∀(j:Nat)(o:j<L.length),((L.set k ({c.1 with x:=x,cP:=c.1.cP+1},q,c.2.2))[j]'(by simpa using o)).2.2=L[j].2.2:=λj o=>by
   rw[List.getElem_set];split
   .rename_i e;subst e;rw[fH o]at r;cases r;rfl
   .rfl
  rw[s i hi]at n;rw[s j o]at v;exact Dg.1 h.apart i j hi o A b n v
theorem Oo(h:eT O S yb ev pv C L w)(s:S.OK n)(hn:n<1000000000)(name a)(hs:name.size<=1000000000)(ht:a.size<=2000000):
  Calls prog 66 #[Pt yb,.string name,.string a] w (IA O yb w (gi S name a)):=by
 have U:=EZ h s name a hs ht;have Y:=hid λW (B:Bl w W)=>zW (h.below B) s name;have ad:=h.na;have hf:=s.few;have l:=hid λW z (B:Bl w W)=>DH h B z;go_enter func66,ntmps66;go_wp2_with fail;apply U.mono;rintro e w1 ⟨m,⟨x,p,D,rfl,T⟩|⟨z,D,hz,rfl⟩⟩
 .obtain⟨g1,g2,g3⟩:=nR D;obtain⟨X,r2,r3,_⟩:=dI g2;have u:=Y.out w1 m;rcases wK name S.aW 0 with⟨H,P⟩|⟨k,q,H,P,h3,h4⟩
  .have b:gi S name a=([],6,S):=by
    unfold gi;rw[D];simp only;rw[show S.get name=none from H]
   rw[P]at u;go_wp2_with fail;apply u.mono;rintro e w2 ⟨rfl,rfl⟩;clear Y U;go_wp2_with fail;go_ret2;rw[b];exact l.out _ 6 m
  .rw[h4,fE]at u;go_wp2_with fail;apply u.mono;rintro e w2 ⟨rfl,rfl⟩;have Q:=Br (h.below m) s (k:Int) (some x) (some p) ⟨⟨p,rfl⟩,T,X,r3⟩;have A:=Kt s.nodup (i:=0) H;rw[fE,P]at A;rw[A]at Q;have Q:=hid Q;generalize G:iN ((S.aW.filter λq=>decide (q.name≠name)).map (·.x)++(some x).toList)=nd at*;have TP:iN (LX S name x)=nd:=G;have V:=hid λW (B:Bl w2 W)=>bX.below T B;clear Y U T A G;go_wp2_with fail;apply ku Q.out;rintro e v ⟨rfl,K⟩;have j:=m.tr K;by_cases E:40<nd
   .have b:gi S name a=([],8,S):=by unfold gi;rw[D];simp only;rw[show S.get name=some q from h3];simp only;rw[bY (TP▸E)]
    go_wp2_with fail;go_ret2;rw[b];exact l.out _ 8 j
   .have b:gi S name a=(mr S x (q.cP+1),0,S.upd name λp=>{p with x:=x,cP:=p.cP+1}):=by unfold gi;rw[D];simp only;rw[show S.get name=some q from h3];simp only;rw[bN (TP▸E)]
    have J2:=Dz s name a;rw[b]at J2;have d:=h.below j;obtain⟨c,y,rfl⟩:=h.get H;have Z:=(eY.1 y).1;have a6:=(s.each c.1 (iF H)).2.2.2.2;obtain⟨o,cap,rfl,a7,_,f⟩:=bT d.aW;obtain⟨g,rfl,aa,_,f⟩:=f aA;obtain⟨r,J⟩:=d.S1 s.nodup y (V.out v K);rw[P]at r;have y3:v.cell? (Ad yb 4)=some (Sl g L.length cap):=aD d.cell rfl;obtain⟨q0,a1⟩:=uf (d.eE c (iF y));have c1:v.cell? (Ad g (k*4+1))=some (.pointer q0):=a1▸f _ _ (jC (k:=1) y rfl);have c2:v.cell? (Ad g (k*4+2))=some (Iv c.1.cP):=f _ _ (jC (k:=2) y rfl);have f1:v.frozen? (Ad g (k*4+1))=false:=d.aW.frozenAt _;have f2:v.frozen? (Ad g (k*4+2))=false:=d.aW.frozenAt _;have a8:yb≠g:=by
     rintro rfl;obtain⟨cg,I⟩:=cE d.aW (g:=yb) rfl;rw[d.cell]at I;cases I
    obtain⟨so,sc,R,_⟩:=bT (d.fY c (iF y));have c0:v.cell? (Ad g (k*4))=some (.string c.1.name):=f _ _ (jC (k:=0) y rfl);have c3:v.cell? (Ad g (k*4+3))=some (.slice so c.1.str.length sc):=R▸f _ _ (jC (k:=3) y rfl);have N:=r.eE _ (iF (rF Z));have hB:=xF r J2 aA x X r3 ⟨eM (.inl X),by have:=s.ret;omega⟩ (some p) N name (c.1.cP+1) so c.1.str.length sc;have HB:=hid hB;have HX:=hid r;have HO:=hid J;clear hB r J d f N;go_wp2_with fail;apply ku HB.out;rintro e w6 ⟨t,rfl,F,M⟩;go_wp2_with fail;go_ret2;rw[b];exact⟨_,rfl,lD F,⟨_,_,_,_,(HX.out.below M).mono λ_ B=>.inl B⟩,((aH.aS j).trans HO.out).trans (aH.aS M)⟩
 .have b:gi S name a=([],z,S):=by unfold gi;rw[D]
  go_wp2;go_ret2;rw[b];exact l.out _ z m
end
theorem Ln:∀x y:aB aX,Op.bytesLess x y=decide (Lib.compareBytes x y<0)
 |[],[]=>by simp[Op.bytesLess,Lib.compareBytes]
 |_::_,[]=>by simp[Op.bytesLess,Lib.compareBytes]
 |[],_::_=>by simp[Op.bytesLess,Lib.compareBytes]
 |a::x,b::y=>by
  rw[Op.bytesLess,Ln x y,Lib.compareBytes]
  by_cases h:a<b
  .simp[h]
  .by_cases h':b<a
   .simp[h,h']
    intro e
    subst e
    exact absurd h' h
   .have e:a=b:=UInt8.toNat_inj.1 (by simp only[UInt8.lt_iff_toNat_lt]at h h';omega)
    subst e
    simp[h]
theorem aal(a b):Op.bytesLess a.toList b.toList=decide (od a b<0):=by
 rw[Ln,Iz,Iz]
theorem sorted_put{M s k}(d:lI M)(o:k<=M.length)(f:∀t,0<k->M[k-1]?=some t->od t s<0)(i:∀t∈M.drop k,od s t<0):lI (M.take k++s::M.drop k):=by
 let hM':=d;unfold lI at d;rw[<-yz k M]at d;let⟨h1,h2,h3⟩:=Io.1 d;refine Io.2 ⟨h1,Cz.2 ⟨i,h2⟩,λa m b l=>?_⟩;obtain rfl|l:=gA.1 l
 .let⟨j,hj⟩:=Aw.1 m;rw[BH]at hj;split at hj
  .rename_i n;let h:k-1<M.length:=aA;let c:=f M[k-1] aA (fH h);by_cases e:j=k-1
   .subst e;rw[fH h]at hj;cases hj;exact c
   .obtain⟨g,rfl⟩:=eY.1 hj;exact wN _ _ _ (Dg.1 hM' j (k-1) g h aA) c
  .cases hj
 .exact h3 a m b l
theorem WQ{a:Type}{M:aB a}{s k}(b:k<=M.length):(M.take k++s::M.drop k)[k]?=some s:=by
 rw[sK bI];simp[CD b]
theorem UG{a:Type}{M:aB a}{s t k}(h:M[k]?=some t):(M.take (k+1)++s::M.drop (k+1))[k]?=some t:=by
 have:=(eY.1 h).1;rw[uw bI,BH,bY aA,h]
theorem UH{c:Type}{M:aB c}{s t k}(h:M[k]?=some t):((M.take (k+1)++s::M.drop (k+1)).set (k+1) t).set k s=M.take k++s::M.drop k:=by
 obtain⟨a,rfl⟩:=eY.1 h;rw[List.take_succ_eq_append_getElem a,pw a];let b:(M.take k++[M[k]]).length=k+1:=bI;rw[FB _ _ aA,b,FF,CC,nC,FB _ _ bI];simp[CD (MI a)]
section
variable{O:Nat->Prop}{S:f_}{n yb:Nat}{ev pv:aE}{C:aB CE}{L:aB CP}{w:aC}
theorem Ry(h:eT O S yb ev pv C L w)(hS:S.OK n):
  Calls prog 59 #[Pt yb] w λe w'=>∃v M,e=.returned v/\w'.ownsRow w.heap.size 9 1 v M.length (cJ M)/\lI M/\M.Perm (S.aW.map (·.name))/\Bl w w':=by
 have a6:=h.na;have hf:=hS.few;obtain⟨i0,a7,a8,aa,X⟩:=eB n8;obtain⟨o,cap,rfl,ag,_,z⟩:=bT h.aW;have HY:Hid (∀W,Bl w W->W.cell? (Ad yb 4)=some (.slice o L.length cap)):=λW B=>aD (h.below B).cell rfl;have HN:Hid (∀W (i:Nat),Bl w W->i<L.length->∃g s,o=some (Ad g 0)/\W.cell? (Ad g (i*4))=some (.string s)/\(S.aW.map (·.name)).take (i+1)=(S.aW.map (·.name)).take i++[s]/\s∉(S.aW.map (·.name)).take i):=λW i B hi=>by
  obtain⟨g,rfl,_,_,z⟩:=z aA;have e1:(S.aW.map (·.name))[i]?=some L[i].1.name:=by rw[<-h.hL,lj,lj,fH hi];rfl
  have e2:(S.aW.map (·.name)).take (i+1)=(S.aW.map (·.name)).take i++[L[i].1.name]:=by rw[yD,e1];rfl
  refine⟨g,L[i].1.name,rfl,eR B (z _ _ (jC (k:=0) (fH hi) rfl)),e2,λhm=>?_⟩;have Q:=hS.nodup.sublist (List.take_sublist (i+1) _);rw[e2]at Q;exact(MF.1 Q).2.2 _ hm _ aF rfl
 have HF:Hid ((S.aW.map (·.name)).take L.length=S.aW.map (·.name)):=by show _=_;rw[rD];simp[a6]
 generalize S.aW.map (·.name)=N at*;clear h z;generalize af:L.length=len at*;go_enter func59,ntmps59;go_wp2_with fail;go_loopw [4,3] (λiv v wr=>∃(i:Nat)(M:aB a_),iv=Iv i/\i<=len/\M.length=i/\wr.ownsRow w.heap.size 9 1 v i (cJ M)/\lI M/\M.Perm (N.take i)/\Bl w wr) (λiv _ _=>len-(intOf iv).toNat)
 case atStart=>exact⟨0,[],rfl,cC,rfl,fI _ _ _ _,List.Pairwise.nil,aF,aV⟩
 case round=>
  obtain⟨i,M,rfl,ak,b,f,A,m,B⟩:=hrel;have c4:=HY.out wr B;by_cases hi:i<len
  .obtain⟨g,s,rfl,ah,V,P⟩:=HN.out wr i B hi;have hz:=B.size;clear HY HN HF;go_wp2_with (at_builtin;refine jz _ rfl _ _ 31 rfl w.heap.size 9 i0 _ 1 16 underlying31 a7 a8 aa X rfl aG _ _ _ rfl (f.alloc _) (Ad wr.heap.size 0) 1 1 [.string s] rfl rfl (pA wr _ _) xM eP aA bI ?_);intro v' w2 c r _;have a1:Bl w w2:=(B.al _).grown r (gH hz aF) λk e=>(f.lt k e).1;obtain⟨F,E,rfl,T,aj,ai,aq⟩:=fS c aA;have d:w2.ownsRow w.heap.size 9 1 (Sl F (i+1) E) (i+1) (cJ (M.take i++s::M.drop i)):=by
    have e:cJ (M.take i++s::M.drop i)=cJ M++[.string s]:=by rw[rD aA,ux aA];simp[cJ]
    rw[e];exact c
   have I:∀t∈M,t≠s:=λt q e=>P (e▸m.mem_iff.1 q);replace I:Hid _:=I;replace b:Hid _:=b;replace A:Hid _:=A;replace m:Hid _:=m;clear c r f P;go_wp2_with fail;go_loopw [5] (λU wq=>∃k:Nat,U=Iv k/\k<=i/\wq.ownsRow w.heap.size 9 1 (Sl F (i+1) E) (i+1) (cJ (M.take k++s::M.drop k))/\Bl w wq/\Hid (∀t∈M.drop k,od s t<0)) (λU _=>(intOf U).toNat)
   case atStart=>exact⟨i,dV,aZ,d,a1,λt q=>by rw[ux (b.out▸aZ)]at q;simp at q⟩
   case round=>
    obtain⟨k,rfl,hk,a,J,y⟩:=hrel;have fin:Hid ((∀t,0<k->M[k-1]?=some t->od t s<0)->∃D,D.length=i+1/\cJ D=cJ (M.take k++s::M.drop k)/\lI D/\D.Perm (N.take (i+1))):=λZ=>⟨_,by have:=b.out;simp;omega,rfl,sorted_put A.out (b.out▸hk) Z y.out,by
     rw[V];apply List.perm_middle.trans;rw[yz];exact(List.perm_append_comm (l₁:=[s])).trans (m.out.append_right [s])⟩
    cases k with
    |zero=>
     obtain⟨D,Y,K,m3,m4⟩:=fin.out λt h=>aA;rw[<-K]at a;clear fin y K;have b1:decide ((0:Int)<((0:Nat):Int))=false:=rfl;go_wp2_with fail;go_quiet(fail);go_wp2_with fail
     try go_big_round
     exact⟨⟨i+1,D,dV,hi,Y,a,m3,m4,J.tr (below_drewN _ _)⟩,zm⟩
    |succ j=>
     obtain⟨t,q⟩:∃t,M[j]?=some t:=⟨_,fH (by rw[b.out];omega)⟩;have c1:wr.cell? (Ad F (j+1))=some (.string s):=d_ a rfl (by unfold cJ;rw[lj,WQ (by rw[b.out];omega)];rfl);have c0:wr.cell? (Ad F j)=some (.string t):=d_ a rfl (by unfold cJ;rw[lj,UG q];rfl);have b1:decide ((0:Int)<(j:Int)+1)=true:=jS aA;have an:IntKind.i64.wrap (j:Int)=j:=qZ aA;have ae:IntKind.i64.wrap ((j:Int)+1)=(j:Int)+1:=qZ aA;have x:=aal s t;have f0:wr.frozen? (Ad F j)=false:=a.frozenAt _;have f1:wr.frozen? (Ad F (j+1))=false:=a.frozenAt _;by_cases l:od s t<0
     .rw[jS l]at x;have G:=hid ((iW (iW a (j+1) (.string t)) j (.string s)));have R:Hid (∀u∈M.drop j,od s u<0):=λu H=>by
       obtain⟨hj,rfl⟩:=eY.1 q;rw[pw hj]at H;rcases gA.1 H with rfl|H
       .exact l
       .exact y.out u H
      have ad:Hid (((cJ (M.take (j+1)++s::M.drop (j+1))).set (j+1) (.string t)).set j (.string s)=cJ (M.take j++s::M.drop j)):=by
       show _=_;unfold cJ;rw[<-xL,<-xL,UH q]
      clear fin y d a l q;go_wp2_with fail;go_quiet(fail);go_wp2_with fail
      try go_big_round
      exact⟨⟨j,rfl,aA,by rw[<-ad.out];exact G.out,((J.tr (below_drewN _ nq)).setCell (p:=(Ad F (j+1))) T _).setCell (p:=(Ad F j)) T _,R⟩,zm⟩
     .rw[j_ l]at x;obtain⟨D,Y,K,m3,m4⟩:=fin.out λu _ H=>by
       rw[Nat.add_sub_cancel,q]at H;cases H;have h1:=mt (wM t s).1 (I.out t (iF q));have h2:=mt (u_ s.data.toList t.data.toList).2;have h3:=u_ t.data.toList s.data.toList;have h4:¬0<Lib.compareBytes t.data.toList s.data.toList:=h2 l;show Lib.compareBytes t.data.toList s.data.toList<0;have h1:¬Lib.compareBytes t.data.toList s.data.toList=0:=h1;omega
      rw[<-K]at a;clear fin y K l d q;go_wp2_with fail;go_quiet(fail);go_wp2_with fail
      try go_big_round
      exact⟨⟨i+1,D,dV,hi,Y,a,m3,m4,J.tr (below_drewN _ _)⟩,zm⟩
  .obtain rfl:i=len:=by omega
   rw[HF.out]at m;clear HY HN HF;go_wp2_with fail;go_ret;exact⟨_,M,rfl,by rw[b];exact f,A,m,B⟩
end
section
variable{O:Nat->Prop}{S:f_}{mb n:Nat}{w w':aC}{l:PL}
theorem dN.after{P us i ss}(h:dN O S mb l w)(D:After l.aY S.ret S.room l.ea l.bO l.C l.E (us.map (·.x)) i ss w w')(d:us.Perm P)(x:eV i)(r:uz us i ss){Q}(v:∀b,O b->Q b)(m:∀s∈ss,gh w' s->Q s.cX/\∀g,s.sv.ownBlock=some g->Q g):
  lR Q {S with aW:=P} mb w'/\aH O w w':=by
 let⟨no,bZ,Cs,pb,aas,a1,a2,a3,a4,a5,a6⟩:=D;let k:(jW (iY (us.map (·.x))) i).length=i.length:=by simp[jW]
 refine⟨⟨⟨l.aY,no,bZ,l.ea,l.bO,Cs,kZ (jB (iY (us.map (·.x))) i.length) l.E l.C.length,some (Ad pb 0),aas,jW (iY (us.map (·.x))) i,ss,us⟩,?_,?_,d,JH _ x,⟨by rw[k];exact r.len,λj u p s z y H=>?_⟩,a3,λj p t=>?_,⟨v _ h.own.wt,λa f=>v _ (h.own.ev a f),λs A=>m s A (a1.E8 s A),λc E a f=>?_⟩,?_⟩,?_⟩
 .simp only[PL.K,PL.xs];rw[k];exact a1
 .simp only[PL.K,PL.xs];rw[k];exact h.ry.T5 (S':={S with aW:=P}) rfl rfl h.watch.len (λj c G z y=>(a5 j c G z y).1) a4 _
 .obtain⟨q,F,rfl⟩:=sw y;exact r.each j u q s z F H
 .obtain⟨q,_,rfl⟩:=sw t;exact Int.toNat_of_nonneg (tW _ _)
 .let⟨j,t⟩:=Aw.1 (show c∈Cs from E);let I:=(eY.1 t).1;let B:l.C[j]?=some (l.C[j]'aA):=fH aA;exact v _ (h.own.at_ _ (iF B) a ((a5 j c _ t B).2.2▸f))
 .let o:=h.vU;refine(a6.block mb (aN o) ?_).trans o;rintro(e|⟨a,f,e⟩)
  .subst e;rw[h.watch.cell]at o;cases o
  .let n:=h.watch.bH;rw[f]at n;let⟨cg,sS⟩:=cE n (g:=a.block) rfl;rw[e,o]at sS;cases sS
 .exact(aH.zM a6).mono λb _ C=>by
   obtain e|⟨a,f,e⟩:=C
   .rw[e];exact h.own.wt
   .rw[<-e];exact h.own.ev a f
theorem dN.below(h:dN O S mb l w)(a:Bl w w'):lR (λb=>O b\/w.heap.size<=b) S mb w'/\aH O w w':=
 ⟨(lR.move ⟨l,h⟩ (aH.aS (P:=λ_=>False) a) (λ_ _ x=>x) (dQ.none _ _)).mono λ_ a=>.inl a,aH.aS a⟩
theorem dN.aap(h:dN O S mb l w)(a:Bl w w'):dN O S mb l w':={h with
 watch:=h.watch.move (aH.aS (P:=λ_=>False) a) (dQ.none _ _)
 jy:=h.jy.down a
 vU:=a.aT h.vU}
theorem dN.E7(h:dN O S mb l w):l.ss.length=l.us.length:=by rw[h.watch.na,h.aW.len]
theorem dN.find(h:dN O S mb l w)(r:S.OK n)(name):
  (S.get name=none/\eW name l.ps=false)\/∃i u p s,S.get name=some u/\eW name l.ps=true/\dW name l.ps=i/\l.us[i]?=some u/\l.ps[i]?=some p/\l.ss[i]?=some s/\p.name=name/\u.name=name:=by
 let a:∀(j:Nat) p,l.ps[j]?=some p->∃u s,l.us[j]?=some u/\l.ss[j]?=some s/\p.name=u.name:=λj p c=>by
  let d:=(eY.1 c).1;let b:l.us[j]?=some (l.us[j]'(h.aW.len▸d)):=fH _;let f:l.ss[j]?=some (l.ss[j]'(h.watch.na▸d)):=fH _;exact⟨_,_,b,f,(h.aW.each j _ p _ b c f).1⟩
 cases g:eW name l.ps with
 |true=>
  obtain⟨p,c,k⟩:=(uq name l.ps).1 g;let⟨u,s,b,f,h3⟩:=a _ p c;let o:u.name=name:=h3▸k;refine .inr ⟨_,u,p,s,?_,rfl,rfl,b,c,f,k,o⟩;rw[<-o];exact get_mem r.nodup (h.perm.mem_iff.1 (iF b))
 |false=>
  refine .inl ⟨get_none.2 λq t e=>?_,rfl⟩;let⟨j,d⟩:=Aw.1 (h.perm.mem_iff.2 t);let m:=(eY.1 d).1;let c:l.ps[j]?=some (l.ps[j]'(h.aW.len▸m)):=fH _;let⟨u,s,b,f,h3⟩:=a j _ c;rw[d]at b;cases b;have:eW name l.ps=true:=(Ff h.sorted).2 ⟨_,iF c,h3.trans e⟩;rw[g]at this;cases this
theorem D8{us P:aB Az}(a:us.Perm P)(b:(P.map (·.name)).Nodup){i u}(hi:us[i]?=some u):(us.take i++us.drop (i+1)).Perm (P.filter λq=>decide (q.name≠u.name)):=by
 rw[erase_filter ((a.map _).nodup_iff.2 b) hi];exact a.filter _
theorem uz.erase{us ps ss}(h:uz us ps ss)(i):uz (us.take i++us.drop (i+1)) (ps.take i++ps.drop (i+1)) (ss.take i++ss.drop (i+1)):=
 ⟨by simp[h.len],λ_ u p s a b c=>h.each _ u p s (fK a) (fK b) (fK c)⟩
theorem LL(h:dN O S mb l w)(f:S.OK n)(j:dP w)(k:cZ w)(name):
  Calls prog 32 #[Pt mb,.string name] w λe w'=>e=.returned (Iv (iP S name).1)/\lR (λb=>O b\/w.heap.size<=b) (iP S name).2 mb w'/\aH O w w':=by
 obtain⟨c,d⟩|⟨i,u,p,s,c,d,x,v,A,y,z,o⟩:=h.find f name
 .let m:iP S name=(6,S):=by
   unfold iP;rw[bN];intro e;let⟨p,hp,hpn⟩:=pj.1 e;exact get_none.1 c p hp hpn
  rw[m];exact(EF mb name h.vU h.watch h.sorted d j k).mono λe w' ⟨c,d⟩=>⟨c,h.below d⟩
 .let m:iP S name=(0,{S with aW:=S.aW.filter λp=>decide (p.name≠name)}):=by
   unfold iP;rw[bY (pj.2 ⟨u,(get_some c).1,o⟩)]
  rw[m];let r:l.K.length<=40:=h.nodes f▸f.nodes;refine(Jo mb name h.vU h.watch h.sorted h.jy r i x d).mono λe w' ⟨c,t⟩=>⟨c,?_⟩;refine h.after (us:=l.us.take i++l.us.drop (i+1)) (by rw[ml,List.map_take,List.map_drop];exact t) (o▸D8 h.perm f.nodup v) (h.sorted.erase i) (h.aW.erase i) (Q:=λb=>O b\/w.heap.size<=b) (λb q=>.inl q) λs a _=>?_;let a:s∈l.ss:=by
   obtain a|a:=jc.1 a
   .exact GC a
   .exact sN a
  exact⟨.inl (h.own.st s a).1,λg j=>.inl ((h.own.st s a).2 g j)⟩
theorem xJ(name){aY b room no bZ K ea bO C E pa bS ps ss}(h:dJ w aY b room no bZ K ea bO C E pa bS ps ss)(f:eV ps)(g:eW name ps=false)(i:cZ w):
  Calls prog 93 #[Pt aY,.string name] w λe w'=>∃T q,e=.returned (.tuple #[.pointer none,.iface T q])/\lQ w' (.iface T q) 6/\Bl w w':=by
 let⟨a,hE⟩:=i.Po;let l:=h.wm;let k:=mT aY (Iv b) (Iv room) _ _ pa bS ps name w h.cell h.aW f aA;rw[g]at k;let j:=hid hE;go_enter func93,ntmps93;go_wp2_with fail;refine k.m λm d=>?_;let c:=(j.out.down d).cell;go_wp2
 go_region
 all_goals go_wp2_with fail
 all_goals go_ret2
 all_goals exact⟨_,_,rfl,⟨_,a,yX (aQ _ _ _ rfl) (og (by simp[leaves])),.inl ⟨rfl,_,_,by simp[jn],j.out.down (d.drew.al _)⟩⟩,d.drew.al _⟩
theorem Cf(h:dN O S mb l w)(k:S.OK n)(r:dP w)(c:cZ w)(name):
  Calls prog 28 #[Pt mb,.string name] w λe w'=>∃v,e=.returned (.tuple #[v,Iv (gu S name).2])/\w'.ownsRow w.heap.size 59 4 v (gu S name).1.length (lr (gu S name).1)/\Bl w w':=by
 obtain⟨d,j⟩|⟨i,u,p,s,d,j,B,y,z,o,E,G⟩:=h.find k name
 .have g:gu S name=([],6):=by unfold gu;rw[d]
  rw[g];have t:=xJ name h.watch h.sorted j c;have F:=aD (i:=0) h.vU rfl;have x:=hid λW T q (a:Bl w W) (b:lQ W (.iface T q) 6)=>j' _ 6 W (r.below a) (c.keep a.block) b;generalize l.aY=aY at*;have A:Calls prog 49 #[Pt aY,.string name] w λe w'=>∃T q,e=.returned (.tuple #[.slice none 0 0,.iface T q])/\lQ w' (.iface T q) 6/\Bl w w':=by
   go_enter func49,ntmps49;go_wp2_with fail;apply t.mono;rintro e m ⟨T,q,rfl,b,a⟩;replace b:Hid _:=b;go_wp2;go_ret2;exact⟨T,q,rfl,b.out,a⟩
  go_enter func28,ntmps28;go_wp2_with fail;apply A.mono;rintro e m ⟨T,q,rfl,b,a⟩;go_wp2_with fail;refine(x.out m T q a b).m λD f=>?_;go_wp2;go_ret2;exact⟨_,rfl,fI _ _ _ _,a.tr f⟩
 .have g:gu S name=(u.str,0):=by unfold gu;rw[d]
  rw[g];have⟨_,_,e3,e4⟩:=h.aW.each i u p s y z o;have C:=(k.each u (get_some d).1).2.2.2.2.2.2;have:=Gk mb name h.vU h.watch h.sorted i B j s o aA (e4▸Dw _);rw[e3,e4]at this;exact this
theorem Rm(h:dN O S mb l w):
  Calls prog 33 #[Pt mb] w λe w'=>∃v M,e=.returned v/\w'.ownsRow w.heap.size 9 1 v M.length (cJ M)/\lI M/\M.Perm (S.aW.map (·.name))/\Bl w w':=by
 apply(WG mb h.vU h.watch).mono;rintro e w' ⟨v,rfl,d,g⟩;let f:jN l.ps=l.us.map (·.name):=by
  unfold jN;refine CF λj=>?_;rw[lj,lj];cases a:l.us[j]? with
  |none=>rw[List.getElem?_eq_none (h.aW.len▸Ik.1 a)];rfl
  |some u=>
   let b:=(eY.1 a).1;let c:l.ps[j]?=some (l.ps[j]'(h.aW.len▸b)):=fH _;let i:l.ss[j]?=some (l.ss[j]'(h.E7▸b)):=fH _;rw[c];exact oB some (h.aW.each j u _ _ a c i).1
 refine⟨v,jN l.ps,rfl,?_,MG.2 h.sorted,by rw[f];exact h.perm.map _,g⟩;let k:(jN l.ps).length=l.ps.length:=by simp[jN]
 rw[k];exact d
end
def Qb(z:Int)(w:aC)(e:Ending)(a:aC):Prop:=∃k T q,e=.returned (.tuple #[Iv k,.iface T q])/\lQ a (.iface T q) z/\Bl w a
theorem DX(aY a c d f ev g w)(hw:w.heap[aY]?=some (.cells #[Iv a,d,f,ev,g] 153 (0,0)))(h:a<c):
  Calls prog 171 #[Pt aY,Iv c] w λe j=>∃b,e=.returned (.iface 131 (.pointer (some b)))/\Bl w j:=by
 let k:=aD (i:=0) hw rfl;go_enter func171,ntmps171;go_wp2;go_ret;exact⟨_,rfl,aV.al _⟩
section
variable{O:Nat->Prop}{S:f_}{mb n:Nat}{w:aC}{l:PL}
theorem Ht(h:dN O S mb l w)(L:dP w)(r:cZ w)(H:14<=w.heap.size)(name s)(I:name.size<=maxLen)(R:s.size<=maxLen){z}(X:kK S name s=(none,z)):
  Calls prog 135 #[Pt l.aY,.string name,.string s] w λe t=>∃p T q,e=.returned (.tuple #[.pointer p,.iface T q])/\lQ t (.iface T q) z/\Bl w t:=by
 have y:=Es name w I;have⟨a,hs⟩:=r.Xv;have G:=hid hs;have j:=hid λm (g:Bl w m)=>ox s m R (L.below g) (by have:=g.size;omega);have U:=hid h.watch.cell;generalize l.aY=aY at*;obtain⟨f,rfl⟩|⟨f,u⟩|⟨x,f,u,P,rfl⟩:=Ny X<;>rw[f]at y
 .go_enter func135,ntmps135;go_wp2_with fail;refine y.m λm g=>?_;have c:=(G.out.down g).cell;go_wp2
  go_region
  all_goals go_wp2_with fail
  all_goals go_ret2
  all_goals exact⟨_,_,_,rfl,AU (by simp[jn]) (G.out.down g.drew),g.drew⟩
 .rw[u]at j;go_enter func135,ntmps135;go_wp2_with fail;refine y.m λm d=>?_;go_wp2_with fail;apply(j.out m d).mono;rintro e A ⟨i,⟨Q,v,f,rfl,D,M⟩|⟨Y,T,tb,fa,f,N,rfl,J⟩⟩
  .cases f
  .have V:Hid (lQ A (.iface 125 (Pt tb)) z):=by
    cases f;exact zY (r.keep (d.tr i).block) N J
   go_wp2;go_ret2;exact⟨_,_,_,rfl,V.out,d.tr i⟩
 .rw[u]at j;have⟨Pz,_,Z2,_⟩:=dI u;go_enter func135,ntmps135;go_wp2_with fail;refine y.m λm d=>?_;go_wp2_with fail;apply(j.out m d).mono;rintro e A ⟨i,⟨Q,v,f,rfl,D,M⟩|⟨_,_,_,_,f,_⟩⟩
  .cases f;obtain⟨K,rfl⟩:=gZ D;have k:=d.tr i;have B:=k.aT U.out;go_wp2_with fail;have F:Hid (∀W,Bl A W->Calls prog 42 #[.pointer K] W λe t=>e=.returned (Iv (bE x))/\Bl W t):=λW g=>(w_ x _ _ _ (bG.below (xf D) g) aA Pz.win).mono λe t h=>⟨h.1,by obtain⟨_,n,rfl⟩:=h;exact below_drewN _ _⟩;have E:=hid λW (g:Bl A W)=>DX aY S.ret (bE x) _ _ _ _ W (g.aT B) P
   go_region_with (first
    |(go_at_call 42;refine(F.out _ ?_).mono ?_;(first|exact aV.drew|exact aV);rintro e Z ⟨rfl,o⟩)
    |(go_at_call 171;refine(E.out _ ?_).mono ?_;(first|exact aV.drew.trans o|exact o);rintro e w4 ⟨b,rfl,C⟩))
   all_goals go_wp2_with fail
   all_goals go_ret2
   all_goals exact⟨_,_,_,rfl,rQ (by simp[r_]) (by simp[leaves]),(k.tr (aV.drew.trans o)).tr C⟩
  .cases f
theorem VP(name s){aY z w}(c:Calls prog 135 #[Pt aY,.string name,.string s] w λe b=>∃p T q,e=.returned (.tuple #[.pointer p,.iface T q])/\lQ b (.iface T q) z/\Bl w b):
  Calls prog 91 #[Pt aY,.string name,.string s] w (Qb z w):=by
 go_enter func91,ntmps91;go_wp2_with fail;apply c.mono;rintro e f ⟨p,T,q,rfl,a,d⟩;replace a:Hid _:=a;go_wp2;go_ret2;exact⟨_,_,_,rfl,a.out,d⟩
theorem zQ(mb name s){aY z w}(l:w.heap[mb]?=some (.cells #[Pt aY] 104 (0,0)))(j:dP w)(g:cZ w)(m:Calls prog 91 #[Pt aY,.string name,.string s] w (Qb z w)):
  Calls prog 27 #[Pt mb,.string name,.string s] w λe f=>e=.returned (.tuple #[.slice none 0 0,Iv z])/\Bl w f:=by
 let t:=aD (i:=0) l rfl;let p:=hid λW T q (c:Bl w W) (b:lQ W (.iface T q) z)=>j' _ z W (j.below c) (g.keep c.block) b;let o:Calls prog 48 #[Pt aY,.string name,.string s] w λe f=>∃T q,e=.returned (.tuple #[.slice none 0 0,.iface T q])/\lQ f (.iface T q) z/\Bl w f:=by
  go_enter func48,ntmps48;go_wp2_with fail;apply m.mono;rintro e d ⟨k,T,q,rfl,b,c⟩;replace b:Hid _:=b;go_wp2;go_ret2;let⟨L,a,h1,h2⟩:=lQ.down (w:=d) (v:=.iface T q) (n:=z) ((cD _ d).al (.cells #[.string name,.iface T q] 171 (0,0))) b.out;exact⟨_,_,rfl,⟨L,a,yX (aQ _ _ _ rfl) h1,h2⟩,c.al _⟩
 go_enter func27,ntmps27;go_wp2_with fail;apply o.mono;rintro e d ⟨T,q,rfl,b,c⟩;go_wp2_with fail;refine(p.out d T q c b).m λr h=>?_;go_wp2;go_ret2;exact⟨rfl,c.tr h⟩
theorem Qm(name s){aY z w}(c:Calls prog 135 #[Pt aY,.string name,.string s] w λe b=>∃p T q,e=.returned (.tuple #[.pointer p,.iface T q])/\lQ b (.iface T q) z/\Bl w b):
  Calls prog 96 #[Pt aY,.string name,.string s] w (Qb z w):=by
 go_enter func96,ntmps96;go_wp2_with fail;apply c.mono;rintro e f ⟨p,T,q,rfl,a,d⟩;replace a:Hid _:=a;go_wp2;go_ret2;exact⟨_,_,_,rfl,a.out,d⟩
theorem ym(mb name s){aY z w}(l:w.heap[mb]?=some (.cells #[Pt aY] 104 (0,0)))(j:dP w)(g:cZ w)(m:Calls prog 96 #[Pt aY,.string name,.string s] w (Qb z w)):
  Calls prog 31 #[Pt mb,.string name,.string s] w λe f=>e=.returned (.tuple #[.slice none 0 0,Iv z])/\Bl w f:=by
 let t:=aD (i:=0) l rfl;let p:=hid λW T q (c:Bl w W) (b:lQ W (.iface T q) z)=>j' _ z W (j.below c) (g.keep c.block) b;let o:Calls prog 51 #[Pt aY,.string name,.string s] w λe f=>∃T q,e=.returned (.tuple #[.slice none 0 0,.iface T q])/\lQ f (.iface T q) z/\Bl w f:=by
  go_enter func51,ntmps51;go_wp2_with fail;apply m.mono;rintro e d ⟨k,T,q,rfl,b,c⟩;replace b:Hid _:=b;go_wp2;go_ret2;let⟨L,a,h1,h2⟩:=lQ.down (w:=d) (v:=.iface T q) (n:=z) ((cD _ d).al (.cells #[.string name,.iface T q] 171 (0,0))) b.out;exact⟨_,_,rfl,⟨L,a,yX (aQ _ _ _ rfl) h1,h2⟩,c.al _⟩
 go_enter func31,ntmps31;go_wp2_with fail;apply o.mono;rintro e d ⟨T,q,rfl,b,c⟩;go_wp2_with fail;refine(p.out d T q c b).m λr h=>?_;go_wp2;go_ret2;exact⟨rfl,c.tr h⟩
theorem SU(h:dN O S mb l w)(t:dP w)(k:cZ w)(g:14<=w.heap.size)(name s){x}(A:s.size<=maxLen)(p:oC name)(r:cW s=(some x,0))(q:bE x<=S.ret)(i:eW name l.ps=false)(F:8<=l.ps.length):
  Calls prog 91 #[Pt l.aY,.string name,.string s] w (Qb 7 w):=by
 have⟨a,hE⟩:=k.Xu;have u:=h.watch.wm;have j:=qs l.aY S.ret (Iv S.room) _ _ _ name s x w h.watch.cell p A t g r q;have B:Hid (∀W,Bl w W->Calls prog 97 #[Pt l.aY,.string name] W λe v=>e=.returned (.tuple #[Iv (dW name l.ps:Nat),.bool false])/\Bl W v):=λW f=>by
  have:=mT l.aY (Iv S.ret) (Iv S.room) _ _ l.pa l.bS l.ps name W (f.aT h.watch.cell) (iu.move h.watch.aW (aH.aS (P:=λ_=>False) f) (dQ.none _ _)) h.sorted aA;rw[i]at this;exact this
 have z:Hid (∀W,Bl w W->W.cell? (Ad l.aY 4)=some (.slice l.pa l.ps.length l.bS)):=λW f=>aD (f.aT h.watch.cell) rfl;have n:=hid hE;generalize dW name l.ps=E at*;generalize l.ps.length=D at*;generalize l.aY=aY at*;generalize l.pa=pa at*;generalize l.bS=bS at*;go_enter func91,ntmps91;go_wp2_with fail;apply j.mono;rintro e o ⟨sp,rfl,y,d⟩;go_wp2_with fail;refine(B.out o d).m λC m=>?_;have b:=d.tr m;have c:=(n.out.down b).cell;have G:=z.out C b;go_wp2
 go_region
 all_goals go_wp2_with fail
 all_goals go_ret2
 all_goals exact⟨_,_,_,rfl,AU (by simp[jn]) (n.out.down b.drew),b.drew⟩
theorem Ep{us P:aB Az}(a:us.Perm P)(i u):(us.take i++u::us.drop i).Perm (P++[u]):=by
 apply List.perm_middle.trans;rw[yz];exact(a.cons u).trans (List.perm_append_singleton u P).symm
theorem uz.ins{us ps ss}(h:uz us ps ss)(n:ss.length=ps.length){i}(hi:i<=ps.length){u p s}(k:p.name=u.name/\p.cP=u.cP/\s.n=u.str.length/\s.xs=lr u.str):uz (us.take i++u::us.drop i) (ps.take i++p::ps.drop i) (ss.take i++s::ss.drop i):=by
 let m:=h.len;refine⟨bI,λj a b c f d e=>?_⟩;rcases lL aA f with⟨rfl,rfl⟩|⟨o,f⟩<;>rcases lL hi d with⟨l,rfl⟩|⟨l,d⟩<;>rcases lL aA e with⟨g,rfl⟩|⟨g,e⟩<;>first|exact k|omega|exact h.each _ a b c f d e
theorem uz.set{us ps ss}(h:uz us ps ss){i u g p k}(o:us[i]?=some u)(n:ps[i]?=some p)(l:k.name=g.name/\k.cP=g.cP)(q:g.str=u.str):uz (us.set i g) (ps.set i k) ss:=by
 refine⟨by simp[h.len],λj a b c f d m=>?_⟩;rw[List.getElem?_set]at f d;split at f
 .rename_i e;subst e;rw[bY rfl]at d;split at f
  .split at d
   .cases f;cases d;have:=h.each _ u p c o n m;rw[q];exact⟨l.1,l.2,this.2.2⟩
   .cases d
  .cases f
 .rename_i e;rw[bN e]at d;exact h.each j a b c f d m
def yI(O:Nat->Prop)(mb:Nat)(w:aC)(res:aB Vd×Int×f_)(e:Ending)(a:aC):Prop:=
 ∃v,e=.returned (.tuple #[v,Iv res.2.1])/\a.ownsRow w.heap.size 59 4 v res.1.length (lr res.1)/\lR (λb=>O b\/(w.heap.size<=b/\v.ownBlock≠some b)) res.2.2 mb a/\aH O w a
theorem dN.xP{b}(h:dN O S mb l w){z e}(c:e=.returned (.tuple #[.slice none 0 0,Iv z]))(a:Bl w b):yI O mb w ([],z,S) e b:=⟨_,c,fI _ _ _ _,(h.below a).1.mono λ_ a=>a.imp id λx=>⟨x,λe=>nomatch e⟩,(h.below a).2⟩
theorem dN.Pr(h:dN O S mb l w)(b:S.OK n):∀c∈l.C,0<=c.time/\c.time<=1000000000000:=λc a=>by
 have:c.time∈(S.bH.drop S.off).map (·.1):=(h.ry.times h.watch.len h.watch.ins)▸iZ.2 ⟨c,a,rfl⟩
 let⟨e,he,hee⟩:=iZ.1 this
 rw[<-hee]
 exact b.time e (sN he)
theorem Lr{v a}(k)(h:IG v w a):Qb 8 w (.returned (.tuple #[Iv k,v])) a:=by
 obtain⟨tb,q,rfl,_,b⟩:=h;exact⟨_,_,_,rfl,rQ (by simp[r_]) (by simp[leaves]),b⟩
theorem dN.SW{C P us d ss i v x cP}(h:dN O S mb l w)(I:S.OK n)(J:gg x)(r:(us.map (·.x))[i]?=some x)(t:i<d.length)(T:IB l.aY S.ret S.room l.ea l.bO l.C l.E (us.map (·.x)) d ss i cP w C v)(k:us.Perm P)(u:eV d)(o:uz us d ss)(a:∀s∈ss,(O s.cX\/w.heap.size<=s.cX)/\∀g,s.sv.ownBlock=some g->O g):
  yI O mb w (mr S x cP,0,{S with aW:=P}) (.returned (.tuple #[v,Iv 0])) C:=by
 obtain⟨no,bZ,E,pb,f,B,D,V,K,q,a5,N,G,y⟩:=T;let m:iY (us.map (·.x)) i=x:=by unfold iY;rw[qB,r];rfl
 let z:q_ S (jB (iY (us.map (·.x))) d.length) E (kZ (jB (iY (us.map (·.x))) d.length) l.E l.C.length):=h.ry.T5 rfl rfl h.watch.len (λj c Q L F=>(a5 j c Q L F).1) q _;let U:=o.len;let H:pR (jB (iY (us.map (·.x))) d.length) (aO x) (B_ (iY (us.map (·.x))) i):=by
  have:=Dk (iY (us.map (·.x))) d.length i t;rw[m]at this;exact this
 let p:=back_eq z I (by rw[rZ,q]) (z.times (by rw[rZ,q]) D.ins) J.1 H G cP;rw[m,p.1,p.2]at y;refine⟨v,rfl,y,h.after ⟨no,bZ,E,pb,f,D,V,K,q,a5,N⟩ k u o (λb p=>.inl p) λs A R=>⟨(a s A).1.imp id λx=>⟨x,λe=>?_⟩,λg M=>.inl ((a s A).2 g M)⟩⟩;let⟨cg,sS⟩:=cE y e;rw[R.1]at sS;cases sS
theorem LD(h:dN O S mb l w)(I:S.OK n)(r:dP w)(c:cZ w)(j:14<=w.heap.size)(name b)(J:name.size<=maxLen)(t:b.size<=maxLen):
  Calls prog 27 #[Pt mb,.string name,.string b] w (yI O mb w (kO S name b)):=by
 cases d:kK S name b with
 |mk o z=>
 cases o with
 |none=>
  rw[show kO S name b=([],z,S)by unfold kO;rw[d]];exact(zQ mb name b h.vU r c (VP name b (Ht h r c j name b J t d))).mono λe E ⟨m,f⟩=>h.xP m f
 |some x=>
  let⟨g1,g2,g3⟩:=nR d;let⟨r1,r2,r3,_⟩:=dI g2;let G:=wS g1;let W:=G.high;let Q:cF (aO x)<=1000000:=gH (sk r3) aG;let R:l.ps.length=S.aW.length:=by rw[<-h.aW.len,h.perm.length_eq]
  obtain⟨m,f⟩|⟨i,u,p,s,m,f,h3,h4,h5,h6,h7,H⟩:=h.find I name
  .let C:¬S.has name=true:=λe=>by obtain⟨p,hp,N⟩:=pj.1 e;exact get_none.1 m p hp N
   by_cases H:8<=S.aW.length
   .rw[show kO S name b=([],7,S)by unfold kO;rw[d];simp only[bN C,bY H]];exact(zQ mb name b h.vU r c (SU h r c j name b t G g2 g3 f aA)).mono λe E ⟨m,f⟩=>h.xP m f
   obtain⟨i,hi⟩:∃i,dW name l.ps=i:=⟨_,rfl⟩;let K:i<=l.ps.length:=hi▸pH _ _;let a1:=h.jy.len;let D:(l.us.take i++(⟨name,x,1,[]⟩:Az)::l.us.drop i).map (·.x)=l.xs.take i++x::l.xs.drop i:=by simp[PL.xs,List.map_take,List.map_drop]
   let L:∀u∈l.us.take i++(⟨name,x,1,[]⟩:Az)::l.us.drop i,gg u.x:=λu A=>by
    obtain A|A:=jc.1 ((Ep h.perm i _).mem_iff.1 A)
    .exact(I.each u A).2.1
    .simp at A;subst A;exact⟨r1,r2⟩
   let X:(jB (iY (l.xs.take i++x::l.xs.drop i)) (l.ps.length+1)).length=iN (S.aW.map (·.x)++[x]):=by
    let P:(l.xs.take i++x::l.xs.drop i).length=l.ps.length+1:=bI;rw[<-P,<-D,AF _ λy hy=>by obtain⟨u,A,rfl⟩:=iZ.1 hy;exact L u A];rw[show S.aW.map (·.x)++[x]=(S.aW++[(⟨name,x,1,[]⟩:Az)]).map (·.x)by simp];exact vW ((Ep h.perm i _).map _)
   by_cases F:40<iN (S.aW.map (·.x)++[x])
   .rw[show kO S name b=([],8,S)by unfold kO;rw[d];simp only[bN C,bN H,bY F]];refine(zQ mb name b h.vU r c ((Ph name b x h.watch h.sorted h.jy aA G aA t r j g2 Q g3 i hi f).mono ?_)).mono λe E ⟨m,f⟩=>h.xP m f;rintro e E ⟨v,rfl,⟨hk,_⟩|⟨_,Z⟩⟩
    .omega
    .exact Lr _ Z
   .rw[show kO S name b=(mr S x 1,0,{S with aW:=S.aW++[⟨name,x,1,[]⟩]})by unfold kO;rw[d];simp only[bN C,bN H,bN F]];apply(Q_ mb name b x h.vU h.watch h.sorted h.jy G t r j g2 Q ⟨eM (.inl r1),g3⟩ (h.Pr I) aA aA i hi f aA).mono;rintro e E ⟨v,rfl,sp,cX,M,U⟩;rw[<-D]at U;refine h.SW I ⟨r1,r2⟩ (D▸Ld aA) bI U (Ep h.perm i _) (hi▸h.sorted.insert (p:=fresh name sp cX) f) (h.aW.ins h.watch.na K ⟨rfl,rfl,rfl,rfl⟩) λs B=>?_;obtain B|B:=jc.1 B
    .have:=h.own.st s (GC B);exact⟨.inl this.1,this.2⟩
    .obtain rfl|B:=gA.1 B
     .exact⟨.inr M,λg r=>by cases r⟩
     .have:=h.own.st s (sN B);exact⟨.inl this.1,this.2⟩
  .rw[show kO S name b=([],5,S)by unfold kO;rw[d];simp only[bY (pj.2 ⟨u,(get_some m).1,H⟩)]];let⟨a,hE⟩:=c.Tg;exact(zQ mb name b h.vU r c ((Qj name b x h.watch h.sorted G t r j g2 g3 f hE).mono λe E ⟨k,T,q,a',e1,Y,e3,V⟩=>⟨k,T,q,e1,⟨_,a',Y,.inl ⟨rfl,2,E_,by simp[jn],by rw[e3];exact hE.down V⟩⟩,V⟩)).mono λe E ⟨m,f⟩=>h.xP m f
theorem set_perm{us:aB Az}{i}(hi:i<us.length)(a):(us.set i a).Perm ((us.take i++us.drop (i+1))++[a]):=by
 rw[List.set_eq_take_append_cons_drop,bY hi];exact List.perm_middle.trans (List.perm_append_singleton _ _).symm
theorem Ma{ps}(h:eV ps){i p c}(d:ps[i]?=some p)(f:c.name=p.name):eV (ps.set i c):=by
 have:(ps.set i c).map (·.name)=ps.map (·.name):=by
  rw[xL,f];refine CF λj=>?_;rw[List.getElem?_set];split
  .rename_i e;subst e;rw[lj,d];simp[(eY.1 d).1]
  .rfl
 exact MG.1 (by rw[this];exact MG.2 h:((ps.set i c).map (·.name)).Pairwise λa b=>od a b<0)
theorem EP(h:dN O S mb l w)(C:S.OK n)(hn:n<1000000)(E:dP w)(d:cZ w)(t:14<=w.heap.size)(name b)(Q:name.size<=maxLen)(A:b.size<=maxLen):
  Calls prog 31 #[Pt mb,.string name,.string b] w (yI O mb w (gi S name b)):=by
 cases c:kK S name b with
 |mk o z=>
 cases o with
 |none=>
  rw[show gi S name b=([],z,S)by unfold gi;rw[c]];exact(ym mb name b h.vU E d (Qm name b (Ht h E d t name b Q A c))).mono λe M ⟨r,m⟩=>h.xP r m
 |some x=>
  obtain⟨g1,N,X⟩:=nR c;obtain⟨W,r2,r3,_⟩:=dI N;let P:=wS g1;let hX:cF (aO x)<=1000000:=gH (sk r3) aG;rcases h.find C name with⟨r,m⟩|⟨i,u,p,s,r,m,h3,K,H,h6,h7,h8⟩
  .rw[show gi S name b=([],6,S)by unfold gi;rw[c];simp only[r]];obtain⟨a,hE⟩:=d.Po;exact(ym mb name b h.vU E d ((MY name b x h.watch h.sorted P A E t N X m hE).mono λe M ⟨k,T,q,a',Y,U,e3,e4⟩=>⟨k,T,q,Y,⟨_,a',U,.inl ⟨rfl,3,Cp,by simp[jn],by rw[e3];exact hE.down e4⟩⟩,e4⟩)).mono λe M ⟨r,m⟩=>h.xP r m
  .let a8:=(eY.1 H).1;let a7:l.xs.length=l.ps.length:=h.jy.len;obtain⟨Y,U,e3,e4⟩:=h.aW.each i u p s K H h6;let B:∀p∈l.ps,0<=p.cP/\p.cP<=1000000:=λq hq=>by
    obtain⟨j,hj⟩:=Aw.1 hq;let L:=(eY.1 hj).1;let a1:l.us[j]?=some (l.us[j]'(h.aW.len▸L)):=fH _;let a2:l.ss[j]?=some (l.ss[j]'(h.watch.na▸L)):=fH _;obtain⟨_,e,_,_⟩:=h.aW.each j _ q _ a1 hj a2;have:=C.each _ (h.perm.mem_iff.1 (iF a1));omega
   obtain⟨D,g⟩:∃D,D=({u with x:=x,cP:=u.cP+1}:Az):=⟨_,rfl⟩;let G:D.x=x:=by rw[g]
   let F:(l.us.set i D).map (·.x)=l.xs.set i x:=by rw[xL,G];rfl
   let R:∀v∈l.us.set i D,gg v.x:=λv J=>by
    obtain J|rfl:=BD J
    .exact(C.each v (h.perm.mem_iff.1 J)).2.1
    .rw[G];exact⟨W,r2⟩
   let a6:(jB (iY (l.xs.set i x)) l.ps.length).length=iN (LX S name x):=by
    let Z:(l.xs.set i x).length=l.ps.length:=bI;rw[<-Z,<-F,AF _ λy hy=>by obtain⟨v,J,rfl⟩:=iZ.1 hy;exact R v J];let h9:=D8 h.perm C.nodup K;rw[h8]at h9;have:=((set_perm ((eY.1 K).1) D).trans (h9.append_right _)).map (·.x);rw[ml,hY,G]at this;exact vW this
   by_cases I:40<iN (LX S name x)
   .rw[show gi S name b=([],8,S)by unfold gi;rw[c];simp only[r,bY I]];refine(ym mb name b h.vU E d ((GI name b x h.watch h.sorted h.jy B P A E t N hX X i h3 p H m).mono ?_)).mono λe M ⟨r,m⟩=>h.xP r m;rintro e M ⟨v,rfl,⟨hk,_⟩|⟨_,hM⟩⟩
    .omega
    .exact Lr _ hM
   .let V:(l.us.set i D).Perm (S.upd name λp=>{p with x:=x,cP:=p.cP+1}).aW:=by
     rw[g,xg (f:=λp:Az=>{p with x:=x,cP:=p.cP+1}) ((h.perm.map _).nodup_iff.2 C.nodup) K,h8];exact h.perm.map _
    rw[show gi S name b=(mr S x (u.cP+1),0,{S with aW:=(S.upd name λp=>{p with x:=x,cP:=p.cP+1}).aW})by unfold gi;rw[c];simp only[r,bN I];rfl];apply(Ls mb name b x h.vU h.watch h.sorted h.jy P A E t N hX ⟨eM (.inl W),X⟩ (h.Pr C) B i h3 p H m aA).mono;rintro e M ⟨v,rfl,sp,hB⟩;rw[<-F,U]at hB;refine h.SW C ⟨W,r2⟩ (F▸rF aA) bI hB V (Ma h.sorted H rfl) (h.aW.set K H ⟨by rw[g];exact Y,by rw[g];show p.cP+1=u.cP+1;omega⟩ (by rw[g])) λs hs=>⟨.inl (h.own.st s hs).1,(h.own.st s hs).2⟩
end
section
variable{wb n m m' i:Nat}{T:Nat->Nat}{Ms:aB Mo}{E:aB mK}{w0 w w':aC}{x:Mo}
theorem cH.KY(h:cH w0 wb T Ms n E m w)(b:dP w0)(c:14<=w0.heap.size):dP w:=
 let k:=dP.oF (w':=re w w0.tape w.drawn) b ⟨h.base.os,rfl,h.base.output,h.base.size,λk a=>h.base.block k a (sI.2 a)⟩ c
 ⟨⟨k.conv.syn,k.conv.rng⟩,k.ns,k.et,k.tab⟩
theorem cH.B0(h:cH w0 wb T Ms n E m w)(b:cZ w0):cZ w:=b.keep λk a=>h.base.block k a (sI.2 a)
end
theorem F_(g cap k n xs w)(d:w.ownsRow 0 59 4 (Sl g n cap) n xs)(c:∀u∈xs,u.oneCell'=true)(b:0<k)(a:k<=n)(f:n<=1000):
  Calls prog 184 #[Sl g n cap,Iv 0,Iv (k)] w λe w'=>e=.returned (Sl g (n-k) cap)/\w'.ownsRow 0 59 4 (Sl g (n-k) cap) (n-k) (xs.drop (k*4))/\Only g w w':=by
 have:=I5 (.inr (.inr ⟨rfl,rfl,rfl,rfl,rfl⟩)) 0 g cap 0 k n xs w d c b a f
 rwa[Nat.zero_mul,List.take_zero,jq]at this
theorem Ni(ea n cap w)(a:n<=cap):Calls prog 184 #[.slice ea n cap,Iv 0,Iv 0] w λe w'=>e=.returned (.slice ea n cap)/\w'=w:=by
 go_enter func184,ntmps184;go_wp2;go_ret;exact⟨rfl,rfl⟩
theorem pU(s v lo hi w)(h:v<lo\/hi<v):Calls prog 124 #[.string s,Iv v,Iv lo,Iv hi] w λe w'=>∃b,e=.returned (.iface 287 (.pointer (some b)))/\Bl w w':=by
 by_cases c:v<lo
 .go_enter func124,ntmps124;go_wp2;go_ret;exact⟨_,rfl,aV.al _⟩
 .have a:hi<v:=by omega
  go_enter func124,ntmps124;go_wp2;go_ret;exact⟨⟨_,rfl⟩,(Below.refl _ _).al _⟩
theorem Te(s k w)(h:gh w s)(d:k<0\/(s.n:Int)<k):
  Calls prog 150 #[Pt s.cX,Iv k] w λe w'=>∃b,e=.returned (.iface 287 (.pointer (some b)))/\Bl w w':=by
 have⟨o,cap,QT,hc,hm,_⟩:=bT h.2;have g:w.cell? (Ad s.cX 0)=some (.slice o s.n cap):=by have:=aD (i:=0) h.1 rfl;rw[QT]at this;exact this
 have a:=λW=>pU ⟨#[116,104,101,32,110,117,109,98,101,114,32,111,102,32,118,101,114,100,105,99,116,115]⟩ k 0 s.n W d;replace a:Hid _:=a;generalize s.n=n at*;generalize s.cX=cX at*;go_enter func150,ntmps150;go_wp2_with fail;apply(a.out _).mono;rintro e f ⟨b,rfl,c⟩;go_wp2;go_ret;exact⟨b,rfl,c⟩
theorem V6(s k w)(h:gh w s)(E:s.n<=1000)(H:k<=s.n)(J:∀u∈s.xs,u.oneCell'=true):
  Calls prog 150 #[Pt s.cX,Iv (k)] w λe w'=>e=.returned .nilIface/\∃v,gh w' ⟨s.cX,v,s.n-k,s.xs.drop (k*4)⟩/\v.ownBlock=s.sv.ownBlock/\aH (λb=>b=s.cX\/s.sv.ownBlock=some b) w w':=by
 have⟨o,cap,QT,hc,hm,_⟩:=bT h.2;have P:w.cell? (Ad s.cX 0)=some (.slice o s.n cap):=by have:=aD (i:=0) h.1 rfl;rw[QT]at this;exact this
 have F:=hid λW=>n5 ⟨#[116,104,101,32,110,117,109,98,101,114,32,111,102,32,118,101,114,100,105,99,116,115]⟩ k 0 s.n W ⟨aA,aA⟩;have D:=cK h.1 0;have r:Calls prog 184 #[.slice o s.n cap,Iv 0,Iv (k:Int)] w λe w'=>e=.returned (.slice o (s.n-k) cap)/\w'.heap[s.cX]?=some (.cells #[s.sv] 177 (0,0))/\w'.ownsRow 0 59 4 (.slice o (s.n-k) cap) (s.n-k) (s.xs.drop (k*4))/\aH (λb=>b=s.cX\/s.sv.ownBlock=some b) w w':=by
  have a:=h.2;rw[QT]at a;by_cases L:k=0
  .subst L;apply(Ni o s.n cap w hc).mono;rintro e w' ⟨rfl,rfl⟩;exact⟨rfl,h.1,by simpa using a,aH.refl _ _⟩
  .obtain⟨g,rfl⟩:∃g,o=some (Ad g 0):=by
    obtain⟨_,⟨C,y⟩|⟨g,cp,G,C,_⟩⟩:=a
    .omega
    .cases C;exact⟨g,rfl⟩
   refine(F_ g cap k s.n s.xs w a J aA H E).m λw' ⟨y,d⟩=>?_;have p:s.cX≠g:=by
    rintro e;have⟨cg,sS⟩:=cE a (g:=g) rfl;rw[<-e,h.1]at sS;cases sS
   exact⟨rfl,d.heap h.1 p,y,⟨d.os,d.output,d.size,λb t j=>d.block b t λe=>j (.inr (by rw[QT];subst e;rfl))⟩⟩
 have c:Hid (∀W:aC,W.heap[s.cX]?=some (.cells #[s.sv] 177 (0,0))->W.ownsRow 0 59 4 (.slice o (s.n-k) cap) (s.n-k) (s.xs.drop (k*4))->aH (λb=>b=s.cX\/s.sv.ownBlock=some b) w W->gh (W.setCell (Ad s.cX 0) (.slice o (s.n-k) cap)) ⟨s.cX,.slice o (s.n-k) cap,s.n-k,s.xs.drop (k*4)⟩/\(Value.slice o (s.n-k) cap).ownBlock=s.sv.ownBlock/\aH (λb=>b=s.cX\/s.sv.ownBlock=some b) w (W.setCell (Ad s.cX 0) (.slice o (s.n-k) cap))):=λW A B f=>by
  refine⟨⟨dS (i:=0) A,eF B λg K=>?_⟩,by rw[QT];cases o<;>rfl,⟨f.os,f.output,by simpa using f.size,λb t j=>((mE _ _ _ _ λe=>j (.inl e)).trans (f.block b t j))⟩⟩
  .refine mE _ _ _ _ λe=>?_;have⟨cg,sS⟩:=cE B K;rw[e,A]at sS;cases sS
 have q:Hid (∀W:aC,W.heap[s.cX]?=some (.cells #[s.sv] 177 (0,0))->W.cell? (Ad s.cX 0)=some s.sv/\W.frozen? (Ad s.cX 0)=false):=λW x=>⟨aD x rfl,cK x 0⟩;generalize s.xs.drop (k*4)=O at*;generalize s.n=n at*;generalize s.sv=sv at*;generalize s.cX=cX at*;go_enter func150,ntmps150;go_wp2_with fail;refine(F.out _).m λl M=>?_;obtain rfl:=M.symm;go_wp2_with fail;refine r.m λl ⟨z,I,N⟩=>?_;have⟨f1,f2⟩:=q.out l z;have m:=c.out l z I N;replace m:Hid _:=m;go_wp2;go_ret;exact⟨rfl,_,m.out⟩
section
variable{O:Nat->Prop}{S:f_}{mb n:Nat}{w w':aC}{l:PL}
theorem nX{c:Type}{L:aB c}{i j a b}(h:(L.set i a)[j]?=some b):(j=i/\b=a)\/(j≠i/\L[j]?=some b):=by
 rw[List.getElem?_set]at h;split at h
 .rename_i e;split at h
  .cases h;exact .inl ⟨e.symm,rfl⟩
  .cases h
 .rename_i e;exact .inr ⟨λx=>e x.symm,h⟩
theorem dN.cut{i k u p s v}(h:dN O S mb l w)(M:l.us[i]?=some u)(W:l.ps[i]?=some p)(F:l.ss[i]?=some s)(ho:gh w' ⟨s.cX,v,s.n-k,s.xs.drop (k*4)⟩)(N:v.ownBlock=s.sv.ownBlock)(d:aH (λb=>b=s.cX\/s.sv.ownBlock=some b) w w'){P}(Z:(l.us.set i {u with str:=u.str.drop k}).Perm P):
  lR (λb=>O b\/w.heap.size<=b) {S with aW:=P} mb w'/\aH O w w':=by
 let r:=iF F;let B:=h.watch.E8 s r;let A:dQ w (λb=>b=s.cX\/s.sv.ownBlock=some b) [4,9,226,183,159,153,104,143]:=λb cs t m D C e=>by
  obtain e|e:=e
  .subst e;rw[B.1]at D;cases D;simp at C
  .let⟨cg,sS⟩:=cE B.2 e;rw[sS]at D;cases D;simp at C
 let Y:=(eY.1 F).1;let⟨q1,q2,q3,q4⟩:=h.aW.each i u p s M W F;let o:(l.us.set i {u with str:=u.str.drop k}).map (·.x)=l.xs:=by
  rw[xL];refine CF λj=>?_;rw[List.getElem?_set];split
  .rename_i e;subst e;rw[PL.xs,lj,M];simp[(eY.1 M).1]
  .rfl
 refine⟨⟨⟨l.aY,l.no,l.bZ,l.ea,l.bO,l.C,l.E,l.pa,l.bS,l.ps,l.ss.set i ⟨s.cX,v,s.n-k,s.xs.drop (k*4)⟩,l.us.set i {u with str:=u.str.drop k}⟩,?_⟩,d.mono λb _ D=>?_⟩
 .refine{watch:=?_,ry:=?_,perm:=Z,sorted:=h.sorted,aW:=?_,jy:=?_,node:=?_,own:=?_,vU:=d.get h.vU (A _ _ _ _ h.vU aF)}
  .simp only[PL.K,PL.xs];rw[o];exact{h.watch with
    cell:=d.get h.watch.cell (A _ _ _ _ h.watch.cell aF)
    bH:=h.watch.bH.move d (A.less aF)
    ins:=λj c e n f=>(h.watch.ins j c e n f).move (h.watch.typed c (iF n)) d (A.less aF)
    typed:=λc Q=>(h.watch.typed c Q).move d (A.less aF)
    nodes:=h.watch.nodes.move h.watch.ld d (A.less aF)
    ld:=typed.move h.watch.ld d (A.less aF)
    aW:=iu.move h.watch.aW d (A.less aF)
    na:=by rw[FK];exact h.watch.na
    zS:=λj t q n f=>by
     obtain⟨rfl,rfl⟩|⟨_,n⟩:=nX n
     .exact h.watch.zS j s q F f
     .exact h.watch.zS j t q n f
    E8:=λt C=>by
     let⟨j,I⟩:=Aw.1 C;obtain⟨_,rfl⟩|⟨y,I⟩:=nX I
     .exact ho
     .let H:=h.watch.apart j i t s I F y;let G:=h.watch.E8 t (iF I);refine G.heap λb D L=>d.block b D λe=>?_;obtain rfl|L:=L
      .obtain e|e:=e
       .exact H.1 e
       .exact B.ne G e
      .obtain e|e:=e
       .exact G.ne B (by rw[<-e];exact L)
       .exact H.2 b L e
    apart:=λa b X T n f z=>by
     rcases nX n with⟨rfl,rfl⟩|⟨_,V⟩<;>rcases nX f with⟨rfl,rfl⟩|⟨_,U⟩
     .exact absurd rfl z
     .have:=h.watch.apart a b s T F U z;exact⟨this.1,λg E=>this.2 g (by rw[<-N];exact E)⟩
     .have:=h.watch.apart a b X s V F z;exact⟨this.1,λg E e=>this.2 g E (by rw[<-N];exact e)⟩
     .exact h.watch.apart a b X T V U z}
  .simp only[PL.K,PL.xs];rw[o];exact⟨h.ry.ry,h.ry.ok,h.ry.num⟩
  .refine⟨by rw[FK];exact h.aW.len,λj a b c n f K=>?_⟩;obtain⟨rfl,rfl⟩|⟨y,n⟩:=nX n
   .rw[W]at f;cases f;obtain⟨_,rfl⟩|⟨y,_⟩:=nX K
    .exact⟨q1,q2,by show s.n-k=_;rw[q3,nZ],by show s.xs.drop _=_;rw[q4,Mj]⟩
    .exact absurd rfl y
   .obtain⟨e,_⟩|⟨_,K⟩:=nX K
    .exact absurd e y
    .exact h.aW.each j a b c n f K
  .refine⟨by show((l.us.set i _).map (·.x)).length=_;rw[o];exact h.jy.len,λj p x n f=>?_,λx J=>?_⟩
   .let f:((l.us.set i {u with str:=u.str.drop k}).map (·.x))[j]?=some x:=f;rw[o]at f;exact gF (λq cs R=>(d.block q (aN R) (A _ _ _ _ R aF)).trans R) (h.jy.each j p x n f)
   .let J:x∈(l.us.set i {u with str:=u.str.drop k}).map (·.x):=J;rw[o]at J;exact h.jy.fine x J
  .intro j p I;show(p.node:Int)=B_ (iY ((l.us.set i {u with str:=u.str.drop k}).map (·.x))) j;rw[o];exact h.node j p I
  .refine⟨.inl h.own.wt,λa H=>.inl (h.own.ev a H),λt C=>?_,λc Q a H=>.inl (h.own.at_ c Q a H)⟩;obtain C|rfl:=BD C
   .exact⟨.inl (h.own.st t C).1,λg E=>.inl ((h.own.st t C).2 g E)⟩
   .exact⟨.inl (h.own.st s r).1,λg E=>.inl ((h.own.st s r).2 g (by rw[<-N];exact E))⟩
 .obtain e|e:=D
  .rw[e];exact(h.own.st s r).1
  .exact(h.own.st s r).2 b e
theorem Pg(name m){aY z}(h:w.heap[mb]?=some (.cells #[Pt aY] 104 (0,0)))(f:dP w)(c:cZ w)(j:Calls prog 112 #[Pt aY,.string name,Iv m] w λe w'=>∃T q,e=.returned (.iface T q)/\lQ w' (.iface T q) z/\Bl w w'):
  Calls prog 69 #[Pt mb,.string name,Iv m] w λe w'=>e=.returned (Iv z)/\Bl w w':=by
 let n:=aD (i:=0) h rfl;let k:=hid λW T q (a:Bl w W) (b:lQ W (.iface T q) z)=>j' _ z W (f.below a) (c.keep a.block) b;go_enter func69,ntmps69;go_wp2_with fail;apply j.mono;rintro e g ⟨T,q,rfl,b,a⟩;go_wp2_with fail;refine(k.out g T q a b).m λl d=>?_;go_wp2;go_ret;exact⟨rfl,a.tr d⟩
theorem Uv(h:dN O S mb l w)(A:S.OK n)(E:dP w)(j:cZ w)(name m):
  Calls prog 69 #[Pt mb,.string name,Iv m] w λe w'=>e=.returned (Iv (rf S name m).1)/\lR (λb=>O b\/w.heap.size<=b) (rf S name m).2 mb w'/\aH O w w':=by
 obtain⟨d,g⟩|⟨i,u,p,s,d,g,I,B,F,t,R,J⟩:=h.find A name
 .rw[show rf S name m=(6,S)by unfold rf;rw[d]];have z:=xJ name h.watch h.sorted g j;refine(Pg name m h.vU E j ?_).mono λe w' ⟨d,g⟩=>⟨d,h.below g⟩;generalize l.aY=aY at*;go_enter func112,ntmps112;go_wp2_with fail;apply z.mono;rintro e r ⟨T,q,rfl,c,a⟩;replace c:Hid _:=c;go_wp2;go_ret;exact⟨T,q,rfl,c.out,a⟩
 .have⟨e1,e2,e3,e4⟩:=h.aW.each i u p s B F t;have N:=(A.each u (get_some d).1).2.2.2.2.2.2;have z:=Ah name h.watch h.sorted i I g s t;by_cases G:m<0\/(u.str.length:Int)<m
  .rw[show rf S name m=(13,S)by unfold rf;rw[d];simp only[bY G]];refine(Pg name m h.vU E j ?_).mono λe w' ⟨d,g⟩=>⟨d,h.below g⟩;have C:=hid λW (a:Bl w W)=>Te s m W (gh.move (h.watch.E8 s (iF t)) (aH.aS (P:=λ_=>False) a) (dQ.none _ _)) aA;generalize l.aY=aY at*;generalize s.cX=cX at*;go_enter func112,ntmps112;go_wp2_with fail;refine z.m λr a=>?_;go_wp2_with fail;apply(C.out r a).mono;rintro e M ⟨b,rfl,o⟩;go_wp2;go_ret;exact⟨_,_,rfl,⟨_,b,yX (aQ _ _ _ rfl) (og (by simp[leaves])),.inr (by simp[r_])⟩,(a.tr o).al _⟩
  .obtain⟨k,rfl⟩:∃k:Nat,m=k:=⟨m.toNat,aA⟩;have D:(l.us.set i {u with str:=u.str.drop k}).Perm (S.upd name λp=>{p with str:=p.str.drop k}).aW:=by
    rw[xg (f:=λp:Az=>{p with str:=p.str.drop k}) ((h.perm.map _).nodup_iff.2 A.nodup) B,J];exact h.perm.map _
   rw[show rf S name k=(0,{S with aW:=(S.upd name λp=>{p with str:=p.str.drop k}).aW})by unfold rf;rw[d];simp only[bN G,Int.toNat_natCast];rfl];have y:Calls prog 112 #[Pt l.aY,.string name,Iv (k:Int)] w λe w'=>e=.returned .nilIface/\lR (λb=>O b\/w.heap.size<=b) {S with aW:=(S.upd name λp=>{p with str:=p.str.drop k}).aW} mb w'/\aH O w w':=by
    have C:Hid (∀W,Bl w W->Calls prog 150 #[Pt s.cX,Iv (k:Int)] W λe w'=>e=.returned .nilIface/\lR (λb=>O b\/w.heap.size<=b) {S with aW:=(S.upd name λp=>{p with str:=p.str.drop k}).aW} mb w'/\aH O w w'):=λW a=>by
     have y:=dN.aap h a;refine(V6 s k W (y.watch.E8 s (iF t)) aA aA (e4▸Dw _)).m λw' ⟨v,K,L,H⟩=>?_;have:=y.cut B F t K L H D;refine⟨rfl,this.1.mono λb o=>o.imp id λx=>gH a.size x,(aH.aS a).trans this.2⟩
    generalize l.aY=aY at*;generalize s.cX=cX at*;go_enter func112,ntmps112;go_wp2_with fail;refine z.m λr a=>?_;go_wp2_with fail;refine(C.out r a).m λM c=>?_;replace c:Hid _:=c;go_wp2;go_ret;exact⟨rfl,c.out⟩
   have Q:=aD (i:=0) h.vU rfl;generalize l.aY=aY at*;go_enter func69,ntmps69;go_wp2_with fail;refine y.m λr c=>?_;replace c:Hid _:=c;go_wp2_with fail;apply(pE r).m0;go_wp2;go_ret;exact⟨rfl,c.out⟩
end
section
variable{wb n m m' i:Nat}{T:Nat->Nat}{Ms:aB Mo}{E:aB mK}{w0 w w':aC}{x:Mo}
theorem cH.BQ(h:cH w0 wb T Ms n E m w):∀e∈E,∀b,e.gv.ownBlock=some b\/e.tv.ownBlock=some b->b<w.heap.size:=by
 let⟨_,⟨_,h⟩,_⟩:=(h.part 0).1 rfl;intro e c b a;let⟨⟨_,_,h1⟩,⟨_,_,h2⟩,_⟩:=h.mR e c;exact a.elim (λa=>(h1.lt b a).2) λa=>(h2.lt b a).2
theorem cH.fresh(h:cH w0 wb T Ms n E m w){t:TypeId}{s k:Nat}{l:aE}{xs:aB aE}(o:w.ownsRow 0 t s l k xs)(p:t∉KK/\t≠70/\t≠123)(c:∀g,l.ownBlock=some g->T g=0/\w0.heap.size<=g/\∀e∈E,e.gv.ownBlock≠some g/\e.tv.ownBlock≠some g):
  ∃P f j,lu P wb f j n E w/\(∀g,l.ownBlock=some g->¬P g)/\Own w (λb=>T b=0/\w0.heap.size<=b) λb=>P b\/l.ownBlock=some b:=by
 let⟨f,⟨j,hX⟩,_⟩:=(h.part 0).1 rfl;refine⟨λb=>b=wb\/j.ownBlock=some b\/∃e∈E,e.gv.ownBlock=some b\/e.tv.ownBlock=some b,f,j,⟨hX.cell,hX.kept,λe d=>⟨(hX.mR e d).g,(hX.mR e d).t,λb a=>.inr (.inr ⟨e,d,a⟩)⟩,.inl rfl,λb a=>.inr (.inl a)⟩,λg i=>?_,λb a=>?_⟩
 .rintro(rfl|a|⟨e,d,a⟩)
  .exact lf o hX.cell p.2.1 i
  .let⟨cur,k⟩:=cE hX.kept a;exact lf o k p.2.2 i
  .exact a.elim ((c g i).2.2 e d).1 ((c g i).2.2 e d).2
 .obtain(rfl|a|⟨e,d,a⟩)|a:=a
  .exact⟨hX.own.1,_,_,_,hX.cell,aG⟩
  .exact⟨hX.own.2 b a,lM hX.kept a aG⟩
  .have:=hX.mR e d;let⟨_,_,k1⟩:=this.g;let⟨_,_,k2⟩:=this.t;exact⟨this.own b a,a.elim (lM k1 · aG) (lM k2 · aG)⟩
  .exact⟨⟨(c b a).1,(c b a).2.1⟩,lM o a p.1⟩
theorem cH.gives(h:cH w0 wb T Ms n E m w)(s:n<=200000000000)(l k:aE)(L:aB Vd)(f:w.ownsRow 0 59 4 l L.length (lr L))(r:w.ownsRow 0 199 4 k L.length (lr L))(a:∀g,l.ownBlock=some g->T g=0/\w0.heap.size<=g/\∀e∈E,e.gv.ownBlock≠some g/\e.tv.ownBlock≠some g)(b:L.length<=1000):
  Calls prog 71 #[Pt wb,l,k] w λe w'=>e=.returned (.bool true)/\∃d i,cH w0 wb d Ms (n+1) i m w':=by
 let⟨P,lN,kv,hX,hP,hO⟩:=h.fresh f aG a;let p:=h.mR.1;refine(QR hX aA aA l k L f r hP b).m λw' ⟨i,c,q,j⟩=>?_;let⟨d,h'⟩:=h.lists (hX.mono λ_=>.inl) j hO q ⟨bI,λe o=>(jc.1 o).imp id (c.2 e)⟩;exact⟨rfl,d,_,h'⟩
def SE(b:Bool)(v:aE)(z:Int)(e:Ending):Prop:=if b then e=.returned (.tuple #[v,Iv z])else e=.returned (Iv z)/\v=.slice none 0 0
def Mo.Vx(x:Mo):Nat×Nat×Nat:=(x.pb,x.mb,x.yb)
def Kc(w0:aC)(wb n m':Nat)(d:aB (Nat×Nat×Nat))(e:Ending)(w':aC):Prop:=e=.returned (.bool true)/\∃c a b,cH w0 wb c a (n+1) b m' w'/\(∀x∈a,x.S=x.R)/\a.map Mo.Vx=d
def aaG(w0:aC)(wb n m':Nat)(T:Nat->Nat)(Ms:aB Mo)(x:Mo)(b:Bool)(z:Int)(g:FuncId)(d:aU aE)(w:aC)(e:Ending)(a:aC):Prop:=
 ∃v,SE b v z e/\(∀c,T c=0\/c=x.pb->c<w.heap.size->a.heap[c]?=w.heap[c]?)/\w.heap.size<=a.heap.size/\∀W,Bl a W->Calls prog g d W λe f=>∃k,SE b k z e/\Calls prog 71 #[Pt wb,v,k] f (Kc w0 wb n m' (Ms.map Mo.Vx))
theorem cH.Vm(h:cH w0 wb T Ms n E m w)(hn:n<=200000000000)(s:∀x∈Ms,x.S=x.R)(hi:Ms[i]?=some x)(hm:m<=m')(b:Bool)(Q M:FuncId)(X Y:aU aE)(res:aB Vd×Int×f_)(f:res.2.2.OK m')(hL:res.1.length<=1000)
  (h1:∀P l,dN P x.S x.mb l w->Calls prog Q X w λe w'=>∃v,SE b v res.2.1 e/\yI P x.mb w res (.returned (.tuple #[v,Iv res.2.1])) w')
  (Z:∀W P ev I C L,eT P x.S x.yb ev I C L W->Calls prog M Y W λe w'=>∃v,SE b v res.2.1 e/\IA P x.yb W res (.returned (.tuple #[v,Iv res.2.1])) w'):
  Calls prog Q X w (aaG w0 wb n m' T Ms x b res.2.1 M Y w):=by
 let u:=(eY.1 hi).1;let N:=iF hi;let⟨⟨l,hM⟩,hS⟩:=((h.part (2*i+1)).2 i x hi).1 rfl;let⟨P,hX,hO⟩:=hM.exact;apply(h1 P l hX).mono;rintro e w1 ⟨v,a,v',p,O,F,o⟩;cases p;let⟨T1,k1,hT1⟩:=h.XU hi o hO v.ownBlock F hm f;refine⟨v,a,λc R G=>o.block c G λt=>?_,o.size,λW z=>?_⟩
 .obtain R|rfl:=R
  .have:=(hO c t).1.1;omega
  .exact hO.kinds _ _ _ _ (h.pair x N) aG t
 let U:=k1.still (aH.aS z);let r:(Ms.set i {x with S:=res.2.2})[i]?=some {x with S:=res.2.2}:=rF u;let⟨⟨ev,I,C,L,hR⟩,_⟩:=((U.part (2*i+2)).2 i _ r).2 rfl;let⟨P2,hX2,hO2⟩:=hR.exact;apply(Z W P2 ev I C L (s x N▸hX2)).mono;rintro e w2 ⟨k,H,k',p,hk,D,q⟩;cases p;let⟨T2,k3,Dc⟩:=U.XW r q hO2 D aZ f;rw[List.set_set]at k3;let d:∀g,v.ownBlock=some g->T1 g=0/\w.heap.size<=g/\g<W.heap.size:=λg a=>by
  let u:=O.lt g a;have:=z.size;refine⟨hT1 g (GB λB=>?_) (.inr a),aA,aA⟩;have:=h.dom g B;omega
 let A:w2.ownsRow 0 59 4 v res.1.length (lr res.1):=cG (fQ (O.mono cC) z) q λg a t=>by
  have:=(hO2 g t).1.1;have:=(d g a).1;omega
 refine⟨k,H,(k3.gives hn v k res.1 A hk (λg a=>⟨Dc g (d g a).1 (d g a).2.2,?_,λe p=>?_⟩) hL).mono ?_⟩
 .have:=(d g a).2.1;have:=h.base.size;omega
 .have:=(d g a).2.1;exact⟨λK=>by have:=h.BQ e p g (.inl K);omega,λK=>by have:=h.BQ e p g (.inr K);omega⟩
 .rintro e w' ⟨rfl,T',E',h'⟩;refine⟨rfl,T',_,E',h',λy J=>?_,?_⟩
  .obtain J|rfl:=BD J
   .exact s y J
   .rfl
  .rw[xL];refine CF λj=>?_;by_cases V:i=j
   .subst V;simp[u,Mo.Vx,(eY.1 hi).2]
   .simp[V]
theorem Kn{S:f_}(h:S.OK n)(y:BT dD)(v:Int):(mr S y v).length<=1000:=by
 let c:S.off<=qf S y:=by unfold qf;split<;>omega
 let a:=h.kept;let b:=h.room;unfold mr Xc;rw[uP,List.length_range];omega
theorem VQ{S:f_}(h:S.OK n)(s t:a_):(kO S s t).1.length<=1000:=by
 unfold kO
 repeat' split
 all_goals first|exact cC|exact Kn h _ _
theorem Qn{S:f_}(h:S.OK n)(s t:a_):(gi S s t).1.length<=1000:=by
 unfold gi
 repeat' split
 all_goals first|exact cC|exact Kn h _ _
theorem O1{S:f_}(h:S.OK n)(s:a_):(gu S s).1.length<=1000:=by
 unfold gu;split
 .exact cC
 .rename_i p a;let⟨_,_,_,_,_,_,h⟩:=h.each p (List.mem_of_find?_eq_some a);exact gH h aG
end
end Ev
end Go.Proofs.YtpbbmagjhkakgaaGreatDoor
