import Derived.Test.YtpbbmagjhkakgaaGreatDoorE3
import Derived.Test.YtpbbmagjhkakgaaGreatDoorE5
namespace Go.Proofs.YtpbbmagjhkakgaaGreatDoor
set_option maxHeartbeats 8000000
set_option maxRecDepth 100000
namespace Ev
open Go.Proofs.Tryz Go.RowKit Go.Deep Go.Maps Lf Go.Conc
def Er(c n:Int):Int:=(if c<0 then-(c+1)else c)%n
theorem Gz(c n:Int)(w:aC)(g:-9223372036854775808<=c/\c<=9223372036854775807)(b:0<n/\n<=4611686018427387905):Calls prog 56 #[Iv c,Iv n] w λe w'=>e=.returned (Iv (Er c n))/\w'=w:=by
 obtain⟨j,i⟩:=g;let a:n≠0:=aA;unfold Er;by_cases h:c<0
 .let d:0<=(-(c+1))%n/\(-(c+1))%n<n:=⟨Int.emod_nonneg _ a,Int.emod_lt_of_pos _ b.1⟩;let f:Int.tmod (-(c+1)) n=(-(c+1))%n:=Int.tmod_eq_emod_of_nonneg aA;simp only[h,fA];go_enter func56,ntmps56;go_wp2_with fail;go_ret;exact⟨rfl,rfl⟩
 .let d:0<=c%n/\c%n<n:=⟨Int.emod_nonneg _ a,Int.emod_lt_of_pos _ b.1⟩;let f:Int.tmod c n=c%n:=Int.tmod_eq_emod_of_nonneg aA;simp only[h,fx];go_enter func56,ntmps56;go_wp2_with fail;go_ret;exact⟨rfl,rfl⟩
section
variable{wb n m i:Nat}{T:Nat->Nat}{Ms:aB Mo}{E:aB mB}{w0 w w':aC}{x:Mo}
theorem pH.step{e:Ending}(h:pH w0 wb n m Ms e w')(a:∀x∈Ms,x.S=x.R):iF w0 wb n (m+1) e w':=by
 obtain⟨c,i,g,d,b,f⟩:=h;exact⟨c,i,Ms,g,d,b,f.up (rj m),a⟩
theorem JK.step{e:Ending}{b:Nat}{k:aB (Nat×Nat×Nat)}(h:JK w0 wb n b k e w')(d:b<=m+1):iF w0 wb n (m+1) e w':=by
 obtain⟨i,j,a,f,c,g,_⟩:=h;exact⟨i,j,a,_,f,aX,c.up d,g⟩
theorem Ga.step{e:Ending}{len:Nat}(h:Ga w0 wb n (m+1) len E e w'):iF w0 wb n (m+1) e w':=by
 obtain⟨d,f,a,b,c,_⟩:=h;exact⟨d,f,a,_,E,rj n,b,c⟩
theorem cH.pick(h:cH w0 wb T Ms n E m w)(p:m<=1000000)(a:Int):∃d bS,w.cell? (Ad wb 0)=some (.slice d Ms.length bS)/\Ms.length<=1000000/\(0<Ms.length->∃g i x,d=some (Ad g 0)/\Ms[i]?=some x/\i<Ms.length/\w.cell? (Ad g i)=some (Pt x.pb)/\Er a Ms.length=(i:Int)):=by
 obtain⟨f,⟨q,k⟩,e,_⟩:=(h.part 0).1 rfl;obtain⟨d,bS,rfl,_,_,o⟩:=bT e;let s:=h.few;refine⟨d,bS,aD k.cell rfl,aA,λl=>?_⟩;obtain⟨g,j,_,_,b⟩:=o l;let r:0<=Er a Ms.length/\Er a Ms.length<(Ms.length:Int):=⟨Int.emod_nonneg _ aA,Int.emod_lt_of_pos _ aA⟩;obtain⟨i,hi⟩:∃i:Nat,Er a Ms.length=(i:Int):=⟨(Er a Ms.length).toNat,aA⟩;let c:i<Ms.length:=aA;exact⟨g,i,Ms[i],j,fG c,c,b i _ (by simp[Le,c]),hi⟩
theorem zst{T:bQ} (h:T:=by
 refine hR.out.mono ?_;intro e w1 hQ;obtain rfl:e=.returned (.bool true):=hQ.1;replace hQ:=hid hQ;clear hR;go_wp2_with fail;go_ret;exact hQ.out):T:=h
theorem Rc(h:cH w0 wb T Ms n E m w)(b:∀x∈Ms,x.S=x.R)(B:dW w0)(c:dG w0)(Y:14<=w0.heap.size)(hm:m<1000000)(N:n<=200000000000)(k a nn mm:Int)(ha:-9223372036854775808<=a/\a<=9223372036854775807)(s t:aZ)(hs:s.size<=2000000)(ht:t.size<=2000000)(L:aB aZ)(lv:aF)(hL:j_ w0.heap.size w0 L lv)(hl:L.length<=1100000)(R:∀j,j<L.length->(L.getD j ByteArray.empty).size<=2000000)(O:k≠5\/Ms=[]):
  Calls prog 35 #[Pt wb,gV k a nn mm s t lv] w (iF w0 wb n (m+1)):=by
 obtain⟨z,y,rfl,_⟩:=nI hL;have l:=(cC w.heap.size w).al (.cells #[Iv k,Iv a,Iv nn,Iv mm,.string s,.string t,.slice z L.length y] 73 (0,0));have G:=h.still (aI.aR l);by_cases X:1<=k/\k<=3
 .have q1:decide ((1:Int)<=k)=true:=kh X.1;have q3:decide (k<=3)=true:=kh X.2;have hR:=hid ((Nn G B c Y N k a nn mm aA s t hs L _ hL hl R).mono (R':=iF w0 wb n (m+1)) λe w' h=>h.step b);clear h G hL B c b l;unfold gV at hR⊢;generalize L.length=A at*;go_enter func35,ntmps35;go_wp2_with fail;exact zst
 by_cases k4:k=4
 .subst k4;have hR:=hid ((Tz G b B c Y aA a nn mm s t (.slice z L.length y)).mono (R':=iF w0 wb n (m+1)) λe w' h=>h.step);clear h G hL B c b l;unfold gV at hR⊢;generalize L.length=A at*;go_enter func35,ntmps35;go_wp2_with fail;exact zst
 have e4:(k==4)=false:=Fg k4;have V:decide ((1:Int)<=k)=false\/(decide ((1:Int)<=k)=true/\decide (k<=3)=false):=by
  by_cases S:(1:Int)<=k
  .exact .inr ⟨kh S,kg λh=>X ⟨S,h⟩⟩
  .exact .inl (kg S)
 obtain⟨po,bS,J,a1,u⟩:=h.pick aA a;have M:=eS J;have H:Hid (∀W,Bl w W->iF w0 wb n (m+1) (.returned (.bool true)) W):=λW K=>⟨rfl,T,Ms,n,E,rj n,(h.still (aI.aR K)).up (rj m),b⟩;have I:Hid (∀(i:Nat)(x:Mo),Ms[i]?=some x->∀W,Bl w W->((k=10\/k=11\/k=13)->Calls prog 36 #[Pt wb,Pt x.pb,gV k a nn mm s t (.slice z L.length y)] W (iF w0 wb n (m+1)))/\Calls prog 37 #[Pt wb,Pt x.pb,gV k a nn mm s t (.slice z L.length y)] W (iF w0 wb n (m+1))):=λi x hi W K=>
  ⟨λO=>(Hk (h.still (aI.aR K)) b hi aA N k a nn mm O s t _).mono λe w' h=>h.step b,(zn (h.still (aI.aR K)) b hi B c Y hm N k a nn mm s t _ hs ht).mono λe w' h=>h.step (by split<;>omega)⟩
 have r:Hid (Ms=[]->Ms.length=0):=λh=>by rw[h];rfl
 unfold gV at*;clear h G hL B c b;generalize L.length=A at*;go_enter func35,ntmps35
 go_upto_block 0 with fail
 go_cut []from 6 (λZ=>Hid (w.alloc (.cells #[Iv k,Iv a,Iv nn,Iv mm,.string s,.string t,.slice z A y] 73)=Z))
 case first=>
  clear I H u r;rcases V with q1|⟨q1,q3⟩
  all_goals
   go_wp2_with fail
   go_meet
   exact rfl
 case rest=>
  have hcut:=hcut.out;subst hcut;by_cases h0:Ms.length=0
  .have hQ:Hid (iF w0 wb n (m+1) (.returned (.bool true)) _):=H.out _ l;rw[h0]at J;clear I H u V r l;go_wp2_with fail;go_ret;exact hQ.out
  .obtain⟨g,i,x,rfl,hi,a8,Q,C⟩:=u aA;have F:Hid (∀W:aC,Calls prog 56 #[Iv a,Iv (Ms.length:Int)] W λe w'=>e=.returned (Iv (i:Int))/\w'=W):=λW=>by rw[<-C];exact Gz a (Ms.length:Int) W ha aA
   have P:=I.out i x hi;have k5:k≠5:=O.resolve_right λe=>h0 (r.out e);clear I H u V r C hi;generalize x.pb=pb at*;generalize ae:Ms.length=len at*;have o:=aP w (.cells #[Iv k,Iv a,Iv nn,Iv mm,.string s,.string t,.slice z A y] 73 (0,0)) _ rfl;have c0':=(l.cell (p:=(Ad wb 0)) M).trans J;have cx':=(l.cell (p:=(Ad g i)) (eS Q)).trans Q;have ad:=aL o;clear J Q;generalize w.alloc _=W at*;have d0:=aD (i:=0) o rfl;have d1:=aD (i:=1) o rfl;have d2:=aD (i:=2) o rfl;have d3:=aD (i:=3) o rfl;have d4:=aD (i:=4) o rfl;have d5:=aD (i:=5) o rfl;have d6:=aD (i:=6) o rfl;clear o
   go_upto_region 7 with fail
   go_cut [5]from 25 (λv Z=>v=(Pt pb)/\Hid (∃q,Z=W.drewN q))
   case first=>
    clear P;go_quiet(first|(go_at_call 56;exact Calls.quiet_of ((F.out _).mono λe w' h=>⟨h.1,0,h.2⟩)));go_wp2_with fail
    go_meet
    exact⟨rfl,_,rfl⟩
   case rest=>
    obtain⟨rfl,U⟩:=hcut;obtain⟨q,rfl⟩:=U.out;have e5:(k==5)=false:=Fg k5;obtain⟨d,f⟩:=P _ (l.tr (below_drewN _ q));replace d:Hid _:=d;replace f:Hid (Calls prog 37 #[Pt wb,Pt pb,.agg #[Iv k,Iv a,Iv nn,Iv mm,.string s,.string t,.slice z A y]] _ (iF w0 wb n (m+1))):=f;clear F P l c0' cx';by_cases D:k=10\/k=11\/k=13
    .have hw:=d.out D;replace hw:Hid (Calls prog 36 #[Pt wb,Pt pb,.agg #[Iv k,Iv a,Iv nn,Iv mm,.string s,.string t,.slice z A y]] _ (iF w0 wb n (m+1))):=hw;clear d f;rcases D with rfl|rfl|rfl
     all_goals
      go_wp2_with fail;have hR:=hw;exact zst
    .have a6:(k==10)=false:=Fg λe=>D (.inl e);have a7:(k==11)=false:=Fg λe=>D (.inr (.inl e));have aa:(k==13)=false:=Fg λe=>D (.inr (.inr e));clear d;go_wp2_with fail;have hR:=f;exact zst
end
noncomputable def sL:Code:=f35.body.getD .skip
noncomputable def Pg:aB Code:=match sL with
 |.seq a (.seq b (.seq c (.seq d _)))=>[a,b,c,d]
 |_=>[]
noncomputable def r35:Code:=match sL with
 |.seq _ (.seq _ (.seq _ (.seq _ (.seq (.seq x _) _))))=>x
 |_=>.skip
noncomputable def y35:Code:=match sL with
 |.seq _ (.seq _ (.seq _ (.seq _ (.seq (.seq _ (.block _ (.seq x _))) _))))=>x
 |_=>.skip
noncomputable def O_:aY Oper:=match sL with
 |.seq _ (.seq _ (.seq _ (.seq _ (.seq (.seq _ (.block _ (.seq _ (.cond _ (.seq (.region _ x _) _) _)))) _))))=>x
 |_=>#[]
noncomputable def z35:Code:=match sL with
 |.seq _ (.seq _ (.seq _ (.seq _ (.seq _ x))))=>x
 |_=>.skip
theorem PY:f35.body=some (uo Pg (.seq (.seq r35 (.block 1 (.seq y35 (.cond (.tmp 47) (.seq (.region 13 O_ false) .ret) .skip)))) z35)):=rfl
theorem Wi:iJ O_ 3=true:=aM
theorem TJ{A:Act}{l:aB (Nat×aF)}(h:Fx 60 l A):∃u:Nat->aF,(∀j v,look l j=some v->u j=v)/\A=⟨#[u 0,u 1,u 2,u 3,u 4,u 5,u 6,u 7,u 8,u 9,u 10,u 11,u 12,u 13,u 14,u 15,u 16,u 17,u 18,u 19,u 20,u 21,u 22,u 23,u 24,u 25,u 26,u 27,u 28,u 29,u 30,u 31,u 32,u 33,u 34,u 35,u 36,u 37,u 38,u 39,u 40,u 41,u 42,u 43,u 44,u 45,u 46,u 47,u 48,u 49,u 50,u 51,u 52,u 53,u 54,u 55,u 56,u 57,u 58,u 59],[]⟩:=by
 have⟨KB,hd,hg⟩:=h;refine⟨λj=>A.tmps.getD j undef,λj v h=>by show A.tmps.getD j undef=v;rw[Ma,hg j v h];rfl,?_⟩;have e:=C4 A.tmps 60 KB;have⟨t,d⟩:=A;simp only at*;subst hd;rw[Act.mk.injEq];exact⟨e.trans rfl,rfl⟩
section
variable(wb pb cW:Nat)
def PA:aB (Nat×aF):=[(0,.pointer (some ⟨wb,0,none⟩)),(3,.pointer (some ⟨cW,0,none⟩)),(5,.pointer (some ⟨pb,0,none⟩))]
set_option maxRecDepth 100000
set_option maxHeartbeats 4000000
theorem X_(A:Act)(w:aC)(J:Act->aC->bQ)(d:Fx 60 (PA wb pb cW) A)(d0:w.cell? ⟨cW,0,none⟩=some (.int .i64 5))(b:∀c,Fx 60 ((46,.int .i64 5)::PA wb pb cW) c->J c w):qo prog [r35] J A w:=by
 replace b:Hid _:=b;obtain⟨u,a,rfl⟩:=TJ d;simp only[a 0 _ rfl,a 3 _ rfl,a 5 _ rfl];unfold qo;simp only[r35,sL,f35,ig];go_wp2
 try refine⟨rfl,?_⟩
 unfold qo;refine b.out _ (pX rfl rfl ?_);simp only[PA,qu,iW,uu,uv,oD];exact⟨rfl,rfl,rfl,rfl⟩
theorem Yl(A:Act)(w:aC)(J:Act->aC->bQ)(d:Fx 60 ((46,.int .i64 5)::PA wb pb cW) A)(b:∀c,Fx 60 ((47,.bool true)::PA wb pb cW) c->J c w):qo prog [y35] J A w:=by
 replace b:Hid _:=b;obtain⟨u,a,rfl⟩:=TJ d;simp only[a 0 _ rfl,a 3 _ rfl,a 5 _ rfl,a 46 _ rfl];unfold qo;simp only[y35,sL,f35,ig];go_wp2
 try refine⟨rfl,?_⟩
 unfold qo;refine b.out _ (pX rfl rfl ?_);simp only[PA,qu,iW,uu,uv,oD];exact⟨rfl,rfl,rfl,rfl⟩
def YC(sv:aF):aB (Nat×aF):=[(52,.pointer (some ⟨wb,0,none⟩)),(53,.pointer (some ⟨pb,0,none⟩)),(54,sv)]
theorem Nv(k a nn mm:Int)(s t:aZ)(d:aQ a_)(c f:Nat)(w:aC)(l:w.heap[cW]?=some (.cells #[.int .i64 k,.int .i64 a,.int .i64 nn,.int .i64 mm,.string s,.string t,.slice d c f] 73 (0,0)))(i:Nat)(o:Oper)(p:Nat×aF)(j:O_[i]?=some o)(m:(YC wb pb (gV k a nn mm s t (.slice d c f)))[i]?=some p)(A:Act)(g:Fx 60 ((YC wb pb (gV k a nn mm s t (.slice d c f))).reverse++((47,.bool true)::PA wb pb cW)) A):
  look ((YC wb pb (gV k a nn mm s t (.slice d c f))).reverse++((47,.bool true)::PA wb pb cW)) p.1=some p.2/\∀b e,(execOp A.eval o).run prog (re w b e)=.ok (.value p.2) (re w b e):=by
 have hi:i<3:=(e_.1 m).1;have r:A.tmps[0]?=some (.pointer (some ⟨wb,0,none⟩)):=g.get _ _ rfl;have x:A.tmps[3]?=some (.pointer (some ⟨cW,0,none⟩)):=g.get _ _ rfl;have u:A.tmps[5]?=some (.pointer (some ⟨pb,0,none⟩)):=g.get _ _ rfl;have h:i=0\/i=1\/i=2:=aA;simp only[O_,sL,f35,ig]at j;obtain rfl|rfl|rfl:=h<;>cases m<;>simp only[List.getElem?_toArray,Pr,LY,Jt]at j<;>subst j<;>refine⟨rfl,λb e=>?_⟩
 all_goals have WS:(re w b e).heap[cW]?=_:=l
 all_goals generalize re w b e=W at*
 all_goals have d0:W.cell? ⟨cW,0,none⟩=some (.int .i64 k):=aD WS rfl
 all_goals have z:W.cell? ⟨cW,1,none⟩=some (.int .i64 a):=aD WS rfl
 all_goals have n:W.cell? ⟨cW,2,none⟩=some (.int .i64 nn):=aD WS rfl
 all_goals have y:W.cell? ⟨cW,3,none⟩=some (.int .i64 mm):=aD WS rfl
 all_goals have q:W.cell? ⟨cW,4,none⟩=some (.string s):=aD WS rfl
 all_goals have B:W.cell? ⟨cW,5,none⟩=some (.string t):=aD WS rfl
 all_goals have v:W.cell? ⟨cW,6,none⟩=some (.slice d c f):=aD WS rfl
 all_goals clear g l WS hi
 all_goals unfold execOp
 all_goals try unfold gV
 all_goals go_simp
end
theorem TW(wb pb g i len bS:Nat)(a nn mm:Int)(s t:aZ)(d:aQ a_)(c f:Nat)(w:aC)(J:Act->aC->bQ)(l:w.cell? ⟨wb,0,none⟩=some (.slice (some ⟨g,0,none⟩) len bS))(x:i<len)(_:len<=1000000)(o:w.cell? ⟨g,i,none⟩=some (.pointer (some ⟨pb,0,none⟩)))(b:∀W:aC,Calls prog 56 #[.int .i64 a,.int .i64 (len:Int)] W λe n=>e=.returned (.int .i64 (i:Int))/\n=W)
  (j:∀m q,Fx 60 (PA wb pb w.heap.size) m->J m ((w.alloc (.cells #[.int .i64 5,.int .i64 a,.int .i64 nn,.int .i64 mm,.string s,.string t,.slice d c f] 73)).drewN q)):
  qo prog Pg J ⟨#[.pointer (some ⟨wb,0,none⟩),.agg #[.int .i64 5,.int .i64 a,.int .i64 nn,.int .i64 mm,.string s,.string t,.slice d c f]]++Array.replicate 58 undef,[]⟩ w:=by
 have k:=(cC w.heap.size w).al (.cells #[.int .i64 5,.int .i64 a,.int .i64 nn,.int .i64 mm,.string s,.string t,.slice d c f] 73 (0,0));have r:=aP w (.cells #[.int .i64 5,.int .i64 a,.int .i64 nn,.int .i64 mm,.string s,.string t,.slice d c f] 73 (0,0)) _ rfl;have c0':=(k.cell (p:=⟨wb,0,none⟩) (eS l)).trans l;have cx':=(k.cell (p:=⟨g,i,none⟩) (eS o)).trans o;have y:(w.alloc (.cells #[.int .i64 5,.int .i64 a,.int .i64 nn,.int .i64 mm,.string s,.string t,.slice d c f] 73 (0,0))).cell? ⟨w.heap.size,1,none⟩=some (.int .i64 a):=aD r rfl;have u:=aL r;have v:((len:Int)==0)=false:=Fg aA;replace j:Hid _:=j;replace b:Hid _:=b;simp only[Pg,sL,f35,ig,ye,yf,yi,yh,jW,mz];unfold qo;go_wp2
 try refine⟨rfl,?_⟩
 unfold qo;go_wp2
 try refine⟨rfl,?_⟩
 unfold qo;generalize w.alloc (.cells #[.int .i64 5,.int .i64 a,.int .i64 nn,.int .i64 mm,.string s,.string t,.slice d c f] 73 (0,0))=W at*;go_wp2
 try refine⟨rfl,?_⟩
 unfold qo;go_quiet(first|(go_at_call 56;exact Calls.quiet_of ((b.out _).mono λe n h=>⟨h.1,0,h.2⟩)));go_wp2
 try refine⟨rfl,?_⟩
 unfold qo;refine j.out _ _ (pX rfl rfl ?_);simp only[PA,qu,iW,uu,uv,oD];exact⟨rfl,rfl,rfl⟩
def U4(w0:aC)(wb n m:Nat)(T:Nat->Nat)(Ms:aB Mo)(E:aB mB)(cW:Nat)(a nn mm:Int)(s t:aZ)(b:aQ a_)(d c:Nat)(l:aB (Nat×aF))(A:Act)(w:aC):Prop:=
 Fx 60 l A/\cH w0 wb T Ms n E m w/\w.heap[cW]?=some (.cells #[.int .i64 5,.int .i64 a,.int .i64 nn,.int .i64 mm,.string s,.string t,.slice b d c] 73 (0,0))
section
variable{wb n m i:Nat}{T:Nat->Nat}{Ms:aB Mo}{E:aB mB}{w0 w:aC}{x:Mo}
theorem U4.re{cW:Nat}{a nn mm:Int}{s t:aZ}{b:aQ a_}{f e:Nat}{l:aB (Nat×aF)}(A:Act)(w:aC)(c:Tape)(d:Nat)(h:U4 w0 wb n m T Ms E cW a nn mm s t b f e l A w):U4 w0 wb n m T Ms E cW a nn mm s t b f e l A (re w c d):=⟨h.1,h.2.1.still (aI.Ud w c d),h.2.2⟩
theorem Ok(h:cH w0 wb T Ms n E m w)(C:∀x∈Ms,x.S=x.R)(S:dW w0)(u:dG w0)(M:14<=w0.heap.size)(Q:m<1000000)(K:n<=200000000000)(a nn mm:Int)(H:-9223372036854775808<=a/\a<=9223372036854775807)(s t:aZ)(L:aB aZ)(lv:aF)(hL:j_ w0.heap.size w0 L lv)(O:L.length<=1100000)(y:∀s∈L,s.size<=2000000)(I:Ms≠[]):
  dI prog 35 #[.pointer (some ⟨wb,0,none⟩),gV 5 a nn mm s t lv] w (iF w0 wb n (m+1)):=by
 obtain⟨f,k,rfl,_⟩:=nI hL;let⟨po,bS,c0,hlen,hpk⟩:=h.pick aA a;obtain⟨g,i,x,rfl,hi,B,N,r⟩:=hpk (List.length_pos_iff.2 I);apply dI.I2 bE iF.re func35 PY;refine gX.pieces bE Pg (U4 w0 wb n m T Ms E w.heap.size a nn mm s t f L.length k (PA wb x.pb w.heap.size)) U4.re (λb d=>?_) λA V p=>?_
 .exact TW wb x.pb g i Ms.length bS a nn mm s t f L.length k (re w b d) _ c0 B hlen N (λW=>by rw[<-r];exact Gz a (Ms.length:Int) W H aA) λo q c=>⟨c,((h.still (aI.Ud w b d)).still (aI.aR ((cC (re w b d).heap.size (re w b d)).al (.cells #[.int .i64 5,.int .i64 a,.int .i64 nn,.int .i64 mm,.string s,.string t,.slice f L.length k] 73 (0,0))))).still (aI.aR (below_drewN _ q)),(below_drewN _ q).aS (aP (re w b d) (.cells #[.int .i64 5,.int .i64 a,.int .i64 nn,.int .i64 mm,.string s,.string t,.slice f L.length k] 73 (0,0)) _ rfl)⟩
 refine gX.seq bE (gX.pieces bE [r35] (U4 w0 wb n m T Ms E w.heap.size a nn mm s t f L.length k ((46,.int .i64 5)::PA wb x.pb w.heap.size)) U4.re (λb d=>X_ wb x.pb w.heap.size A _ _ p.1 (aD p.2.2 rfl) λo c=>⟨c,(p.2.1.still (aI.Ud V b d)),p.2.2⟩) λA F z=>?_);refine gX.block bE (λ_ _ b d h=>gX.re h b d) (gX.pieces bE [y35] (U4 w0 wb n m T Ms E w.heap.size a nn mm s t f L.length k ((47,.bool true)::PA wb x.pb w.heap.size)) U4.re (λb d=>Yl wb x.pb w.heap.size A _ _ z.1 λo c=>⟨c,(z.2.1.still (aI.Ud F b d)),z.2.2⟩) λA P U=>?_);let⟨c,hI,hO⟩:=U;apply gX.cond (t:=true) bE (c.ev (x:=.tmp 47) rfl);refine gX.seq' bE (λo j=>∃l,Fx 60 ((4,.bool true)::l) o/\iF w0 wb n (m+1) (.returned (.bool true)) j) ((gX.zF (J:=λo j=>∃l,Fx 60 ((4,.bool true)::l) o/\iF w0 wb n (m+1) (.returned (.bool true)) j) (n:=3) (m:=YC wb x.pb (gV 5 a nn mm s t (.slice f L.length k))) (q:=4) (d:=55) rfl c rfl (by simp[YC]) Wi (λi hi=>?_) (Nv wb x.pb w.heap.size 5 a nn mm s t f L.length k P hO) ⟨_,rfl,rfl,rfl,rfl⟩ func36 rfl rfl rfl aG (LS hI C hi S u M Q K a nn mm s t L _ hL O y) (λe j h=>⟨_,h.1⟩) ⟨_,rfl,rfl,rfl,rfl⟩ aG ?_).mono ?_) ?_
 .let h:i=0\/i=1\/i=2:=by omega
  obtain rfl|rfl|rfl:=h<;>rfl
 .rintro X v j D R b d;cases D.1;exact⟨_,R,iF.re _ _ b d D⟩
 .rintro e A j ⟨rfl,h⟩;exact h
 .rintro A j ⟨l,c,G⟩;refine gX.ret bE λb d=>?_;show bodyPost prog f35 (iF w0 wb n (m+1)) .ret A (re j b d);exact Aa (v:=.bool true) (by simp[results,results35,c.get 4 _ rfl]) c.defers (iF.re _ _ b d G)
theorem UB(h:cH w0 wb T Ms n E m w)(e:∀x∈Ms,x.S=x.R)(r:dW w0)(b:dG w0)(o:14<=w0.heap.size)(q:m<1000000)(l:n<=200000000000)(k a nn mm:Int)(i:-9223372036854775808<=a/\a<=9223372036854775807)(s t:aZ)(g:s.size<=2000000)(v:t.size<=2000000)(L:aB aZ)(lv:aF)(hL:j_ w0.heap.size w0 L lv)(p:L.length<=1100000)(c:∀j,j<L.length->(L.getD j ByteArray.empty).size<=2000000):
  dI prog 35 #[.pointer (some ⟨wb,0,none⟩),gV k a nn mm s t lv] w (iF w0 wb n (m+1)):=by
 by_cases f:k=5/\Ms≠[]
 .obtain⟨rfl,f⟩:=f;refine Ok h e r b o q l a nn mm i s t L lv hL p (λs g=>?_) f;let⟨j,hj⟩:=L1 g;have:=c j (e_.1 hj).1
  rwa[qp,hj]at this
 .exact dI.El bE iF.re (λw h=>by cases h.1) λu d=>Rc (h.still (aI.Ud w u d)) e r b o q l k a nn mm i s t g v L lv hL p c (Decidable.or_iff_not_imp_left.2 λz=>Decidable.not_not.1 λy=>f ⟨Decidable.not_not.1 z,y⟩)
end
def U(w0:aC)(wb q m:Nat)(w:aC):Prop:=∃T Ms n E,cH w0 wb T Ms n E m w/\(∀x∈Ms,x.S=x.R)/\n<=q
def Gb(w0:aC)(x:rp):Prop:=Xp w0.heap.size w0 x/\x.t.size<=2000000/\-9223372036854775808<=x.a/\x.a<=9223372036854775807
section
variable{w0 w w':aC}{wb q m:Nat}
theorem U.re(h:U w0 wb q m w)(a:Tape)(d:Nat):U w0 wb q m (re w a d):=by
 obtain⟨T,Ms,n,E,c,b⟩:=h;exact⟨T,Ms,n,E,c.still (aI.Ud w a d),b⟩
theorem U.mono{a m':Nat}(h:U w0 wb q m w)(b:q<=a)(c:m<=m'):U w0 wb a m' w:=by
 let⟨T,Ms,n,E,h1,h2,h3⟩:=h;exact⟨T,Ms,n,E,h1.up c,h2,gC h3 b⟩
theorem U.base(h:U w0 wb q m w):aI (λb=>w0.heap.size<=b) w0 w:=by
 let⟨T,Ms,n,E,h1,_⟩:=h;exact h1.base
theorem U.start(h:aI (λb=>w0.heap.size<=b) w0 w):U w0 w.heap.size 0 0 (w.alloc (.cells #[.slice none 0 0,.int .i64 0,.slice none 0 0] 70 (0,0))):=by
 refine⟨λ_=>0,[],0,[],⟨λc=>⟨λe=>⟨.slice none 0 0,⟨.slice none 0 0,aP _ _ _ rfl,fF _ _ _ _,(λe f=>nomatch f),⟨e.symm,h.size⟩,(λb d=>nomatch d)⟩,fF _ _ _ _,(λg j=>nomatch j)⟩,(λi x a=>nomatch a)⟩,(λx a=>nomatch a),(λb d=>absurd rfl d),h.trans (aI.aR (aT.al _)),⟨aX,(λe f=>nomatch f)⟩,aX⟩,(λx a=>nomatch a),aX⟩
theorem U.step(h:U w0 wb q m w)(c:dW w0)(a:dG w0)(i:14<=w0.heap.size)(j:m<1000000)(r:q<=200000000000)(x:rp)(k:Gb w0 x):
  dI prog 35 #[.pointer (some ⟨wb,0,none⟩),gV x.k x.a x.nn x.mm x.s x.t x.lv] w λe w'=>e=.returned (.bool true)/\U w0 wb (q+1) (m+1) w':=by
 let⟨T,Ms,n,E,h1,h2,h3⟩:=h;let⟨⟨hs,hL,hl,hlm⟩,ht,ha⟩:=k;apply(UB h1 h2 c a i j aA x.k x.a x.nn x.mm ha x.s x.t hs ht x.L x.lv hL hl hlm).mono;rintro e w' ⟨f,g,b,l,d,s,p,o⟩;exact⟨f,g,b,l,d,p,o,aA⟩
end
section
variable(px:aQ a_)(len cap wb i:Nat)(last:Int)
variable{A:Act}{w:aC}(J:Act->aC->Prop)
set_option maxRecDepth 100000
set_option maxHeartbeats 4000000
end
def OB(w0:aC)(S:aB rp)(v:aF):Prop:=
 ∃px cap,v=.slice px S.length cap/\∀i x,S[i]?=some x->Gb w0 x/\∃a b,px=some ⟨a,b,none⟩/\a<w0.heap.size/\∀j u,(nO x)[j]?=some u->w0.cell? ⟨a,b+i*7+j,none⟩=some u
section
variable{w0 w:aC}{S:aB rp}{px:aQ a_}{cap wb i:Nat}{last:Int}{A:Act}
end
theorem dI.re{P:Program}{f:FuncId}{a:aY aF}{w:aC}{R:Ending->aC->bQ}(h:dI P f a w R)(e:Tape)(d:Nat):dI P f a (re w e d) R:=λi c b g=>h i c b g
section
variable(px:aQ a_)(len cap:Nat)(last:Int)
variable{A:Act}{w:aC}(J:Act->aC->Prop)
set_option maxRecDepth 100000
set_option maxHeartbeats 4000000
end
end Ev
end Go.Proofs.YtpbbmagjhkakgaaGreatDoor
