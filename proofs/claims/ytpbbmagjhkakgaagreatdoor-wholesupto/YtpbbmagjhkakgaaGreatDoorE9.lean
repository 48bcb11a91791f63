import Derived.Test.YtpbbmagjhkakgaaGreatDoorE5
import Derived.Test.YtpbbmagjhkakgaaGreatDoorE7
namespace Go.Proofs.YtpbbmagjhkakgaaGreatDoor
set_option maxHeartbeats 8000000
set_option maxRecDepth 100000
namespace Ev
open Go.Proofs.Tryz Go.RowKit Go.Deep Go.Maps Lf Go.Conc
def ES(c n:Int):Int:=(if c<0 then-(c+1)else c)%n
theorem Hh(c n:Int)(w:aC)(g:-9223372036854775808<=c/\c<=9223372036854775807)(b:0<n/\n<=4611686018427387905):Calls prog 56 #[Iv c,Iv n] w λe w'=>e=.returned (Iv (ES c n))/\w'=w:=by
 obtain⟨j,i⟩:=g;let a:n≠0:=aA;unfold ES;by_cases h:c<0
 .let d:0<=(-(c+1))%n/\(-(c+1))%n<n:=⟨Int.emod_nonneg _ a,Int.emod_lt_of_pos _ b.1⟩;let f:Int.tmod (-(c+1)) n=(-(c+1))%n:=Int.tmod_eq_emod_of_nonneg aA;simp only[h,fB];go_enter func56,ntmps56;go_wp2_with fail;go_ret;exact⟨rfl,rfl⟩
 .let d:0<=c%n/\c%n<n:=⟨Int.emod_nonneg _ a,Int.emod_lt_of_pos _ b.1⟩;let f:Int.tmod c n=c%n:=Int.tmod_eq_emod_of_nonneg aA;simp only[h,fA];go_enter func56,ntmps56;go_wp2_with fail;go_ret;exact⟨rfl,rfl⟩
section
variable{wb n m i:Nat}{T:Nat->Nat}{Ms:aB Mo}{E:aB mK}{w0 w w':aC}{x:Mo}
theorem pT.step{e:Ending}(h:pT w0 wb n m Ms e w')(a:∀x∈Ms,x.S=x.R):iJ w0 wb n (m+1) e w':=by
 obtain⟨c,i,g,d,b,f⟩:=h;exact⟨c,i,Ms,g,d,b,f.up (qA m),a⟩
theorem Kc.step{e:Ending}{b:Nat}{k:aB (Nat×Nat×Nat)}(h:Kc w0 wb n b k e w')(d:b<=m+1):iJ w0 wb n (m+1) e w':=by
 obtain⟨i,j,a,f,c,g,_⟩:=h;exact⟨i,j,a,_,f,aZ,c.up d,g⟩
theorem GG.step{e:Ending}{len:Nat}(h:GG w0 wb n (m+1) len E e w'):iJ w0 wb n (m+1) e w':=by
 obtain⟨d,f,a,b,c,_⟩:=h;exact⟨d,f,a,_,E,qA n,b,c⟩
theorem cH.pick(h:cH w0 wb T Ms n E m w)(p:m<=1000000)(a:Int):∃d bS,w.cell? (Ad wb 0)=some (.slice d Ms.length bS)/\Ms.length<=1000000/\(0<Ms.length->∃g i x,d=some (Ad g 0)/\Ms[i]?=some x/\i<Ms.length/\w.cell? (Ad g i)=some (Pt x.pb)/\ES a Ms.length=(i:Int)):=by
 obtain⟨f,⟨q,k⟩,e,_⟩:=(h.part 0).1 rfl;obtain⟨d,bS,rfl,_,_,o⟩:=bT e;let s:=h.few;refine⟨d,bS,aD k.cell rfl,aA,λl=>?_⟩;obtain⟨g,j,_,_,b⟩:=o l;let r:0<=ES a Ms.length/\ES a Ms.length<(Ms.length:Int):=⟨Int.emod_nonneg _ aA,Int.emod_lt_of_pos _ aA⟩;obtain⟨i,hi⟩:∃i:Nat,ES a Ms.length=(i:Int):=⟨(ES a Ms.length).toNat,aA⟩;let c:i<Ms.length:=aA;exact⟨g,i,Ms[i],j,fH c,c,b i _ (by simp[LN,c]),hi⟩
theorem zst{T:bQ} (h:T:=by
 refine hR.out.mono ?_;intro e w1 hQ;obtain rfl:e=.returned (.bool true):=hQ.1;replace hQ:=hid hQ;clear hR;go_wp2_with fail;go_ret;exact hQ.out):T:=h
theorem RX(h:cH w0 wb T Ms n E m w)(b:∀x∈Ms,x.S=x.R)(B:dP w0)(c:cZ w0)(Y:14<=w0.heap.size)(hm:m<1000000)(N:n<=200000000000)(k a nn mm:Int)(ha:-9223372036854775808<=a/\a<=9223372036854775807)(s t:a_)(hs:s.size<=2000000)(ht:t.size<=2000000)(L:aB a_)(lv:aE)(hL:kj w0.heap.size w0 L lv)(hl:L.length<=1100000)(R:∀j,j<L.length->(L.getD j ByteArray.empty).size<=2000000)(O:k≠5\/Ms=[]):
  Calls prog 35 #[Pt wb,fV k a nn mm s t lv] w (iJ w0 wb n (m+1)):=by
 obtain⟨z,y,rfl,_⟩:=mC hL;have l:=(cD w.heap.size w).al (.cells #[Iv k,Iv a,Iv nn,Iv mm,.string s,.string t,.slice z L.length y] 73 (0,0));have G:=h.still (aH.aS l);by_cases X:1<=k/\k<=3
 .have q1:decide ((1:Int)<=k)=true:=jS X.1;have q3:decide (k<=3)=true:=jS X.2;have hR:=hid ((N0 G B c Y N k a nn mm aA s t hs L _ hL hl R).mono (R':=iJ w0 wb n (m+1)) λe w' h=>h.step b);clear h G hL B c b l;unfold fV at hR⊢;generalize L.length=A at*;go_enter func35,ntmps35;go_wp2_with fail;exact zst
 by_cases k4:k=4
 .subst k4;have hR:=hid ((Ui G b B c Y aA a nn mm s t (.slice z L.length y)).mono (R':=iJ w0 wb n (m+1)) λe w' h=>h.step);clear h G hL B c b l;unfold fV at hR⊢;generalize L.length=A at*;go_enter func35,ntmps35;go_wp2_with fail;exact zst
 have e4:(k==4)=false:=FM k4;have V:decide ((1:Int)<=k)=false\/(decide ((1:Int)<=k)=true/\decide (k<=3)=false):=by
  by_cases S:(1:Int)<=k
  .exact .inr ⟨jS S,j_ λh=>X ⟨S,h⟩⟩
  .exact .inl (j_ S)
 obtain⟨po,bS,J,a1,u⟩:=h.pick aA a;have M:=eS J;have H:Hid (∀W,Bl w W->iJ w0 wb n (m+1) (.returned (.bool true)) W):=λW K=>⟨rfl,T,Ms,n,E,qA n,(h.still (aH.aS K)).up (qA m),b⟩;have I:Hid (∀(i:Nat)(x:Mo),Ms[i]?=some x->∀W,Bl w W->((k=10\/k=11\/k=13)->Calls prog 36 #[Pt wb,Pt x.pb,fV k a nn mm s t (.slice z L.length y)] W (iJ w0 wb n (m+1)))/\Calls prog 37 #[Pt wb,Pt x.pb,fV k a nn mm s t (.slice z L.length y)] W (iJ w0 wb n (m+1))):=λi x hi W K=>
  ⟨λO=>(Ih (h.still (aH.aS K)) b hi aA N k a nn mm O s t _).mono λe w' h=>h.step b,(zR (h.still (aH.aS K)) b hi B c Y hm N k a nn mm s t _ hs ht).mono λe w' h=>h.step (by split<;>omega)⟩
 have r:Hid (Ms=[]->Ms.length=0):=λh=>by rw[h];rfl
 unfold fV at*;clear h G hL B c b;generalize L.length=A at*;go_enter func35,ntmps35
 go_upto_block 0 with fail
 go_cut []from 6 (λZ=>Hid (w.alloc (.cells #[Iv k,Iv a,Iv nn,Iv mm,.string s,.string t,.slice z A y] 73)=Z))
 case first=>
  clear I H u r;rcases V with q1|⟨q1,q3⟩
  all_goals
   go_wp2_with fail
   go_meet
   exact rfl
 case rest=>
  have hcut:=hcut.out;subst hcut;by_cases h0:Ms.length=0
  .have hQ:Hid (iJ w0 wb n (m+1) (.returned (.bool true)) _):=H.out _ l;rw[h0]at J;clear I H u V r l;go_wp2_with fail;go_ret;exact hQ.out
  .obtain⟨g,i,x,rfl,hi,a8,Q,C⟩:=u aA;have F:Hid (∀W:aC,Calls prog 56 #[Iv a,Iv (Ms.length:Int)] W λe w'=>e=.returned (Iv (i:Int))/\w'=W):=λW=>by rw[<-C];exact Hh a (Ms.length:Int) W ha aA
   have P:=I.out i x hi;have k5:k≠5:=O.resolve_right λe=>h0 (r.out e);clear I H u V r C hi;generalize x.pb=pb at*;generalize ae:Ms.length=len at*;have o:=aQ w (.cells #[Iv k,Iv a,Iv nn,Iv mm,.string s,.string t,.slice z A y] 73 (0,0)) _ rfl;have c0':=(l.cell (p:=(Ad wb 0)) M).trans J;have cx':=(l.cell (p:=(Ad g i)) (eS Q)).trans Q;have ad:=aN o;clear J Q;generalize w.alloc _=W at*;have d0:=aD (i:=0) o rfl;have d1:=aD (i:=1) o rfl;have d2:=aD (i:=2) o rfl;have d3:=aD (i:=3) o rfl;have d4:=aD (i:=4) o rfl;have d5:=aD (i:=5) o rfl;have d6:=aD (i:=6) o rfl;clear o
   go_upto_region 7 with fail
   go_cut [5]from 25 (λv Z=>v=(Pt pb)/\Hid (∃q,Z=W.drewN q))
   case first=>
    clear P;go_quiet(first|(go_at_call 56;exact Calls.quiet_of ((F.out _).mono λe w' h=>⟨h.1,0,h.2⟩)));go_wp2_with fail
    go_meet
    exact⟨rfl,_,rfl⟩
   case rest=>
    obtain⟨rfl,U⟩:=hcut;obtain⟨q,rfl⟩:=U.out;have e5:(k==5)=false:=FM k5;obtain⟨d,f⟩:=P _ (l.tr (below_drewN _ q));replace d:Hid _:=d;replace f:Hid (Calls prog 37 #[Pt wb,Pt pb,.agg #[Iv k,Iv a,Iv nn,Iv mm,.string s,.string t,.slice z A y]] _ (iJ w0 wb n (m+1))):=f;clear F P l c0' cx';by_cases D:k=10\/k=11\/k=13
    .have hw:=d.out D;replace hw:Hid (Calls prog 36 #[Pt wb,Pt pb,.agg #[Iv k,Iv a,Iv nn,Iv mm,.string s,.string t,.slice z A y]] _ (iJ w0 wb n (m+1))):=hw;clear d f;rcases D with rfl|rfl|rfl
     all_goals
      go_wp2_with fail;have hR:=hw;exact zst
    .have a6:(k==10)=false:=FM λe=>D (.inl e);have a7:(k==11)=false:=FM λe=>D (.inr (.inl e));have aa:(k==13)=false:=FM λe=>D (.inr (.inr e));clear d;go_wp2_with fail;have hR:=f;exact zst
end
noncomputable def sZ:Code:=f35.body.getD .skip
noncomputable def PW:aB Code:=match sZ with
 |.seq a (.seq b (.seq c (.seq d _)))=>[a,b,c,d]
 |_=>[]
noncomputable def r35:Code:=match sZ with
 |.seq _ (.seq _ (.seq _ (.seq _ (.seq (.seq x _) _))))=>x
 |_=>.skip
noncomputable def y35:Code:=match sZ with
 |.seq _ (.seq _ (.seq _ (.seq _ (.seq (.seq _ (.block _ (.seq x _))) _))))=>x
 |_=>.skip
noncomputable def PO:aU Oper:=match sZ with
 |.seq _ (.seq _ (.seq _ (.seq _ (.seq (.seq _ (.block _ (.seq _ (.cond _ (.seq (.region _ x _) _) _)))) _))))=>x
 |_=>#[]
noncomputable def z35:Code:=match sZ with
 |.seq _ (.seq _ (.seq _ (.seq _ (.seq _ x))))=>x
 |_=>.skip
theorem QA:f35.body=some (oX PW (.seq (.seq r35 (.block 1 (.seq y35 (.cond (.tmp 47) (.seq (.region 13 PO false) .ret) .skip)))) z35)):=rfl
theorem W5:gN PO 3=true:=aL
theorem Ur{A:Act}{l:aB (Nat×aE)}(h:Fx 60 l A):∃u:Nat->aE,(∀j v,look l j=some v->u j=v)/\A=⟨#[u 0,u 1,u 2,u 3,u 4,u 5,u 6,u 7,u 8,u 9,u 10,u 11,u 12,u 13,u 14,u 15,u 16,u 17,u 18,u 19,u 20,u 21,u 22,u 23,u 24,u 25,u 26,u 27,u 28,u 29,u 30,u 31,u 32,u 33,u 34,u 35,u 36,u 37,u 38,u 39,u 40,u 41,u 42,u 43,u 44,u 45,u 46,u 47,u 48,u 49,u 50,u 51,u 52,u 53,u 54,u 55,u 56,u 57,u 58,u 59],[]⟩:=by
 have⟨Jf,hd,hg⟩:=h;refine⟨λj=>A.tmps.getD j undef,λj v h=>by show A.tmps.getD j undef=v;rw[JY,hg j v h];rfl,?_⟩;have e:=yO A.tmps 60 Jf;have⟨t,d⟩:=A;simp only at*;subst hd;rw[Act.mk.injEq];exact⟨e.trans rfl,rfl⟩
section
variable(wb pb cX:Nat)
def Qd:aB (Nat×aE):=[(0,.pointer (some ⟨wb,0,none⟩)),(3,.pointer (some ⟨cX,0,none⟩)),(5,.pointer (some ⟨pb,0,none⟩))]
set_option maxRecDepth 100000
set_option maxHeartbeats 4000000
theorem Y0(A:Act)(w:aC)(J:Act->aC->bQ)(d:Fx 60 (Qd wb pb cX) A)(d0:w.cell? ⟨cX,0,none⟩=some (.int .i64 5))(b:∀c,Fx 60 ((46,.int .i64 5)::Qd wb pb cX) c->J c w):kW prog [r35] J A w:=by
 replace b:Hid _:=b;obtain⟨u,a,rfl⟩:=Ur d;simp only[a 0 _ rfl,a 3 _ rfl,a 5 _ rfl];unfold kW;simp only[r35,sZ,f35,fD];go_wp2
 try refine⟨rfl,?_⟩
 unfold kW;refine b.out _ (i_ rfl rfl ?_);simp only[Qd,lh,gw,ni,nj,kz];exact⟨rfl,rfl,rfl,rfl⟩
theorem Ze(A:Act)(w:aC)(J:Act->aC->bQ)(d:Fx 60 ((46,.int .i64 5)::Qd wb pb cX) A)(b:∀c,Fx 60 ((47,.bool true)::Qd wb pb cX) c->J c w):kW prog [y35] J A w:=by
 replace b:Hid _:=b;obtain⟨u,a,rfl⟩:=Ur d;simp only[a 0 _ rfl,a 3 _ rfl,a 5 _ rfl,a 46 _ rfl];unfold kW;simp only[y35,sZ,f35,fD];go_wp2
 try refine⟨rfl,?_⟩
 unfold kW;refine b.out _ (i_ rfl rfl ?_);simp only[Qd,lh,gw,ni,nj,kz];exact⟨rfl,rfl,rfl,rfl⟩
def Zz(sv:aE):aB (Nat×aE):=[(52,.pointer (some ⟨wb,0,none⟩)),(53,.pointer (some ⟨pb,0,none⟩)),(54,sv)]
theorem N7(k a nn mm:Int)(s t:a_)(d:aR bC)(c f:Nat)(w:aC)(l:w.heap[cX]?=some (.cells #[.int .i64 k,.int .i64 a,.int .i64 nn,.int .i64 mm,.string s,.string t,.slice d c f] 73 (0,0)))(i:Nat)(o:Oper)(p:Nat×aE)(j:PO[i]?=some o)(m:(Zz wb pb (fV k a nn mm s t (.slice d c f)))[i]?=some p)(A:Act)(g:Fx 60 ((Zz wb pb (fV k a nn mm s t (.slice d c f))).reverse++((47,.bool true)::Qd wb pb cX)) A):
  look ((Zz wb pb (fV k a nn mm s t (.slice d c f))).reverse++((47,.bool true)::Qd wb pb cX)) p.1=some p.2/\∀b e,(execOp A.eval o).run prog (re w b e)=.ok (.value p.2) (re w b e):=by
 have hi:i<3:=(eY.1 m).1;have r:A.tmps[0]?=some (.pointer (some ⟨wb,0,none⟩)):=g.get _ _ rfl;have x:A.tmps[3]?=some (.pointer (some ⟨cX,0,none⟩)):=g.get _ _ rfl;have u:A.tmps[5]?=some (.pointer (some ⟨pb,0,none⟩)):=g.get _ _ rfl;have h:i=0\/i=1\/i=2:=aA;simp only[PO,sZ,f35,fD]at j;obtain rfl|rfl|rfl:=h<;>cases m<;>simp only[List.getElem?_toArray,My,Il,GD]at j<;>subst j<;>refine⟨rfl,λb e=>?_⟩
 all_goals have XC:(re w b e).heap[cX]?=_:=l
 all_goals generalize re w b e=W at*
 all_goals have d0:W.cell? ⟨cX,0,none⟩=some (.int .i64 k):=aD XC rfl
 all_goals have z:W.cell? ⟨cX,1,none⟩=some (.int .i64 a):=aD XC rfl
 all_goals have n:W.cell? ⟨cX,2,none⟩=some (.int .i64 nn):=aD XC rfl
 all_goals have y:W.cell? ⟨cX,3,none⟩=some (.int .i64 mm):=aD XC rfl
 all_goals have q:W.cell? ⟨cX,4,none⟩=some (.string s):=aD XC rfl
 all_goals have B:W.cell? ⟨cX,5,none⟩=some (.string t):=aD XC rfl
 all_goals have v:W.cell? ⟨cX,6,none⟩=some (.slice d c f):=aD XC rfl
 all_goals clear g l XC hi
 all_goals unfold execOp
 all_goals try unfold fV
 all_goals go_simp
end
theorem UD(wb pb g i len bS:Nat)(a nn mm:Int)(s t:a_)(d:aR bC)(c f:Nat)(w:aC)(J:Act->aC->bQ)(l:w.cell? ⟨wb,0,none⟩=some (.slice (some ⟨g,0,none⟩) len bS))(x:i<len)(_:len<=1000000)(o:w.cell? ⟨g,i,none⟩=some (.pointer (some ⟨pb,0,none⟩)))(b:∀W:aC,Calls prog 56 #[.int .i64 a,.int .i64 (len:Int)] W λe n=>e=.returned (.int .i64 (i:Int))/\n=W)
  (j:∀m q,Fx 60 (Qd wb pb w.heap.size) m->J m ((w.alloc (.cells #[.int .i64 5,.int .i64 a,.int .i64 nn,.int .i64 mm,.string s,.string t,.slice d c f] 73)).drewN q)):
  kW prog PW J ⟨#[.pointer (some ⟨wb,0,none⟩),.agg #[.int .i64 5,.int .i64 a,.int .i64 nn,.int .i64 mm,.string s,.string t,.slice d c f]]++Array.replicate 58 undef,[]⟩ w:=by
 have k:=(cD w.heap.size w).al (.cells #[.int .i64 5,.int .i64 a,.int .i64 nn,.int .i64 mm,.string s,.string t,.slice d c f] 73 (0,0));have r:=aQ w (.cells #[.int .i64 5,.int .i64 a,.int .i64 nn,.int .i64 mm,.string s,.string t,.slice d c f] 73 (0,0)) _ rfl;have c0':=(k.cell (p:=⟨wb,0,none⟩) (eS l)).trans l;have cx':=(k.cell (p:=⟨g,i,none⟩) (eS o)).trans o;have y:(w.alloc (.cells #[.int .i64 5,.int .i64 a,.int .i64 nn,.int .i64 mm,.string s,.string t,.slice d c f] 73 (0,0))).cell? ⟨w.heap.size,1,none⟩=some (.int .i64 a):=aD r rfl;have u:=aN r;have v:((len:Int)==0)=false:=FM aA;replace j:Hid _:=j;replace b:Hid _:=b;simp only[PW,sZ,f35,fD,uK,uL,uO,uM,jq,lq];unfold kW;go_wp2
 try refine⟨rfl,?_⟩
 unfold kW;go_wp2
 try refine⟨rfl,?_⟩
 unfold kW;generalize w.alloc (.cells #[.int .i64 5,.int .i64 a,.int .i64 nn,.int .i64 mm,.string s,.string t,.slice d c f] 73 (0,0))=W at*;go_wp2
 try refine⟨rfl,?_⟩
 unfold kW;go_quiet(first|(go_at_call 56;exact Calls.quiet_of ((b.out _).mono λe n h=>⟨h.1,0,h.2⟩)));go_wp2
 try refine⟨rfl,?_⟩
 unfold kW;refine j.out _ _ (i_ rfl rfl ?_);simp only[Qd,lh,gw,ni,nj,kz];exact⟨rfl,rfl,rfl⟩
def VL(w0:aC)(wb n m:Nat)(T:Nat->Nat)(Ms:aB Mo)(E:aB mK)(cX:Nat)(a nn mm:Int)(s t:a_)(b:aR bC)(d c:Nat)(l:aB (Nat×aE))(A:Act)(w:aC):Prop:=
 Fx 60 l A/\cH w0 wb T Ms n E m w/\w.heap[cX]?=some (.cells #[.int .i64 5,.int .i64 a,.int .i64 nn,.int .i64 mm,.string s,.string t,.slice b d c] 73 (0,0))
section
variable{wb n m i:Nat}{T:Nat->Nat}{Ms:aB Mo}{E:aB mK}{w0 w:aC}{x:Mo}
theorem VL.re{cX:Nat}{a nn mm:Int}{s t:a_}{b:aR bC}{f e:Nat}{l:aB (Nat×aE)}(A:Act)(w:aC)(c:Tape)(d:Nat)(h:VL w0 wb n m T Ms E cX a nn mm s t b f e l A w):VL w0 wb n m T Ms E cX a nn mm s t b f e l A (re w c d):=⟨h.1,h.2.1.still (aH.UQ w c d),h.2.2⟩
theorem OZ(h:cH w0 wb T Ms n E m w)(C:∀x∈Ms,x.S=x.R)(S:dP w0)(u:cZ w0)(M:14<=w0.heap.size)(Q:m<1000000)(K:n<=200000000000)(a nn mm:Int)(H:-9223372036854775808<=a/\a<=9223372036854775807)(s t:a_)(L:aB a_)(lv:aE)(hL:kj w0.heap.size w0 L lv)(O:L.length<=1100000)(y:∀s∈L,s.size<=2000000)(I:Ms≠[]):
  cI prog 35 #[.pointer (some ⟨wb,0,none⟩),fV 5 a nn mm s t lv] w (iJ w0 wb n (m+1)):=by
 obtain⟨f,k,rfl,_⟩:=mC hL;let⟨po,bS,c0,hlen,hpk⟩:=h.pick aA a;obtain⟨g,i,x,rfl,hi,B,N,r⟩:=hpk (List.length_pos_iff.2 I);apply cI.wX aK iJ.re func35 QA;refine eX.pieces aK PW (VL w0 wb n m T Ms E w.heap.size a nn mm s t f L.length k (Qd wb x.pb w.heap.size)) VL.re (λb d=>?_) λA V p=>?_
 .exact UD wb x.pb g i Ms.length bS a nn mm s t f L.length k (re w b d) _ c0 B hlen N (λW=>by rw[<-r];exact Hh a (Ms.length:Int) W H aA) λo q c=>⟨c,((h.still (aH.UQ w b d)).still (aH.aS ((cD (re w b d).heap.size (re w b d)).al (.cells #[.int .i64 5,.int .i64 a,.int .i64 nn,.int .i64 mm,.string s,.string t,.slice f L.length k] 73 (0,0))))).still (aH.aS (below_drewN _ q)),(below_drewN _ q).aT (aQ (re w b d) (.cells #[.int .i64 5,.int .i64 a,.int .i64 nn,.int .i64 mm,.string s,.string t,.slice f L.length k] 73 (0,0)) _ rfl)⟩
 refine eX.seq aK (eX.pieces aK [r35] (VL w0 wb n m T Ms E w.heap.size a nn mm s t f L.length k ((46,.int .i64 5)::Qd wb x.pb w.heap.size)) VL.re (λb d=>Y0 wb x.pb w.heap.size A _ _ p.1 (aD p.2.2 rfl) λo c=>⟨c,(p.2.1.still (aH.UQ V b d)),p.2.2⟩) λA F z=>?_);refine eX.block aK (λ_ _ b d h=>eX.re h b d) (eX.pieces aK [y35] (VL w0 wb n m T Ms E w.heap.size a nn mm s t f L.length k ((47,.bool true)::Qd wb x.pb w.heap.size)) VL.re (λb d=>Ze wb x.pb w.heap.size A _ _ z.1 λo c=>⟨c,(z.2.1.still (aH.UQ F b d)),z.2.2⟩) λA P U=>?_);let⟨c,hI,hO⟩:=U;apply eX.cond (t:=true) aK (c.ev (x:=.tmp 47) rfl);refine eX.seq' aK (λo j=>∃l,Fx 60 ((4,.bool true)::l) o/\iJ w0 wb n (m+1) (.returned (.bool true)) j) ((eX.ud (J:=λo j=>∃l,Fx 60 ((4,.bool true)::l) o/\iJ w0 wb n (m+1) (.returned (.bool true)) j) (n:=3) (m:=Zz wb x.pb (fV 5 a nn mm s t (.slice f L.length k))) (q:=4) (d:=55) rfl c rfl (by simp[Zz]) W5 (λi hi=>?_) (N7 wb x.pb w.heap.size 5 a nn mm s t f L.length k P hO) ⟨_,rfl,rfl,rfl,rfl⟩ func36 rfl rfl rfl aG (Mm hI C hi S u M Q K a nn mm s t L _ hL O y) (λe j h=>⟨_,h.1⟩) ⟨_,rfl,rfl,rfl,rfl⟩ aG ?_).mono ?_) ?_
 .let h:i=0\/i=1\/i=2:=by omega
  obtain rfl|rfl|rfl:=h<;>rfl
 .rintro X v j D R b d;cases D.1;exact⟨_,R,iJ.re _ _ b d D⟩
 .rintro e A j ⟨rfl,h⟩;exact h
 .rintro A j ⟨l,c,G⟩;refine eX.ret aK λb d=>?_;show bodyPost prog f35 (iJ w0 wb n (m+1)) .ret A (re j b d);exact wI (v:=.bool true) (by simp[results,results35,c.get 4 _ rfl]) c.defers (iJ.re _ _ b d G)
theorem Vg(h:cH w0 wb T Ms n E m w)(e:∀x∈Ms,x.S=x.R)(r:dP w0)(b:cZ w0)(o:14<=w0.heap.size)(q:m<1000000)(l:n<=200000000000)(k a nn mm:Int)(i:-9223372036854775808<=a/\a<=9223372036854775807)(s t:a_)(g:s.size<=2000000)(v:t.size<=2000000)(L:aB a_)(lv:aE)(hL:kj w0.heap.size w0 L lv)(p:L.length<=1100000)(c:∀j,j<L.length->(L.getD j ByteArray.empty).size<=2000000):
  cI prog 35 #[.pointer (some ⟨wb,0,none⟩),fV k a nn mm s t lv] w (iJ w0 wb n (m+1)):=by
 by_cases f:k=5/\Ms≠[]
 .obtain⟨rfl,f⟩:=f;refine OZ h e r b o q l a nn mm i s t L lv hL p (λs g=>?_) f;let⟨j,hj⟩:=MB g;have:=c j (eY.1 hj).1
  rwa[qB,hj]at this
 .exact cI.EL aK iJ.re (λw h=>by cases h.1) λu d=>RX (h.still (aH.UQ w u d)) e r b o q l k a nn mm i s t g v L lv hL p c (Decidable.or_iff_not_imp_left.2 λz=>Decidable.not_not.1 λy=>f ⟨Decidable.not_not.1 z,y⟩)
end
def U(w0:aC)(wb q m:Nat)(w:aC):Prop:=∃T Ms n E,cH w0 wb T Ms n E m w/\(∀x∈Ms,x.S=x.R)/\n<=q
def DG(w0:aC)(x:n_):Prop:=X8 w0.heap.size w0 x/\x.t.size<=2000000/\-9223372036854775808<=x.a/\x.a<=9223372036854775807
section
variable{w0 w w':aC}{wb q m:Nat}
theorem U.re(h:U w0 wb q m w)(a:Tape)(d:Nat):U w0 wb q m (re w a d):=by
 obtain⟨T,Ms,n,E,c,b⟩:=h;exact⟨T,Ms,n,E,c.still (aH.UQ w a d),b⟩
theorem U.mono{a m':Nat}(h:U w0 wb q m w)(b:q<=a)(c:m<=m'):U w0 wb a m' w:=by
 let⟨T,Ms,n,E,h1,h2,h3⟩:=h;exact⟨T,Ms,n,E,h1.up c,h2,gH h3 b⟩
theorem U.base(h:U w0 wb q m w):aH (λb=>w0.heap.size<=b) w0 w:=by
 let⟨T,Ms,n,E,h1,_⟩:=h;exact h1.base
theorem U.start(h:aH (λb=>w0.heap.size<=b) w0 w):U w0 w.heap.size 0 0 (w.alloc (.cells #[.slice none 0 0,.int .i64 0,.slice none 0 0] 70 (0,0))):=by
 refine⟨λ_=>0,[],0,[],⟨λc=>⟨λe=>⟨.slice none 0 0,⟨.slice none 0 0,aQ _ _ _ rfl,fI _ _ _ _,(λe f=>nomatch f),⟨e.symm,h.size⟩,(λb d=>nomatch d)⟩,fI _ _ _ _,(λg j=>nomatch j)⟩,(λi x a=>nomatch a)⟩,(λx a=>nomatch a),(λb d=>absurd rfl d),h.trans (aH.aS (aV.al _)),⟨aZ,(λe f=>nomatch f)⟩,aZ⟩,(λx a=>nomatch a),aZ⟩
theorem U.step(h:U w0 wb q m w)(c:dP w0)(a:cZ w0)(i:14<=w0.heap.size)(j:m<1000000)(r:q<=200000000000)(x:n_)(k:DG w0 x):
  cI prog 35 #[.pointer (some ⟨wb,0,none⟩),fV x.k x.a x.nn x.mm x.s x.t x.lv] w λe w'=>e=.returned (.bool true)/\U w0 wb (q+1) (m+1) w':=by
 let⟨T,Ms,n,E,h1,h2,h3⟩:=h;let⟨⟨hs,hL,hl,hlm⟩,ht,ha⟩:=k;apply(Vg h1 h2 c a i j aA x.k x.a x.nn x.mm ha x.s x.t hs ht x.L x.lv hL hl hlm).mono;rintro e w' ⟨f,g,b,l,d,s,p,o⟩;exact⟨f,g,b,l,d,p,o,aA⟩
theorem U.still(h:U w0 wb q m w)(d:q<=200000000000):Calls prog 38 #[.pointer (some ⟨wb,0,none⟩)] w λe w'=>e=.returned (.bool true)/\U w0 wb q m w':=by
 let⟨T,Ms,n,E,h1,h2,h3⟩:=h;let⟨lN,⟨kv,hX⟩,_⟩:=(h1.part 0).1 rfl;refine(EC hX (by have:=h1.mR.1;omega) λe c=>by have:=h1.mR.2 e c;omega).mono ?_;rintro e w' ⟨a,b⟩;exact⟨a,T,Ms,n,E,h1.still (aH.aS b),h2,h3⟩
end
noncomputable def kD:Code:=f13.body.getD .skip
noncomputable def k_:Code:=match kD with
 |.seq _ (.seq _ (.seq _ (.seq _ (.seq (.seq _ (.block _ (.loop x))) _))))=>x
 |_=>.skip
noncomputable def h13:Code:=match k_ with
 |.seq x _=>x
 |_=>.skip
noncomputable def Zt:Code:=match k_ with
 |.seq _ (.seq (.block _ (.seq x _)) _)=>x
 |_=>.skip
noncomputable def Lz:aU Oper:=match k_ with
 |.seq _ (.seq (.block _ (.seq _ (.seq (.region _ x _) _))) _)=>x
 |_=>#[]
noncomputable def t13:Code:=match k_ with
 |.seq _ (.seq (.block _ (.seq _ (.seq _ x))) _)=>x
 |_=>.skip
noncomputable def n13:Code:=match k_ with
 |.seq _ (.seq _ x)=>x
 |_=>.skip
theorem Q7:k_=.seq h13 (.seq (.block 1 (.seq Zt (.seq (.region 9 Lz false) t13))) n13):=rfl
theorem W2:gN Lz 5=true:=aL
theorem tZ{A:Act}{l:aB (Nat×aE)}(h:Fx 43 l A):∃u:Nat->aE,(∀j v,look l j=some v->u j=v)/\A=⟨#[u 0,u 1,u 2,u 3,u 4,u 5,u 6,u 7,u 8,u 9,u 10,u 11,u 12,u 13,u 14,u 15,u 16,u 17,u 18,u 19,u 20,u 21,u 22,u 23,u 24,u 25,u 26,u 27,u 28,u 29,u 30,u 31,u 32,u 33,u 34,u 35,u 36,u 37,u 38,u 39,u 40,u 41,u 42],[]⟩:=by
 have⟨Jf,hd,hg⟩:=h;refine⟨λj=>A.tmps.getD j undef,λj v h=>by show A.tmps.getD j undef=v;rw[JY,hg j v h];rfl,?_⟩;have e:=yO A.tmps 43 Jf;have⟨t,d⟩:=A;simp only at*;subst hd;rw[Act.mk.injEq];exact⟨e.trans rfl,rfl⟩
section
variable(px:aR bC)(len cap wb i:Nat)(last:Int)
def Ay:aB (Nat×aE):=[(0,.slice px len cap),(1,.int .i64 last),(6,.pointer (some ⟨wb,0,none⟩)),(7,.int .i64 i)]
variable{A:Act}{w:aC}(J:Act->aC->Prop)
set_option maxRecDepth 100000
set_option maxHeartbeats 4000000
theorem Yu(hi:i<len)(_:len<=1000000)(d:Fx 43 (Ay px len cap wb i last) A)(b:∀c,Fx 43 (Ay px len cap wb i last) c->J c w):kW prog [h13] J A w:=by
 replace b:Hid _:=b;obtain⟨u,a,rfl⟩:=tZ d;simp only[a 0 _ rfl,a 1 _ rfl,a 6 _ rfl,a 7 _ rfl];unfold kW;simp only[h13,k_,kD,f13,fD];go_wp2
 try refine⟨rfl,?_⟩
 unfold kW;refine b.out _ (i_ rfl rfl ?_);simp only[Ay,lh,gw,ni,nj,kz];exact⟨rfl,rfl,rfl,rfl⟩
theorem Yj(_:len<=1000000)(d:Fx 43 (Ay px len cap wb len last) A)(a:∀c,Fx 43 (Ay px len cap wb len last) c->J c w):k_.wp prog (λe f w'=>e=.exit 0/\J f w') A w:=by
 replace a:Hid _:=a;obtain⟨u,b,rfl⟩:=tZ d;simp only[b 0 _ rfl,b 1 _ rfl,b 6 _ rfl,b 7 _ rfl];simp only[k_,kD,f13,fD];go_wp2_with fail
 first|refine a.out _ (i_ rfl rfl ?_)|refine⟨rfl,a.out _ (i_ rfl rfl ?_)⟩
 simp only[Ay,lh,gw,ni,nj,kz];exact⟨rfl,rfl,rfl,rfl⟩
end
section
variable(px:aR bC)(len cap wb i:Nat)(last:Int){A:Act}{w:aC}(J:Act->aC->Prop)
set_option maxRecDepth 100000
set_option maxHeartbeats 4000000
theorem YG(d b:Nat)(k:Int)(g:k<=last)(hi:i<len)(_:len<=1000000)(h:w.cell? ⟨d,b+i*7,none⟩=some (.int .i64 k))(f:Fx 43 (Ay (some ⟨d,b,none⟩) len cap wb i last) A)(c:∀e,Fx 43 (Ay (some ⟨d,b,none⟩) len cap wb i last) e->J e w):kW prog [Zt] J A w:=by
 let j:decide (last<k)=false:=j_ aA;replace c:Hid _:=c;obtain⟨u,a,rfl⟩:=tZ f;simp only[a 0 _ rfl,a 1 _ rfl,a 6 _ rfl,a 7 _ rfl];unfold kW;simp only[Zt,k_,kD,f13,fD];go_wp2
 try refine⟨rfl,?_⟩
 unfold kW;refine c.out _ (i_ rfl rfl ?_);simp only[Ay,lh,gw,ni,nj,kz];exact⟨rfl,rfl,rfl,rfl⟩
theorem Zc(d c:Nat)(k:Int)(g:last<k)(hi:i<len)(_:len<=1000000)(m:w.cell? ⟨d,c+i*7,none⟩=some (.int .i64 k))(h:Fx 43 (Ay (some ⟨d,c,none⟩) len cap wb i last) A)(b:∀f,Fx 43 (Ay (some ⟨d,c,none⟩) len cap wb i last) f->J f w):(Code.seq Zt (.seq (.region 9 Lz false) t13)).wp prog (λe l j=>e=.exit 1/\J l j) A w:=by
 let n:=jS g;replace b:Hid _:=b;obtain⟨u,a,rfl⟩:=tZ h;simp only[a 0 _ rfl,a 1 _ rfl,a 6 _ rfl,a 7 _ rfl];simp only[Zt,k_,kD,f13,fD];go_wp2_with fail
 first|refine b.out _ (i_ rfl rfl ?_)|refine⟨rfl,b.out _ (i_ rfl rfl ?_)⟩
 simp only[Ay,lh,gw,ni,nj,kz];exact⟨rfl,rfl,rfl,rfl⟩
theorem Y8(d:Calls prog 38 #[.pointer (some ⟨wb,0,none⟩)] w λe c=>e=.returned (.bool true)/\∀f,Fx 43 (Ay px len cap wb i last) f->J f c)(g:Fx 43 ((5,.bool true)::Ay px len cap wb i last) A):t13.wp prog (λe h c=>e=.normal/\J h c) A w:=by
 obtain⟨u,a,rfl⟩:=tZ g;simp only[a 0 _ rfl,a 1 _ rfl,a 5 _ rfl,a 6 _ rfl,a 7 _ rfl];simp only[t13,k_,kD,f13,fD];go_wp2_with fail;refine d.m λj b=>?_;replace b:Hid _:=b;go_wp2_with fail
 first|refine b.out _ (i_ rfl rfl ?_)|refine⟨rfl,b.out _ (i_ rfl rfl ?_)⟩
 simp only[Ay,lh,gw,ni,nj,kz];exact⟨rfl,rfl,rfl,rfl⟩
theorem YL(_:i<=1000000)(d:Fx 43 (Ay px len cap wb i last) A)(b:∀c,Fx 43 (Ay px len cap wb (i+1) last) c->J c w):n13.wp prog (λe g f=>e=.normal/\J g f) A w:=by
 replace b:Hid _:=b;obtain⟨u,a,rfl⟩:=tZ d;simp only[a 0 _ rfl,a 1 _ rfl,a 6 _ rfl,a 7 _ rfl];simp only[n13,k_,kD,f13,fD];go_wp2_with fail
 first|refine b.out _ (i_ rfl rfl ?_)|refine⟨rfl,b.out _ (i_ rfl rfl ?_)⟩
 simp only[Ay,lh,gw,ni,nj,kz];exact⟨rfl,rfl,rfl,rfl⟩
def Zy(b a:Nat)(sv:aE):aB (Nat×aE):=[(28,.pointer (some ⟨wb,0,none⟩)),(29,.slice (some ⟨b,a,none⟩) len cap),(30,.int .i64 i),(31,.pointer (some ⟨b,a+i*7,none⟩)),(32,sv)]
theorem N6(a b:Nat)(x:n_)(hi:i<len)(l:∀j u,(jo x)[j]?=some u->w.cell? ⟨a,b+i*7+j,none⟩=some u)(q:aR bC)(n s:Nat)(f:x.lv=.slice q n s)(j:Nat)(o:Oper)(p:Nat×aE)(g:Lz[j]?=some o)(k:(Zy len cap wb i a b (fV x.k x.a x.nn x.mm x.s x.t x.lv))[j]?=some p)(A:Act)(c:Fx 43 ((Zy len cap wb i a b (fV x.k x.a x.nn x.mm x.s x.t x.lv)).reverse++Ay (some ⟨a,b,none⟩) len cap wb i last) A):
  look ((Zy len cap wb i a b (fV x.k x.a x.nn x.mm x.s x.t x.lv)).reverse++Ay (some ⟨a,b,none⟩) len cap wb i last) p.1=some p.2/\∀d e,(execOp A.eval o).run prog (re w d e)=.ok (.value p.2) (re w d e):=by
 have m:j<5:=(eY.1 k).1;have D:A.tmps[0]?=some (.slice (some ⟨a,b,none⟩) len cap):=c.get _ _ rfl;have C:A.tmps[6]?=some (.pointer (some ⟨wb,0,none⟩)):=c.get _ _ rfl;have E:A.tmps[7]?=some (.int .i64 i):=c.get _ _ rfl;have t:A.tmps[29]?=some (.slice (some ⟨a,b,none⟩) len cap):=c.get _ _ rfl;have y:A.tmps[30]?=some (.int .i64 i):=c.get _ _ rfl;have r:A.tmps[31]?=some (.pointer (some ⟨a,b+i*7,none⟩)):=c.get _ _ rfl;have h:j=0\/j=1\/j=2\/j=3\/j=4:=aA;simp only[Lz,k_,kD,f13,fD]at g;rcases h with rfl|rfl|rfl|rfl|rfl<;>cases k<;>simp only[List.getElem?_toArray,My,Il,GD]at g<;>subst g<;>refine⟨rfl,λd e=>?_⟩
 all_goals have Dp:∀j u,(jo x)[j]?=some u->(re w d e).cell? ⟨a,b+i*7+j,none⟩=some u:=l
 all_goals generalize re w d e=W at*
 all_goals have d0:W.cell? ⟨a,b+i*7,none⟩=some (.int .i64 x.k):=Dp 0 _ rfl
 all_goals have G:=Dp 1 _ rfl
 all_goals have z:=Dp 2 _ rfl
 all_goals have F:=Dp 3 _ rfl
 all_goals have B:=Dp 4 _ rfl
 all_goals have H:=Dp 5 _ rfl
 all_goals have v:=Dp 6 _ rfl
 all_goals rw[f]at v
 all_goals clear c l Dp m
 all_goals unfold execOp
 all_goals try(unfold fV;rw[f])
 all_goals go_simp
end
def yL(w0:aC)(S:aB n_)(v:aE):Prop:=
 ∃px cap,v=.slice px S.length cap/\∀i x,S[i]?=some x->DG w0 x/\∃a b,px=some ⟨a,b,none⟩/\a<w0.heap.size/\∀j u,(jo x)[j]?=some u->w0.cell? ⟨a,b+i*7+j,none⟩=some u
def FR(w0:aC)(px:aR bC)(len cap wb:Nat)(last:Int)(i:Nat)(A:Act)(w:aC):Prop:=Fx 43 (Ay px len cap wb i last) A/\U w0 wb i i w
theorem FR.re{w0:aC}{px:aR bC}{len cap wb:Nat}{last:Int}{i:Nat}(A:Act)(w:aC)(a:Tape)(d:Nat)(h:FR w0 px len cap wb last i A w):FR w0 px len cap wb last i A (re w a d):=⟨h.1,h.2.re a d⟩
section
variable{w0 w:aC}{S:aB n_}{px:aR bC}{cap wb i:Nat}{last:Int}{A:Act}
theorem WT(B:∀i x,S[i]?=some x->DG w0 x/\∃f g,px=some ⟨f,g,none⟩/\f<w0.heap.size/\∀j u,(jo x)[j]?=some u->w0.cell? ⟨f,g+i*7+j,none⟩=some u)(I:S.length<=900000)(M:dP w0)(y:cZ w0)(L:14<=w0.heap.size)(hi:i<S.length)(h:FR w0 px S.length cap wb last i A w):
  eX prog k_ (λe o b=>e=.normal/\FR w0 px S.length cap wb last (i+1) o b) A w:=by
 obtain⟨t,f,g,rfl,s,p⟩:=B i _ (fH hi);generalize S[i]=x at*;have⟨pL,cL,hlv,_⟩:=mC t.1.L;rw[Q7];refine eX.pieces aK [h13] (FR w0 (some ⟨f,g,none⟩) S.length cap wb last i) FR.re (λc d=>Yu _ _ _ _ _ _ _ hi aA h.1 λl k=>⟨k,h.2.re c d⟩) λA P r=>?_;have E:∀{W:aC},U w0 wb i i W->∀j u,(jo x)[j]?=some u->W.cell? ⟨f,g+i*7+j,none⟩=some u:=λz j u F=>(fP (a:=⟨f,g+i*7+j,none⟩) (z.base.block f s (sI.2 s))).trans (p j u F);have H:∀A b,FR w0 (some ⟨f,g,none⟩) S.length cap wb last i A b\/(Fx 43 (Ay (some ⟨f,g,none⟩) S.length cap wb i last) A/\U w0 wb (i+1) (i+1) b)->eX prog n13 (λe o b=>e=.normal/\FR w0 (some ⟨f,g,none⟩) S.length cap wb last (i+1) o b) A b:=λA b h=>by
  have k:=h.elim (·.1) (·.1);exact eX.of_wp aK (λe a w c d x=>⟨x.1,FR.re _ _ c d x.2⟩) (λa w x=>by cases x.1) λc d=>YL _ _ _ _ _ _ _ aA k λl k=>⟨k,(h.elim (λh=>h.2.mono (qA _) (qA _)) (·.2)).re c d⟩
 refine eX.seq aK (eX.block aK (λ_ _ c d h=>eX.re h c d) ?_);by_cases K:x.k<=last
 .refine eX.pieces aK [Zt] (FR w0 (some ⟨f,g,none⟩) S.length cap wb last i) FR.re (λc d=>YG _ _ _ _ _ _ f g x.k K hi aA (E (r.2.re c d) 0 _ rfl) r.1 λl k=>⟨k,r.2.re c d⟩) λA N C=>?_;refine eX.seq' aK (λl b=>Fx 43 ((5,.bool true)::Ay (some ⟨f,g,none⟩) S.length cap wb i last) l/\U w0 wb (i+1) (i+1) b) ((eX.ud (J:=λl b=>Fx 43 ((5,.bool true)::Ay (some ⟨f,g,none⟩) S.length cap wb i last) l/\U w0 wb (i+1) (i+1) b) (n:=5) (m:=Zy S.length cap wb i f g (fV x.k x.a x.nn x.mm x.s x.t x.lv)) (q:=5) (d:=33) rfl C.1 rfl (by simp[Zy]) W2 (λj F=>?_) (N6 S.length cap wb i last f g x hi (E C.2) pL x.L.length cL hlv) ⟨_,rfl,rfl,rfl,rfl⟩ func35 rfl rfl rfl aG (C.2.step M y L aA aA x t) (λe b h=>⟨_,h.1⟩) ⟨_,rfl,rfl,rfl,rfl⟩ aG ?_).mono ?_) ?_
  .have h:j=0\/j=1\/j=2\/j=3\/j=4:=by omega
   obtain rfl|rfl|rfl|rfl|rfl:=h<;>rfl
  .rintro o v b G t c d;cases G.1;refine⟨t.less ?_,G.2.re c d⟩;simp only[Ay,lh,gw,ni,nj,kz];exact⟨rfl,rfl,rfl,rfl,rfl⟩
  .rintro e A b ⟨rfl,h⟩;exact h
  .rintro A O ⟨k,z⟩;apply(eX.of_wp aK (Q:=λe o b=>e=.normal/\Fx 43 (Ay (some ⟨f,g,none⟩) S.length cap wb i last) o/\U w0 wb (i+1) (i+1) b) (λe a w c d x=>⟨x.1,x.2.1,x.2.2.re c d⟩) (λa w x=>by cases x.1) λc d=>Y8 _ _ _ _ _ _ _ (((z.re c d).still aA).mono λe b h=>⟨h.1,λl D=>⟨D,h.2⟩⟩) k).mono;rintro e A b ⟨rfl,h⟩;exact H A b (.inr h)
 .refine(eX.of_wp aK (Q:=λe o b=>e=.exit 1/\FR w0 (some ⟨f,g,none⟩) S.length cap wb last i o b) (λe a w c d x=>⟨x.1,FR.re _ _ c d x.2⟩) (λa w x=>by cases x.1) λc d=>Zc _ _ _ _ _ _ f g x.k aA hi aA (E (r.2.re c d) 0 _ rfl) r.1 λl k=>⟨k,r.2.re c d⟩).mono ?_;rintro e A b ⟨rfl,h⟩;exact H A b (.inl h)
end
noncomputable def a13:Code:=match kD with
 |.seq x _=>x
 |_=>.skip
noncomputable def N9:aU Oper:=match kD with
 |.seq _ (.seq (.region _ x _) _)=>x
 |_=>#[]
noncomputable def b13:aB Code:=match kD with
 |.seq _ (.seq _ (.seq x (.seq y _)))=>[x,y]
 |_=>[]
noncomputable def r13:Code:=match kD with
 |.seq _ (.seq _ (.seq _ (.seq _ (.seq (.seq x _) _))))=>x
 |_=>.skip
noncomputable def z13:Code:=match kD with
 |.seq _ (.seq _ (.seq _ (.seq _ (.seq _ x))))=>x
 |_=>.skip
theorem Qy:f13.body=some (oX [a13] (.seq (.region 1 N9 false) (oX b13 (.seq (.seq r13 (.block 0 (.loop k_))) z13)))):=rfl
theorem U':gN N9 1=true:=aL
def X_(a:aC)(e:Ending)(c:aC):Prop:=e=.returned (.int .i64 (-1))/\aH (λb=>a.heap.size<=b) a c
theorem X_.re{b:aC}(e:Ending)(w':aC)(a:Tape)(d:Nat)(h:X_ b e w'):X_ b e (re w' a d):=⟨h.1,h.2.g_ a d⟩
theorem cI.re{P:Program}{f:FuncId}{a:aU aE}{w:aC}{R:Ending->aC->bQ}(h:cI P f a w R)(e:Tape)(d:Nat):cI P f a (re w e d) R:=λi c b g=>h i c b g
section
variable(px:aR bC)(len cap:Nat)(last:Int)
def SD:aB (Nat×aE):=[(0,.slice px len cap),(1,.int .i64 last)]
variable{A:Act}{w:aC}(J:Act->aC->Prop)
set_option maxRecDepth 100000
set_option maxHeartbeats 4000000
theorem Yc(a:∀b,Fx 43 (SD px len cap last) b->J b w):kW prog [a13] J ⟨#[.slice px len cap,.int .i64 last]++Array.replicate 41 undef,[]⟩ w:=by
 replace a:Hid _:=a;simp only[a13,kD,f13,fD,uK,uL,uO,uM,jq,lq];unfold kW;go_wp2
 try refine⟨rfl,?_⟩
 unfold kW;refine a.out _ (i_ rfl rfl ?_);simp only[SD,lh,gw,ni,nj,kz];exact⟨rfl,rfl⟩
theorem Yf(d:Fx 43 ((5,.bool true)::SD px len cap last) A)(a:∀c,Fx 43 ((6,.pointer (some ⟨w.heap.size,0,none⟩))::SD px len cap last) c->J c (w.alloc (.cells #[.slice none 0 0,.int .i64 0,.slice none 0 0] 70 (0,0)))):kW prog b13 J A w:=by
 replace a:Hid _:=a;obtain⟨u,b,rfl⟩:=tZ d;simp only[b 0 _ rfl,b 1 _ rfl,b 5 _ rfl];simp only[b13,kD,f13,fD];unfold kW;go_wp2
 try refine⟨rfl,?_⟩
 unfold kW;go_wp2
 try refine⟨rfl,?_⟩
 unfold kW;refine a.out _ (i_ rfl rfl ?_);simp only[SD,lh,gw,ni,nj,kz];exact⟨rfl,rfl,rfl⟩
theorem YZ(c:Nat)(e:Fx 43 ((6,.pointer (some ⟨c,0,none⟩))::SD px len cap last) A)(b:∀d,Fx 43 (Ay px len cap c 0 last) d->J d w):kW prog [r13] J A w:=by
 replace b:Hid _:=b;obtain⟨u,a,rfl⟩:=tZ e;simp only[a 0 _ rfl,a 1 _ rfl,a 6 _ rfl];simp only[r13,kD,f13,fD];unfold kW;go_wp2
 try refine⟨rfl,?_⟩
 unfold kW;refine b.out _ (i_ rfl rfl ?_);simp only[Ay,lh,gw,ni,nj,kz];exact⟨rfl,rfl,rfl,rfl⟩
theorem Zi{l:aB (Nat×aE)}{a:aC}(c:Fx 43 l A)(h:aH (λb=>a.heap.size<=b) a w):z13.wp prog (bodyPost prog f13 (X_ a)) A w:=by
 obtain⟨u,_,rfl⟩:=tZ c;simp only[z13,kD,f13,fD];go_wp2;go_ret;exact⟨rfl,h⟩
end
theorem Mg{w:aC}(S:aB n_)(v:aE)(last:Int)(W:yL w S v)(r:S.length<=900000)(N:dP w)(s:cZ w)(K:14<=w.heap.size)(M:cI prog 34 #[.int .i64 last] w (rH w)):
  cI prog 13 #[v,.int .i64 last] w (X_ w):=by
 obtain⟨px,cap,rfl,y⟩:=W;apply cI.wX aK X_.re func13 Qy;refine eX.pieces aK [a13] (λA f=>Fx 43 (SD px S.length cap last) A/\∃c d,f=re w c d) (λA f c d h=>⟨h.1,c,d,by obtain⟨_,_,rfl⟩:=h.2;rfl⟩) (λc d=>Yc px S.length cap last _ λu g=>⟨g,c,d,rfl⟩) ?_;rintro A w1 ⟨g,c,d,rfl⟩;obtain⟨o0,I,d0,O,g0⟩:ra N9 0 9 (.move (.tmp 1)):=⟨_,rfl,rfl,rfl,rfl⟩;refine eX.seq' aK (λA f=>Fx 43 ((5,.bool true)::SD px S.length cap last) A/\aH (λb=>w.heap.size<=b) w f) ((eX.ud (J:=λA f=>Fx 43 ((5,.bool true)::SD px S.length cap last) A/\aH (λb=>w.heap.size<=b) w f) (n:=1) (m:=[(9,.int .i64 last)]) (q:=5) (d:=10) rfl g rfl aF U' (λi hi=>?_) (λi o p V H A z=>?_) ⟨_,rfl,rfl,rfl,rfl⟩ func34 rfl rfl rfl aG (cI.re M c d) (λe f h=>⟨_,h.1⟩) ⟨_,rfl,rfl,rfl,rfl⟩ aG ?_).mono ?_) ?_
 .obtain rfl:i=0:=by omega
  rfl
 .obtain rfl:i=0:=by have:=(eY.1 H).1;simp at this;omega
  cases H;cases I.symm.trans V;refine⟨rfl,λc e=>?_⟩;unfold execOp;simp only[O,z.ev (x:=.tmp 1) (v:=.int .i64 last) rfl];rfl
 .rintro G v f D z c d;cases D.1;refine⟨z.less ?_,D.2.g_ c d⟩;simp only[SD,lh,gw,ni,nj,kz];exact⟨rfl,rfl,rfl⟩
 .rintro e A f ⟨rfl,h⟩;exact h
 rintro A Y ⟨g,B⟩;apply eX.pieces aK b13 (λA f=>∃j,Fx 43 ((6,.pointer (some ⟨j,0,none⟩))::SD px S.length cap last) A/\U w j 0 0 f) (λA f c d ⟨j,T,R⟩=>⟨j,T,R.re c d⟩) λc d=>Yf px S.length cap last _ g λu g=>⟨_,g,U.start (B.g_ c d)⟩;rintro A Z ⟨j,g,L⟩;refine eX.seq' aK (λA f=>∃l,Fx 43 l A/\aH (λb=>w.heap.size<=b) w f) (eX.pieces aK [r13] (FR w px S.length cap j last 0) FR.re (λc d=>YZ px S.length cap last _ j g λu g=>⟨g,L.re c d⟩) λA w4 X=>?_) ?_
 .refine(eX.GJ aK (λn A f=>∃i:Nat,n=S.length-i/\i<=S.length/\FR w px S.length cap j last i A f) (FR w px S.length cap j last S.length) FR.re S.length ⟨0,rfl,cC,X⟩ ?_).mono ?_
  .rintro n A F ⟨i,rfl,hi,C⟩;by_cases k:i<S.length
   .refine(WT y r N s K k C).mono ?_;rintro e A P ⟨rfl,t⟩;exact .inl ⟨rfl,S.length-(i+1),aA,i+1,rfl,k,t⟩
   .obtain rfl:i=S.length:=by omega
    apply(eX.of_wp aK (Q:=λe G f=>e=.exit 0/\FR w px S.length cap j last S.length G f) (λe a w c d x=>⟨x.1,FR.re _ _ c d x.2⟩) (λa w x=>by cases x.1) λc d=>Yj px S.length cap j last _ aA C.1 λu g=>⟨g,C.2.re c d⟩).mono;rintro e A P ⟨rfl,t⟩;exact .inr ⟨rfl,t⟩
  .rintro e A F ⟨rfl,E⟩;exact⟨_,E.1,E.2.base⟩
 .rintro A F ⟨l,g,B⟩;exact eX.of_wp aK (qI X_.re) (λa w h=>by cases h.1) λc d=>Zi g (B.g_ c d)
end Ev
end Go.Proofs.YtpbbmagjhkakgaaGreatDoor
