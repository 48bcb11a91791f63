import Derived.Test.YtpbbmagjhkakgaaGreatDoorC9
namespace Go.Proofs.YtpbbmagjhkakgaaGreatDoor
set_option maxHeartbeats 4000000
set_option maxRecDepth 100000
namespace Ev
open Tryz Go.RowKit Go.Deep Lf
theorem Si(A:aB aZ)(s i)(h:i<A.length):(A.drop i).any (λx=>decide (x=s))=if A.getD i ByteArray.empty=s then true else(A.drop (i+1)).any (λx=>decide (x=s)):=by
 rw[oV h,List.any_cons];simp only[List.getD,h,fG,ig];split<;>simp_all
theorem Uj(t ao ac A s w)(h:eQ w ao A)(I:A.length<=10)(u:A.length<=ac):
  Calls prog 202 #[.agg #[.int .i64 t,.slice ao A.length ac],.string s] w λe D=>e=.returned (.bool (A.any λx=>decide (x=s)))/\Below w.heap.size w D:=by
 have C:Hid ((A.drop 0).any (λx=>decide (x=s))=A.any λx=>decide (x=s)):=rfl;generalize A.any (λx=>decide (x=s))=res at*;have q:Hid (∀i,i<A.length->∃b off,ao=some ⟨b,off,none⟩/\b<w.heap.size/\w.cell? ⟨b,off+i,none⟩=some (.string (A.getD i ByteArray.empty))):=λi hi=>by
  obtain⟨b,off,y,r,z⟩:=h (by intro e;rw[e]at hi;simp at hi);exact⟨b,off,y,r,z i hi⟩
 generalize a:A.length=n at*;have WW:Hid (A.length=n):=a;have c:Below w.heap.size w (w.alloc (.cells #[.int .i64 t,.slice ao n ac] 193)):=aT.al _;have g:(w.alloc (.cells #[.int .i64 t,.slice ao n ac] 193)).heap[w.heap.size]?=some (.cells #[.int .i64 t,.slice ao n ac] 193 (0,0)):=aP _ _ _ rfl;clear h a;go_enter func202,ntmps202;go_wp2_with fail;generalize F:w.alloc (.cells #[.int .i64 t,.slice ao n ac] 193)=W at*;generalize o:w.heap.size=B at*;go_loopw [5] (λl wr=>∃i:Nat,l=.int .i64 i/\i<=n/\Hid (wr=W)/\Hid ((A.drop i).any (λx=>decide (x=s))=res)) (λl _=>n-(intOf l).toNat)
 case atStart=>exact⟨0,rfl,cD,rfl,C⟩
 case round=>
  obtain⟨i,rfl,v,f,d⟩:=hrel;obtain rfl:=f.out;clear f;have G:wr.cell? ⟨B,1,none⟩=some (.slice ao n ac):=aD g rfl;by_cases hi:i<n
  .obtain⟨b,off,rfl,E,m⟩:=q.out i hi;have MY:wr.cell? ⟨b,off+i,none⟩=some (.string (A.getD i ByteArray.empty)):=by rw[c.cell (p:=⟨b,off+i,none⟩) E];exact m
   rw[Si A s i (by rw[WW.out];exact hi)]at d;clear m q;generalize A.getD i ByteArray.empty=p at*;by_cases k:p=s
   .subst k;rw[bY rfl]at d;go_wp2;go_ret;exact⟨by rw[<-d.out];rfl,by rw[o];exact c⟩
   .rw[if_neg k]at d;have H:=Mz k;go_wp2
    try go_big_round
    exact⟨⟨i+1,dU,hi,trivial,d⟩,zm⟩
  .obtain rfl:i=n:=by omega
   have j:Hid (res=false):=by
    show _=_;rw[<-d.out,t_ (WW.out▸aX)];rfl
   go_wp2;go_ret;exact⟨by rw[j.out];rfl,by rw[o];exact c⟩
def wZ(x:BT c_)(bH:aB nz)(n:Nat):aB aF:=(List.range n).map λi=>.bool (iP x bH i)
theorem UF{w:aC}{x:BT c_}{bH:aB nz}{v:aF}(h:w.ownsRow 0 4 1 v bH.length (wZ x bH bH.length))(a:0<bH.length):∃g cap,v=Sl g bH.length cap/\bH.length<=cap/\∀j,j<bH.length->w.cell? (Ad g j)=some (.bool (iP x bH j)):=by
 obtain⟨o,cap,rfl,d,_,c⟩:=bT h;obtain⟨g,rfl,_,_,b⟩:=c a;exact⟨g,cap,rfl,d,λj e=>b j _ (by simp[wZ,e])⟩
structure mD(S:fX)(yb X:Nat)(k:Int)(nm:aZ)(lo hi:Int)(g cap:Nat)(w:aC):Prop where
 c2:w.cell? ⟨yb,2,none⟩=some (.slice (some ⟨g,0,none⟩) S.bH.length cap)
 cp:S.bH.length<=cap
 tm:∀j e,S.bH[j]?=some e->w.cell? ⟨g,j*2,none⟩=some (.int .i64 e.1)/\0<=e.1/\e.1<=1000000000000
 x0:w.cell? ⟨X,0,none⟩=some (.int .u8 k)
 x1:w.cell? ⟨X,1,none⟩=some (.string nm)
 x2:w.cell? ⟨X,2,none⟩=some (.int .i64 lo)
 x3:w.cell? ⟨X,3,none⟩=some (.int .i64 hi)
theorem eR{w b}(c:Bl w b){a v}(h:w.cell? a=some v):b.cell? a=some v:=(c.cell (eS h)).trans h
theorem mD.below{S yb X k nm lo hi g cap w c}(h:mD S yb X k nm lo hi g cap w)(a:Bl w c):mD S yb X k nm lo hi g cap c:=⟨eR a h.c2,h.cp,λj e b=>⟨eR a (h.tm j e b).1,(h.tm j e b).2⟩,eR a h.x0,eR a h.x1,eR a h.x2,eR a h.x3⟩
section
variable{S:fX}{yb X:Nat}{nm:aZ}{lo hi:Int}{g cap:Nat}{w:aC}{i:Nat}{e:nz}{pg pc qg qc:Nat}{l r:BT c_}
theorem QW(a:S.bH[i]?=some e)(h:mD S yb X 33 nm lo hi g cap w)(b)(f:w.cell? (Ad pg i)=some (.bool b))(d):
  Calls prog 183 #[Pt yb,Pt X,Iv i,Sl pg S.bH.length pc,d] w λe c=>e=.returned (.bool (!b))/\Bl w c:=by
 let hi:=(e_.1 a).1;let⟨t0,t1,t2⟩:=h.tm i e a;let⟨c2,cp,_,x0,x1,x2,x3⟩:=h;go_enter func183,ntmps183;go_wp2;go_ret;exact⟨rfl,aT⟩
theorem EB(v:S.bH[i]?=some e)(B:S.bH.length<=1000000000)(k:Bool)(h:mD S yb X (if k then 79 else 72) nm lo hi g cap w)(t:∀j,j<S.bH.length->w.cell? (Ad pg j)=some (.bool (iP l S.bH j)))(J):
  Calls prog 183 #[Pt yb,Pt X,Iv i,Sl pg S.bH.length pc,J] w λr G=>r=.returned (.bool (n5 e.1 lo hi k (dQ l) (S.bH.take (i+1)).reverse))/\Bl w G:=by
 have s:=(e_.1 v).1;obtain⟨res,f⟩:∃x,x=n5 e.1 lo hi k (dQ l) (S.bH.take (i+1)).reverse:=⟨_,rfl⟩;rw[<-f];have E:Hid (res=n5 e.1 lo hi k (dQ l) (S.bH.take (i+1)).reverse):=f;obtain⟨n,m⟩:∃n,S.bH.length=n:=⟨_,rfl⟩;have D:Hid (∀wr,Bl w wr->mD S yb X (if k then 79 else 72) nm lo hi g cap wr/\∀j,j<n->wr.cell? (Ad pg j)=some (.bool (iP l S.bH j))):=λwr c=>⟨h.below c,λj H=>eR c (t j aA)⟩;have A:Hid (S.bH.length=n):=m;have⟨t0,t1,t2⟩:=h.tm i e v;have⟨c2,cp,_,x0,x1,x2,x3⟩:=h;rw[m]at B s c2 cp⊢;cases k
 all_goals
  simp only[gD,fx,fA]at x0;go_enter func183,ntmps183;go_wp2_with fail;go_loopw [13] (λu wr=>∃(j:Nat)(o:Int),u=Iv o/\o+1=j/\j<=i+1/\Bl w wr/\Hid (res=n5 e.1 lo hi _ (dQ l) (S.bH.take j).reverse)) (λu _=>(intOf u+1).toNat)
  case atStart=>exact⟨i+1,i,rfl,rfl,aX,aT,E⟩
  case round=>
   obtain⟨j,o,rfl,I,H,c,a⟩:=hrel;have⟨⟨c2,_,tm,x0,x1,x2,x3⟩,t⟩:=D.out wr c;rw[A.out]at c2;simp only[gD,fx,fA]at x0;cases j with
   |zero=>
    obtain rfl:o=-1:=aA;go_wp2;go_ret;exact⟨by rw[a.out];rfl,c⟩
   |succ j=>
    obtain rfl:o=(j:Int):=aA;obtain⟨d,y⟩:∃d,S.bH[j]?=some d:=⟨_,fG (by rw[A.out];omega)⟩;have⟨d0,d1,d2⟩:=tm j d y;have C:=t j aA;rw[Tx y]at a;generalize iP l S.bH j=b at*;go_wp2_with fail;generalize e.1-d.1=z at*;by_cases q:lo<=z
    .have F:=kh q;by_cases p:z<=hi
     .have K:=kh p;simp only[q,p,vW]at a;cases b
      all_goals
       simp only[reduceCtorEq,fA,fx]at a;go_quiet(fail);go_wp2_with fail
       first
       |go_ret
        exact⟨by rw[a.out];rfl,c.tr (below_drewN _ _)⟩
       |go_roundw
        case rel=>exact⟨j,(j:Int)-1,dU,aA,aA,c.tr (below_drewN _ _),a⟩
        case measure=>exact zm
     .have K:=kg p;simp only[p,false_and,and_false,fx]at a;go_quiet(fail);go_wp2
      try go_big_round
      exact⟨⟨j,(j:Int)-1,dU,aA,aA,c.tr (below_drewN _ _),a⟩,zm⟩
    .have F:=kg q;simp only[q,false_and,fx]at a;go_quiet(fail);go_wp2
     try go_big_round
     exact⟨⟨j,(j:Int)-1,dU,aA,aA,c.tr (below_drewN _ _),a⟩,zm⟩
theorem GV(a:S.bH[i]?=some e)(k:Bool)(h:mD S yb X (if k then 38 else 124) nm lo hi g cap w)(b c)(f:w.cell? (Ad pg i)=some (.bool b))(j:w.cell? (Ad qg i)=some (.bool c)):
  Calls prog 183 #[Pt yb,Pt X,Iv i,Sl pg S.bH.length pc,Sl qg S.bH.length qc] w λe d=>e=.returned (.bool (if k then b&&c else b||c))/\Bl w d:=by
 let hi:=(e_.1 a).1;let⟨t0,t1,t2⟩:=h.tm i e a;let⟨c2,cp,_,x0,x1,x2,x3⟩:=h;cases k<;>cases b
 all_goals
  simp only[gD,fx,fA]at x0;go_enter func183,ntmps183;go_wp2;go_ret;exact⟨rfl,aT⟩
theorem N1(a:S.bH[i]?=some e)(h:mD S yb X 116 nm lo hi g cap w)(b d):
  Calls prog 183 #[Pt yb,Pt X,Iv i,b,d] w λe c=>e=.returned (.bool true)/\Bl w c:=by
 let hi:=(e_.1 a).1;let⟨t0,t1,t2⟩:=h.tm i e a;let⟨c2,cp,_,x0,x1,x2,x3⟩:=h;go_enter func183,ntmps183;go_wp2;go_ret;exact⟨rfl,aT⟩
theorem F1(a:S.bH[0]?=some e)(h:mD S yb X 89 nm lo hi g cap w)(b d):
  Calls prog 183 #[Pt yb,Pt X,Iv (0:Nat),b,d] w λe c=>e=.returned (.bool false)/\Bl w c:=by
 let hi:=(e_.1 a).1;let⟨t0,t1,t2⟩:=h.tm 0 e a;let⟨c2,cp,_,x0,x1,x2,x3⟩:=h;go_enter func183,ntmps183;go_wp2;go_ret;exact⟨rfl,aT⟩
theorem Je(a:S.bH[i+1]?=some e){d}(f:S.bH[i]?=some d)(n:S.bH.length<=1000000000)(h:mD S yb X 89 nm lo hi g cap w)(b)(m:w.cell? (Ad pg i)=some (.bool b))(l):
  Calls prog 183 #[Pt yb,Pt X,Iv (i+1:Nat),Sl pg S.bH.length pc,l] w λr k=>r=.returned (.bool (decide (lo<=e.1-d.1)&&decide (e.1-d.1<=hi)&&b))/\Bl w k:=by
 let Y5:=(e_.1 a).1;let⟨t0,t1,t2⟩:=h.tm (i+1) e a;let⟨d0,d1,d2⟩:=h.tm i d f;let⟨c2,cp,_,x0,x1,x2,x3⟩:=h;by_cases j:lo<=e.1-d.1<;>by_cases c:e.1-d.1<=hi
 all_goals
  go_enter func183,ntmps183;go_wp2;go_ret;exact⟨by simp[j,c]<;>(intros;exfalso;omega),aT⟩
theorem Ls(y:S.bH[i]?=some e)(D:S.bH.length<=1000000000)(h:mD S yb X 83 nm lo hi g cap w)(m:∀j,j<S.bH.length->w.cell? (Ad pg j)=some (.bool (iP l S.bH j)))(z:∀j,j<S.bH.length->w.cell? (Ad qg j)=some (.bool (iP r S.bH j))):
  Calls prog 183 #[Pt yb,Pt X,Iv i,Sl pg S.bH.length pc,Sl qg S.bH.length qc] w λv I=>v=.returned (.bool (oA e.1 lo hi (dQ l) (dQ r) (S.bH.take (i+1)).reverse))/\Bl w I:=by
 have q:=(e_.1 y).1;obtain⟨res,a⟩:∃x,x=oA e.1 lo hi (dQ l) (dQ r) (S.bH.take (i+1)).reverse:=⟨_,rfl⟩;rw[<-a];have A:Hid _:=a;obtain⟨n,f⟩:∃n,S.bH.length=n:=⟨_,rfl⟩;have s:Hid (∀wr,Bl w wr->mD S yb X 83 nm lo hi g cap wr/\∀j,j<n->wr.cell? (Ad pg j)=some (.bool (iP l S.bH j))/\wr.cell? (Ad qg j)=some (.bool (iP r S.bH j))):=λwr k=>⟨h.below k,λj H=>⟨eR k (m j aA),eR k (z j aA)⟩⟩;have B:Hid (S.bH.length=n):=f;obtain⟨t0,N,K⟩:=h.tm i e y;obtain⟨c2,cp,_,x0,x1,x2,x3⟩:=h;rw[f]at D q c2 cp⊢;clear m z a f;go_enter func183,ntmps183;go_wp2_with fail;clear c2 x0 x1 x2 x3 t0;go_loopw [15] (λu wr=>∃(j:Nat)(p:Int),u=Iv p/\p+1=j/\j<=i+1/\Bl w wr/\Hid (res=oA e.1 lo hi (dQ l) (dQ r) (S.bH.take j).reverse)) (λu _=>(intOf u+1).toNat)
 case atStart=>exact⟨i+1,i,rfl,rfl,aX,aT,A⟩
 case round=>
  clear A;obtain⟨j,p,rfl,J,H,k,o⟩:=hrel;obtain⟨⟨c2,_,tm,x0,x1,x2,x3⟩,m⟩:=s.out wr k;rw[B.out]at c2;cases j with
  |zero=>
   obtain rfl:p=-1:=aA;clear s tm m;go_wp2_with fail;go_ret;exact⟨by rw[o.out];rfl,k⟩
  |succ j=>
   obtain rfl:p=(j:Int):=aA;obtain⟨d,t⟩:∃d,S.bH[j]?=some d:=⟨_,fG (by rw[B.out];omega)⟩;obtain⟨d0,M,L⟩:=tm j d t;obtain⟨E,G⟩:=m j aA;rw[Q' t]at o;clear m tm s;generalize iP l S.bH j=b at*;generalize iP r S.bH j=c at*;clear t;by_cases F:lo<=e.1-d.1<;>by_cases C:e.1-d.1<=hi<;>cases c<;>cases b<;>simp only[F,C,vW,false_and,fA,fx,reduceCtorEq]at o
   all_goals
    go_wp2_with fail
    first
    |go_ret
     exact⟨by rw[o.out];rfl,k⟩
    |go_roundw
     case rel=>exact⟨j,(j:Int)-1,dU,aA,aA,k,o⟩
     case measure=>exact zm
theorem N0(f:S.bH[i]?=some e)(h:mD S yb X 97 nm lo hi g cap w){ao ac}(p:w.cell? (Ad g (i*2+1))=some (.slice ao e.2.length ac))(l:eQ w ao e.2)(d:e.2.length<=10)(a:e.2.length<=ac)(m k):
  Calls prog 183 #[Pt yb,Pt X,Iv i,m,k] w λr c=>r=.returned (.bool (e.2.any λx=>decide (x=nm)))/\Bl w c:=by
 have Y5:=(e_.1 f).1;have⟨t0,t1,t2⟩:=h.tm i e f;have⟨c2,cp,_,x0,x1,x2,x3⟩:=h;have j:Hid (∀W,Bl w W->Calls prog 202 #[.agg #[Iv e.1,.slice ao e.2.length ac],.string nm] W λr c=>r=.returned (.bool (e.2.any λx=>decide (x=nm)))/\Bl W c):=λW n=>Uj e.1 ao ac e.2 nm W (l.below n) d a;generalize(e.2.any λx=>decide (x=nm))=res at*;generalize e.2.length=al at*;go_enter func183,ntmps183;go_wp2
 go_region_with (first|(go_at_call 202;refine(j.out _ ?_).mono ?_;(first|exact aT|exact aT.drew);rintro r o ⟨rfl,b⟩))
 all_goals go_wp2_with fail
 all_goals go_ret
 all_goals exact⟨rfl,aT.drew.tr b⟩
end
end Ev
end Go.Proofs.YtpbbmagjhkakgaaGreatDoor
