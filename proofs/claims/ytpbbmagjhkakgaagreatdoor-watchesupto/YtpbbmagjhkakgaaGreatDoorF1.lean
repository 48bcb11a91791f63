import Derived.Test.YtpbbmagjhkakgaaGreatDoorE9
import Derived.Deep.Strs
import Derived.Deep.DeepWitnessRowRef
namespace Go.Proofs.YtpbbmagjhkakgaaGreatDoor
set_option maxRecDepth 100000
open Go.Proofs.Tryz Go.ChangeShapes Go.WideShapes Go.ChangeAt Go.RowKit Go.Deep Go.Conc Ev Lf
theorem S9{H}(d:DataW H):1<=Rows.uptoBulk d:=by
 cases d with
 |lit l=>cases l<;>simp[Rows.uptoBulk]
 |_=>simp[Rows.uptoBulk]
theorem yS{H l}{i:Nat}{d:DataW H}(h:l[i]?=some d):Rows.uptoBulk d<=Rows.uptoBulkAll l:=by
 induction l generalizing i with
 |nil=>simp at h
 |cons x r a=>
  simp only[Rows.uptoBulkAll];cases i with
  |zero=>simp at h;subst h;omega
  |succ i=>have:=a (by simpa using h);omega
theorem Kr{H}(l:aB (DataW H)):l.length<=Rows.uptoBulkAll l:=by
 induction l with
 |nil=>simp[Rows.uptoBulkAll]
 |cons x r a=>have:=S9 x;simp only[Rows.uptoBulkAll,ic];omega
theorem Ks{H}(s:a_):Rows.uptoBulk (DataW.lit (H:=H) (.string s.data.toList))=s.size+1:=by
 simp only[Rows.uptoBulk,yB];rfl
theorem xQ{H}(a b:aB (DataW H)):Rows.uptoBulk (.slice a b)=Rows.uptoBulkAll a+Rows.uptoBulkAll b+1:=by simp only[Rows.uptoBulk]
theorem XR{i:Type}{l:aB i}(h:l.length=7):∃a b c d e f g,l=[a,b,c,d,e,f,g]:=by
 match l,h with
 |[a,b,c,d,e,f,g],_=>exact⟨a,b,c,d,e,f,g,rfl⟩
theorem Xr:prog.cellsOf 73=7:=aL
theorem ZH:prog.cellsOf 31=1:=aL
theorem ZG:prog.cellsOf 3=1:=aL
theorem Xs:prog.cellsOf 9=1:=aL
theorem Ew:laidOutB prog=true:=aL
theorem Y1:22<prog.types.size:=by rw[X0];decide
theorem US:prog.readableRec 22=true:=aL
section
variable{H:Type}{enc:TypeId×aE->H}{w:aC}
theorem Q5{n lv x}(h:DataW.trod enc prog w 0 (λ_=>true) true n 31 [lv]=some x):
  ∃L,kj w.heap.size w L lv/\L.length<=Rows.uptoBulk x.1/\∀j,j<L.length->(L.getD j ByteArray.empty).size<=Rows.uptoBulk x.1:=by
 obtain⟨r,rfl⟩|⟨a,len,cap,m,g,r,_,v,_,t,rfl,s⟩:=open_strs underlying31 underlying9 Xs h
 .obtain rfl:lv=.slice none 0 0:=by simpa using r
  exact⟨[],.inl ⟨⟨none,0,rfl,λ_=>rfl⟩,rfl⟩,cC,λj e=>absurd e (Ao _)⟩
 .obtain rfl:lv=.slice (some a) len cap:=by simpa using r
  have p:m=cap:=by simpa using t
  subst p;have c:((List.range len).map g).length=len:=aF;have f:∀j,j<len->((List.range len).map g).getD j ByteArray.empty=g j:=λj e=>by simp[List.getD,e]
  refine⟨(List.range len).map g,?_,?_,?_⟩
  .by_cases u:len=0
   .subst u;exact .inl ⟨⟨some a,m,rfl,λh=>by cases h⟩,rfl⟩
   .have k:=(s 0 (by omega)).1;have⟨b,o,sp⟩:=a;have q:=World.cell?_spot k;subst q;refine .inr ⟨b,o,m,by rw[c],?_,λj e=>?_⟩
    .have:=eS k;simpa[Addr.add]using this
    .rw[c]at e;rw[f j e];exact(congrArg w.cell? (by simp[Addr.add])).trans (s j (by omega)).1
  .rw[c,xQ];have:=Kr ((List.range len).map λi=>(DataW.lit (.string (g i).data.toList):DataW H));simp at this;omega
  .intro j e;rw[c]at e;rw[f j e,xQ];have:=yS (l:=(List.range len).map λi=>(DataW.lit (.string (g i).data.toList):DataW H)) (i:=j) (d:=.lit (.string (g j).data.toList)) (by simp[e]);rw[Ks]at this;omega
theorem JJ{P base spare a t m i e f d g k j b x}(z:P.underlying t=some (.struct #[m,i,e,f,d,g,k]))(h:DataW.trod enc P w base spare a j t b=some x):
  ∃r s v o u q p n,x.1=.agg [r.1,s.1,v.1,o.1,u.1,q.1,p.1]/\b.length=P.cellsOf t/\
   DataW.trod enc P w base spare a n m.type ((b.drop m.offset).take (P.cellsOf m.type))=some r/\
   DataW.trod enc P w base spare a n i.type ((b.drop i.offset).take (P.cellsOf i.type))=some s/\
   DataW.trod enc P w base spare a n e.type ((b.drop e.offset).take (P.cellsOf e.type))=some v/\
   DataW.trod enc P w base spare a n f.type ((b.drop f.offset).take (P.cellsOf f.type))=some o/\
   DataW.trod enc P w base spare a n d.type ((b.drop d.offset).take (P.cellsOf d.type))=some u/\
   DataW.trod enc P w base spare a n g.type ((b.drop g.offset).take (P.cellsOf g.type))=some q/\
   DataW.trod enc P w base spare a n k.type ((b.drop k.offset).take (P.cellsOf k.type))=some p:=by
 obtain⟨xs,n,_,rfl,y,l,c⟩:=DataW.trod_struct z h;obtain⟨r,s,v,o,u,q,p,rfl⟩:=XR l;exact⟨r,s,v,o,u,q,p,n,rfl,y,c 0 m rfl,c 1 i rfl,c 2 e rfl,c 3 f rfl,c 4 d rfl,c 5 g rfl,c 6 k rfl⟩
end
instance:Inhabited n_:=⟨⟨0,0,0,0,.empty,.empty,[],.nilFunc⟩⟩
theorem DS{H:Type}:∀{l:aB (DataW H)},(∀d∈l,8<=Rows.uptoBulk d)->8*l.length<=Rows.uptoBulkAll l
 |[],_=>aF
 |d::l,h=>by
  let c:=h d (Di ..)
  let b:=DS λx a=>h x (sM _ a)
  simp only[Rows.uptoBulkAll,ic]
  omega
section
variable{H:Type}{enc:TypeId×aE->H}{w:aC}
theorem OX{a:Nat}{g:aB aE}{x:DataW H×aB MemPlace}(h:DataW.trod enc prog w 0 (λ_=>true) true a 73 g=some x)(b:Rows.uptoBulk x.1<=1048576):
  ∃s:n_,g=jo s/\DG w s/\8<=Rows.uptoBulk x.1:=by
 let⟨y0,y1,y2,y3,y4,y5,y6,n,hx,hl,f0,f1,f2,f3,f4,f5,f6⟩:=JJ underlying73 h;rw[Xr]at hl;obtain⟨z,o,v,m,u,p,e,rfl⟩:=XR hl;let r:8<=Rows.uptoBulk x.1:=by
  rw[hx];have:=Kr [y0.1,y1.1,y2.1,y3.1,y4.1,y5.1,y6.1];simp only[Rows.uptoBulk];simp only[ic,jr]at this;omega
 refine(?_:∃s:n_,[z,o,v,m,u,p,e]=jo s/\DG w s).imp λs f=>⟨f.1,f.2,r⟩;rw[hx]at b;dsimp only at f0 f1 f2 f3 f4 f5 f6;rw[ZG]at f0 f1 f2 f3;rw[Xs]at f4 f5;rw[ZH]at f6;dsimp only[List.drop,List.take]at f0 f1 f2 f3 f4 f5 f6;let⟨n0,e0,_⟩:=DataW.trod_int underlying3 f0;let⟨n1,e1,_,w1⟩:=DataW.trod_int underlying3 f1;let⟨n2,e2,_⟩:=DataW.trod_int underlying3 f2;let⟨n3,e3,_⟩:=DataW.trod_int underlying3 f3;obtain⟨s,c,rfl,_⟩:=DataW.trod_string underlying9 f4;obtain⟨t,d,rfl,_⟩:=DataW.trod_string underlying9 f5;let⟨L,hL,hL1,hL2⟩:=Q5 f6;let y:=yS (l:=[y0.1,y1.1,y2.1,y3.1,DataW.lit (.string s.data.toList),DataW.lit (.string t.data.toList),y6.1]) (i:=4) rfl;let q:=yS (l:=[y0.1,y1.1,y2.1,y3.1,DataW.lit (.string s.data.toList),DataW.lit (.string t.data.toList),y6.1]) (i:=5) rfl;let A:=yS (l:=[y0.1,y1.1,y2.1,y3.1,DataW.lit (.string s.data.toList),DataW.lit (.string t.data.toList),y6.1]) (i:=6) rfl;rw[Ks]at y q;simp only[Rows.uptoBulk]at b;simp only[FD,kz]at e0 e1 e2 e3 c d;subst e0 e1 e2 e3 c d;exact⟨⟨n0,n1,n2,n3,s,t,L,e⟩,rfl,⟨by show s.size<=2000000;omega,hL,by show L.length<=1100000;omega,λj (k:j<L.length)=>by have:=hL2 j k;show(L.getD j ByteArray.empty).size<=2000000;omega⟩,by show t.size<=2000000;omega,QV w1⟩
theorem uh{r:Reach}{J:Nat}{v:aE}{d:DataW H}{p:aB MemPlace}(I:Value.okWide prog w r J 22 v)(h:DataW.Trod enc prog w 0 (λ_=>true) true 22 v d p)(G:Rows.uptoBulk d<=1048576):
  ∃S,yL w S v/\S.length<=131072:=by
 obtain⟨q,l,c,rfl⟩:=okWide_slice underlying22 I;have⟨fuel,hf⟩:=h;obtain⟨B,_⟩|⟨a,len,cap,m,n,D,P,B,_,Q,_,K,O,N⟩:=open_slice underlying22 hf
 .have e:Value.slice q l c=.slice none 0 0:=by simpa[Value.cells]using B
  rw[e];exact⟨[],⟨none,0,rfl,λi x hi=>by simp at hi⟩,cC⟩
 .have e:Value.slice q l c=.slice (some a) len cap:=by simpa[Value.cells]using B
  rw[e];have y:m=cap:=by simpa using K
  subst y;have z:d=.slice ((List.range len).map D) ((List.range (m-len)).map λj=>D (len+j)):=oB Prod.fst O;rw[z,xQ]at G;have each:∀i,i<len->∃s:n_,(DG w s/\8<=Rows.uptoBulk (D i))/\∀j u,(jo s)[j]?=some u->w.cell? ((a.add (i*7)).add j)=some u:=λi hi=>by
   have⟨cs,h2,h3⟩:=N i (by omega);rw[Xr]at h2;have M:=yS (l:=(List.range len).map D) (i:=i) (d:=D i) (by simp[hi]);obtain⟨s,rfl,L,A⟩:=OX h3 (by show Rows.uptoBulk (D i)<=1048576;omega);refine⟨s,⟨L,A⟩,λj u t=>?_⟩;have⟨_,h5,h6⟩:=World.cells?_some h2;have E:j<7:=by have:=(eY.1 t).1;rwa[h5]at this
   rw[h6 j E];exact t
  have F:8*len<=Rows.uptoBulkAll ((List.range len).map D):=by
   have:=DS (l:=(List.range len).map D) λd z=>by
    obtain⟨i,hi,rfl⟩:=iZ.1 z;have⟨_,h,_⟩:=each i (Aq.1 hi);exact h.2
   simpa using this
  have⟨f,hS⟩:=choose_lt each;refine⟨(List.range len).map f,⟨some a,m,by simp,λi x hi=>?_⟩,by simp;omega⟩;have k:i<len:=by have:=(List.getElem?_eq_some_iff.1 hi).1;simpa using this
  obtain rfl:f i=x:=by simpa[k]using hi
  have⟨h7,A⟩:=hS i k;have⟨b,o,sp⟩:=a;have g:w.cell? ⟨b,o,sp⟩=some (.int .i64 (f 0).k):=(oB w.cell? (by simp[Addr.add])).trans ((hS 0 aA).2 0 _ rfl);have C:=World.cell?_spot g;subst C;refine⟨h7.1,b,o,rfl,eS g,λj u t=>?_⟩;have:=A j u t
  rwa[add_plain,add_plain]at this
theorem qj{a:Assume}{C:Checked}{os:Os}{f:FuncId}{l:Func}{s:OpenSpec}{F:Stop.Interp}{e:aB PathCond}{apart fresh handsOn again:Bool}{d:aB (String×DataW Unit)}(own:ownKnob C.prog.godebug=none)(h:os.Started)(u:C.prog.funcs[f]?=some l)
  (g:∃(w:aC)(tape:Tape)(i:Input),w.os=os/\(w.forCall tape i).Shaped C.prog/\i.vars=[]/\Input.okWide C.prog (w.forCall tape i) .any w.heap.size f i/\s.preRow enc C.prog l e apart d (w.forCall tape i).memory i.args/\a.holds C.prog (lone (Frame.enter C.prog f i.args .normal) [] (w.forCall tape i)))
  (m:∀(W:aC)(base:Nat)(c:aU aE)(p r:aB (DataW H))(b:aB MemPlace),(∀(j:Nat) t v,l.params[j]?=some t->c[j]?=some v->Value.okWide C.prog W .any base t v)->DataW.Whole enc C.prog l.params.toList s.vars apart W c.toList p r b->(∀k,s.cond=some k->k H (p++r)=true)->laidMetH C.prog d W->
   ∃M last o w' q,runNT C.prog (M+1) (solo (G (Frame.enter C.prog f c .normal) []) W) #[]=(.ended o w',q)/\runN C.prog M (solo (G (Frame.enter C.prog f c .normal) []) W)=.next last/\step C.prog last=.ended o w'/\Conc.Good C.prog (λv z=>(s.at F).post enc C.prog l apart fresh handsOn again W c v z) last o w' q):
  ReturnsInLeavingWide a C os f .any (s.preRow enc C.prog l e apart d) ((s.at F).post enc C.prog l apart fresh handsOn again):=by
 apply returnsInLeavingWide_of_good own h g;intro w tape i _ _ _ x n _;let⟨_,_,_,fn',aaV,_,_,_,_,hval⟩:=x;obtain rfl:fn'=l:=nD (aaV.symm.trans u);let⟨⟨y,hl⟩,_⟩:=n;let⟨p,r,b,hw,_,hk⟩:=OpenSpec.pre_parts y;let⟨M,last,o,w',q,h1,h2,h3,h4⟩:=m (w.forCall tape i) w.heap.size i.args p r b hval (DataW.Whole.of_heap (w':=w.forCall tape i) (by rfl) hw) hk (hl.of_heap (by rfl));exact⟨M,last,o,w',q,h1,h2,h3,h4.mono λv y=>ChangeSpec.post_blind y⟩
end
theorem En{p:Pinned}{s:OpenSpec}{c:OpenClaim}(f:FuncId)(d:Func)(u:c.program=p.name/\c.sum=p.sum/\c.spec=s.name)(b:c.start=.entering)(a:c.outside=[])(t:c.inits=[]/\c.under=none/\c.initsInPlace=[]/\c.initsUnfollowed=false/\c.initsRecurse=false/\c.initsNamed=[]/\c.initsPassed=[])(m:c.noBlocks=false)(r:c.leaving=true)(i:c.followed=none)(o:c.narrowed=s.cond.isSome)(g:c.still=false)
  (q:p.checked.prog.funcNamed c.func=some f) (y:p.checked.prog.funcs[f]?=some d) (closed:joinedFacts p.checked.prog f d s.bare c=true) (j:d.isInstance p.checked.prog c.origin c.targs) (l:d.isWrapper p.checked.prog c.wrapper c.mainSum)
  (h:∀os:Os,os.Started->∀(H:Type)(enc:TypeId×aE->H)(F:Stop.Interp),ReturnsInLeavingWide c.assume p.checked os f .any (c.pre enc p.checked.prog d s) ((s.at F).post enc p.checked.prog d c.apart c.fresh c.handsOn c.again)):c.holds p s:=by
 simp only[joinedFacts,sP,wG,Array.all_eq_true_iff_forall_mem,yE,pz]at closed;let⟨⟨⟨⟨⟨⟨⟨⟨⟨⟨⟨⟨⟨⟨⟨⟨⟨⟨⟨⟨⟨⟨⟨⟨⟨⟨⟨⟨⟨⟨⟨a1,a2⟩,a3⟩,a4⟩,a5⟩,a6⟩,a7⟩,a8⟩,a9⟩,b0⟩,b1⟩,b2⟩,b3⟩,b4⟩,b5⟩,b6⟩,b7⟩,b8⟩,b9⟩,c0⟩,c1⟩,c2⟩,c3⟩,c4⟩,c5⟩,c6⟩,c7⟩,c8⟩,c9⟩,d0⟩,d1⟩,d2⟩:=closed;refine⟨a1,u.1,u.2.1,u.2.2,a2,a3,by unfold OpenClaim.startFits;rw[b];exact c6,by unfold OpenClaim.startTold;rw[b];exact⟨t.1,t.2.1,t.2.2⟩,f,d,q,y,⟨a4,c0⟩,(λe=>by rw[m]at e;cases e),by unfold OpenClaim.namedList;rw[i];exact a5,j,l,a6.trans a7.symm,⟨a8.trans a9.symm,by unfold Program.envWorded;rw[a9];rfl,c5⟩,b0,b1,b2,b3,b4,⟨b5,d1,d2⟩,⟨b6,c1⟩,⟨b7,c2,c9,d0⟩,⟨c3,c7,c8,b8⟩,?_,λn e=>varReadable_some (b9 n e),⟨_,by unfold OpenClaim.world;rw[a,b];exact WideRow.started_initial,λk e=>by rw[a9]at e;cases e⟩,[],by unfold OpenClaim.lists;rw[i],λos st _ H enc _=>?_⟩
 .rw[a,o];cases e:c.shortTexts with
  |none=>simp
  |some _=>rw[e]at c4;cases c4
 rw[OpenClaim.post_not_still g];unfold OpenClaim.form;rw[b,a6];intro F;let v:c.okInput=Input.okWide:=by unfold OpenClaim.okInput;rw[m]
 let x:c.atReturn p.checked.prog=leavingAtReturn p.checked.prog:=by unfold OpenClaim.atReturn;rw[r]
 let z:c.always p.checked.prog []=nothingAlways:=by unfold OpenClaim.always;rw[i]
 let w:s.post enc p.checked.prog d F c.outside c.apart c.fresh c.handsOn c.again=(s.at F).post enc p.checked.prog d c.apart c.fresh c.handsOn c.again:=by rw[a];rfl
 rw[v,x,z];show ReturnsInOpen _ _ _ _ _ _ _ _ (s.post enc p.checked.prog d F c.outside c.apart c.fresh c.handsOn c.again) _ _;rw[w];exact h os (by unfold OpenClaim.world at st;rw[a,b]at st;exact st) H enc F c6
end Go.Proofs.YtpbbmagjhkakgaaGreatDoor
