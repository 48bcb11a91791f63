import Derived.Test.YtpbbmagjhkakgaaGreatDoorB1
namespace Go.Proofs.YtpbbmagjhkakgaaGreatDoor
set_option maxHeartbeats 1000000
section
open Go.Deep (BT)
theorem Q9{c}(h:nu c):c.toNat<128/\aK (c.toNat:Nat)=48:=by
 unfold nu at h;refine⟨aA,?_⟩;unfold aK;rw[bN aA,bN aA,bN aA,bN aA,bN aA,bY aA]
theorem Q_{c}(h:isLet c):c.toNat<128/\aK (c.toNat:Nat)=97:=by
 unfold isLet at h;refine⟨aA,?_⟩;unfold aK;rw[bN aA,bN aA,bN aA,bN aA,bY aA]
theorem KI(v)(h:0<=v):Lib.itoa v≠[]/\∀c,c∈Lib.itoa v->nu c:=by
 rw[C8 v h];exact⟨ME _,OI _⟩
theorem Kd{s pos last v rest}(a:0<=v)(h:s.data.toList.drop pos=Lib.itoa v++rest)(d:last≠48):Cu s pos last (Lib.itoa v) (Lib.itoa v).length 48 [(48,Lib.itoa v)]:=
 DJ aG (KI v a).1 h (λc b=>Q9 ((KI v a).2 c b)) d
theorem Ke{s pos a}(last){rest}(c:mQ a.op)(u:0<=a.lo)(q:0<=a.hi)(h:s.data.toList.drop pos=uz a++rest):
  ∃n b,n<=(uz a).length/\b≠97/\Cu s pos last (uz a) n b ((a.op,dO a.op)::Rk a):=by
 let g:1<=(dO a.op).length:=by rcases c with e|e|e|e|e|e|e<;>rw[e]<;>decide
 cases hw:lY a.op with
 |false=>
  let f:uz a=dO a.op:=by unfold uz;rw[hw];rfl
  let d:Rk a=[]:=by unfold Rk;rw[hw];rfl
  rw[f]at h⊢;rw[d];exact⟨1,a.op,g,by rcases c with e|e|e|e|e|e|e<;>rw[e]<;>decide,OO last c h⟩
 |true=>
  let f:uz a=dO a.op++([91]++(Lib.itoa a.lo++([44]++(Lib.itoa a.hi++[93])))):=by unfold uz;rw[hw];simp
  let d:Rk a=[(91,[91]),(48,Lib.itoa a.lo),(44,[44]),(48,Lib.itoa a.hi),(93,[93])]:=by unfold Rk;rw[hw];rfl
  rw[f]at h⊢;rw[d];simp only[nc]at h;let v:=OO last c h;let k:=at_next h;let r:=rC 91 a.op aE (show s.data.toList.drop _=91::_ from k);let i:=at_next (m:=[91]) k;let x:=Kd (last:=((91:aV).toNat:Int)) u i aG;let l:=at_next i;let t:=rC 44 48 aE (show s.data.toList.drop _=44::_ from l);let j:=at_next (m:=[44]) l;let p:=Kd (last:=((44:aV).toNat:Int)) q j aG;let o:=at_next j;let w:=rC 93 48 aE (show s.data.toList.drop _=93::_ from o);refine⟨_,_,?_,?_,v.trans (r.trans (x.trans (t.trans (p.trans w))))⟩
  .simp;omega
  .decide
theorem P7{s}:∀x,Good x->∀pos (last) (rest),s.data.toList.drop pos=bF x++rest->last≠97->∃n g,n<=(bF x).length/\Cu s pos last (bF x) n g (tk x):=by
 intro x
 induction x with
 |nil=>intro h;exact h.elim
 |node b o a l r w A=>
  intro B pos last rest h q;obtain⟨d,_⟩|⟨d,⟨z,F,G,C⟩,_⟩|⟨d,_,D,_,k,E⟩|⟨d,_,D,_,k,_⟩:=B
  .let i:bF (.node b o a l r)=[116,114,117,101]:=by simp only[bF];rw[bY d]
   let f:tk (.node b o a l r)=[(97,[116,114,117,101])]:=by simp only[tk];rw[bY d]
   rw[i]at h⊢;rw[f];refine⟨_,97,aX,DJ aG aE h ?_ q⟩;intro c j;simp at j;obtain rfl|rfl|rfl|rfl:=j<;>decide
  .let i:bF (.node b o a l r)=a.name.data.toList:=by simp only[bF];rw[bN aA,bY d]
   let f:tk (.node b o a l r)=[(97,a.name.data.toList)]:=by simp only[tk];rw[bN aA,bY d]
   rw[i]at h⊢;rw[f];refine⟨_,97,aX,DJ aG ?_ h (λc j=>Q_ (C c j)) q⟩;intro e;have:a.name.data.toList.length=a.name.size:=by rw[yl];rfl
   rw[e]at this;simp at this;omega
  .let i:bF (.node b o a l r)=[40]++(bF l++([32]++(uz a++([32]++(bF r++[41]))))):=by simp only[bF];rw[bN aA,bN aA,bY d];simp
   let f:tk (.node b o a l r)=[(40,[40])]++(tk l++([]++(((a.op,dO a.op)::Rk a)++([]++(tk r++[(41,[41])]))))):=by simp only[tk];rw[bN aA,bN aA,bY d];simp
   rw[i]at h⊢;rw[f];simp only[nc]at h;let v:=at_next (m:=[40]) h;let⟨m2,l2,b2,k2⟩:=w k _ ((40:aV).toNat:Int) _ v aG;let t:=at_next v;let y:=at_next (m:=[32]) t;let⟨m4,l4,b4,_,k4⟩:=Ke 32 (a:=a) (by unfold mQ;omega) aA aA y;let u:=at_next y;let p:=at_next (m:=[32]) u;let⟨m6,l6,b6,k6⟩:=A E _ 32 _ p aG;refine⟨_,_,?_,(rC 40 last aE (show s.data.toList.drop _=40::_ from h)).trans (k2.trans ((DI l2 (show s.data.toList.drop _=32::_ from t)).trans (k4.trans ((DI l4 (show s.data.toList.drop _=32::_ from u)).trans (k6.trans (rC 41 l6 aE (show s.data.toList.drop _=41::_ from(at_next p))))))))⟩;simp;omega
  .let i:bF (.node b o a l r)=uz a++bF l:=by simp only[bF];rw[bN aA,bN aA,bN aA]
   let f:tk (.node b o a l r)=((a.op,dO a.op)::Rk a)++tk l:=by simp only[tk];rw[bN aA,bN aA,bN aA];simp
   rw[i]at h⊢;rw[f];simp only[nc]at h;let⟨m1,l1,b1,z,k1⟩:=Ke last (a:=a) (by unfold mQ;omega) aA aA h;let⟨m2,l2,b2,k2⟩:=w k _ l1 _ (at_next h) z;refine⟨_,_,?_,k1.trans k2⟩;simp;omega
def mF:BT c_->Prop
 |.nil=>True
 |.node b o _ l r=>b=0/\o=0/\mF l/\mF r
theorem od{t a sg}(h:t.sign=sg)(b:sg≠-1):bL (t::a)=(t,a):=by
 have:t.sign≠-1:=aA;simp[bL,this]
theorem sQ{t b a}(h:t.sign=a)(c:a≠-1):cT a (t::b)=some b:=by
 unfold cT;rw[od h c,bY h]
theorem O7{t a v}(h:t.sign=48)(hw:t.word.data.toList=Lib.itoa v)(b:0<=v)(c:v<=1000000):qt (t::a)=some (v,a):=by
 unfold qt;rw[od h aG,bY h];let e:t.word=⟨(Lib.itoa v).toArray⟩:=mg (by simpa using hw);rw[show wY t.word=some v by rw[e];exact QF v b c];rfl
theorem map_cons{a p T}(h:a.map strip=p::T):∃t r,a=t::r/\t.sign=p.1/\t.word.data.toList=p.2/\r.map strip=T:=by
 cases a with
 |nil=>cases h
 |cons t r=>
  simp only[gW,E7]at h;let⟨h1,h2⟩:=h;exact⟨t,r,rfl,by rw[<-h1];rfl,by rw[<-h1];rfl,h2⟩
theorem EZ{a A rest}(b:A.map strip=Rk a)(hw:0<=a.lo/\a.lo<=a.hi/\a.hi<=1000000)(k:lY a.op=false->a.lo=0/\a.hi=0):dZ a.op (A++rest)=some ((a.lo,a.hi),rest):=by
 unfold dZ;unfold Rk at b;cases c:lY a.op with
 |false=>
  rw[c]at b;have:A=[]:=by simpa using b
  subst this;let⟨h1,h2⟩:=k c;rw[h1,h2];rfl
 |true=>
  rw[c]at b;obtain⟨x,w,rfl,d,m,b⟩:=map_cons b;obtain⟨p,s,rfl,g,l,b⟩:=map_cons b;obtain⟨v,q,rfl,j,n,b⟩:=map_cons b;obtain⟨r,u,rfl,f,i,b⟩:=map_cons b;obtain⟨t,h,rfl,e,o,b⟩:=map_cons b;have:h=[]:=by simpa using b
  subst this;simp only[mz,jW,fA];rw[sQ d aG];simp only;rw[O7 g l hw.1 aA];simp only;rw[sQ j aG];simp only;rw[O7 f i aA hw.2.2];simp only;rw[sQ e aG];simp only;rw[bN aA]
theorem GG:∀x,Good x->mF x->∀n,bC x<=n->∀A rest,A.map strip=tk x->lS n (A++rest)=some (x,rest):=by
 intro x
 induction x with
 |nil=>intro h;exact h.elim
 |node b o a l r B I=>
  intro J N n u A rest c;obtain⟨rfl,rfl,C,zr⟩:=N;obtain⟨m,rfl⟩:∃m,n=m+1:=⟨n-1,by simp only[bC]at u;omega⟩;let z:bC l<=m:=by simp only[bC]at u;omega
  let F:bC r<=m:=by simp only[bC]at u;omega
  show oK (lS m) (A++rest)=_;unfold oK;obtain⟨d,g,f,e,rfl,rfl⟩|⟨d,⟨W,R,L,T⟩,f,e,rfl,rfl⟩|⟨d,g,f,e,w,M⟩|⟨d,g,f,e,w,rfl⟩:=J
  .let i:tk (.node 0 0 a .nil .nil)=[(97,[116,114,117,101])]:=by simp only[tk];rw[bY d]
   rw[i]at c;obtain⟨t,r,rfl,p,s,c⟩:=map_cons c;have:r=[]:=by simpa using c
   subst this;simp only[mz,jW];rw[od p aG,bY p];have:lu t=some (.node 0 0 a .nil .nil):=by
    unfold lu;rw[bY (mg (by rw[s];rfl))];cases a;simp only at d g f e;subst d;subst g;subst f;subst e;rfl
   rw[this];rfl
  .let i:tk (.node 0 0 a .nil .nil)=[(97,a.name.data.toList)]:=by simp only[tk];rw[bN aA,bY d]
   rw[i]at c;obtain⟨t,r,rfl,p,s,c⟩:=map_cons c;have:r=[]:=by simpa using c
   subst this;simp only[mz,jW];let Zz:=p;rw[od (sg:=97) Zz aG,bY Zz];have:lu t=some (.node 0 0 a .nil .nil):=by
    unfold lu;rw[(mg s),bN L,bN aA];cases a;simp only at d f e;subst d;subst f;subst e;rfl
   rw[this];rfl
  .let i:tk (.node 0 0 a l r)=(40,[40])::(tk l++((a.op,dO a.op)::(Rk a++(tk r++[(41,[41])])))):=by simp only[tk];rw[bN aA,bN aA,bY d]
   rw[i]at c;obtain⟨t0,r0,rfl,q,_,c⟩:=map_cons c;obtain⟨y,V,rfl,j,c⟩:=Px.1 c;obtain⟨O,Q,rfl,G,_,c⟩:=map_cons c;obtain⟨D,P,rfl,k,c⟩:=Px.1 c;obtain⟨K,U,rfl,v,c⟩:=Px.1 c;obtain⟨S,H,rfl,E,_,c⟩:=map_cons c;have:H=[]:=by simpa using c
   subst this;simp only[mz,nc,jW];let s2':=G;rw[od q aG];simp only;rw[q,bN aG,bY rfl];unfold qH;rw[B w C m z y _ j];simp only;rw[od (sg:=a.op) s2' aA];simp only;rw[s2',bY d,EZ k f e];simp only;rw[I M zr m F K _ v];simp only;rw[sQ E aG];simp only;cases a;simp only at g;subst g;rfl
  .let i:tk (.node 0 0 a l .nil)=(a.op,dO a.op)::(Rk a++tk l):=by simp only[tk];rw[bN aA,bN aA,bN aA]
   rw[i]at c;obtain⟨t0,r0,rfl,q,_,c⟩:=map_cons c;obtain⟨D,y,rfl,k,j⟩:=Px.1 c;simp only[mz,nc];let s0':=q;rw[od (sg:=a.op) s0' aA];simp only;rw[s0',bN aA,bN aA,bY d];unfold kp;rw[EZ k f e];simp only;rw[B w C m z y _ j];simp only;cases a;simp only at g;subst g;rfl
def R5(f:aB Tok->aQ (BT c_×aB Tok)):Prop:=∀a x r,f a=some (x,r)->mF x
theorem Oy{f}(e:R5 f):R5 (oK f):=by
 intro c x r h;unfold oK at h;split at h
 .cases hw:lu (bL c).1 with
  |none=>simp[hw]at h
  |some y=>
   simp[hw]at h;obtain⟨rfl,_⟩:=h;unfold lu at hw;split at hw
   .injection hw with hw;subst hw;exact⟨rfl,rfl,trivial,trivial⟩
   .split at hw
    .cases hw
    .injection hw with hw;subst hw;exact⟨rfl,rfl,trivial,trivial⟩
 .split at h
  .unfold qH at h;cases d:f (bL c).2 with
   |none=>simp[d]at h
   |some y=>
    let⟨p,t1⟩:=y;simp only[d]at h;split at h
    .cases b:dZ (bL t1).1.sign (bL t1).2 with
     |none=>simp[b]at h
     |some z=>
      let⟨⟨lo,hi⟩,t2⟩:=z;simp only[b]at h;cases a:f t2 with
      |none=>simp[a]at h
      |some z=>
       let⟨q,t3⟩:=z;simp only[a]at h;cases g:cT 41 t3 with
       |none=>simp[g]at h
       |some i=>
        simp[g]at h;obtain⟨rfl,_⟩:=h;exact⟨rfl,rfl,e _ _ _ d,e _ _ _ a⟩
    .cases h
  .split at h
   .unfold kp at h;cases b:dZ (bL c).1.sign (bL c).2 with
    |none=>simp[b]at h
    |some z=>
     let⟨⟨lo,hi⟩,t2⟩:=z;simp only[b]at h;cases a:f t2 with
     |none=>simp[a]at h
     |some z=>
      let⟨q,t3⟩:=z;simp[a]at h;obtain⟨rfl,_⟩:=h;exact⟨rfl,rfl,e _ _ _ a,trivial⟩
   .cases h
theorem Cb:∀n,R5 (lS n)
 |0=>λ_ _ _ h=>by cases h
 |n+1=>Oy (Cb n)
theorem NR{s x n}(h:cV s=(some x,n)):mF x/\bC x<=12/\n=0:=by
 unfold cV at h;split at h
 .simp at h
 .cases c:eA s s.size 0 32 []with
  |none=>simp[c]at h
  |some d=>
   simp only[c]at h;cases a:lS d.length d with
   |none=>simp[a]at h
   |some y=>
    let⟨z,r⟩:=y;simp only[a]at h;cases b:cT (-1) r with
    |none=>simp[b]at h
    |some e=>
     simp only[b]at h;split at h
     .simp at h
     .simp at h;obtain⟨rfl,rfl⟩:=h;exact⟨Cb _ _ _ _ a,aA,rfl⟩
theorem NQ{s}(h:300<s.size):cV s=(none,1):=by unfold cV;rw[bY h]
theorem OJ:∀(n u:Nat),u<10^(n+1)->(Lib.decDigits u).length<=n+1
 |0,u,h=>by rw[Lib.decDigits,dif_pos aA];simp
 |n+1,u,h=>by
  rw[Lib.decDigits]
  split
  .simp
  .have:=OJ n (u/10) (by rw[Nat.pow_succ]at h;omega)
   simp;omega
theorem y8(v)(a:0<=v)(b:v<=1000000):(Lib.itoa v).length<=7:=by
 rw[C8 v a];exact OJ 6 _ aA
theorem C9(a)(h:0<=a.lo/\a.lo<=a.hi/\a.hi<=1000000):(uz a).length<=20:=by
 let d:=xP a.op;let b:=y8 a.lo aA aA;let c:=y8 a.hi aA aA;unfold uz;split
 .simp;omega
 .omega
theorem wF:∀{x:BT c_},Good x->(bF x).length+24<=32*2^bC x
 |.node b o a l r,h=>by
  obtain⟨c,_,_,_,rfl,rfl⟩|⟨c,⟨n,j,_⟩,_,_,rfl,rfl⟩|⟨c,_,e,_,d,i⟩|⟨c,_,e,_,d,rfl⟩:=h
  .simp only[bF,bC];rw[bY c];simp
  .have:a.name.data.toList.length=a.name.size:=by rw[yl];rfl
   simp only[bF,bC];rw[bN aA,bY c];simp at*;omega
  .let g:=wF d;have m:=wF i
   let f:=C9 a e
   let k:2^bC l<=2^(max (bC l) (bC r)):=Cc aA aA
   let p:2^bC r<=2^(max (bC l) (bC r)):=Cc aA aA
   simp only[bF,bC];rw[bN aA,bN aA,bY c,Nat.pow_add]
   simp;omega
  .let g:=wF d
   let f:=C9 a e
   simp only[bF,bC];rw[bN aA,bN aA,bN aA,Nat.pow_add]
   simp;omega
theorem Ld{x}(h:Good x)(a:bC x<=12):(bF x).length<=131072:=by
 have:=wF h;let m:2^bC x<=2^12:=Cc aA a;omega
theorem wy(x):cF (eD x)<=cF x+1:=by
 cases x with
 |nil=>simp[eD]
 |node b o a l r=>
  simp only[eD];split
  .simp[cF];omega
  .simp[cF,mk]
theorem xO:∀x:BT c_,cF (aN x)<=4*cF x
 |.nil=>by simp[aN,cF]
 |.node b o a l r=>by
  have h:=xO l
  have c:=xO r
  have g:=wy (aN l)
  have e:=wy (aN r)
  have f:=wy (mk 8743 ByteArray.empty 0 0 (eD (aN l)) (eD (aN r)))
  have d:=wy (mk 79 ByteArray.empty a.lo a.hi (eD (aN l)) .nil)
  simp only[aN]
  repeat' split
  all_goals simp only[cF,mk]at*
  all_goals omega
theorem vF:∀x:BT c_,cF x+1<=2^bC x
 |.nil=>by simp[cF,bC]
 |.node b o a l r=>by
  let d:=vF l
  let c:=vF r
  let f:2^bC l<=2^(max (bC l) (bC r)):=Cc aA aA
  let e:2^bC r<=2^(max (bC l) (bC r)):=Cc aA aA
  simp only[cF,bC]
  rw[Nat.pow_add]
  omega
theorem rS{x}(a:bC x<=12):cF (aN x)<=16384:=by
 let c:=xO x;let b:=vF x;let m:2^bC x<=2^12:=Cc aA a;omega
theorem wJ(s:aZ)(g:s.size<=300):∀(b pos:Nat)(last:Int)(a d:aB Tok),JG pos last a->eA s b pos last a=some d->Ends d
 |0,pos,last,a,d,c,h=>by
  simp only[eA]at h
  injection h with h
  subst h
  exact c.ends s
 |b+1,pos,last,a,d,c,h=>by
  by_cases k:pos<s.size
  .let hw:=Bc s pos k
   simp only[eA]at h
   rw[bY k]at h
   by_cases j:aK (Utf8.decode s pos).1=-2
   .rw[bY j]at h;cases h
   .rw[bN j]at h
    let l:aK (Utf8.decode s pos).1≠-1:=by
     obtain h|h:=ED (Utf8.decode s pos).1
     .exact h
     .exact absurd h j
    by_cases i:aK (Utf8.decode s pos).1=last/\cS (aK (Utf8.decode s pos).1)=true
    .rw[bY i]at h;let e:=c.join (i.1▸i.2);obtain⟨f,t,rfl⟩:∃f t,a=f++[t]:=⟨a.dropLast,a.getLast e,(List.dropLast_concat_getLast e).symm⟩;rw[pY]at h;exact wJ s g b _ _ _ d (c.grow aA g) h
    .rw[bN i]at h;by_cases m:aK (Utf8.decode s pos).1=32
     .rw[bY m,m]at h;exact wJ s g b _ _ _ d (c.blank aA) h
     .rw[bN m]at h;exact wJ s g b _ _ _ d (c.more aA l) h
  .rw[r_ s _ pos last a k]at h;injection h with h;subst h;exact c.ends s
theorem dH{s x n}(h:cV s=(some x,n)):Good x/\mF x/\bC x<=12/\n=0:=by
 let c:s.size<=300:=by
  refine Nat.le_of_not_lt λb=>?_;rw[NQ b]at h;cases h
 exact⟨NP h λd a=>wJ s c _ _ _ _ _ JG.start a,NR h⟩
end
section
open Tryz Go.RowKit Go.Deep
structure dW(w:aC):Prop where
 conv:ju w
 ns:∃eb eo,w.cell? (Ad (0) 0)=some (.iface 357 (.pointer (some (Ad eb eo))))
 et:w.cell? (Ad (7) 0)=some (.iface 266 (.agg #[.pointer (some (Ad (14) (89)))]))
 tab:∃e m,w.heap[9]?=some (.cells (Lib.pow10Tab.map λz=>Value.int .u64 z).toArray e m)
theorem dW.only{s w w'}(h:dW w)(b:Only s w w')(f:14<=s):dW w':=by
 let⟨h1,⟨eb,eo,h2⟩,h3,⟨e,m,h4⟩⟩:=h;let c:∀k,k<14->k<w.heap.size->w'.cell? (Ad k 0)=w.cell? (Ad k 0):=λk g d=>fT (w:=w) (a:=(Ad k 0)) (b.block k d aA);exact⟨h1.only b f,⟨eb,eo,by rw[c _ aG (eS h2)];exact h2⟩,by rw[c _ aG (eS h3)];exact h3,⟨e,m,b.heap h4 aA⟩⟩
theorem dW.below{w a}(h:dW w)(b:Bl w a):dW a:=h.only (s:=14) (Only.aR b) aX
def OA(s:aZ)(w:aC)(res:aQ (BT c_)×Int)(e:Ending)(a:aC):Prop:=
 Bl w a/\((∃x v,res=(some x,0)/\e=.returned (.tuple #[v,.nilIface])/\bG 143 w.heap.size a x v/\bC x<=12)
  \/∃z T tb b,res=(none,z)/\(z,T)∈[((1:Int),(201:TypeId)),(2,130)]/\e=.returned (.tuple #[.pointer none,.iface 125 (Pt tb)])/\a.heap[tb]?=some (.cells #[.string s,.iface T (.pointer (some b))] 127 (0,0)))
theorem n9(s w)(j:s.size<=maxLen)(f:dW w)(b:14<=w.heap.size):Calls prog 39 #[.string s] w (OA s w (cV s)):=by
 have k:Calls prog 74 #[.string s] w (H' w (cV s)):=by
  by_cases i:300<s.size
  .exact QP s w i j
  .exact NS s w aA f.conv b
 generalize cV s=res at*;go_enter func39,ntmps39;go_wp2_with fail;apply k.mono;rintro e l ⟨d,⟨x,v,a,rfl,c,g⟩|⟨a,h,rfl⟩|⟨a,h,rfl⟩⟩
 .obtain⟨m,rfl⟩:=gU c;go_wp2;go_ret2;exact⟨d,.inl ⟨x,_,a,rfl,c,g⟩⟩
 all_goals
  go_wp2;go_ret2;exact⟨d.al _,.inr ⟨_,_,_,_,a,aE,rfl,aP _ _ _ rfl⟩⟩
end
section
open Go.Deep (BT)
theorem EC(x)(b:Good x):∃A,A.map strip=tk x/\eA ⟨(bF x).toArray⟩ (bF x).length 0 32 []=some (A++[kT ⟨(bF x).toArray⟩]):=by
 let hs:(⟨(bF x).toArray⟩:aZ).size=(bF x).length:=by simp[ByteArray.size]
 let⟨n,aaQ,hn,hE⟩:=P7 (s:=⟨(bF x).toArray⟩) x b 0 32 [] aE aG;let⟨A,hA,e⟩:=hE ((bF x).length-n) [];let a:(bF x).length-n+n=(bF x).length:=aA;rw[a]at e;refine⟨A,hA,e.trans ?_⟩;rw[r_ _ _ _ _ _ (by rw[hs];omega),jW]
theorem GL{x y}(c:Good x)(a:Good y)(zx:mF x)(zy:mF y)(h:bF x=bF y):x=y:=by
 have⟨A,hA,e1⟩:=EC x c;have⟨B,hB,e2⟩:=EC y a;rw[h]at e1;rw[e1]at e2;have d:A=B:=by
  have:=oW e2;exact List.append_cancel_right this
 subst d;have b:=GG y a zy (max (bC x) (bC y)) (by omega) A [] hB;rw[(GG x c zx (max (bC x) (bC y)) (by omega) A [] hA)]at b;have:=oW b;exact og Prod.fst this
theorem sk{x}(h:mF x):mF (eD x):=by
 cases x with
 |nil=>exact h
 |node b o a l r=>
  simp only[eD];split
  .exact h.2.2.1
  .exact⟨rfl,rfl,h,trivial⟩
theorem Rz:∀{x:BT c_},mF x->mF (aN x):=by
 intro x
 induction x with
 |nil=>intro h;exact h
 |node b o a l r f e=>
  intro h;let c:=f h.2.2.1;let d:=e h.2.2.2;simp only[aN]
  repeat' split
  .exact h
  .exact sk c
  .exact sk ⟨rfl,rfl,sk c,sk d⟩
  .exact sk ⟨rfl,rfl,sk c,trivial⟩
  .exact⟨rfl,rfl,c,trivial⟩
  .exact⟨rfl,rfl,c,d⟩
end
def gB(s:aZ)(i:Nat):Nat:=(s.get! i).toNat
theorem BC(s i):gB s i<256:=z_ _
def tK(c:Nat):Bool:=(decide (97<=c)&&decide (c<=122))||(decide (48<=c)&&decide (c<=57))||c==89||c==79||c==72||c==83||c==40||c==41||c==91||c==93||c==44||c==33||c==38||c==124
theorem Vj{s i}(h:(Utf8.decode s i).1=172):(Utf8.decode s i).2=2/\i+1<s.size/\gB s i=194/\gB s (i+1)=172:=by
 let b:=BC s i;let c:=BC s (i+1);cases a:Utf8.decode s i with
 |mk r n=>
 rw[a]at h;show n=_/\_;obtain rfl:=(show r=_ from h);unfold gB at*;unfold Utf8.decode at a;simp only[E8]at a
 repeat' split at a
 all_goals simp[Utf8.runeError]at a
 all_goals simp at*
 all_goals omega
theorem Vi{s i}(h:(Utf8.decode s i).1=8743):(Utf8.decode s i).2=3/\i+2<s.size/\gB s i=226/\gB s (i+1)=136/\gB s (i+2)=167:=by
 let c:=BC s i;let d:=BC s (i+1);let b:=BC s (i+2);cases a:Utf8.decode s i with
 |mk r n=>
 rw[a]at h;show n=_/\_;obtain rfl:=(show r=_ from h);unfold gB at*;unfold Utf8.decode at a;simp only[E8]at a
 repeat' split at a
 all_goals simp[Utf8.runeError]at a
 all_goals simp at*
 all_goals omega
theorem Xv{s i}(h:(Utf8.decode s i).1=8744):(Utf8.decode s i).2=3/\i+2<s.size/\gB s i=226/\gB s (i+1)=136/\gB s (i+2)=168:=by
 let c:=BC s i;let d:=BC s (i+1);let b:=BC s (i+2);cases a:Utf8.decode s i with
 |mk r n=>
 rw[a]at h;show n=_/\_;obtain rfl:=(show r=_ from h);unfold gB at*;unfold Utf8.decode at a;simp only[E8]at a
 repeat' split at a
 all_goals simp[Utf8.runeError]at a
 all_goals simp at*
 all_goals omega
def ie(s:aZ):Nat->Nat->aB aV->aQ (aB aV)
 |0,_,out=>some out
 |f+1,i,out=>
  if i<s.size then
   if i+1<s.size/\gB s i=194/\gB s (i+1)=172 then ie s f (i+2) (out++[33])
   else if i+2<s.size/\gB s i=226/\gB s (i+1)=136/\gB s (i+2)=167 then ie s f (i+3) (out++[38])
   else if i+2<s.size/\gB s i=226/\gB s (i+1)=136/\gB s (i+2)=168 then ie s f (i+3) (out++[124])
   else if gB s i=32 then ie s f (i+1) (if out≠[]/\out.getLast?≠some 32 then out++[32]else out)
   else if tK (gB s i)=true then ie s f (i+1) (out++[s.get! i])
   else none
  else some out
theorem VY{s i}(h:i+1<s.size)(a:gB s i=194)(b:gB s (i+1)=172):Utf8.decode s i=(172,2):=by
 unfold gB at*;simp[Utf8.decode,a,b,h]
theorem Va{s i}(h:i+2<s.size)(c:gB s i=226)(d:gB s (i+1)=136)(a:gB s (i+2)=167):Utf8.decode s i=(8743,3):=by
 unfold gB at*;let b:i+1<s.size:=aA;simp[Utf8.decode,c,d,a,h,b,Utf8.valid]
theorem X6{s i}(h:i+2<s.size)(c:gB s i=226)(d:gB s (i+1)=136)(a:gB s (i+2)=168):Utf8.decode s i=(8744,3):=by
 unfold gB at*;let b:i+1<s.size:=aA;simp[Utf8.decode,c,d,a,h,b,Utf8.valid]
theorem rK{s:aZ}{i}(h:i<s.size):s.get! i=s[i]'h:=by
 simp[ByteArray.get!,getElem!_pos,h];rfl
theorem Et:∀c,c<128->tK c=decide (aK (c)≠-2/\c≠32):=aG
def Dr(a:aB aV):aB aV:=if a≠[]/\a.getLast?≠some 32 then a++[32]else a
theorem Wk{s i}(g:i<s.size)(f m)(h:aK (Utf8.decode s i).1=-2):ie s (f+1) i m=none:=by
 let n:¬(i+1<s.size/\gB s i=194/\gB s (i+1)=172):=by
  rintro⟨a,b,c⟩;rw[VY a b c]at h;exact absurd h aG
 let j:¬(i+2<s.size/\gB s i=226/\gB s (i+1)=136/\gB s (i+2)=167):=by
  rintro⟨a,b,c,d⟩;rw[Va a b c d]at h;exact absurd h aG
 let k:¬(i+2<s.size/\gB s i=226/\gB s (i+1)=136/\gB s (i+2)=168):=by
  rintro⟨a,b,c,d⟩;rw[X6 a b c d]at h;exact absurd h aG
 let e:gB s i=(s[i]'g).toNat:=by unfold gB;rw[rK g]
 rw[ie,bY g,bN n,bN j,bN k];by_cases o:(s[i]'g).toNat<128
 .rw[decode_ascii s i g o]at h;let l:gB s i≠32:=by rw[e];intro p;rw[p]at h;exact absurd h aG
  rw[bN l,e,Et _ o,bN];simp only[oX];rintro⟨q,_⟩;exact q h
 .rw[bN aA,bN];rw[e];have:=z_ (s[i]'g);unfold tK;simp;omega
theorem Q8{s i}(a:i<s.size)(f b)(h:aK (Utf8.decode s i).1=32):ie s (f+1) i b=ie s f (i+(Utf8.decode s i).2) (Dr b):=by
 let d:(Utf8.decode s i).1=32:=by
  unfold aK at h
  repeat' split at h
  all_goals omega
 by_cases g:(s[i]'a).toNat<128
 .let c:=decode_ascii s i a g;let e:gB s i=(s[i]'a).toNat:=by unfold gB;rw[rK a]
  rw[c]at d;let j:gB s i=32:=e▸d;rw[ie,bY a,bN aA,bN aA,bN aA,bY j,c];rfl
 .have:=(decode_high s i a aA).1;omega
theorem LD{s i}(a:i<s.size)(f j)(h:aK (Utf8.decode s i).1≠-2)(d:aK (Utf8.decode s i).1≠32):
  ∃c,c≠32/\aK (c.toNat:Int)=aK (Utf8.decode s i).1/\(cS (aK (Utf8.decode s i).1)=true->c=s[i]'a/\(Utf8.decode s i).2=1)/\ie s (f+1) i j=ie s f (i+(Utf8.decode s i).2) (j++[c]):=by
 by_cases l:(s[i]'a).toNat<128
 .let e:gB s i=(s[i]'a).toNat:=by unfold gB;rw[rK a]
  rw[(decode_ascii s i a l)]at h d⊢;let g:(s[i]'a).toNat≠32:=by intro k;simp only[k]at d;exact d aG
  refine⟨s[i]'a,λk=>g (by rw[k];rfl),rfl,λ_=>⟨rfl,rfl⟩,?_⟩;rw[ie,bY a,bN aA,bN aA,bN aA,bN aA,e,Et _ l,bY,rK a];simp only[oX];exact⟨h,g⟩
 .let m:=(decode_high s i a aA).1;let b:(Utf8.decode s i).1=172\/(Utf8.decode s i).1=8743\/(Utf8.decode s i).1=8744:=by
   unfold aK at h
   repeat' split at h
   all_goals omega
  obtain b|b|b:=b
  .let⟨k1,k2,k3,k4⟩:=Vj b;rw[b,k1];refine⟨33,aG,aG,λh=>absurd h aG,?_⟩;rw[ie,bY a,bY ⟨k2,k3,k4⟩]
  .let⟨k1,k2,k3,k4,k5⟩:=Vi b;rw[b,k1];refine⟨38,aG,aG,λh=>absurd h aG,?_⟩;rw[ie,bY a,bN aA,bY ⟨k2,k3,k4,k5⟩]
  .let⟨k1,k2,k3,k4,k5⟩:=Xv b;rw[b,k1];refine⟨124,aG,aG,λh=>absurd h aG,?_⟩;rw[ie,bY a,bN aA,bN aA,bY ⟨k2,k3,k4,k5⟩]
def ra(t:Tok):Int×aB aV:=(t.sign,if cS t.sign=true then t.word.data.toList else[])
def dM(p:aB (Int×aB aV)×Int)(c:aV):aB (Int×aB aV)×Int:=
 if c=32 then(p.1,32)
 else if aK (c.toNat:Int)=p.2/\cS (aK (c.toNat:Int))=true then(match p.1.getLast? with|some t=>p.1.dropLast++[(t.1,t.2++[c])]|none=>p.1,aK (c.toNat:Int))
 else(p.1++[(aK (c.toNat:Int),if cS (aK (c.toNat:Int))=true then[c]else[])],aK (c.toNat:Int))
def Bb(a:aB aV):aB (Int×aB aV)×Int:=a.foldl dM ([],32)
theorem pz(a c):Bb (a++[c])=dM (Bb a) c:=by simp[Bb,List.foldl_append]
theorem ES(a):Bb (Dr a)=((Bb a).1,32):=by
 unfold Dr;split
 .rw[pz];simp[dM]
 .rename_i h;obtain rfl|⟨o,c,rfl⟩:=List.eq_nil_or_concat a
  .rfl
  .have b:c=32:=by
    refine Classical.byContradiction λb=>h ⟨by simp,?_⟩;simp;exact b
   subst b;rw[List.concat_eq_append,pz];simp[dM]
def JD(s:aZ)(pos:Nat)(last:Int)(a:aB Tok):Prop:=
 cS last=true->∃(b:aB Tok)(t:Tok)(p:Nat),a=b++[t]/\t.sign=last/\t.place=(p:Int)/\p<pos/\t.word.data.toList=(s.data.toList.drop p).take (pos-p)
theorem Bs{s pos}(a:pos<s.size)(c:cS (aK (Utf8.decode s pos).1)=true):(Utf8.encode (Utf8.decode s pos).1).data.toList=[s[pos]'a]:=by
 let b:0<=((Utf8.decode s pos).1:Int)/\((Utf8.decode s pos).1:Int)<128:=by
  obtain e|e:=mj c
  .have:=vP e;omega
  .have:=se e;omega
 let⟨_,hb⟩:=sN s pos a aA;rw[mH _ b.1 b.2,<-hb];simp
theorem Us(s):∀b pos (last a) (d),JD s pos last a->a.map ra=(Bb d).1->last=(Bb d).2->
  (eA s b pos last a=none/\ie s b pos d=none)\/∃A k,eA s b pos last a=some (A++[kT s])/\ie s b pos d=some k/\A.map ra=(Bb k).1:=by
 intro b
 induction b with
 |zero=>
  intro pos last a d _ m _;exact .inr ⟨a,d,rfl,rfl,m⟩
 |succ b y=>
  intro pos last a d B m w;by_cases g:pos<s.size
  .by_cases l:aK (Utf8.decode s pos).1=-2
   .refine .inl ⟨?_,Wk g b d l⟩;rw[eA,bY g,bY l]
   .by_cases j:aK (Utf8.decode s pos).1=last/\cS (aK (Utf8.decode s pos).1)=true
    .let v:eA s (b+1) pos last a=eA s b (pos+(Utf8.decode s pos).2) (aK (Utf8.decode s pos).1) (Gn s pos a):=by rw[eA,bY g,bN l,bY j]
     let⟨c,c1,c2,c3,c4⟩:=LD g b d l (by intro e;rw[e]at j;exact absurd j.2 aG);obtain⟨rfl,hw⟩:=c3 j.2;rw[v,c4];let⟨Y8,f⟩:=j;obtain⟨x,t,p,rfl,r,u,E,q⟩:=B (Y8▸f);rw[pY];let i:(s.extract t.place.toNat (pos+1)).data.toList=t.word.data.toList++[s[pos]'g]:=by
      rw[Lib.extract_data,u,Int.toNat_natCast,take_one s p pos g aA,q]
     apply y _ _ _ _
     .intro _;refine⟨x,_,p,rfl,by rw[Y8];exact r,u,aA,?_⟩;show(s.extract t.place.toNat (pos+1)).data.toList=_;rw[i,hw,take_one s p pos g aA,q]
     .rw[pz];unfold dM;rw[bN c1,bY ⟨by rw[c2,<-w];exact Y8,by rw[c2];exact f⟩];rw[<-m];let o:cS t.sign=true:=by rw[r,<-Y8];exact f
      rw[l8,gW,sD,l8,gW,sD];let z:ra ⟨t.sign,t.place,s.extract t.place.toNat (pos+1)⟩=(t.sign,t.word.data.toList++[s[pos]'g]):=by
       unfold ra;simp only;rw[bY o,i]
      let C:ra t=(t.sign,t.word.data.toList):=by unfold ra;rw[bY o]
      rw[z,C];simp
     .rw[pz];unfold dM;rw[bN c1,bY ⟨by rw[c2,<-w];exact Y8,by rw[c2];exact f⟩];exact c2.symm
    .by_cases h:aK (Utf8.decode s pos).1=32
     .let v:eA s (b+1) pos last a=eA s b (pos+(Utf8.decode s pos).2) (aK (Utf8.decode s pos).1) a:=by rw[eA,bY g,bN l,bN j,bY h]
      rw[v,Q8 g b d h,h];apply y _ _ _ _ λD=>absurd D aG
      .rw[ES];exact m
      .rw[ES]
     .let v:eA s (b+1) pos last a=eA s b (pos+(Utf8.decode s pos).2) (aK (Utf8.decode s pos).1) (a++[⟨aK (Utf8.decode s pos).1,pos,Utf8.encode (Utf8.decode s pos).1⟩]):=by rw[eA,bY g,bN l,bN j,bN h]
      let⟨c,c1,c2,c3,c4⟩:=LD g b d l h;rw[v,c4];let n:¬(aK (c.toNat:Int)=(Bb d).2/\cS (aK (c.toNat:Int))=true):=by rw[c2,<-w];exact j
      apply y _ _ _ _
      .intro f;let⟨_,hw⟩:=c3 f;refine⟨a,_,pos,rfl,rfl,rfl,aA,?_⟩;dsimp only;rw[Bs g f,hw,take_one s pos pos g aX];simp
      .rw[pz];unfold dM;rw[bN c1,bN n,l8,m,c2];by_cases f:cS (aK (Utf8.decode s pos).1)=true
       .obtain⟨rfl,_⟩:=c3 f;simp only[ra,f,fA,gW,sD];rw[Bs g f]
       .simp[ra,f]
      .rw[pz];unfold dM;rw[bN c1,bN n];exact c2.symm
  .refine .inr ⟨a,d,r_ s _ _ _ _ g,?_,m⟩;rw[ie,bN g]
def Jo(u:aB aV):aB (Int×aB aV):=(Bb u).1
theorem Ol(T t last c):∃d e,dM ([t],last) c=(d::e,(dM ([t],last) c).2)/\dM (T++[t],last) c=(T++(d::e),(dM ([t],last) c).2)/\∃f t0,d::e=f++[t0]:=by
 let a:∀p:aB (Int×aB aV)×Int,dM p c=if c=32 then(p.1,(32:Int))else if aK (c.toNat:Int)=p.2/\cS (aK (c.toNat:Int))=true then(match p.1.getLast? with|some t=>p.1.dropLast++[(t.1,t.2++[c])]|none=>p.1,aK (c.toNat:Int))else(p.1++[(aK (c.toNat:Int),if cS (aK (c.toNat:Int))=true then[c]else[])],aK (c.toNat:Int)):=λ_=>rfl
 by_cases h:c=32
 .rw[a,a,bY h,bY h];exact⟨t,[],rfl,rfl,[],t,rfl⟩
 .by_cases b:aK (c.toNat:Int)=last/\cS (aK (c.toNat:Int))=true
  .rw[a,a,bN h,bN h,bY b,bY b];exact⟨(t.1,t.2++[c]),[],rfl,aE,[],_,rfl⟩
  .rw[a,a,bN h,bN h,bN b,bN b];exact⟨t,[(aK (c.toNat:Int),if cS (aK (c.toNat:Int))=true then[c]else[])],rfl,aE,[t],_,rfl⟩
theorem tD:∀(u:aB aV)(T:aB (Int×aB aV))(t:Int×aB aV)(last:Int),u.foldl dM (T++[t],last)=(T++(u.foldl dM ([t],last)).1,(u.foldl dM ([t],last)).2)
 |[],T,t,last=>rfl
 |c::u,T,t,last=>by
  let⟨t',T',h1,h2,T0,t0,h3⟩:=Ol T t last c
  simp only[Cm]
  rw[h2,h1,h3,<-nc,tD u (T++T0) t0,tD u T0 t0]
  simp
theorem AP(T:aB (Int×aB aV))(last:Int)(f:cS last=false):∀(u:aB aV),(u.foldl dM (T,last)).1=T++Jo u
 |[]=>by simp[Jo,Bb]
 |c::u=>by
  unfold Jo Bb
  simp only[Cm]
  by_cases h:c=32
  .let d:dM (T,last) c=(T,32):=by unfold dM;rw[bY h]
   let e:dM ([],32) c=([],32):=by unfold dM;rw[bY h]
   rw[d,e]
   exact AP T 32 aG u
  .let i:¬(aK (c.toNat:Int)=last/\cS (aK (c.toNat:Int))=true):=by rintro⟨a,b⟩;rw[a,f]at b;cases b
   let g:¬(aK (c.toNat:Int)=32/\cS (aK (c.toNat:Int))=true):=by rintro⟨a,b⟩;rw[a]at b;exact absurd b aG
   let d:dM (T,last) c=(T++[(aK (c.toNat:Int),if cS (aK (c.toNat:Int))=true then[c]else[])],aK (c.toNat:Int)):=by unfold dM;rw[bN h,bN i]
   let e:dM ([],32) c=([(aK (c.toNat:Int),if cS (aK (c.toNat:Int))=true then[c]else[])],aK (c.toNat:Int)):=by unfold dM;rw[bN h,bN g];rfl
   rw[d,e,tD]
theorem Rl(c u)(h:c≠32)(d:cS (aK (c.toNat:Int))=false):Jo (c::u)=(aK (c.toNat:Int),[])::Jo u:=by
 let e:¬(aK (c.toNat:Int)=32/\cS (aK (c.toNat:Int))=true):=by rintro⟨a,b⟩;rw[d]at b;cases b
 let f:dM ([],32) c=([(aK (c.toNat:Int),[])],aK (c.toNat:Int)):=by unfold dM;rw[bN h,bN e,d];rfl
 show(List.foldl dM (dM ([],32) c) u).1=_;rw[f,AP _ _ d];rfl
theorem xm{c:aV}{a}(h:aK (c.toNat:Int)=a)(b:cS a=true):c≠32:=by
 intro e;subst e;subst h;exact absurd b aG
theorem Gm(a:Int)(d:cS a=true):∀(v w:aB aV),(∀c,c∈v->aK (c.toNat:Int)=a)->v.foldl dM ([(a,w)],a)=([(a,w++v)],a)
 |[],w,_=>aE
 |c::v,w,h=>by
  let b:=h c aE
  let f:dM ([(a,w)],a) c=([(a,w++[c])],a):=by
   unfold dM;rw[bN (xm b d),bY ⟨b,by rw[b];exact d⟩,b];rfl
  simp only[Cm];rw[f,Gm a d v (w++[c]) λx e=>h x (by simp[e])];simp
theorem Rm(e)(i:cS e=true)(c v u)(j:∀x,x∈c::v->aK (x.toNat:Int)=e)(n:∀x,u.head?=some x->aK (x.toNat:Int)≠e):Jo (c::v++u)=(e,c::v)::Jo u:=by
 let k:=j c aE;let m:¬(aK (c.toNat:Int)=32/\cS (aK (c.toNat:Int))=true):=by rintro⟨a,b⟩;rw[a]at b;exact absurd b aG
 let p:dM ([],32) c=([(e,[c])],e):=by unfold dM;rw[bN (xm k i),bN m,k,bY i];rfl
 show(List.foldl dM (dM ([],32) c) (v++u)).1=_;rw[p,List.foldl_append,Gm e i v [c] λx l=>j x (by simp[l])];cases u with
 |nil=>rfl
 |cons d u=>
  unfold Jo Bb;simp only[Cm];by_cases h:d=32
  .let f:dM ([(e,[c]++v)],e) d=([(e,[c]++v)],32):=by unfold dM;rw[bY h]
   let g:dM ([],32) d=([],32):=by unfold dM;rw[bY h]
   rw[f,g,AP _ 32 aG];rfl
  .let o:¬(aK (d.toNat:Int)=32/\cS (aK (d.toNat:Int))=true):=by rintro⟨a,b⟩;rw[a]at b;exact absurd b aG
   let f:dM ([(e,[c]++v)],e) d=([(e,[c]++v)]++[(aK (d.toNat:Int),if cS (aK (d.toNat:Int))=true then[d]else[])],aK (d.toNat:Int)):=by unfold dM;rw[bN h,bN λx=>(n d rfl) x.1]
   let g:dM ([],32) d=([(aK (d.toNat:Int),if cS (aK (d.toNat:Int))=true then[d]else[])],aK (d.toNat:Int)):=by unfold dM;rw[bN h,bN o];rfl
   rw[f,g,tD];rfl
def kI(acc:Nat):aB aV->Nat
 |[]=>acc
 |c::r=>kI (10*acc+(c.toNat-48)) r
theorem Pn(l):∀a,a<=kI a l:=by
 induction l with
 |nil=>intro a;exact Yz a
 |cons c r b=>
  intro a;have h:=b (10*a+(c.toNat-48));have e:kI a (c::r)=kI (10*a+(c.toNat-48)) r:=rfl;rw[e];generalize kI (10*a+(c.toNat-48)) r=y at*;omega
theorem UI(l):∀a,a*10^l.length<=kI a l:=by
 induction l with
 |nil=>intro a;exact Nat.le_of_eq (Nat.mul_one a)
 |cons c r d=>
  intro a;let e:kI a (c::r)=kI (10*a+(c.toNat-48)) r:=rfl;rw[e,hY,Nat.pow_succ];refine gC ?_ (d (10*a+(c.toNat-48)));let b:a*(10^r.length*10)=10*a*10^r.length:=by rw[Nat.mul_comm (10^r.length) 10,<-Nat.mul_assoc,Nat.mul_comm a 10]
  rw[b];exact L2 _ (Nat.le_add_right _ _)
theorem GH:∀(l:aB aV)(a:Nat),(∀c,c∈l->nu c)->a<18446744073709551616->(Lib.parseUint10 a l=.ok (kI a l)/\kI a l<18446744073709551616)\/(Lib.parseUint10 a l=.range/\18446744073709551616<=kI a l)
 |[],a,_,d=>.inl ⟨rfl,d⟩
 |c::r,a,h,d=>by
  let j:=h c aE
  unfold nu at j
  let k:=Pn r (10*a+(c.toNat-48))
  let e:Lib.parseUint10 a (c::r)=if 1844674407370955162<=a then .range else if 18446744073709551616<=a*10+(c.toNat-48)then .range else Lib.parseUint10 (a*10+(c.toNat-48)) r:=by
   simp only[Lib.parseUint10];rw[bY aA]
  let i:kI a (c::r)=kI (10*a+(c.toNat-48)) r:=rfl;rw[e,i];by_cases f:1844674407370955162<=a
  .rw[bY f];exact .inr ⟨rfl,aA⟩
  .rw[bN f];by_cases b:18446744073709551616<=a*10+(c.toNat-48)
   .rw[bY b];exact .inr ⟨rfl,aA⟩
   .rw[bN b,Nat.mul_comm a 10];exact GH r _ (λx g=>h x (by simp[g])) aA
def vH(w:aB aV):aQ Int:=
 if w.length=0\/7<w.length\/(w.headD 0=48/\1<w.length)then none
 else if 1000000<kI 0 w then none else some (kI 0 w:Int)
theorem X1(w)(a:w.data.toList≠[])(i:∀c,c∈w.data.toList->nu c):wY w=vH w.data.toList:=by
 have j:w.size=w.data.toList.length:=by rw[yl];rfl
 have q:=GH w.data.toList 0 i aA;have m:=uI a i;unfold wY vH;rw[j];generalize w.data.toList=l at*;have p:l.length≠0:=by intro h;exact a (ur.1 h)
 have k:BR (Lib.atoiAll l)=if 1000000<kI 0 l then none else some (kI 0 l:Int):=by
  rcases q with⟨f,n⟩|⟨f,n⟩
  .rw[m,f];simp only;by_cases d:9223372036854775808<=kI 0 l
   .rw[bY d,bY aA];rfl
   .rw[bN d];by_cases o:1000000<kI 0 l
    .rw[bY o];exact bY aA
    .rw[bN o];exact bN aA
  .rw[m,f,bY aA];rfl
 rw[k];by_cases b:1<l.length/\l.headD 0=48
 .rw[bY b,bY (Or.inr (Or.inr ⟨b.2,b.1⟩))]
 .rw[bN b];by_cases g:7<l.length
  .rw[bY (Or.inr (Or.inl g):l.length=0\/7<l.length\/(l.headD 0=48/\1<l.length)),bY];cases l with
   |nil=>exact absurd rfl a
   |cons c r=>
    have t:=i c aE;unfold nu at t;have u:c.toNat≠48:=by
     intro e;refine b ⟨by simp at g⊢;omega,?_⟩;show c=48;exact sC.1 e
    have f:=UI r (10*0+(c.toNat-48));have n:10^7<=10^r.length:=Cc aA (by simp at g;omega);have v:1*10^r.length<=(10*0+(c.toNat-48))*10^r.length:=L2 _ aA;have s:kI 0 (c::r)=kI (10*0+(c.toNat-48)) r:=rfl;rw[s];omega
  .rw[bN (show¬(l.length=0\/7<l.length\/(l.headD 0=48/\1<l.length))from ?_)];rintro(h|h|h)
   .exact p h
   .exact g h
   .exact b ⟨h.2,h.1⟩
def NB:aB aV->Prop
 |[]=>True
 |c::r=>(c=32->r.head?≠some 32)/\(c.toNat<128/\NB r)
theorem NB.drop:∀{w r:aB aV},NB (w++r)->NB r
 |[],_,h=>h
 |_::w,_,h=>NB.drop (w:=w) h.2.2
def cB:aB aV->aB aV
 |[]=>[]
 |c::r=>if c=32 then r else c::r
def mA(A:aB Tok)(u:aB aV):Prop:=A.map ra=Jo u/\NB u
theorem x_{A u}(h:mA A u):mA A (cB u)/\(∀c r,cB u=c::r->c≠32)/\(cB u).length<=u.length:=by
 let⟨h1,h2⟩:=h;cases u with
 |nil=>exact⟨⟨h1,h2⟩,λc r e=>(by cases e),aX⟩
 |cons c r=>
  by_cases b:c=32
  .let e:cB (c::r)=r:=bY b;rw[e];subst b;refine⟨⟨h1,h2.2.2⟩,λd g a f=>?_,aE⟩;subst a;exact h2.1 rfl (by rw[f];rfl)
  .let e:cB (c::r)=c::r:=bN b;rw[e];exact⟨⟨h1,h2⟩,λd g a f=>b (by injection a with a _;rw[a];exact f),aX⟩
theorem AY{A}(h:mA A []):A=[]:=by
 let a:A.map ra=[]:=h.1;simpa using a
theorem xZ{A c r}(h:mA A (c::r))(d:c≠32)(e:cS (aK (c.toNat:Int))=false):∃t b,A=t::b/\t.sign=aK (c.toNat:Int)/\mA b r:=by
 let a:=h.1;rw[Rl c r d e]at a;cases A with
 |nil=>cases a
 |cons t b=>
  simp only[gW,E7]at a;exact⟨t,b,rfl,og Prod.fst a.1,a.2,h.2.2.2⟩
def iz(a:Int)(u:aB aV):aB aV:=u.takeWhile λc=>aK (c.toNat:Int)==a
def jR(a:Int)(u:aB aV):aB aV:=u.dropWhile λc=>aK (c.toNat:Int)==a
theorem Rt(b):∀u (x),x∈iz b u->aK (x.toNat:Int)=b:=by
 intro u
 induction u with
 |nil=>intro x a;cases a
 |cons c r f=>
  intro x a;unfold iz at a;rw[Cd]at a;by_cases d:aK (c.toNat:Int)=b
  .simp only[d,Cl,fA]at a;obtain rfl|a:=gp.1 a
   .exact d
   .exact f x a
  .let e:(aK (c.toNat:Int)==b)=false:=by simpa using d
   simp only[e]at a;cases a
theorem tY{A c r}(a)(h:mA A (c::r))(j:aK (c.toNat:Int)=a)(n:cS a=true):∃t e,A=t::e/\t.sign=a/\t.word.data.toList=iz a (c::r)/\mA e (jR a (c::r))/\(∀x,x∈iz a (c::r)->aK (x.toNat:Int)=a):=by
 let hw:∀x,x∈iz a (c::r)->aK (x.toNat:Int)=a:=by
  intro x d;exact Rt a _ x d
 let g:iz a (c::r)=c::iz a r:=by unfold iz;rw[Cd];simp[j]
 let k:c::r=(c::iz a r)++jR a r:=by
  unfold iz jR;rw[mz,List.takeWhile_append_dropWhile]
 let p:jR a (c::r)=jR a r:=by unfold jR;rw[L4];simp[j]
 let o:∀x,(jR a r).head?=some x->aK (x.toNat:Int)≠a:=by
  intro x d;unfold jR at d;have:=List.head?_dropWhile_not (λc:aV=>aK (c.toNat:Int)==a) r;rw[d]at this;simpa using this
 let b:=h.1;rw[k,Rm a n c (iz a r) (jR a r) (g▸hw) o]at b;let f:NB (jR a r):=by
  let i:=h.2;rw[k]at i;exact NB.drop i
 cases A with
 |nil=>cases b
 |cons t e=>
  simp only[gW,E7]at b;let l:t.sign=a:=og Prod.fst b.1;let m:(if cS t.sign=true then t.word.data.toList else[])=c::iz a r:=og Prod.snd b.1;rw[l,bY n]at m;exact⟨t,e,rfl,l,by rw[g];exact m,by rw[p];exact⟨b.2,f⟩,hw⟩
section
open Go.Deep (BT)
def dF(c:aV)(u:aB aV):aQ (aB aV):=match cB u with
 |[]=>none
 |d::r=>if d=c then some r else none
def Mh(A a:aB Tok)(u r:aB aV):Prop:=mA a r/\a.length<A.length/\r.length<u.length
theorem Mh.trans{A B C u v r}(h:Mh A B u v)(k:Mh B C v r):Mh A C u r:=⟨k.1,by have:=h.2.1;have:=k.2.1;omega,by have:=h.2.2;have:=k.2.2;omega⟩
theorem EN{e}(a:e.sign=-1):bL ([]++[e])=(e,[e]):=by simp[bL,a]
theorem A_(r):aK r≠-1:=by
 obtain h|h:=ED r
 .exact h
 .omega
theorem lX{t e A r}(h:t.sign=aK r):bL (t::A++[e])=(t,A++[e]):=od h (A_ r)
theorem yA{d}{c:aV}(a:c=91\/c=44\/c=93\/c=41)(h:aK (d.toNat:Int)=aK (c.toNat:Int)):d=c:=by
 let e:d.toNat=c.toNat:=by
  obtain rfl|rfl|rfl|rfl:=a
  all_goals
   let b:∀z:Int,aK (d.toNat:Int)=z->aK (d.toNat:Int)=z:=λ_ h=>h;unfold aK at h;simp at h
   repeat' split at h
   all_goals first|omega|(simp;omega)
 exact sC.1 e
theorem Fv{c:aV}(a:c=91\/c=44\/c=93\/c=41):cS (aK (c.toNat:Int))=false/\c≠32:=by
 obtain rfl|rfl|rfl|rfl:=a<;>decide
theorem oQ{A u}(h:mA A u){e}(m:e.sign=-1)(c)(k:c=91\/c=44\/c=93\/c=41):
  (dF c u=none/\cT (aK (c.toNat:Int)) (A++[e])=none)\/∃r i,dF c u=some r/\cT (aK (c.toNat:Int)) (A++[e])=some (i++[e])/\Mh A i u r:=by
 let⟨h1,h2,h3⟩:=x_ h;let⟨hj,_⟩:=Fv k;unfold dF cT;cases l:cB u with
 |nil=>
  rw[l]at h1;obtain rfl:=AY h1;refine .inl ⟨rfl,?_⟩;rw[EN m,bN];rw[m];exact λf=>A_ _ f.symm
 |cons d r=>
  rw[l]at h1 h3;cases b:cS (aK (d.toNat:Int))with
  |true=>
   obtain⟨t,i,rfl,g,_,_,_⟩:=tY (aK (d.toNat:Int)) h1 rfl b;let j:d≠c:=by intro f;rw[f,hj]at b;cases b
   refine .inl ⟨bN j,?_⟩;rw[lX g,bN];rw[g];exact λf=>j (yA k f)
  |false=>
   obtain⟨t,i,rfl,g,n⟩:=xZ h1 (h2 d r l) b;rw[lX g];by_cases a:d=c
   .refine .inr ⟨r,i,bY a,?_,n,aE,by simp at h3;omega⟩;rw[bY];rw[g,a]
   .refine .inl ⟨bN a,?_⟩;rw[bN];rw[g];exact λf=>a (yA k f)
def ji(u:aB aV):aQ (Int×aB aV):=match cB u with
 |[]=>none
 |c::r=>if aK (c.toNat:Int)=48 then(vH (iz 48 (c::r))).map λv=>(v,jR 48 (c::r))else none
theorem Ln{a c r}(h:aK (c.toNat:Int)=a):(jR a (c::r)).length<(c::r).length:=by
 let b:jR a (c::r)=jR a r:=by unfold jR;rw[L4];simp[h]
 rw[b];have:(jR a r).length<=r.length:=by unfold jR;exact(List.dropWhile_sublist _).length_le
 simp;omega
theorem GC{A u}(h:mA A u){e}(n:e.sign=-1):
  (ji u=none/\qt (A++[e])=none)\/∃v r f,ji u=some (v,r)/\qt (A++[e])=some (v,f++[e])/\Mh A f u r:=by
 let⟨h1,h2,h3⟩:=x_ h;unfold ji qt;cases k:cB u with
 |nil=>
  rw[k]at h1;obtain rfl:=AY h1;refine .inl ⟨rfl,?_⟩;rw[EN n,bN (by rw[n];decide)]
 |cons d r=>
  rw[k]at h1 h3;simp only;by_cases a:aK (d.toNat:Int)=48
  .obtain⟨t,f,rfl,b,j,o,p⟩:=tY 48 h1 a aG;let l:t.word.data.toList≠[]:=by rw[j];unfold iz;rw[Cd];simp[a]
   let g:∀c,c∈t.word.data.toList->nu c:=by
    intro c m;rw[j]at m;exact Du rfl (se (p c m))
   rw[lX (b.trans a.symm),bY a,bY b];show _\/_;simp only;rw[X1 t.word l g,j];cases vH (iz 48 (d::r))with
   |none=>exact .inl ⟨rfl,rfl⟩
   |some v=>exact .inr ⟨v,_,f,rfl,rfl,o,aE,by have:=Ln (r:=r) a;omega⟩
  .refine .inl ⟨bN a,?_⟩;cases i:cS (aK (d.toNat:Int))with
   |true=>
    obtain⟨t,f,rfl,b,_,_,_⟩:=tY (aK (d.toNat:Int)) h1 rfl i;rw[lX b,bN (b▸a)]
   |false=>
    obtain⟨t,f,rfl,b,_⟩:=xZ h1 (h2 d r k) i;rw[lX b,bN (b▸a)]
def dS(op:Int)(u:aB aV):aQ ((Int×Int)×aB aV):=
 if lY op then
  match dF 91 u with
  |none=>none
  |some f=>match ji f with
   |none=>none
   |some (a,e)=>match dF 44 e with
    |none=>none
    |some g=>match ji g with
     |none=>none
     |some (b,c)=>match dF 93 c with
      |none=>none
      |some d=>if b<a then none else some ((a,b),d)
 else some ((0,0),u)
theorem zV{A u}(h:mA A u){e}(d:e.sign=-1)(op):
  (dS op u=none/\dZ op (A++[e])=none)\/∃ab r f,dS op u=some (ab,r)/\dZ op (A++[e])=some (ab,f++[e])/\mA f r/\f.length<=A.length/\r.length<=u.length:=by
 unfold dS dZ;cases hw:lY op with
 |false=>exact .inr ⟨(0,0),u,A,rfl,rfl,h,aX,aX⟩
 |true=>
  simp only[fA];let k:aK ((91:aV).toNat:Int)=91:=aG;let p:aK ((44:aV).toNat:Int)=44:=aG;let n:aK ((93:aV).toNat:Int)=93:=aG;let x:=oQ h d 91 aE;rw[k]at x;obtain⟨x1,j⟩|⟨L,I,x1,j,w⟩:=x
  .rw[x1,j];exact .inl ⟨rfl,rfl⟩
  .rw[x1,j];simp only;obtain⟨x2,q⟩|⟨a,J,M,x2,q,y⟩:=GC w.1 d
   .rw[x2,q];exact .inl ⟨rfl,rfl⟩
   .rw[x2,q];simp only;let z:=oQ y.1 d 44 aE;rw[p]at z;obtain⟨x3,g⟩|⟨H,F,x3,g,v⟩:=z
    .rw[x3,g];exact .inl ⟨rfl,rfl⟩
    .rw[x3,g];simp only;obtain⟨m,s⟩|⟨b,K,G,m,s,B⟩:=GC v.1 d
     .rw[m,s];exact .inl ⟨rfl,rfl⟩
     .rw[m,s];simp only;let t:=oQ B.1 d 93 aE;rw[n]at t;obtain⟨o,i⟩|⟨D,E,o,i,C⟩:=t
      .rw[o,i];exact .inl ⟨rfl,rfl⟩
      .rw[o,i];simp only;let l:=(((w.trans y).trans v).trans B).trans C;by_cases c:b<a
       .rw[bY c,bY c];exact .inl ⟨rfl,rfl⟩
       .rw[bN c,bN c];exact .inr ⟨(a,b),D,E,rfl,rfl,l.1,L8 l.2.1,L8 l.2.2⟩
def oM(w:aB aV):aQ (BT c_):=
 if w=[116,114,117,101]then some (mk 116 ByteArray.empty 0 0 .nil .nil)
 else if 8<w.length then none
 else some (mk 97 ⟨w.toArray⟩ 0 0 .nil .nil)
theorem Ws(t):lu t=oM t.word.data.toList:=by
 let a:t.word.size=t.word.data.toList.length:=by rw[yl];rfl
 unfold lu oM;by_cases h:t.word=ET
 .rw[bY h,bY (by rw[h];rfl)]
 .let b:¬t.word.data.toList=[116,114,117,101]:=λe=>h (mg (by rw[e];rfl));rw[bN h,bN b,a]
def singleR(f:aB aV->aQ (BT c_×aB aV))(op:Int)(u:aB aV):aQ (BT c_×aB aV):=
 match dS op u with
 |none=>none
 |some ((a,b),c)=>match f c with
  |none=>none
  |some (p,d)=>some (mk op ByteArray.empty a b p .nil,d)
def vK(f:aB aV->aQ (BT c_×aB aV))(u:aB aV):aQ (BT c_×aB aV):=
 match f u with
 |none=>none
 |some (p,g)=>match cB g with
  |[]=>none
  |k::e=>
   if k=38\/k=124\/k=83 then
    match dS (aK (k.toNat:Int)) e with
    |none=>none
    |some ((a,b),h)=>match f h with
     |none=>none
     |some (q,c)=>match dF 41 c with
      |none=>none
      |some d=>some (mk (aK (k.toNat:Int)) ByteArray.empty a b p q,d)
   else none
def jS:Nat->aB aV->aQ (BT c_×aB aV)
 |0,_=>none
 |n+1,u=>match cB u with
  |[]=>none
  |c::r=>
   if aK (c.toNat:Int)=97 then(oM (iz 97 (c::r))).map λx=>(x,jR 97 (c::r))
   else if c=40 then vK (jS n) r
   else if c=33\/c=89\/c=79\/c=72 then singleR (jS n) (aK (c.toNat:Int)) r
   else none
def UW(x:aQ (BT c_×aB aV))(y:aQ (BT c_×aB Tok))(A:aB Tok)(u:aB aV)(e:Tok):Prop:=
 (x=none/\y=none)\/∃z r a,x=some (z,r)/\y=some (z,a++[e])/\Mh A a u r
theorem LF{k:aV}(b:k.toNat<128):(aK (k.toNat:Int)=8743\/aK (k.toNat:Int)=8744\/aK (k.toNat:Int)=83)↔(k=38\/k=124\/k=83):=by
 let a:∀n:Nat,n<128->((aK (n:Int)=8743\/aK (n:Int)=8744\/aK (n:Int)=83)↔(n=38\/n=124\/n=83)):=aG;rw[a k.toNat b,<-sC,<-sC,<-sC];exact Iff.rfl
theorem sign_one{k:aV}(b:k.toNat<128):(aK (k.toNat:Int)=172\/aK (k.toNat:Int)=89\/aK (k.toNat:Int)=79\/aK (k.toNat:Int)=72)↔(k=33\/k=89\/k=79\/k=72):=by
 let a:∀n:Nat,n<128->((aK (n:Int)=172\/aK (n:Int)=89\/aK (n:Int)=79\/aK (n:Int)=72)↔(n=33\/n=89\/n=79\/n=72)):=aG;rw[a k.toNat b,<-sC,<-sC,<-sC,<-sC];exact Iff.rfl
theorem Hd{k:aV}(b:k.toNat<128):aK (k.toNat:Int)=40↔k=40:=by
 let a:∀n:Nat,n<128->(aK (n:Int)=40↔n=40):=aG;rw[a k.toNat b,<-sC];exact Iff.rfl
theorem xM{A u}(h:mA A u){e}(k:e.sign=-1):
  (cB u=[]/\bL (A++[e])=(e,[e]))\/∃c r t b,cB u=c::r/\c.toNat<128/\A=t::b/\bL (A++[e])=(t,b++[e])/\t.sign=aK (c.toNat:Int)/\(c::r).length<=u.length/\
   ((cS (aK (c.toNat:Int))=true/\t.word.data.toList=iz (aK (c.toNat:Int)) (c::r)/\mA b (jR (aK (c.toNat:Int)) (c::r)))\/(cS (aK (c.toNat:Int))=false/\mA b r)):=by
 let⟨h1,h2,h3⟩:=x_ h;cases i:cB u with
 |nil=>
  rw[i]at h1;obtain rfl:=AY h1;exact .inl ⟨rfl,EN k⟩
 |cons d r=>
  rw[i]at h1 h3;let f:=h1.2.2.1;cases a:cS (aK (d.toNat:Int))with
  |true=>
   obtain⟨t,b,rfl,g,l,j,_⟩:=tY (aK (d.toNat:Int)) h1 rfl a;exact .inr ⟨d,r,t,b,rfl,f,rfl,lX g,g,h3,.inl ⟨a,l,j⟩⟩
  |false=>
   obtain⟨t,b,rfl,g,j⟩:=xZ h1 (h2 d r i) a;exact .inr ⟨d,r,t,b,rfl,f,rfl,lX g,g,h3,.inr ⟨a,j⟩⟩
def Alike(f:aB aV->aQ (BT c_×aB aV))(g:aB Tok->aQ (BT c_×aB Tok))(n m:Nat)(e:Tok):Prop:=
 ∀(B:aB Tok)(v:aB aV),mA B v->v.length<n->B.length<m->UW (f v) (g (B++[e])) B v e
theorem Jh{f g n m e}(k:e.sign=-1)(s:Alike f g n m e)(op){A u}(h:mA A u)(t:u.length<n)(x:A.length<m):
  UW (singleR f op u) (kp g op (A++[e])) A u e:=by
 unfold singleR kp;obtain⟨x1,c⟩|⟨⟨a,b⟩,q,l,x1,c,j,v,w⟩:=zV h k op
 .rw[x1,c];exact .inl ⟨rfl,rfl⟩
 .rw[x1,c];simp only;obtain⟨x2,i⟩|⟨p,o,r,x2,i,d⟩:=s l q j aA aA
  .rw[x2,i];exact .inl ⟨rfl,rfl⟩
  .rw[x2,i];exact .inr ⟨_,o,r,rfl,rfl,d.1,by have:=d.2.1;omega,by have:=d.2.2;omega⟩
theorem Nx{f g n m e}(i:e.sign=-1)(I:Alike f g n m e){A u}(h:mA A u)(L:u.length<n)(Q:A.length<m):
  UW (vK f u) (qH g (A++[e])) A u e:=by
 unfold vK qH;obtain⟨x1,w⟩|⟨p,r1,X,x1,w,z⟩:=I A u h L Q
 .rw[x1,w];exact .inl ⟨rfl,rfl⟩
 .rw[x1,w];simp only;let T:=z.2.1;let Y:=z.2.2;obtain⟨B,y⟩|⟨k,O,t,S,B,G,rfl,y,J,d,l⟩:=xM z.1 i
  .rw[B,y];simp only;rw[bN (by rw[i];decide)];exact .inl ⟨rfl,rfl⟩
  .rw[B,y];simp only;rw[J];by_cases c:k=38\/k=124\/k=83
   .rw[bY c,bY ((LF G).2 c)];let j:mA S O:=by
     obtain⟨P,_⟩|⟨_,j⟩:=l
     .exfalso
      obtain rfl|rfl|rfl:=c<;>exact absurd P aG
     .exact j
    simp only[hY]at T d;rcases zV j i (aK (k.toNat:Int))with⟨x3,o⟩|⟨⟨a,b⟩,M,K,x3,o,R,W,k3⟩
    .rw[x3,o];exact .inl ⟨rfl,rfl⟩
    .rw[x3,o];simp only;obtain⟨C,E⟩|⟨q,r4,V,C,E,F⟩:=I K M R aA aA
     .rw[C,E];exact .inl ⟨rfl,rfl⟩
     .rw[C,E];simp only;let n3:=F.2.1;let Z:=F.2.2;let r:aK ((41:aV).toNat:Int)=41:=aG;let H:=oQ F.1 i 41 aE;rw[r]at H;obtain⟨D,v⟩|⟨N,U,D,v,s⟩:=H
      .rw[D,v];exact .inl ⟨rfl,rfl⟩
      .rw[D,v];exact .inr ⟨_,N,U,rfl,rfl,s.1,by have:=s.2.1;omega,by have:=s.2.2;omega⟩
   .rw[bN c,bN λx=>c ((LF G).1 x)];exact .inl ⟨rfl,rfl⟩
theorem Ob{e}(j:e.sign=-1):∀n m,Alike (jS n) (lS m) n m e:=by
 intro n
 induction n with
 |zero=>intro m B v _ H _;exact absurd H (zX _)
 |succ n D=>
  intro m A u h J I;obtain⟨m,rfl⟩:∃k,m=k+1:=⟨m-1,aA⟩;show UW (jS (n+1) u) (oK (lS m) (A++[e])) A u e;unfold oK;obtain⟨y,s⟩|⟨c,r,t,F,y,p,rfl,s,G,o,d⟩:=xM h j
  .simp only[jS];rw[y,s];simp only;rw[bN (by rw[j];decide),bN (by rw[j];decide),bN (by rw[j];decide)];exact .inl ⟨rfl,rfl⟩
  .simp only[jS];rw[y,s];simp only;rw[G];simp only[hY]at I o;by_cases a:aK (c.toNat:Int)=97
   .rw[bY a,bY a];obtain⟨_,C,E⟩|⟨i,_⟩:=d
    .rw[a]at C E;rw[Ws t,C];cases oM (iz 97 (c::r))with
     |none=>exact .inl ⟨rfl,rfl⟩
     |some x=>exact .inr ⟨x,_,F,rfl,rfl,E,aE,by have:=Ln (r:=r) a;simp only[hY]at this;omega⟩
    .rw[a]at i;exact absurd i aG
   .rw[bN a,bN a];by_cases b:c=40
    .rw[bY b,bY ((Hd p).2 b)];obtain⟨i,_⟩|⟨_,q⟩:=d
     .rw[b]at i;exact absurd i aG
     .obtain⟨x1,f⟩|⟨x,z,w,x1,f,g⟩:=Nx j (D m) q aA aA
      .rw[x1,f];exact .inl ⟨rfl,rfl⟩
      .rw[x1,f];exact .inr ⟨x,z,w,rfl,rfl,g.1,by have:=g.2.1;simp;omega,by have:=g.2.2;omega⟩
    .rw[bN b,bN λx=>b ((Hd p).1 x)];by_cases l:c=33\/c=89\/c=79\/c=72
     .rw[bY l,bY ((sign_one p).2 l)];obtain⟨i,_⟩|⟨_,q⟩:=d
      .exfalso
       obtain rfl|rfl|rfl|rfl:=l<;>exact absurd i aG
      .rcases Jh j (D m) (aK (c.toNat:Int)) q aA aA with⟨x1,f⟩|⟨x,z,w,x1,f,g⟩
       .rw[x1,f];exact .inl ⟨rfl,rfl⟩
       .rw[x1,f];exact .inr ⟨x,z,w,rfl,rfl,g.1,by have:=g.2.1;simp;omega,by have:=g.2.2;omega⟩
     .rw[bN l,bN λx=>l ((sign_one p).1 x)];exact .inl ⟨rfl,rfl⟩
theorem NB.snoc:∀{u:aB aV}{c:aV},NB u->c.toNat<128->(c=32->u.getLast?≠some 32)->NB (u++[c])
 |[],c,_,h,_=>⟨λ_ e=>(by cases e),h,trivial⟩
 |[d],c,a,h,b=>⟨λg i=>(by
   exact b (by simpa using i) (by rw[g];rfl)),a.2.1,λ_ e=>(by cases e),h,trivial⟩
 |d::f::u,c,a,h,b=>⟨a.1,a.2.1,NB.snoc (u:=f::u) a.2.2 h λe=>by have:=b e;simpa[List.getLast?_cons_cons]using this⟩
theorem NB.blank{a}(h:NB a):NB (Dr a):=by
 unfold Dr;split
 .rename_i b;exact h.snoc aG λ_=>b.2
 .exact h
theorem K8{c}(h:tK c=true):c<128:=by
 unfold tK at h;simp at h;omega
theorem Yc(s):∀f i (a u),NB a->ie s f i a=some u->NB u:=by
 intro f
 induction f with
 |zero=>
  intro i a u h e;simp only[ie]at e;injection e with e;subst e;exact h
 |succ f b=>
  intro i a u h e;simp only[ie]at e;split at e
  .split at e
   .exact b _ _ _ (h.snoc aG λe=>absurd e aG) e
   .split at e
    .exact b _ _ _ (h.snoc aG λe=>absurd e aG) e
    .split at e
     .exact b _ _ _ (h.snoc aG λe=>absurd e aG) e
     .split at e
      .exact b _ _ _ h.blank e
      .rename_i c;split at e
       .rename_i d;refine b _ _ _ (h.snoc (K8 d) λg=>absurd ?_ c) e;unfold gB;rw[g];rfl
       .cases e
  .injection e with e;subst e;exact h
def Lg(s:aZ):aQ (BT c_)×Int:=
 match ie s s.size 0 []with
 |none=>(none,1)
 |some u=>if 300<s.size then(none,1)
  else match jS (u.length+1) u with
   |none=>(none,1)
   |some (x,r)=>if cB r=[]then(if 12<bC x then(none,2)else(some x,0))else(none,1)
theorem Da(s):Lg s=cV s:=by
 unfold Lg cV;by_cases b:300<s.size
 .rw[bY b];cases ie s s.size 0 []with
  |none=>rfl
  |some u=>simp only;rw[bY b]
 .rw[bN b];obtain⟨j,a⟩|⟨A,u,j,a,o⟩:=Us s s.size 0 32 [] [] (λh=>absurd h aG) rfl rfl
  .rw[j,a]
  .rw[j,a];simp only;rw[bN b];let e:(kT s).sign=-1:=rfl;obtain⟨x1,f⟩|⟨x,r,l,x1,f,k⟩:=Ob e (u.length+1) (A++[kT s]).length A u ⟨o,Yc s _ _ [] u (show NB []from trivial) a⟩ aA aE
   .rw[x1,f]
   .rw[x1,f];simp only;obtain⟨d,i⟩|⟨c,p,t,m,d,q,rfl,i,n,_,_⟩:=xM k.1 e
    .let g:cT (-1) (l++[kT s])=some [kT s]:=by unfold cT;rw[i,bY e]
     rw[bY d,g]
    .let g:cT (-1) (t::m++[kT s])=none:=by unfold cT;rw[i,bN (n▸A_ _)]
     rw[g,d];rfl
end
section
open Tryz Go.RowKit Go.Deep
def iD(b:Nat)(w:aC)(s:aZ)(i:Nat)(a:Bool):Prop:=w.heap[b]?=some (.cells #[.string s,Iv i,.bool a] 304 (0,0))
def vQ(s:aZ)(i:Nat):Nat:=if i<s.size/\gB s i=32 then i+1 else i
theorem A9{w}{b i j:Nat}{s a}(h:iD b w s i a):iD b (w.setCell (Ad b 1) (Iv j)) s j a:=by
 unfold iD at*;simp[World.setCell,ua,h]
theorem mU{w a i s c b}(h:iD a w s i c):iD a (w.setCell (Ad a 2) (.bool b)) s i b:=by
 unfold iD at*;simp[World.setCell,ua,h]
theorem A5(a i s b w)(h:iD a w s i b)(k:s.size<=1000000):
  Calls prog 180 #[Pt a] w λe g=>e=.returned (.tuple #[])/\Only a w g/\iD a g s (vQ s i) b:=by
 unfold vQ;let m:w.cell? (Ad a 0)=some (.string s):=aD h rfl;let n:w.cell? (Ad a 1)=some (Iv i):=aD h rfl;let c2:w.cell? (Ad a 2)=some (.bool b):=aD h rfl;let l:=cJ h 1;by_cases d:i<s.size
 .let f:gB s i=(s[i]'d).toNat:=by unfold gB;rw[rK d]
  by_cases c:gB s i=32
  .rw[bY ⟨d,c⟩];let j:(((s[i]'d).toNat:Int)==32)=true:=by rw[<-f,c];rfl
   go_enter func180,ntmps180;go_wp2
   go_region
   go_wp2
   go_end0
   exact⟨rfl,(Only.refl _ _).drew.setCell (p:=(Ad a 1)) (.inl rfl) _,A9 (show iD a w.drew s i b from h)⟩
  .rw[bN λx=>c x.2];let j:(((s[i]'d).toNat:Int)==32)=false:=by
    rw[<-f];simp only[ri];omega
   go_enter func180,ntmps180;go_wp2
   go_region
   go_wp2
   go_end0
   exact⟨rfl,(Only.refl _ _).drew,h⟩
 .rw[bN λx=>d x.1];go_enter func180,ntmps180;go_wp2
  go_region
  go_wp2
  go_end0
  exact⟨rfl,(Only.refl _ _).drew,h⟩
def At(s:aZ)(i:Nat)(u:aB aV):Prop:=s.data.toList.drop i=u
theorem fP(s:aZ):s.data.toList.length=s.size:=by rw[yl];rfl
theorem At.cons{s i c r}(h:At s i (c::r)):∃a:i<s.size,s[i]'a=c/\At s (i+1) r:=by
 unfold At at*;let a:i<s.data.toList.length:=by
  obtain b|b:=Bn i s.data.toList.length
  .exact b
  .rw[t_ b]at h;cases h
 rw[oV a]at h;injection h with h1 h2;exact⟨by rw[<-fP];exact a,by rw[<-h1];rfl,h2⟩
theorem At.nil{s i}(h:At s i []):¬i<s.size:=by
 unfold At at h;rw[<-fP];intro a;rw[oV a]at h;cases h
theorem At.skip{s}{i}{u}(h:At s i u):At s (vQ s i) (cB u):=by
 unfold vQ;cases u with
 |nil=>rw[bN λx=>h.nil x.1];exact h
 |cons c r=>
  let⟨hl,hc,ht⟩:=h.cons;let e:gB s i=c.toNat:=by unfold gB;rw[rK hl,hc]
  by_cases a:c=32
  .rw[bY ⟨hl,by rw[e,a];rfl⟩];have:cB (c::r)=r:=bY a;rw[this];exact ht
  .have:cB (c::r)=c::r:=bN a;rw[this,bN]
   .exact h
   .rintro⟨_,b⟩;rw[e]at b;exact a (sC.1 b)
theorem EG{s i}(h:i<=s.size):vQ s i<=s.size:=by
 unfold vQ;split
 .omega
 .exact h
def iH(a:Bool):aB aV->Int
 |[]=>0
 |c::_=>if a then 0 else(c.toNat:Int)
theorem jY(b i s a u w)(h:iD b w s i a)(x:s.size<=1000000)(hi:i<=s.size)(t:At s i u):
  Calls prog 198 #[Pt b] w λe o=>Only b w o/\e=.returned (.int .u8 (iH a (cB u)))/\∃j,j<=s.size/\At s j (cB u)/\iD b o s j a:=by
 have m:=A5 b i s a w h x;have f:=t.skip;have l:=EG hi;generalize vQ s i=j at*;generalize cB u=v at*;go_enter func198,ntmps198;go_wp2_with fail;refine m.m λg ⟨n,d⟩=>?_;have A:g.cell? (Ad b 0)=some (.string s):=aD d rfl;have z:g.cell? (Ad b 1)=some (Iv j):=aD d rfl;have c2:g.cell? (Ad b 2)=some (.bool a):=aD d rfl;have y:Hid (iH a v=iH a v):=rfl;cases v with
 |nil=>
  have q:=f.nil;have k:((s.size:Int)<=(j:Int)):=aA;go_wp2
  go_region
  go_wp2;go_ret;exact⟨n.drew,rfl,j,l,f,d⟩
 |cons c r=>
  have⟨q,hc,ht⟩:=f.cons;have k:decide (s.size<=j)=false:=bI;have p:¬s.size<=j:=aA;cases a with
  |true=>
   go_wp2
   go_region
   go_wp2;go_ret;exact⟨n.drew,rfl,j,l,f,d⟩
  |false=>
   go_wp2
   go_region
   go_wp2
   go_region
   go_wp2;go_ret;exact⟨n.drew.drew,iC rfl,j,l,f,d⟩
def U3(s:aZ)(c:Nat)(b:Bool)(res:aQ (aB aV))(d:aC):Prop:=
 ∃j a,j<=s.size/\iD c d s j a/\((b=false/\a=false/\∃t,res=some t/\At s j t)\/(a=true/\(b=true\/res=none)))
theorem DM{c u}(h:cB u=[]):dF c u=none:=by unfold dF;rw[h]
theorem uR{c d u r}(h:cB u=d::r):dF c u=if d=c then some r else none:=by unfold dF;rw[h]
theorem rZ(b i s a u c w)(h:iD b w s i a)(G:s.size<=1000000)(hi:i<=s.size)(E:At s i u)(t:c≠0):
  Calls prog 200 #[Pt b,.int .u8 (c.toNat:Int)] w λe C=>Only b w C/\e=.returned (.tuple #[])/\U3 s b a (dF c u) C:=by
 have g:=jY b i s a u w h G hi E;have H:c.toNat≠0:=λe=>t (sC.1 e);have y:Hid ((∀d r,cB u=d::r->d=c->dF c u=some r)/\(∀d r,cB u=d::r->d≠c->dF c u=none)/\(cB u=[]->dF c u=none)):=
  ⟨λd r x q=>by rw[uR x,bY q],λd r x q=>by rw[uR x,bN q],DM⟩
 have N:Hid (iH a (cB u)=iH a (cB u)):=rfl;generalize dF c u=res at*;by_cases f:iH a (cB u)=(c.toNat:Int)
 .have l:a=false/\∃r,cB u=c::r:=by
   cases m:cB u with
   |nil=>rw[m]at f;exact absurd f.symm (by simp only[iH];omega)
   |cons d r=>
    rw[m]at f;cases a with
    |true=>exact absurd f.symm (by simp only[iH,fA];omega)
    |false=>
     have M:(d.toNat:Int)=(c.toNat:Int):=f;have:d=c:=sC.1 aA;exact⟨rfl,r,by rw[this]⟩
  obtain⟨rfl,r,A⟩:=l;rw[f]at g;rw[A]at g;go_enter func200,ntmps200;go_wp2_with fail;apply g.mono;rintro e o ⟨v,rfl,j,D,z,k⟩;have⟨hl,hc,ht⟩:=z.cons;have K:o.cell? (Ad b 1)=some (Iv j):=aD k rfl;have L:=cJ k 1;go_wp2
  go_end0
  exact⟨v.setCell (p:=(Ad b 1)) (.inl rfl) _,rfl,j+1,false,hl,A9 k,.inl ⟨rfl,rfl,r,y.out.1 c r A rfl,ht⟩⟩
 .have n:Hid (a=true\/res=none):=by
   cases I:a with
   |true=>exact .inl rfl
   |false=>
    refine .inr ?_;subst I;cases m:cB u with
    |nil=>exact y.out.2.2 m
    |cons d r=>
     rw[m]at f;exact y.out.2.1 d r m λe=>f (by rw[e];rfl)
  have F:(iH a (cB u)!=(c.toNat:Int))=true:=by simp[f]
  have B:0<=iH a (cB u)/\iH a (cB u)<256:=by
   cases cB u with
   |nil=>simp[iH]
   |cons d r=>
    have:=z_ d;simp only[iH];split
    .omega
    .omega
  generalize iH a (cB u)=lv at*;go_enter func200,ntmps200;go_wp2_with fail;apply g.mono;rintro e o ⟨v,rfl,j,D,z,k⟩;have c2:o.cell? (Ad b 2)=some (.bool a):=aD k rfl;have J:=cJ k 2;go_wp2
  (try simp only[Exit.inBlock,Exit.then])
  apply Aa (results_none rfl _ _ _) rfl;exact⟨v.setCell (p:=(Ad b 2)) (.inl rfl) _,rfl,j,true,D,mU k,.inr ⟨rfl,n.out⟩⟩
end
end Go.Proofs.YtpbbmagjhkakgaaGreatDoor
