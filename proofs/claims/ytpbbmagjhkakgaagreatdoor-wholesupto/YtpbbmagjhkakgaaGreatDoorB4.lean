import Derived.Test.YtpbbmagjhkakgaaGreatDoorB3
namespace Go.Proofs.YtpbbmagjhkakgaaGreatDoor
set_option maxHeartbeats 1000000
section
open Go.Deep (BT)
theorem RQ{c}(h:nK c):c.toNat<128/\aM (c.toNat:Nat)=48:=by
 unfold nK at h;refine⟨aA,?_⟩;unfold aM;rw[bN aA,bN aA,bN aA,bN aA,bN aA,bY aA]
theorem RR{c}(h:isLet c):c.toNat<128/\aM (c.toNat:Nat)=97:=by
 unfold isLet at h;refine⟨aA,?_⟩;unfold aM;rw[bN aA,bN aA,bN aA,bN aA,bY aA]
theorem Lh(v)(h:0<=v):Lib.itoa v≠[]/\∀c,c∈Lib.itoa v->nK c:=by
 rw[Dr v h];exact⟨Nh _,Pl _⟩
theorem KH{s pos last v rest}(a:0<=v)(h:s.data.toList.drop pos=Lib.itoa v++rest)(d:last≠48):CS s pos last (Lib.itoa v) (Lib.itoa v).length 48 [(48,Lib.itoa v)]:=
 D7 aG (Lh v a).1 h (λc b=>RQ ((Lh v a).2 c b)) d
theorem KI{s pos a}(last){rest}(c:mZ a.op)(u:0<=a.lo)(q:0<=a.hi)(h:s.data.toList.drop pos=uR a++rest):
  ∃n b,n<=(uR a).length/\b≠97/\CS s pos last (uR a) n b ((a.op,dO a.op)::R5 a):=by
 let g:1<=(dO a.op).length:=by rcases c with e|e|e|e|e|e|e<;>rw[e]<;>decide
 cases hw:mi a.op with
 |false=>
  let f:uR a=dO a.op:=by unfold uR;rw[hw];rfl
  let d:R5 a=[]:=by unfold R5;rw[hw];rfl
  rw[f]at h⊢;rw[d];exact⟨1,a.op,g,by rcases c with e|e|e|e|e|e|e<;>rw[e]<;>decide,Pp last c h⟩
 |true=>
  let f:uR a=dO a.op++([91]++(Lib.itoa a.lo++([44]++(Lib.itoa a.hi++[93])))):=by unfold uR;rw[hw];simp
  let d:R5 a=[(91,[91]),(48,Lib.itoa a.lo),(44,[44]),(48,Lib.itoa a.hi),(93,[93])]:=by unfold R5;rw[hw];rfl
  rw[f]at h⊢;rw[d];simp only[nC]at h;let v:=Pp last c h;let k:=at_next h;let r:=rP 91 a.op aF (show s.data.toList.drop _=91::_ from k);let i:=at_next (m:=[91]) k;let x:=KH (last:=((91:aX).toNat:Int)) u i aG;let l:=at_next i;let t:=rP 44 48 aF (show s.data.toList.drop _=44::_ from l);let j:=at_next (m:=[44]) l;let p:=KH (last:=((44:aX).toNat:Int)) q j aG;let o:=at_next j;let w:=rP 93 48 aF (show s.data.toList.drop _=93::_ from o);refine⟨_,_,?_,?_,v.trans (r.trans (x.trans (t.trans (p.trans w))))⟩
  .simp;omega
  .decide
theorem QH{s}:∀x,Good x->∀pos (last) (rest),s.data.toList.drop pos=bF x++rest->last≠97->∃n g,n<=(bF x).length/\CS s pos last (bF x) n g (tk x):=by
 intro x
 induction x with
 |nil=>intro h;exact h.elim
 |node b o a l r w A=>
  intro B pos last rest h q;obtain⟨d,_⟩|⟨d,⟨z,F,G,C⟩,_⟩|⟨d,_,D,_,k,E⟩|⟨d,_,D,_,k,_⟩:=B
  .let i:bF (.node b o a l r)=[116,114,117,101]:=by simp only[bF];rw[bY d]
   let f:tk (.node b o a l r)=[(97,[116,114,117,101])]:=by simp only[tk];rw[bY d]
   rw[i]at h⊢;rw[f];refine⟨_,97,aZ,D7 aG aF h ?_ q⟩;intro c j;simp at j;obtain rfl|rfl|rfl|rfl:=j<;>decide
  .let i:bF (.node b o a l r)=a.name.data.toList:=by simp only[bF];rw[bN aA,bY d]
   let f:tk (.node b o a l r)=[(97,a.name.data.toList)]:=by simp only[tk];rw[bN aA,bY d]
   rw[i]at h⊢;rw[f];refine⟨_,97,aZ,D7 aG ?_ h (λc j=>RR (C c j)) q⟩;intro e;have:a.name.data.toList.length=a.name.size:=by rw[yB];rfl
   rw[e]at this;simp at this;omega
  .let i:bF (.node b o a l r)=[40]++(bF l++([32]++(uR a++([32]++(bF r++[41]))))):=by simp only[bF];rw[bN aA,bN aA,bY d];simp
   let f:tk (.node b o a l r)=[(40,[40])]++(tk l++([]++(((a.op,dO a.op)::R5 a)++([]++(tk r++[(41,[41])]))))):=by simp only[tk];rw[bN aA,bN aA,bY d];simp
   rw[i]at h⊢;rw[f];simp only[nC]at h;let v:=at_next (m:=[40]) h;let⟨m2,l2,b2,k2⟩:=w k _ ((40:aX).toNat:Int) _ v aG;let t:=at_next v;let y:=at_next (m:=[32]) t;let⟨m4,l4,b4,_,k4⟩:=KI 32 (a:=a) (by unfold mZ;omega) aA aA y;let u:=at_next y;let p:=at_next (m:=[32]) u;let⟨m6,l6,b6,k6⟩:=A E _ 32 _ p aG;refine⟨_,_,?_,(rP 40 last aF (show s.data.toList.drop _=40::_ from h)).trans (k2.trans ((D6 l2 (show s.data.toList.drop _=32::_ from t)).trans (k4.trans ((D6 l4 (show s.data.toList.drop _=32::_ from u)).trans (k6.trans (rP 41 l6 aF (show s.data.toList.drop _=41::_ from(at_next p))))))))⟩;simp;omega
  .let i:bF (.node b o a l r)=uR a++bF l:=by simp only[bF];rw[bN aA,bN aA,bN aA]
   let f:tk (.node b o a l r)=((a.op,dO a.op)::R5 a)++tk l:=by simp only[tk];rw[bN aA,bN aA,bN aA];simp
   rw[i]at h⊢;rw[f];simp only[nC]at h;let⟨m1,l1,b1,z,k1⟩:=KI last (a:=a) (by unfold mZ;omega) aA aA h;let⟨m2,l2,b2,k2⟩:=w k _ l1 _ (at_next h) z;refine⟨_,_,?_,k1.trans k2⟩;simp;omega
def mO:BT dD->Prop
 |.nil=>True
 |.node b o _ l r=>b=0/\o=0/\mO l/\mO r
theorem oA{t a sg}(h:t.sign=sg)(b:sg≠-1):bL (t::a)=(t,a):=by
 have:t.sign≠-1:=aA;simp[bL,this]
theorem tj{t b a}(h:t.sign=a)(c:a≠-1):cU a (t::b)=some b:=by
 unfold cU;rw[oA h c,bY h]
theorem PJ{t a v}(h:t.sign=48)(hw:t.word.data.toList=Lib.itoa v)(b:0<=v)(c:v<=1000000):qE (t::a)=some (v,a):=by
 unfold qE;rw[oA h aG,bY h];let e:t.word=⟨(Lib.itoa v).toArray⟩:=my (by simpa using hw);rw[show xr t.word=some v by rw[e];exact Rh v b c];rfl
theorem map_cons{a p T}(h:a.map strip=p::T):∃t r,a=t::r/\t.sign=p.1/\t.word.data.toList=p.2/\r.map strip=T:=by
 cases a with
 |nil=>cases h
 |cons t r=>
  simp only[hY,FD]at h;let⟨h1,h2⟩:=h;exact⟨t,r,rfl,by rw[<-h1];rfl,by rw[<-h1];rfl,h2⟩
theorem Fu{a A rest}(b:A.map strip=R5 a)(hw:0<=a.lo/\a.lo<=a.hi/\a.hi<=1000000)(k:mi a.op=false->a.lo=0/\a.hi=0):dZ a.op (A++rest)=some ((a.lo,a.hi),rest):=by
 unfold dZ;unfold R5 at b;cases c:mi a.op with
 |false=>
  rw[c]at b;have:A=[]:=by simpa using b
  subst this;let⟨h1,h2⟩:=k c;rw[h1,h2];rfl
 |true=>
  rw[c]at b;obtain⟨x,w,rfl,d,m,b⟩:=map_cons b;obtain⟨p,s,rfl,g,l,b⟩:=map_cons b;obtain⟨v,q,rfl,j,n,b⟩:=map_cons b;obtain⟨r,u,rfl,f,i,b⟩:=map_cons b;obtain⟨t,h,rfl,e,o,b⟩:=map_cons b;have:h=[]:=by simpa using b
  subst this;simp only[lq,jq,fB];rw[tj d aG];simp only;rw[PJ g l hw.1 aA];simp only;rw[tj j aG];simp only;rw[PJ f i aA hw.2.2];simp only;rw[tj e aG];simp only;rw[bN aA]
theorem Hn:∀x,Good x->mO x->∀n,bD x<=n->∀A rest,A.map strip=tk x->l_ n (A++rest)=some (x,rest):=by
 intro x
 induction x with
 |nil=>intro h;exact h.elim
 |node b o a l r B I=>
  intro J N n u A rest c;obtain⟨rfl,rfl,C,zr⟩:=N;obtain⟨m,rfl⟩:∃m,n=m+1:=⟨n-1,by simp only[bD]at u;omega⟩;let z:bD l<=m:=by simp only[bD]at u;omega
  let F:bD r<=m:=by simp only[bD]at u;omega
  show oV (l_ m) (A++rest)=_;unfold oV;obtain⟨d,g,f,e,rfl,rfl⟩|⟨d,⟨W,R,L,T⟩,f,e,rfl,rfl⟩|⟨d,g,f,e,w,M⟩|⟨d,g,f,e,w,rfl⟩:=J
  .let i:tk (.node 0 0 a .nil .nil)=[(97,[116,114,117,101])]:=by simp only[tk];rw[bY d]
   rw[i]at c;obtain⟨t,r,rfl,p,s,c⟩:=map_cons c;have:r=[]:=by simpa using c
   subst this;simp only[lq,jq];rw[oA p aG,bY p];have:lF t=some (.node 0 0 a .nil .nil):=by
    unfold lF;rw[bY (my (by rw[s];rfl))];cases a;simp only at d g f e;subst d;subst g;subst f;subst e;rfl
   rw[this];rfl
  .let i:tk (.node 0 0 a .nil .nil)=[(97,a.name.data.toList)]:=by simp only[tk];rw[bN aA,bY d]
   rw[i]at c;obtain⟨t,r,rfl,p,s,c⟩:=map_cons c;have:r=[]:=by simpa using c
   subst this;simp only[lq,jq];let s1':=p;rw[oA (sg:=97) s1' aG,bY s1'];have:lF t=some (.node 0 0 a .nil .nil):=by
    unfold lF;rw[(my s),bN L,bN aA];cases a;simp only at d f e;subst d;subst f;subst e;rfl
   rw[this];rfl
  .let i:tk (.node 0 0 a l r)=(40,[40])::(tk l++((a.op,dO a.op)::(R5 a++(tk r++[(41,[41])])))):=by simp only[tk];rw[bN aA,bN aA,bY d]
   rw[i]at c;obtain⟨t0,r0,rfl,q,_,c⟩:=map_cons c;obtain⟨y,V,rfl,j,c⟩:=Qa.1 c;obtain⟨O,Q,rfl,G,_,c⟩:=map_cons c;obtain⟨D,P,rfl,k,c⟩:=Qa.1 c;obtain⟨K,U,rfl,v,c⟩:=Qa.1 c;obtain⟨S,H,rfl,E,_,c⟩:=map_cons c;have:H=[]:=by simpa using c
   subst this;simp only[lq,nC,jq];let s2':=G;rw[oA q aG];simp only;rw[q,bN aG,bY rfl];unfold qT;rw[B w C m z y _ j];simp only;rw[oA (sg:=a.op) s2' aA];simp only;rw[s2',bY d,Fu k f e];simp only;rw[I M zr m F K _ v];simp only;rw[tj E aG];simp only;cases a;simp only at g;subst g;rfl
  .let i:tk (.node 0 0 a l .nil)=(a.op,dO a.op)::(R5 a++tk l):=by simp only[tk];rw[bN aA,bN aA,bN aA]
   rw[i]at c;obtain⟨t0,r0,rfl,q,_,c⟩:=map_cons c;obtain⟨D,y,rfl,k,j⟩:=Qa.1 c;simp only[lq,nC];let s0':=q;rw[oA (sg:=a.op) s0' aA];simp only;rw[s0',bN aA,bN aA,bY d];unfold kt;rw[Fu k f e];simp only;rw[B w C m z y _ j];simp only;cases a;simp only at g;subst g;rfl
def SN(f:aB Tok->aR (BT dD×aB Tok)):Prop:=∀a x r,f a=some (x,r)->mO x
theorem Pb{f}(e:SN f):SN (oV f):=by
 intro c x r h;unfold oV at h;split at h
 .cases hw:lF (bL c).1 with
  |none=>simp[hw]at h
  |some y=>
   simp[hw]at h;obtain⟨rfl,_⟩:=h;unfold lF at hw;split at hw
   .injection hw with hw;subst hw;exact⟨rfl,rfl,trivial,trivial⟩
   .split at hw
    .cases hw
    .injection hw with hw;subst hw;exact⟨rfl,rfl,trivial,trivial⟩
 .split at h
  .unfold qT at h;cases d:f (bL c).2 with
   |none=>simp[d]at h
   |some y=>
    let⟨p,t1⟩:=y;simp only[d]at h;split at h
    .cases b:dZ (bL t1).1.sign (bL t1).2 with
     |none=>simp[b]at h
     |some z=>
      let⟨⟨lo,hi⟩,t2⟩:=z;simp only[b]at h;cases a:f t2 with
      |none=>simp[a]at h
      |some z=>
       let⟨q,t3⟩:=z;simp only[a]at h;cases g:cU 41 t3 with
       |none=>simp[g]at h
       |some i=>
        simp[g]at h;obtain⟨rfl,_⟩:=h;exact⟨rfl,rfl,e _ _ _ d,e _ _ _ a⟩
    .cases h
  .split at h
   .unfold kt at h;cases b:dZ (bL c).1.sign (bL c).2 with
    |none=>simp[b]at h
    |some z=>
     let⟨⟨lo,hi⟩,t2⟩:=z;simp only[b]at h;cases a:f t2 with
     |none=>simp[a]at h
     |some z=>
      let⟨q,t3⟩:=z;simp[a]at h;obtain⟨rfl,_⟩:=h;exact⟨rfl,rfl,e _ _ _ a,trivial⟩
   .cases h
theorem Cu:∀n,SN (l_ n)
 |0=>λ_ _ _ h=>by cases h
 |n+1=>Pb (Cu n)
theorem Ou{s x n}(h:cW s=(some x,n)):mO x/\bD x<=12/\n=0:=by
 unfold cW at h;split at h
 .simp at h
 .cases c:eA s s.size 0 32 []with
  |none=>simp[c]at h
  |some d=>
   simp only[c]at h;cases a:l_ d.length d with
   |none=>simp[a]at h
   |some y=>
    let⟨z,r⟩:=y;simp only[a]at h;cases b:cU (-1) r with
    |none=>simp[b]at h
    |some e=>
     simp only[b]at h;split at h
     .simp at h
     .simp at h;obtain⟨rfl,rfl⟩:=h;exact⟨Cu _ _ _ _ a,aA,rfl⟩
theorem Ot{s}(h:300<s.size):cW s=(none,1):=by unfold cW;rw[bY h]
theorem Pm:∀(n u:Nat),u<10^(n+1)->(Lib.decDigits u).length<=n+1
 |0,u,h=>by rw[Lib.decDigits,dif_pos aA];simp
 |n+1,u,h=>by
  rw[Lib.decDigits]
  split
  .simp
  .have:=Pm n (u/10) (by rw[Nat.pow_succ]at h;omega)
   simp;omega
theorem zG(v)(a:0<=v)(b:v<=1000000):(Lib.itoa v).length<=7:=by
 rw[Dr v a];exact Pm 6 _ aA
theorem Ds(a)(h:0<=a.lo/\a.lo<=a.hi/\a.hi<=1000000):(uR a).length<=20:=by
 let d:=yj a.op;let b:=zG a.lo aA aA;let c:=zG a.hi aA aA;unfold uR;split
 .simp;omega
 .omega
theorem wZ:∀{x:BT dD},Good x->(bF x).length+24<=32*2^bD x
 |.node b o a l r,h=>by
  obtain⟨c,_,_,_,rfl,rfl⟩|⟨c,⟨n,j,_⟩,_,_,rfl,rfl⟩|⟨c,_,e,_,d,i⟩|⟨c,_,e,_,d,rfl⟩:=h
  .simp only[bF,bD];rw[bY c];simp
  .have:a.name.data.toList.length=a.name.size:=by rw[yB];rfl
   simp only[bF,bD];rw[bN aA,bY c];simp at*;omega
  .let g:=wZ d;have m:=wZ i
   let f:=Ds a e
   let k:2^bD l<=2^(max (bD l) (bD r)):=Cv aA aA
   let p:2^bD r<=2^(max (bD l) (bD r)):=Cv aA aA
   simp only[bF,bD];rw[bN aA,bN aA,bY c,Nat.pow_add]
   simp;omega
  .let g:=wZ d
   let f:=Ds a e
   simp only[bF,bD];rw[bN aA,bN aA,bN aA,Nat.pow_add]
   simp;omega
theorem LM{x}(h:Good x)(a:bD x<=12):(bF x).length<=131072:=by
 have:=wZ h;let m:2^bD x<=2^12:=Cv aA a;omega
theorem wT(x):cF (eD x)<=cF x+1:=by
 cases x with
 |nil=>simp[eD]
 |node b o a l r=>
  simp only[eD];split
  .simp[cF];omega
  .simp[cF,mk]
theorem yi:∀x:BT dD,cF (aO x)<=4*cF x
 |.nil=>by simp[aO,cF]
 |.node b o a l r=>by
  have h:=yi l
  have c:=yi r
  have g:=wT (aO l)
  have e:=wT (aO r)
  have f:=wT (mk 8743 ByteArray.empty 0 0 (eD (aO l)) (eD (aO r)))
  have d:=wT (mk 79 ByteArray.empty a.lo a.hi (eD (aO l)) .nil)
  simp only[aO]
  repeat' split
  all_goals simp only[cF,mk]at*
  all_goals omega
theorem vY:∀x:BT dD,cF x+1<=2^bD x
 |.nil=>by simp[cF,bD]
 |.node b o a l r=>by
  let d:=vY l
  let c:=vY r
  let f:2^bD l<=2^(max (bD l) (bD r)):=Cv aA aA
  let e:2^bD r<=2^(max (bD l) (bD r)):=Cv aA aA
  simp only[cF,bD]
  rw[Nat.pow_add]
  omega
theorem sk{x}(a:bD x<=12):cF (aO x)<=16384:=by
 let c:=yi x;let b:=vY x;let m:2^bD x<=2^12:=Cv aA a;omega
theorem xc(s:a_)(g:s.size<=300):∀(b pos:Nat)(last:Int)(a d:aB Tok),J_ pos last a->eA s b pos last a=some d->Ends d
 |0,pos,last,a,d,c,h=>by
  simp only[eA]at h
  injection h with h
  subst h
  exact c.ends s
 |b+1,pos,last,a,d,c,h=>by
  by_cases k:pos<s.size
  .let hw:=Bx s pos k
   simp only[eA]at h
   rw[bY k]at h
   by_cases j:aM (Utf8.decode s pos).1=-2
   .rw[bY j]at h;cases h
   .rw[bN j]at h
    let l:aM (Utf8.decode s pos).1≠-1:=by
     obtain h|h:=E3 (Utf8.decode s pos).1
     .exact h
     .exact absurd h j
    by_cases i:aM (Utf8.decode s pos).1=last/\cT (aM (Utf8.decode s pos).1)=true
    .rw[bY i]at h;let e:=c.join (i.1▸i.2);obtain⟨f,t,rfl⟩:∃f t,a=f++[t]:=⟨a.dropLast,a.getLast e,(List.dropLast_concat_getLast e).symm⟩;rw[qh]at h;exact xc s g b _ _ _ d (c.grow aA g) h
    .rw[bN i]at h;by_cases m:aM (Utf8.decode s pos).1=32
     .rw[bY m,m]at h;exact xc s g b _ _ _ d (c.blank aA) h
     .rw[bN m]at h;exact xc s g b _ _ _ d (c.more aA l) h
  .rw[sB s _ pos last a k]at h;injection h with h;subst h;exact c.ends s
theorem dI{s x n}(h:cW s=(some x,n)):Good x/\mO x/\bD x<=12/\n=0:=by
 let c:s.size<=300:=by
  refine Nat.le_of_not_lt λb=>?_;rw[Ot b]at h;cases h
 exact⟨Oq h λd a=>xc s c _ _ _ _ _ J_.start a,Ou h⟩
end
section
open Tryz Go.RowKit Go.Deep
structure dP(w:aC):Prop where
 conv:jA w
 ns:∃eb eo,w.cell? (Ad (0) 0)=some (.iface 357 (.pointer (some (Ad eb eo))))
 et:w.cell? (Ad (7) 0)=some (.iface 266 (.agg #[.pointer (some (Ad (14) (89)))]))
 tab:∃e m,w.heap[9]?=some (.cells (Lib.pow10Tab.map λz=>Value.int .u64 z).toArray e m)
theorem dP.only{s w w'}(h:dP w)(b:Only s w w')(f:14<=s):dP w':=by
 let⟨h1,⟨eb,eo,h2⟩,h3,⟨e,m,h4⟩⟩:=h;let c:∀k,k<14->k<w.heap.size->w'.cell? (Ad k 0)=w.cell? (Ad k 0):=λk g d=>fP (w:=w) (a:=(Ad k 0)) (b.block k d aA);exact⟨h1.only b f,⟨eb,eo,by rw[c _ aG (eS h2)];exact h2⟩,by rw[c _ aG (eS h3)];exact h3,⟨e,m,b.heap h4 aA⟩⟩
theorem dP.below{w a}(h:dP w)(b:Bl w a):dP a:=h.only (s:=14) (Only.aS b) aZ
def Pd(s:a_)(w:aC)(res:aR (BT dD)×Int)(e:Ending)(a:aC):Prop:=
 Bl w a/\((∃x v,res=(some x,0)/\e=.returned (.tuple #[v,.nilIface])/\bG 143 w.heap.size a x v/\bD x<=12)
  \/∃z T tb b,res=(none,z)/\(z,T)∈[((1:Int),(201:TypeId)),(2,130)]/\e=.returned (.tuple #[.pointer none,.iface 125 (Pt tb)])/\a.heap[tb]?=some (.cells #[.string s,.iface T (.pointer (some b))] 127 (0,0)))
theorem ox(s w)(j:s.size<=maxLen)(f:dP w)(b:14<=w.heap.size):Calls prog 39 #[.string s] w (Pd s w (cW s)):=by
 have k:Calls prog 74 #[.string s] w (IK w (cW s)):=by
  by_cases i:300<s.size
  .exact Rt s w i j
  .exact Ov s w aA f.conv b
 generalize cW s=res at*;go_enter func39,ntmps39;go_wp2_with fail;apply k.mono;rintro e l ⟨d,⟨x,v,a,rfl,c,g⟩|⟨a,h,rfl⟩|⟨a,h,rfl⟩⟩
 .obtain⟨m,rfl⟩:=gZ c;go_wp2;go_ret2;exact⟨d,.inl ⟨x,_,a,rfl,c,g⟩⟩
 all_goals
  go_wp2;go_ret2;exact⟨d.al _,.inr ⟨_,_,_,_,a,aF,rfl,aQ _ _ _ rfl⟩⟩
end
section
open Go.Deep (BT)
theorem E2(x)(b:Good x):∃A,A.map strip=tk x/\eA ⟨(bF x).toArray⟩ (bF x).length 0 32 []=some (A++[kY ⟨(bF x).toArray⟩]):=by
 let hs:(⟨(bF x).toArray⟩:a_).size=(bF x).length:=by simp[ByteArray.size]
 let⟨n,abe,hn,hE⟩:=QH (s:=⟨(bF x).toArray⟩) x b 0 32 [] aF aG;let⟨A,hA,e⟩:=hE ((bF x).length-n) [];let a:(bF x).length-n+n=(bF x).length:=aA;rw[a]at e;refine⟨A,hA,e.trans ?_⟩;rw[sB _ _ _ _ _ (by rw[hs];omega),jq]
theorem Hy{x y}(c:Good x)(a:Good y)(zx:mO x)(zy:mO y)(h:bF x=bF y):x=y:=by
 have⟨A,hA,e1⟩:=E2 x c;have⟨B,hB,e2⟩:=E2 y a;rw[h]at e1;rw[e1]at e2;have d:A=B:=by
  have:=nD e2;exact List.append_cancel_right this
 subst d;have b:=Hn y a zy (max (bD x) (bD y)) (by omega) A [] hB;rw[(Hn x c zx (max (bD x) (bD y)) (by omega) A [] hA)]at b;have:=nD b;exact oB Prod.fst this
theorem sH{x}(h:mO x):mO (eD x):=by
 cases x with
 |nil=>exact h
 |node b o a l r=>
  simp only[eD];split
  .exact h.2.2.1
  .exact⟨rfl,rfl,h,trivial⟩
theorem Si:∀{x:BT dD},mO x->mO (aO x):=by
 intro x
 induction x with
 |nil=>intro h;exact h
 |node b o a l r f e=>
  intro h;let c:=f h.2.2.1;let d:=e h.2.2.2;simp only[aO]
  repeat' split
  .exact h
  .exact sH c
  .exact sH ⟨rfl,rfl,sH c,sH d⟩
  .exact sH ⟨rfl,rfl,sH c,trivial⟩
  .exact⟨rfl,rfl,c,trivial⟩
  .exact⟨rfl,rfl,c,d⟩
end
def gB(s:a_)(i:Nat):Nat:=(s.get! i).toNat
theorem BX(s i):gB s i<256:=Ar _
def t_(c:Nat):Bool:=(decide (97<=c)&&decide (c<=122))||(decide (48<=c)&&decide (c<=57))||c==89||c==79||c==72||c==83||c==40||c==41||c==91||c==93||c==44||c==33||c==38||c==124
theorem V4{s i}(h:(Utf8.decode s i).1=172):(Utf8.decode s i).2=2/\i+1<s.size/\gB s i=194/\gB s (i+1)=172:=by
 let b:=BX s i;let c:=BX s (i+1);cases a:Utf8.decode s i with
 |mk r n=>
 rw[a]at h;show n=_/\_;obtain rfl:=(show r=_ from h);unfold gB at*;unfold Utf8.decode at a;simp only[FE]at a
 repeat' split at a
 all_goals simp[Utf8.runeError]at a
 all_goals simp at*
 all_goals omega
theorem V2{s i}(h:(Utf8.decode s i).1=8743):(Utf8.decode s i).2=3/\i+2<s.size/\gB s i=226/\gB s (i+1)=136/\gB s (i+2)=167:=by
 let c:=BX s i;let d:=BX s (i+1);let b:=BX s (i+2);cases a:Utf8.decode s i with
 |mk r n=>
 rw[a]at h;show n=_/\_;obtain rfl:=(show r=_ from h);unfold gB at*;unfold Utf8.decode at a;simp only[FE]at a
 repeat' split at a
 all_goals simp[Utf8.runeError]at a
 all_goals simp at*
 all_goals omega
theorem Yg{s i}(h:(Utf8.decode s i).1=8744):(Utf8.decode s i).2=3/\i+2<s.size/\gB s i=226/\gB s (i+1)=136/\gB s (i+2)=168:=by
 let c:=BX s i;let d:=BX s (i+1);let b:=BX s (i+2);cases a:Utf8.decode s i with
 |mk r n=>
 rw[a]at h;show n=_/\_;obtain rfl:=(show r=_ from h);unfold gB at*;unfold Utf8.decode at a;simp only[FE]at a
 repeat' split at a
 all_goals simp[Utf8.runeError]at a
 all_goals simp at*
 all_goals omega
def im(s:a_):Nat->Nat->aB aX->aR (aB aX)
 |0,_,out=>some out
 |f+1,i,out=>
  if i<s.size then
   if i+1<s.size/\gB s i=194/\gB s (i+1)=172 then im s f (i+2) (out++[33])
   else if i+2<s.size/\gB s i=226/\gB s (i+1)=136/\gB s (i+2)=167 then im s f (i+3) (out++[38])
   else if i+2<s.size/\gB s i=226/\gB s (i+1)=136/\gB s (i+2)=168 then im s f (i+3) (out++[124])
   else if gB s i=32 then im s f (i+1) (if out≠[]/\out.getLast?≠some 32 then out++[32]else out)
   else if t_ (gB s i)=true then im s f (i+1) (out++[s.get! i])
   else none
  else some out
theorem WJ{s i}(h:i+1<s.size)(a:gB s i=194)(b:gB s (i+1)=172):Utf8.decode s i=(172,2):=by
 unfold gB at*;simp[Utf8.decode,a,b,h]
theorem VT{s i}(h:i+2<s.size)(c:gB s i=226)(d:gB s (i+1)=136)(a:gB s (i+2)=167):Utf8.decode s i=(8743,3):=by
 unfold gB at*;let b:i+1<s.size:=aA;simp[Utf8.decode,c,d,a,h,b,Utf8.valid]
theorem YV{s i}(h:i+2<s.size)(c:gB s i=226)(d:gB s (i+1)=136)(a:gB s (i+2)=168):Utf8.decode s i=(8744,3):=by
 unfold gB at*;let b:i+1<s.size:=aA;simp[Utf8.decode,c,d,a,h,b,Utf8.valid]
theorem rY{s:a_}{i}(h:i<s.size):s.get! i=s[i]'h:=by
 simp[ByteArray.get!,getElem!_pos,h];rfl
theorem EU:∀c,c<128->t_ c=decide (aM (c)≠-2/\c≠32):=aG
def DO(a:aB aX):aB aX:=if a≠[]/\a.getLast?≠some 32 then a++[32]else a
theorem W7{s i}(g:i<s.size)(f m)(h:aM (Utf8.decode s i).1=-2):im s (f+1) i m=none:=by
 let n:¬(i+1<s.size/\gB s i=194/\gB s (i+1)=172):=by
  rintro⟨a,b,c⟩;rw[WJ a b c]at h;exact absurd h aG
 let j:¬(i+2<s.size/\gB s i=226/\gB s (i+1)=136/\gB s (i+2)=167):=by
  rintro⟨a,b,c,d⟩;rw[VT a b c d]at h;exact absurd h aG
 let k:¬(i+2<s.size/\gB s i=226/\gB s (i+1)=136/\gB s (i+2)=168):=by
  rintro⟨a,b,c,d⟩;rw[YV a b c d]at h;exact absurd h aG
 let e:gB s i=(s[i]'g).toNat:=by unfold gB;rw[rY g]
 rw[im,bY g,bN n,bN j,bN k];by_cases o:(s[i]'g).toNat<128
 .rw[decode_ascii s i g o]at h;let l:gB s i≠32:=by rw[e];intro p;rw[p]at h;exact absurd h aG
  rw[bN l,e,EU _ o,bN];simp only[pz];rintro⟨q,_⟩;exact q h
 .rw[bN aA,bN];rw[e];have:=Ar (s[i]'g);unfold t_;simp;omega
theorem RP{s i}(a:i<s.size)(f b)(h:aM (Utf8.decode s i).1=32):im s (f+1) i b=im s f (i+(Utf8.decode s i).2) (DO b):=by
 let d:(Utf8.decode s i).1=32:=by
  unfold aM at h
  repeat' split at h
  all_goals omega
 by_cases g:(s[i]'a).toNat<128
 .let c:=decode_ascii s i a g;let e:gB s i=(s[i]'a).toNat:=by unfold gB;rw[rY a]
  rw[c]at d;let j:gB s i=32:=e▸d;rw[im,bY a,bN aA,bN aA,bN aA,bY j,c];rfl
 .have:=(decode_high s i a aA).1;omega
theorem L9{s i}(a:i<s.size)(f j)(h:aM (Utf8.decode s i).1≠-2)(d:aM (Utf8.decode s i).1≠32):
  ∃c,c≠32/\aM (c.toNat:Int)=aM (Utf8.decode s i).1/\(cT (aM (Utf8.decode s i).1)=true->c=s[i]'a/\(Utf8.decode s i).2=1)/\im s (f+1) i j=im s f (i+(Utf8.decode s i).2) (j++[c]):=by
 by_cases l:(s[i]'a).toNat<128
 .let e:gB s i=(s[i]'a).toNat:=by unfold gB;rw[rY a]
  rw[(decode_ascii s i a l)]at h d⊢;let g:(s[i]'a).toNat≠32:=by intro k;simp only[k]at d;exact d aG
  refine⟨s[i]'a,λk=>g (by rw[k];rfl),rfl,λ_=>⟨rfl,rfl⟩,?_⟩;rw[im,bY a,bN aA,bN aA,bN aA,bN aA,e,EU _ l,bY,rY a];simp only[pz];exact⟨h,g⟩
 .let m:=(decode_high s i a aA).1;let b:(Utf8.decode s i).1=172\/(Utf8.decode s i).1=8743\/(Utf8.decode s i).1=8744:=by
   unfold aM at h
   repeat' split at h
   all_goals omega
  obtain b|b|b:=b
  .let⟨k1,k2,k3,k4⟩:=V4 b;rw[b,k1];refine⟨33,aG,aG,λh=>absurd h aG,?_⟩;rw[im,bY a,bY ⟨k2,k3,k4⟩]
  .let⟨k1,k2,k3,k4,k5⟩:=V2 b;rw[b,k1];refine⟨38,aG,aG,λh=>absurd h aG,?_⟩;rw[im,bY a,bN aA,bY ⟨k2,k3,k4,k5⟩]
  .let⟨k1,k2,k3,k4,k5⟩:=Yg b;rw[b,k1];refine⟨124,aG,aG,λh=>absurd h aG,?_⟩;rw[im,bY a,bN aA,bN aA,bY ⟨k2,k3,k4,k5⟩]
def rC(t:Tok):Int×aB aX:=(t.sign,if cT t.sign=true then t.word.data.toList else[])
def dM(p:aB (Int×aB aX)×Int)(c:aX):aB (Int×aB aX)×Int:=
 if c=32 then(p.1,32)
 else if aM (c.toNat:Int)=p.2/\cT (aM (c.toNat:Int))=true then(match p.1.getLast? with|some t=>p.1.dropLast++[(t.1,t.2++[c])]|none=>p.1,aM (c.toNat:Int))
 else(p.1++[(aM (c.toNat:Int),if cT (aM (c.toNat:Int))=true then[c]else[])],aM (c.toNat:Int))
def Bw(a:aB aX):aB (Int×aB aX)×Int:=a.foldl dM ([],32)
theorem pK(a c):Bw (a++[c])=dM (Bw a) c:=by simp[Bw,List.foldl_append]
theorem Fg(a):Bw (DO a)=((Bw a).1,32):=by
 unfold DO;split
 .rw[pK];simp[dM]
 .rename_i h;obtain rfl|⟨o,c,rfl⟩:=List.eq_nil_or_concat a
  .rfl
  .have b:c=32:=by
    refine Classical.byContradiction λb=>h ⟨by simp,?_⟩;simp;exact b
   subst b;rw[List.concat_eq_append,pK];simp[dM]
def J7(s:a_)(pos:Nat)(last:Int)(a:aB Tok):Prop:=
 cT last=true->∃(b:aB Tok)(t:Tok)(p:Nat),a=b++[t]/\t.sign=last/\t.place=(p:Int)/\p<pos/\t.word.data.toList=(s.data.toList.drop p).take (pos-p)
theorem BO{s pos}(a:pos<s.size)(c:cT (aM (Utf8.decode s pos).1)=true):(Utf8.encode (Utf8.decode s pos).1).data.toList=[s[pos]'a]:=by
 let b:0<=((Utf8.decode s pos).1:Int)/\((Utf8.decode s pos).1:Int)<128:=by
  obtain e|e:=mB c
  .have:=wy e;omega
  .have:=sC e;omega
 let⟨_,hb⟩:=s9 s pos a aA;rw[mQ _ b.1 b.2,<-hb];simp
theorem U7(s):∀b pos (last a) (d),J7 s pos last a->a.map rC=(Bw d).1->last=(Bw d).2->
  (eA s b pos last a=none/\im s b pos d=none)\/∃A k,eA s b pos last a=some (A++[kY s])/\im s b pos d=some k/\A.map rC=(Bw k).1:=by
 intro b
 induction b with
 |zero=>
  intro pos last a d _ m _;exact .inr ⟨a,d,rfl,rfl,m⟩
 |succ b y=>
  intro pos last a d B m w;by_cases g:pos<s.size
  .by_cases l:aM (Utf8.decode s pos).1=-2
   .refine .inl ⟨?_,W7 g b d l⟩;rw[eA,bY g,bY l]
   .by_cases j:aM (Utf8.decode s pos).1=last/\cT (aM (Utf8.decode s pos).1)=true
    .let v:eA s (b+1) pos last a=eA s b (pos+(Utf8.decode s pos).2) (aM (Utf8.decode s pos).1) (GX s pos a):=by rw[eA,bY g,bN l,bY j]
     let⟨c,c1,c2,c3,c4⟩:=L9 g b d l (by intro e;rw[e]at j;exact absurd j.2 aG);obtain⟨rfl,hw⟩:=c3 j.2;rw[v,c4];let⟨Z6,f⟩:=j;obtain⟨x,t,p,rfl,r,u,E,q⟩:=B (Z6▸f);rw[qh];let i:(s.extract t.place.toNat (pos+1)).data.toList=t.word.data.toList++[s[pos]'g]:=by
      rw[Lib.extract_data,u,Int.toNat_natCast,take_one s p pos g aA,q]
     apply y _ _ _ _
     .intro _;refine⟨x,_,p,rfl,by rw[Z6];exact r,u,aA,?_⟩;show(s.extract t.place.toNat (pos+1)).data.toList=_;rw[i,hw,take_one s p pos g aA,q]
     .rw[pK];unfold dM;rw[bN c1,bY ⟨by rw[c2,<-w];exact Z6,by rw[c2];exact f⟩];rw[<-m];let o:cT t.sign=true:=by rw[r,<-Z6];exact f
      rw[ml,hY,sR,ml,hY,sR];let z:rC ⟨t.sign,t.place,s.extract t.place.toNat (pos+1)⟩=(t.sign,t.word.data.toList++[s[pos]'g]):=by
       unfold rC;simp only;rw[bY o,i]
      let C:rC t=(t.sign,t.word.data.toList):=by unfold rC;rw[bY o]
      rw[z,C];simp
     .rw[pK];unfold dM;rw[bN c1,bY ⟨by rw[c2,<-w];exact Z6,by rw[c2];exact f⟩];exact c2.symm
    .by_cases h:aM (Utf8.decode s pos).1=32
     .let v:eA s (b+1) pos last a=eA s b (pos+(Utf8.decode s pos).2) (aM (Utf8.decode s pos).1) a:=by rw[eA,bY g,bN l,bN j,bY h]
      rw[v,RP g b d h,h];apply y _ _ _ _ λD=>absurd D aG
      .rw[Fg];exact m
      .rw[Fg]
     .let v:eA s (b+1) pos last a=eA s b (pos+(Utf8.decode s pos).2) (aM (Utf8.decode s pos).1) (a++[⟨aM (Utf8.decode s pos).1,pos,Utf8.encode (Utf8.decode s pos).1⟩]):=by rw[eA,bY g,bN l,bN j,bN h]
      let⟨c,c1,c2,c3,c4⟩:=L9 g b d l h;rw[v,c4];let n:¬(aM (c.toNat:Int)=(Bw d).2/\cT (aM (c.toNat:Int))=true):=by rw[c2,<-w];exact j
      apply y _ _ _ _
      .intro f;let⟨_,hw⟩:=c3 f;refine⟨a,_,pos,rfl,rfl,rfl,aA,?_⟩;dsimp only;rw[BO g f,hw,take_one s pos pos g aZ];simp
      .rw[pK];unfold dM;rw[bN c1,bN n,ml,m,c2];by_cases f:cT (aM (Utf8.decode s pos).1)=true
       .obtain⟨rfl,_⟩:=c3 f;simp only[rC,f,fB,hY,sR];rw[BO g f]
       .simp[rC,f]
      .rw[pK];unfold dM;rw[bN c1,bN n];exact c2.symm
  .refine .inr ⟨a,d,sB s _ _ _ _ g,?_,m⟩;rw[im,bN g]
def JN(u:aB aX):aB (Int×aB aX):=(Bw u).1
theorem O0(T t last c):∃d e,dM ([t],last) c=(d::e,(dM ([t],last) c).2)/\dM (T++[t],last) c=(T++(d::e),(dM ([t],last) c).2)/\∃f t0,d::e=f++[t0]:=by
 let a:∀p:aB (Int×aB aX)×Int,dM p c=if c=32 then(p.1,(32:Int))else if aM (c.toNat:Int)=p.2/\cT (aM (c.toNat:Int))=true then(match p.1.getLast? with|some t=>p.1.dropLast++[(t.1,t.2++[c])]|none=>p.1,aM (c.toNat:Int))else(p.1++[(aM (c.toNat:Int),if cT (aM (c.toNat:Int))=true then[c]else[])],aM (c.toNat:Int)):=λ_=>rfl
 by_cases h:c=32
 .rw[a,a,bY h,bY h];exact⟨t,[],rfl,rfl,[],t,rfl⟩
 .by_cases b:aM (c.toNat:Int)=last/\cT (aM (c.toNat:Int))=true
  .rw[a,a,bN h,bN h,bY b,bY b];exact⟨(t.1,t.2++[c]),[],rfl,aF,[],_,rfl⟩
  .rw[a,a,bN h,bN h,bN b,bN b];exact⟨t,[(aM (c.toNat:Int),if cT (aM (c.toNat:Int))=true then[c]else[])],rfl,aF,[t],_,rfl⟩
theorem tS:∀(u:aB aX)(T:aB (Int×aB aX))(t:Int×aB aX)(last:Int),u.foldl dM (T++[t],last)=(T++(u.foldl dM ([t],last)).1,(u.foldl dM ([t],last)).2)
 |[],T,t,last=>rfl
 |c::u,T,t,last=>by
  let⟨t',T',h1,h2,T0,t0,h3⟩:=O0 T t last c
  simp only[CJ]
  rw[h2,h1,h3,<-nC,tS u (T++T0) t0,tS u T0 t0]
  simp
theorem A_(T:aB (Int×aB aX))(last:Int)(f:cT last=false):∀(u:aB aX),(u.foldl dM (T,last)).1=T++JN u
 |[]=>by simp[JN,Bw]
 |c::u=>by
  unfold JN Bw
  simp only[CJ]
  by_cases h:c=32
  .let d:dM (T,last) c=(T,32):=by unfold dM;rw[bY h]
   let e:dM ([],32) c=([],32):=by unfold dM;rw[bY h]
   rw[d,e]
   exact A_ T 32 aG u
  .let i:¬(aM (c.toNat:Int)=last/\cT (aM (c.toNat:Int))=true):=by rintro⟨a,b⟩;rw[a,f]at b;cases b
   let g:¬(aM (c.toNat:Int)=32/\cT (aM (c.toNat:Int))=true):=by rintro⟨a,b⟩;rw[a]at b;exact absurd b aG
   let d:dM (T,last) c=(T++[(aM (c.toNat:Int),if cT (aM (c.toNat:Int))=true then[c]else[])],aM (c.toNat:Int)):=by unfold dM;rw[bN h,bN i]
   let e:dM ([],32) c=([(aM (c.toNat:Int),if cT (aM (c.toNat:Int))=true then[c]else[])],aM (c.toNat:Int)):=by unfold dM;rw[bN h,bN g];rfl
   rw[d,e,tS]
theorem R6(c u)(h:c≠32)(d:cT (aM (c.toNat:Int))=false):JN (c::u)=(aM (c.toNat:Int),[])::JN u:=by
 let e:¬(aM (c.toNat:Int)=32/\cT (aM (c.toNat:Int))=true):=by rintro⟨a,b⟩;rw[d]at b;cases b
 let f:dM ([],32) c=([(aM (c.toNat:Int),[])],aM (c.toNat:Int)):=by unfold dM;rw[bN h,bN e,d];rfl
 show(List.foldl dM (dM ([],32) c) u).1=_;rw[f,A_ _ _ d];rfl
theorem xI{c:aX}{a}(h:aM (c.toNat:Int)=a)(b:cT a=true):c≠32:=by
 intro e;subst e;subst h;exact absurd b aG
theorem GV(a:Int)(d:cT a=true):∀(v w:aB aX),(∀c,c∈v->aM (c.toNat:Int)=a)->v.foldl dM ([(a,w)],a)=([(a,w++v)],a)
 |[],w,_=>aF
 |c::v,w,h=>by
  let b:=h c aF
  let f:dM ([(a,w)],a) c=([(a,w++[c])],a):=by
   unfold dM;rw[bN (xI b d),bY ⟨b,by rw[b];exact d⟩,b];rfl
  simp only[CJ];rw[f,GV a d v (w++[c]) λx e=>h x (by simp[e])];simp
theorem R7(e)(i:cT e=true)(c v u)(j:∀x,x∈c::v->aM (x.toNat:Int)=e)(n:∀x,u.head?=some x->aM (x.toNat:Int)≠e):JN (c::v++u)=(e,c::v)::JN u:=by
 let k:=j c aF;let m:¬(aM (c.toNat:Int)=32/\cT (aM (c.toNat:Int))=true):=by rintro⟨a,b⟩;rw[a]at b;exact absurd b aG
 let p:dM ([],32) c=([(e,[c])],e):=by unfold dM;rw[bN (xI k i),bN m,k,bY i];rfl
 show(List.foldl dM (dM ([],32) c) (v++u)).1=_;rw[p,List.foldl_append,GV e i v [c] λx l=>j x (by simp[l])];cases u with
 |nil=>rfl
 |cons d u=>
  unfold JN Bw;simp only[CJ];by_cases h:d=32
  .let f:dM ([(e,[c]++v)],e) d=([(e,[c]++v)],32):=by unfold dM;rw[bY h]
   let g:dM ([],32) d=([],32):=by unfold dM;rw[bY h]
   rw[f,g,A_ _ 32 aG];rfl
  .let o:¬(aM (d.toNat:Int)=32/\cT (aM (d.toNat:Int))=true):=by rintro⟨a,b⟩;rw[a]at b;exact absurd b aG
   let f:dM ([(e,[c]++v)],e) d=([(e,[c]++v)]++[(aM (d.toNat:Int),if cT (aM (d.toNat:Int))=true then[d]else[])],aM (d.toNat:Int)):=by unfold dM;rw[bN h,bN λx=>(n d rfl) x.1]
   let g:dM ([],32) d=([(aM (d.toNat:Int),if cT (aM (d.toNat:Int))=true then[d]else[])],aM (d.toNat:Int)):=by unfold dM;rw[bN h,bN o];rfl
   rw[f,g,tS];rfl
def kM(acc:Nat):aB aX->Nat
 |[]=>acc
 |c::r=>kM (10*acc+(c.toNat-48)) r
theorem P4(l):∀a,a<=kM a l:=by
 induction l with
 |nil=>intro a;exact Zv a
 |cons c r b=>
  intro a;have h:=b (10*a+(c.toNat-48));have e:kM a (c::r)=kM (10*a+(c.toNat-48)) r:=rfl;rw[e];generalize kM (10*a+(c.toNat-48)) r=y at*;omega
theorem Vn(l):∀a,a*10^l.length<=kM a l:=by
 induction l with
 |nil=>intro a;exact Nat.le_of_eq (Nat.mul_one a)
 |cons c r d=>
  intro a;let e:kM a (c::r)=kM (10*a+(c.toNat-48)) r:=rfl;rw[e,ic,Nat.pow_succ];refine gH ?_ (d (10*a+(c.toNat-48)));let b:a*(10^r.length*10)=10*a*10^r.length:=by rw[Nat.mul_comm (10^r.length) 10,<-Nat.mul_assoc,Nat.mul_comm a 10]
  rw[b];exact MC _ (Nat.le_add_right _ _)
theorem Ho:∀(l:aB aX)(a:Nat),(∀c,c∈l->nK c)->a<18446744073709551616->(Lib.parseUint10 a l=.ok (kM a l)/\kM a l<18446744073709551616)\/(Lib.parseUint10 a l=.range/\18446744073709551616<=kM a l)
 |[],a,_,d=>.inl ⟨rfl,d⟩
 |c::r,a,h,d=>by
  let j:=h c aF
  unfold nK at j
  let k:=P4 r (10*a+(c.toNat-48))
  let e:Lib.parseUint10 a (c::r)=if 1844674407370955162<=a then .range else if 18446744073709551616<=a*10+(c.toNat-48)then .range else Lib.parseUint10 (a*10+(c.toNat-48)) r:=by
   simp only[Lib.parseUint10];rw[bY aA]
  let i:kM a (c::r)=kM (10*a+(c.toNat-48)) r:=rfl;rw[e,i];by_cases f:1844674407370955162<=a
  .rw[bY f];exact .inr ⟨rfl,aA⟩
  .rw[bN f];by_cases b:18446744073709551616<=a*10+(c.toNat-48)
   .rw[bY b];exact .inr ⟨rfl,aA⟩
   .rw[bN b,Nat.mul_comm a 10];exact Ho r _ (λx g=>h x (by simp[g])) aA
def v_(w:aB aX):aR Int:=
 if w.length=0\/7<w.length\/(w.headD 0=48/\1<w.length)then none
 else if 1000000<kM 0 w then none else some (kM 0 w:Int)
theorem YQ(w)(a:w.data.toList≠[])(i:∀c,c∈w.data.toList->nK c):xr w=v_ w.data.toList:=by
 have j:w.size=w.data.toList.length:=by rw[yB];rfl
 have q:=Ho w.data.toList 0 i aA;have m:=u6 a i;unfold xr v_;rw[j];generalize w.data.toList=l at*;have p:l.length≠0:=by intro h;exact a (uJ.1 h)
 have k:Cc (Lib.atoiAll l)=if 1000000<kM 0 l then none else some (kM 0 l:Int):=by
  rcases q with⟨f,n⟩|⟨f,n⟩
  .rw[m,f];simp only;by_cases d:9223372036854775808<=kM 0 l
   .rw[bY d,bY aA];rfl
   .rw[bN d];by_cases o:1000000<kM 0 l
    .rw[bY o];exact bY aA
    .rw[bN o];exact bN aA
  .rw[m,f,bY aA];rfl
 rw[k];by_cases b:1<l.length/\l.headD 0=48
 .rw[bY b,bY (Or.inr (Or.inr ⟨b.2,b.1⟩))]
 .rw[bN b];by_cases g:7<l.length
  .rw[bY (Or.inr (Or.inl g):l.length=0\/7<l.length\/(l.headD 0=48/\1<l.length)),bY];cases l with
   |nil=>exact absurd rfl a
   |cons c r=>
    have t:=i c aF;unfold nK at t;have u:c.toNat≠48:=by
     intro e;refine b ⟨by simp at g⊢;omega,?_⟩;show c=48;exact sQ.1 e
    have f:=Vn r (10*0+(c.toNat-48));have n:10^7<=10^r.length:=Cv aA (by simp at g;omega);have v:1*10^r.length<=(10*0+(c.toNat-48))*10^r.length:=MC _ aA;have s:kM 0 (c::r)=kM (10*0+(c.toNat-48)) r:=rfl;rw[s];omega
  .rw[bN (show¬(l.length=0\/7<l.length\/(l.headD 0=48/\1<l.length))from ?_)];rintro(h|h|h)
   .exact p h
   .exact g h
   .exact b ⟨h.2,h.1⟩
def NB:aB aX->Prop
 |[]=>True
 |c::r=>(c=32->r.head?≠some 32)/\(c.toNat<128/\NB r)
theorem NB.drop:∀{w r:aB aX},NB (w++r)->NB r
 |[],_,h=>h
 |_::w,_,h=>NB.drop (w:=w) h.2.2
def cB:aB aX->aB aX
 |[]=>[]
 |c::r=>if c=32 then r else c::r
def mJ(A:aB Tok)(u:aB aX):Prop:=A.map rC=JN u/\NB u
theorem yu{A u}(h:mJ A u):mJ A (cB u)/\(∀c r,cB u=c::r->c≠32)/\(cB u).length<=u.length:=by
 let⟨h1,h2⟩:=h;cases u with
 |nil=>exact⟨⟨h1,h2⟩,λc r e=>(by cases e),aZ⟩
 |cons c r=>
  by_cases b:c=32
  .let e:cB (c::r)=r:=bY b;rw[e];subst b;refine⟨⟨h1,h2.2.2⟩,λd g a f=>?_,aF⟩;subst a;exact h2.1 rfl (by rw[f];rfl)
  .let e:cB (c::r)=c::r:=bN b;rw[e];exact⟨⟨h1,h2⟩,λd g a f=>b (by injection a with a _;rw[a];exact f),aZ⟩
theorem Bh{A}(h:mJ A []):A=[]:=by
 let a:A.map rC=[]:=h.1;simpa using a
theorem yt{A c r}(h:mJ A (c::r))(d:c≠32)(e:cT (aM (c.toNat:Int))=false):∃t b,A=t::b/\t.sign=aM (c.toNat:Int)/\mJ b r:=by
 let a:=h.1;rw[R6 c r d e]at a;cases A with
 |nil=>cases a
 |cons t b=>
  simp only[hY,FD]at a;exact⟨t,b,rfl,oB Prod.fst a.1,a.2,h.2.2.2⟩
def iD(a:Int)(u:aB aX):aB aX:=u.takeWhile λc=>aM (c.toNat:Int)==a
def jX(a:Int)(u:aB aX):aB aX:=u.dropWhile λc=>aM (c.toNat:Int)==a
theorem Sb(b):∀u (x),x∈iD b u->aM (x.toNat:Int)=b:=by
 intro u
 induction u with
 |nil=>intro x a;cases a
 |cons c r f=>
  intro x a;unfold iD at a;rw[Cw]at a;by_cases d:aM (c.toNat:Int)=b
  .simp only[d,CI,fB]at a;obtain rfl|a:=gA.1 a
   .exact d
   .exact f x a
  .let e:(aM (c.toNat:Int)==b)=false:=by simpa using d
   simp only[e]at a;cases a
theorem uv{A c r}(a)(h:mJ A (c::r))(j:aM (c.toNat:Int)=a)(n:cT a=true):∃t e,A=t::e/\t.sign=a/\t.word.data.toList=iD a (c::r)/\mJ e (jX a (c::r))/\(∀x,x∈iD a (c::r)->aM (x.toNat:Int)=a):=by
 let hw:∀x,x∈iD a (c::r)->aM (x.toNat:Int)=a:=by
  intro x d;exact Sb a _ x d
 let g:iD a (c::r)=c::iD a r:=by unfold iD;rw[Cw];simp[j]
 let k:c::r=(c::iD a r)++jX a r:=by
  unfold iD jX;rw[lq,List.takeWhile_append_dropWhile]
 let p:jX a (c::r)=jX a r:=by unfold jX;rw[ME];simp[j]
 let o:∀x,(jX a r).head?=some x->aM (x.toNat:Int)≠a:=by
  intro x d;unfold jX at d;have:=List.head?_dropWhile_not (λc:aX=>aM (c.toNat:Int)==a) r;rw[d]at this;simpa using this
 let b:=h.1;rw[k,R7 a n c (iD a r) (jX a r) (g▸hw) o]at b;let f:NB (jX a r):=by
  let i:=h.2;rw[k]at i;exact NB.drop i
 cases A with
 |nil=>cases b
 |cons t e=>
  simp only[hY,FD]at b;let l:t.sign=a:=oB Prod.fst b.1;let m:(if cT t.sign=true then t.word.data.toList else[])=c::iD a r:=oB Prod.snd b.1;rw[l,bY n]at m;exact⟨t,e,rfl,l,by rw[g];exact m,by rw[p];exact⟨b.2,f⟩,hw⟩
section
open Go.Deep (BT)
def dH(c:aX)(u:aB aX):aR (aB aX):=match cB u with
 |[]=>none
 |d::r=>if d=c then some r else none
def MS(A a:aB Tok)(u r:aB aX):Prop:=mJ a r/\a.length<A.length/\r.length<u.length
theorem MS.trans{A B C u v r}(h:MS A B u v)(k:MS B C v r):MS A C u r:=⟨k.1,by have:=h.2.1;have:=k.2.1;omega,by have:=h.2.2;have:=k.2.2;omega⟩
theorem Fb{e}(a:e.sign=-1):bL ([]++[e])=(e,[e]):=by simp[bL,a]
theorem Bt(r):aM r≠-1:=by
 obtain h|h:=E3 r
 .exact h
 .omega
theorem mh{t e A r}(h:t.sign=aM r):bL (t::A++[e])=(t,A++[e]):=oA h (Bt r)
theorem yR{d}{c:aX}(a:c=91\/c=44\/c=93\/c=41)(h:aM (d.toNat:Int)=aM (c.toNat:Int)):d=c:=by
 let e:d.toNat=c.toNat:=by
  obtain rfl|rfl|rfl|rfl:=a
  all_goals
   let b:∀z:Int,aM (d.toNat:Int)=z->aM (d.toNat:Int)=z:=λ_ h=>h;unfold aM at h;simp at h
   repeat' split at h
   all_goals first|omega|(simp;omega)
 exact sQ.1 e
theorem F1{c:aX}(a:c=91\/c=44\/c=93\/c=41):cT (aM (c.toNat:Int))=false/\c≠32:=by
 obtain rfl|rfl|rfl|rfl:=a<;>decide
theorem o_{A u}(h:mJ A u){e}(m:e.sign=-1)(c)(k:c=91\/c=44\/c=93\/c=41):
  (dH c u=none/\cU (aM (c.toNat:Int)) (A++[e])=none)\/∃r i,dH c u=some r/\cU (aM (c.toNat:Int)) (A++[e])=some (i++[e])/\MS A i u r:=by
 let⟨h1,h2,h3⟩:=yu h;let⟨hj,_⟩:=F1 k;unfold dH cU;cases l:cB u with
 |nil=>
  rw[l]at h1;obtain rfl:=Bh h1;refine .inl ⟨rfl,?_⟩;rw[Fb m,bN];rw[m];exact λf=>Bt _ f.symm
 |cons d r=>
  rw[l]at h1 h3;cases b:cT (aM (d.toNat:Int))with
  |true=>
   obtain⟨t,i,rfl,g,_,_,_⟩:=uv (aM (d.toNat:Int)) h1 rfl b;let j:d≠c:=by intro f;rw[f,hj]at b;cases b
   refine .inl ⟨bN j,?_⟩;rw[mh g,bN];rw[g];exact λf=>j (yR k f)
  |false=>
   obtain⟨t,i,rfl,g,n⟩:=yt h1 (h2 d r l) b;rw[mh g];by_cases a:d=c
   .refine .inr ⟨r,i,bY a,?_,n,aF,by simp at h3;omega⟩;rw[bY];rw[g,a]
   .refine .inl ⟨bN a,?_⟩;rw[bN];rw[g];exact λf=>a (yR k f)
def jm(u:aB aX):aR (Int×aB aX):=match cB u with
 |[]=>none
 |c::r=>if aM (c.toNat:Int)=48 then(v_ (iD 48 (c::r))).map λv=>(v,jX 48 (c::r))else none
theorem LW{a c r}(h:aM (c.toNat:Int)=a):(jX a (c::r)).length<(c::r).length:=by
 let b:jX a (c::r)=jX a r:=by unfold jX;rw[ME];simp[h]
 rw[b];have:(jX a r).length<=r.length:=by unfold jX;exact(List.dropWhile_sublist _).length_le
 simp;omega
theorem Hk{A u}(h:mJ A u){e}(n:e.sign=-1):
  (jm u=none/\qE (A++[e])=none)\/∃v r f,jm u=some (v,r)/\qE (A++[e])=some (v,f++[e])/\MS A f u r:=by
 let⟨h1,h2,h3⟩:=yu h;unfold jm qE;cases k:cB u with
 |nil=>
  rw[k]at h1;obtain rfl:=Bh h1;refine .inl ⟨rfl,?_⟩;rw[Fb n,bN (by rw[n];decide)]
 |cons d r=>
  rw[k]at h1 h3;simp only;by_cases a:aM (d.toNat:Int)=48
  .obtain⟨t,f,rfl,b,j,o,p⟩:=uv 48 h1 a aG;let l:t.word.data.toList≠[]:=by rw[j];unfold iD;rw[Cw];simp[a]
   let g:∀c,c∈t.word.data.toList->nK c:=by
    intro c m;rw[j]at m;exact DT rfl (sC (p c m))
   rw[mh (b.trans a.symm),bY a,bY b];show _\/_;simp only;rw[YQ t.word l g,j];cases v_ (iD 48 (d::r))with
   |none=>exact .inl ⟨rfl,rfl⟩
   |some v=>exact .inr ⟨v,_,f,rfl,rfl,o,aF,by have:=LW (r:=r) a;omega⟩
  .refine .inl ⟨bN a,?_⟩;cases i:cT (aM (d.toNat:Int))with
   |true=>
    obtain⟨t,f,rfl,b,_,_,_⟩:=uv (aM (d.toNat:Int)) h1 rfl i;rw[mh b,bN (b▸a)]
   |false=>
    obtain⟨t,f,rfl,b,_⟩:=yt h1 (h2 d r k) i;rw[mh b,bN (b▸a)]
def dT(op:Int)(u:aB aX):aR ((Int×Int)×aB aX):=
 if mi op then
  match dH 91 u with
  |none=>none
  |some f=>match jm f with
   |none=>none
   |some (a,e)=>match dH 44 e with
    |none=>none
    |some g=>match jm g with
     |none=>none
     |some (b,c)=>match dH 93 c with
      |none=>none
      |some d=>if b<a then none else some ((a,b),d)
 else some ((0,0),u)
theorem Al{A u}(h:mJ A u){e}(d:e.sign=-1)(op):
  (dT op u=none/\dZ op (A++[e])=none)\/∃ab r f,dT op u=some (ab,r)/\dZ op (A++[e])=some (ab,f++[e])/\mJ f r/\f.length<=A.length/\r.length<=u.length:=by
 unfold dT dZ;cases hw:mi op with
 |false=>exact .inr ⟨(0,0),u,A,rfl,rfl,h,aZ,aZ⟩
 |true=>
  simp only[fB];let k:aM ((91:aX).toNat:Int)=91:=aG;let p:aM ((44:aX).toNat:Int)=44:=aG;let n:aM ((93:aX).toNat:Int)=93:=aG;let x:=o_ h d 91 aF;rw[k]at x;obtain⟨x1,j⟩|⟨L,I,x1,j,w⟩:=x
  .rw[x1,j];exact .inl ⟨rfl,rfl⟩
  .rw[x1,j];simp only;obtain⟨x2,q⟩|⟨a,J,M,x2,q,y⟩:=Hk w.1 d
   .rw[x2,q];exact .inl ⟨rfl,rfl⟩
   .rw[x2,q];simp only;let z:=o_ y.1 d 44 aF;rw[p]at z;obtain⟨x3,g⟩|⟨H,F,x3,g,v⟩:=z
    .rw[x3,g];exact .inl ⟨rfl,rfl⟩
    .rw[x3,g];simp only;obtain⟨m,s⟩|⟨b,K,G,m,s,B⟩:=Hk v.1 d
     .rw[m,s];exact .inl ⟨rfl,rfl⟩
     .rw[m,s];simp only;let t:=o_ B.1 d 93 aF;rw[n]at t;obtain⟨o,i⟩|⟨D,E,o,i,C⟩:=t
      .rw[o,i];exact .inl ⟨rfl,rfl⟩
      .rw[o,i];simp only;let l:=(((w.trans y).trans v).trans B).trans C;by_cases c:b<a
       .rw[bY c,bY c];exact .inl ⟨rfl,rfl⟩
       .rw[bN c,bN c];exact .inr ⟨(a,b),D,E,rfl,rfl,l.1,MI l.2.1,MI l.2.2⟩
def oY(w:aB aX):aR (BT dD):=
 if w=[116,114,117,101]then some (mk 116 ByteArray.empty 0 0 .nil .nil)
 else if 8<w.length then none
 else some (mk 97 ⟨w.toArray⟩ 0 0 .nil .nil)
theorem Xe(t):lF t=oY t.word.data.toList:=by
 let a:t.word.size=t.word.data.toList.length:=by rw[yB];rfl
 unfold lF oY;by_cases h:t.word=Fh
 .rw[bY h,bY (by rw[h];rfl)]
 .let b:¬t.word.data.toList=[116,114,117,101]:=λe=>h (my (by rw[e];rfl));rw[bN h,bN b,a]
def singleR(f:aB aX->aR (BT dD×aB aX))(op:Int)(u:aB aX):aR (BT dD×aB aX):=
 match dT op u with
 |none=>none
 |some ((a,b),c)=>match f c with
  |none=>none
  |some (p,d)=>some (mk op ByteArray.empty a b p .nil,d)
def wk(f:aB aX->aR (BT dD×aB aX))(u:aB aX):aR (BT dD×aB aX):=
 match f u with
 |none=>none
 |some (p,g)=>match cB g with
  |[]=>none
  |k::e=>
   if k=38\/k=124\/k=83 then
    match dT (aM (k.toNat:Int)) e with
    |none=>none
    |some ((a,b),h)=>match f h with
     |none=>none
     |some (q,c)=>match dH 41 c with
      |none=>none
      |some d=>some (mk (aM (k.toNat:Int)) ByteArray.empty a b p q,d)
   else none
def jY:Nat->aB aX->aR (BT dD×aB aX)
 |0,_=>none
 |n+1,u=>match cB u with
  |[]=>none
  |c::r=>
   if aM (c.toNat:Int)=97 then(oY (iD 97 (c::r))).map λx=>(x,jX 97 (c::r))
   else if c=40 then wk (jY n) r
   else if c=33\/c=89\/c=79\/c=72 then singleR (jY n) (aM (c.toNat:Int)) r
   else none
def VD(x:aR (BT dD×aB aX))(y:aR (BT dD×aB Tok))(A:aB Tok)(u:aB aX)(e:Tok):Prop:=
 (x=none/\y=none)\/∃z r a,x=some (z,r)/\y=some (z,a++[e])/\MS A a u r
theorem L_{k:aX}(b:k.toNat<128):(aM (k.toNat:Int)=8743\/aM (k.toNat:Int)=8744\/aM (k.toNat:Int)=83)↔(k=38\/k=124\/k=83):=by
 let a:∀n:Nat,n<128->((aM (n:Int)=8743\/aM (n:Int)=8744\/aM (n:Int)=83)↔(n=38\/n=124\/n=83)):=aG;rw[a k.toNat b,<-sQ,<-sQ,<-sQ];exact Iff.rfl
theorem sign_one{k:aX}(b:k.toNat<128):(aM (k.toNat:Int)=172\/aM (k.toNat:Int)=89\/aM (k.toNat:Int)=79\/aM (k.toNat:Int)=72)↔(k=33\/k=89\/k=79\/k=72):=by
 let a:∀n:Nat,n<128->((aM (n:Int)=172\/aM (n:Int)=89\/aM (n:Int)=79\/aM (n:Int)=72)↔(n=33\/n=89\/n=79\/n=72)):=aG;rw[a k.toNat b,<-sQ,<-sQ,<-sQ,<-sQ];exact Iff.rfl
theorem H'{k:aX}(b:k.toNat<128):aM (k.toNat:Int)=40↔k=40:=by
 let a:∀n:Nat,n<128->(aM (n:Int)=40↔n=40):=aG;rw[a k.toNat b,<-sQ];exact Iff.rfl
theorem yh{A u}(h:mJ A u){e}(k:e.sign=-1):
  (cB u=[]/\bL (A++[e])=(e,[e]))\/∃c r t b,cB u=c::r/\c.toNat<128/\A=t::b/\bL (A++[e])=(t,b++[e])/\t.sign=aM (c.toNat:Int)/\(c::r).length<=u.length/\
   ((cT (aM (c.toNat:Int))=true/\t.word.data.toList=iD (aM (c.toNat:Int)) (c::r)/\mJ b (jX (aM (c.toNat:Int)) (c::r)))\/(cT (aM (c.toNat:Int))=false/\mJ b r)):=by
 let⟨h1,h2,h3⟩:=yu h;cases i:cB u with
 |nil=>
  rw[i]at h1;obtain rfl:=Bh h1;exact .inl ⟨rfl,Fb k⟩
 |cons d r=>
  rw[i]at h1 h3;let f:=h1.2.2.1;cases a:cT (aM (d.toNat:Int))with
  |true=>
   obtain⟨t,b,rfl,g,l,j,_⟩:=uv (aM (d.toNat:Int)) h1 rfl a;exact .inr ⟨d,r,t,b,rfl,f,rfl,mh g,g,h3,.inl ⟨a,l,j⟩⟩
  |false=>
   obtain⟨t,b,rfl,g,j⟩:=yt h1 (h2 d r i) a;exact .inr ⟨d,r,t,b,rfl,f,rfl,mh g,g,h3,.inr ⟨a,j⟩⟩
def Alike(f:aB aX->aR (BT dD×aB aX))(g:aB Tok->aR (BT dD×aB Tok))(n m:Nat)(e:Tok):Prop:=
 ∀(B:aB Tok)(v:aB aX),mJ B v->v.length<n->B.length<m->VD (f v) (g (B++[e])) B v e
theorem JG{f g n m e}(k:e.sign=-1)(s:Alike f g n m e)(op){A u}(h:mJ A u)(t:u.length<n)(x:A.length<m):
  VD (singleR f op u) (kt g op (A++[e])) A u e:=by
 unfold singleR kt;obtain⟨x1,c⟩|⟨⟨a,b⟩,q,l,x1,c,j,v,w⟩:=Al h k op
 .rw[x1,c];exact .inl ⟨rfl,rfl⟩
 .rw[x1,c];simp only;obtain⟨x2,i⟩|⟨p,o,r,x2,i,d⟩:=s l q j aA aA
  .rw[x2,i];exact .inl ⟨rfl,rfl⟩
  .rw[x2,i];exact .inr ⟨_,o,r,rfl,rfl,d.1,by have:=d.2.1;omega,by have:=d.2.2;omega⟩
theorem N_{f g n m e}(i:e.sign=-1)(I:Alike f g n m e){A u}(h:mJ A u)(L:u.length<n)(Q:A.length<m):
  VD (wk f u) (qT g (A++[e])) A u e:=by
 unfold wk qT;obtain⟨x1,w⟩|⟨p,r1,X,x1,w,z⟩:=I A u h L Q
 .rw[x1,w];exact .inl ⟨rfl,rfl⟩
 .rw[x1,w];simp only;let T:=z.2.1;let Y:=z.2.2;obtain⟨B,y⟩|⟨k,O,t,S,B,G,rfl,y,J,d,l⟩:=yh z.1 i
  .rw[B,y];simp only;rw[bN (by rw[i];decide)];exact .inl ⟨rfl,rfl⟩
  .rw[B,y];simp only;rw[J];by_cases c:k=38\/k=124\/k=83
   .rw[bY c,bY ((L_ G).2 c)];let j:mJ S O:=by
     obtain⟨P,_⟩|⟨_,j⟩:=l
     .exfalso
      obtain rfl|rfl|rfl:=c<;>exact absurd P aG
     .exact j
    simp only[ic]at T d;rcases Al j i (aM (k.toNat:Int))with⟨x3,o⟩|⟨⟨a,b⟩,M,K,x3,o,R,W,k3⟩
    .rw[x3,o];exact .inl ⟨rfl,rfl⟩
    .rw[x3,o];simp only;obtain⟨C,E⟩|⟨q,r4,V,C,E,F⟩:=I K M R aA aA
     .rw[C,E];exact .inl ⟨rfl,rfl⟩
     .rw[C,E];simp only;let n3:=F.2.1;let Z:=F.2.2;let r:aM ((41:aX).toNat:Int)=41:=aG;let H:=o_ F.1 i 41 aF;rw[r]at H;obtain⟨D,v⟩|⟨N,U,D,v,s⟩:=H
      .rw[D,v];exact .inl ⟨rfl,rfl⟩
      .rw[D,v];exact .inr ⟨_,N,U,rfl,rfl,s.1,by have:=s.2.1;omega,by have:=s.2.2;omega⟩
   .rw[bN c,bN λx=>c ((L_ G).1 x)];exact .inl ⟨rfl,rfl⟩
theorem OS{e}(j:e.sign=-1):∀n m,Alike (jY n) (l_ m) n m e:=by
 intro n
 induction n with
 |zero=>intro m B v _ H _;exact absurd H (Ao _)
 |succ n D=>
  intro m A u h J I;obtain⟨m,rfl⟩:∃k,m=k+1:=⟨m-1,aA⟩;show VD (jY (n+1) u) (oV (l_ m) (A++[e])) A u e;unfold oV;obtain⟨y,s⟩|⟨c,r,t,F,y,p,rfl,s,G,o,d⟩:=yh h j
  .simp only[jY];rw[y,s];simp only;rw[bN (by rw[j];decide),bN (by rw[j];decide),bN (by rw[j];decide)];exact .inl ⟨rfl,rfl⟩
  .simp only[jY];rw[y,s];simp only;rw[G];simp only[ic]at I o;by_cases a:aM (c.toNat:Int)=97
   .rw[bY a,bY a];obtain⟨_,C,E⟩|⟨i,_⟩:=d
    .rw[a]at C E;rw[Xe t,C];cases oY (iD 97 (c::r))with
     |none=>exact .inl ⟨rfl,rfl⟩
     |some x=>exact .inr ⟨x,_,F,rfl,rfl,E,aF,by have:=LW (r:=r) a;simp only[ic]at this;omega⟩
    .rw[a]at i;exact absurd i aG
   .rw[bN a,bN a];by_cases b:c=40
    .rw[bY b,bY ((H' p).2 b)];obtain⟨i,_⟩|⟨_,q⟩:=d
     .rw[b]at i;exact absurd i aG
     .obtain⟨x1,f⟩|⟨x,z,w,x1,f,g⟩:=N_ j (D m) q aA aA
      .rw[x1,f];exact .inl ⟨rfl,rfl⟩
      .rw[x1,f];exact .inr ⟨x,z,w,rfl,rfl,g.1,by have:=g.2.1;simp;omega,by have:=g.2.2;omega⟩
    .rw[bN b,bN λx=>b ((H' p).1 x)];by_cases l:c=33\/c=89\/c=79\/c=72
     .rw[bY l,bY ((sign_one p).2 l)];obtain⟨i,_⟩|⟨_,q⟩:=d
      .exfalso
       obtain rfl|rfl|rfl|rfl:=l<;>exact absurd i aG
      .rcases JG j (D m) (aM (c.toNat:Int)) q aA aA with⟨x1,f⟩|⟨x,z,w,x1,f,g⟩
       .rw[x1,f];exact .inl ⟨rfl,rfl⟩
       .rw[x1,f];exact .inr ⟨x,z,w,rfl,rfl,g.1,by have:=g.2.1;simp;omega,by have:=g.2.2;omega⟩
     .rw[bN l,bN λx=>l ((sign_one p).1 x)];exact .inl ⟨rfl,rfl⟩
theorem NB.snoc:∀{u:aB aX}{c:aX},NB u->c.toNat<128->(c=32->u.getLast?≠some 32)->NB (u++[c])
 |[],c,_,h,_=>⟨λ_ e=>(by cases e),h,trivial⟩
 |[d],c,a,h,b=>⟨λg i=>(by
   exact b (by simpa using i) (by rw[g];rfl)),a.2.1,λ_ e=>(by cases e),h,trivial⟩
 |d::f::u,c,a,h,b=>⟨a.1,a.2.1,NB.snoc (u:=f::u) a.2.2 h λe=>by have:=b e;simpa[List.getLast?_cons_cons]using this⟩
theorem NB.blank{a}(h:NB a):NB (DO a):=by
 unfold DO;split
 .rename_i b;exact h.snoc aG λ_=>b.2
 .exact h
theorem LH{c}(h:t_ c=true):c<128:=by
 unfold t_ at h;simp at h;omega
theorem Y5(s):∀f i (a u),NB a->im s f i a=some u->NB u:=by
 intro f
 induction f with
 |zero=>
  intro i a u h e;simp only[im]at e;injection e with e;subst e;exact h
 |succ f b=>
  intro i a u h e;simp only[im]at e;split at e
  .split at e
   .exact b _ _ _ (h.snoc aG λe=>absurd e aG) e
   .split at e
    .exact b _ _ _ (h.snoc aG λe=>absurd e aG) e
    .split at e
     .exact b _ _ _ (h.snoc aG λe=>absurd e aG) e
     .split at e
      .exact b _ _ _ h.blank e
      .rename_i c;split at e
       .rename_i d;refine b _ _ _ (h.snoc (LH d) λg=>absurd ?_ c) e;unfold gB;rw[g];rfl
       .cases e
  .injection e with e;subst e;exact h
def LO(s:a_):aR (BT dD)×Int:=
 match im s s.size 0 []with
 |none=>(none,1)
 |some u=>if 300<s.size then(none,1)
  else match jY (u.length+1) u with
   |none=>(none,1)
   |some (x,r)=>if cB r=[]then(if 12<bD x then(none,2)else(some x,0))else(none,1)
theorem Du(s):LO s=cW s:=by
 unfold LO cW;by_cases b:300<s.size
 .rw[bY b];cases im s s.size 0 []with
  |none=>rfl
  |some u=>simp only;rw[bY b]
 .rw[bN b];obtain⟨j,a⟩|⟨A,u,j,a,o⟩:=U7 s s.size 0 32 [] [] (λh=>absurd h aG) rfl rfl
  .rw[j,a]
  .rw[j,a];simp only;rw[bN b];let e:(kY s).sign=-1:=rfl;obtain⟨x1,f⟩|⟨x,r,l,x1,f,k⟩:=OS e (u.length+1) (A++[kY s]).length A u ⟨o,Y5 s _ _ [] u (show NB []from trivial) a⟩ aA aF
   .rw[x1,f]
   .rw[x1,f];simp only;obtain⟨d,i⟩|⟨c,p,t,m,d,q,rfl,i,n,_,_⟩:=yh k.1 e
    .let g:cU (-1) (l++[kY s])=some [kY s]:=by unfold cU;rw[i,bY e]
     rw[bY d,g]
    .let g:cU (-1) (t::m++[kY s])=none:=by unfold cU;rw[i,bN (n▸Bt _)]
     rw[g,d];rfl
end
section
open Tryz Go.RowKit Go.Deep
def iI(b:Nat)(w:aC)(s:a_)(i:Nat)(a:Bool):Prop:=w.heap[b]?=some (.cells #[.string s,Iv i,.bool a] 304 (0,0))
def wz(s:a_)(i:Nat):Nat:=if i<s.size/\gB s i=32 then i+1 else i
theorem Bs{w}{b i j:Nat}{s a}(h:iI b w s i a):iI b (w.setCell (Ad b 1) (Iv j)) s j a:=by
 unfold iI at*;simp[World.setCell,uy,h]
theorem ng{w a i s c b}(h:iI a w s i c):iI a (w.setCell (Ad a 2) (.bool b)) s i b:=by
 unfold iI at*;simp[World.setCell,uy,h]
theorem Bo(a i s b w)(h:iI a w s i b)(k:s.size<=1000000):
  Calls prog 180 #[Pt a] w λe g=>e=.returned (.tuple #[])/\Only a w g/\iI a g s (wz s i) b:=by
 unfold wz;let m:w.cell? (Ad a 0)=some (.string s):=aD h rfl;let n:w.cell? (Ad a 1)=some (Iv i):=aD h rfl;let c2:w.cell? (Ad a 2)=some (.bool b):=aD h rfl;let l:=cK h 1;by_cases d:i<s.size
 .let f:gB s i=(s[i]'d).toNat:=by unfold gB;rw[rY d]
  by_cases c:gB s i=32
  .rw[bY ⟨d,c⟩];let j:(((s[i]'d).toNat:Int)==32)=true:=by rw[<-f,c];rfl
   go_enter func180,ntmps180;go_wp2
   go_region
   go_wp2
   go_end0
   exact⟨rfl,(Only.refl _ _).drew.setCell (p:=(Ad a 1)) (.inl rfl) _,Bs (show iI a w.drew s i b from h)⟩
  .rw[bN λx=>c x.2];let j:(((s[i]'d).toNat:Int)==32)=false:=by
    rw[<-f];simp only[rG];omega
   go_enter func180,ntmps180;go_wp2
   go_region
   go_wp2
   go_end0
   exact⟨rfl,(Only.refl _ _).drew,h⟩
 .rw[bN λx=>d x.1];go_enter func180,ntmps180;go_wp2
  go_region
  go_wp2
  go_end0
  exact⟨rfl,(Only.refl _ _).drew,h⟩
def At(s:a_)(i:Nat)(u:aB aX):Prop:=s.data.toList.drop i=u
theorem fT(s:a_):s.data.toList.length=s.size:=by rw[yB];rfl
theorem At.cons{s i c r}(h:At s i (c::r)):∃a:i<s.size,s[i]'a=c/\At s (i+1) r:=by
 unfold At at*;let a:i<s.data.toList.length:=by
  obtain b|b:=BI i s.data.toList.length
  .exact b
  .rw[ux b]at h;cases h
 rw[pw a]at h;injection h with h1 h2;exact⟨by rw[<-fT];exact a,by rw[<-h1];rfl,h2⟩
theorem At.nil{s i}(h:At s i []):¬i<s.size:=by
 unfold At at h;rw[<-fT];intro a;rw[pw a]at h;cases h
theorem At.skip{s}{i}{u}(h:At s i u):At s (wz s i) (cB u):=by
 unfold wz;cases u with
 |nil=>rw[bN λx=>h.nil x.1];exact h
 |cons c r=>
  let⟨hl,hc,ht⟩:=h.cons;let e:gB s i=c.toNat:=by unfold gB;rw[rY hl,hc]
  by_cases a:c=32
  .rw[bY ⟨hl,by rw[e,a];rfl⟩];have:cB (c::r)=r:=bY a;rw[this];exact ht
  .have:cB (c::r)=c::r:=bN a;rw[this,bN]
   .exact h
   .rintro⟨_,b⟩;rw[e]at b;exact a (sQ.1 b)
theorem E6{s i}(h:i<=s.size):wz s i<=s.size:=by
 unfold wz;split
 .omega
 .exact h
def iM(a:Bool):aB aX->Int
 |[]=>0
 |c::_=>if a then 0 else(c.toNat:Int)
theorem kg(b i s a u w)(h:iI b w s i a)(x:s.size<=1000000)(hi:i<=s.size)(t:At s i u):
  Calls prog 198 #[Pt b] w λe o=>Only b w o/\e=.returned (.int .u8 (iM a (cB u)))/\∃j,j<=s.size/\At s j (cB u)/\iI b o s j a:=by
 have m:=Bo b i s a w h x;have f:=t.skip;have l:=E6 hi;generalize wz s i=j at*;generalize cB u=v at*;go_enter func198,ntmps198;go_wp2_with fail;refine m.m λg ⟨n,d⟩=>?_;have A:g.cell? (Ad b 0)=some (.string s):=aD d rfl;have z:g.cell? (Ad b 1)=some (Iv j):=aD d rfl;have c2:g.cell? (Ad b 2)=some (.bool a):=aD d rfl;have y:Hid (iM a v=iM a v):=rfl;cases v with
 |nil=>
  have q:=f.nil;have k:((s.size:Int)<=(j:Int)):=aA;go_wp2
  go_region
  go_wp2;go_ret;exact⟨n.drew,rfl,j,l,f,d⟩
 |cons c r=>
  have⟨q,hc,ht⟩:=f.cons;have k:decide (s.size<=j)=false:=bI;have p:¬s.size<=j:=aA;cases a with
  |true=>
   go_wp2
   go_region
   go_wp2;go_ret;exact⟨n.drew,rfl,j,l,f,d⟩
  |false=>
   go_wp2
   go_region
   go_wp2
   go_region
   go_wp2;go_ret;exact⟨n.drew.drew,iH rfl,j,l,f,d⟩
def VK(s:a_)(c:Nat)(b:Bool)(res:aR (aB aX))(d:aC):Prop:=
 ∃j a,j<=s.size/\iI c d s j a/\((b=false/\a=false/\∃t,res=some t/\At s j t)\/(a=true/\(b=true\/res=none)))
theorem D_{c u}(h:cB u=[]):dH c u=none:=by unfold dH;rw[h]
theorem vo{c d u r}(h:cB u=d::r):dH c u=if d=c then some r else none:=by unfold dH;rw[h]
theorem sx(b i s a u c w)(h:iI b w s i a)(G:s.size<=1000000)(hi:i<=s.size)(E:At s i u)(t:c≠0):
  Calls prog 200 #[Pt b,.int .u8 (c.toNat:Int)] w λe C=>Only b w C/\e=.returned (.tuple #[])/\VK s b a (dH c u) C:=by
 have g:=kg b i s a u w h G hi E;have H:c.toNat≠0:=λe=>t (sQ.1 e);have y:Hid ((∀d r,cB u=d::r->d=c->dH c u=some r)/\(∀d r,cB u=d::r->d≠c->dH c u=none)/\(cB u=[]->dH c u=none)):=
  ⟨λd r x q=>by rw[vo x,bY q],λd r x q=>by rw[vo x,bN q],D_⟩
 have N:Hid (iM a (cB u)=iM a (cB u)):=rfl;generalize dH c u=res at*;by_cases f:iM a (cB u)=(c.toNat:Int)
 .have l:a=false/\∃r,cB u=c::r:=by
   cases m:cB u with
   |nil=>rw[m]at f;exact absurd f.symm (by simp only[iM];omega)
   |cons d r=>
    rw[m]at f;cases a with
    |true=>exact absurd f.symm (by simp only[iM,fB];omega)
    |false=>
     have M:(d.toNat:Int)=(c.toNat:Int):=f;have:d=c:=sQ.1 aA;exact⟨rfl,r,by rw[this]⟩
  obtain⟨rfl,r,A⟩:=l;rw[f]at g;rw[A]at g;go_enter func200,ntmps200;go_wp2_with fail;apply g.mono;rintro e o ⟨v,rfl,j,D,z,k⟩;have⟨hl,hc,ht⟩:=z.cons;have K:o.cell? (Ad b 1)=some (Iv j):=aD k rfl;have L:=cK k 1;go_wp2
  go_end0
  exact⟨v.setCell (p:=(Ad b 1)) (.inl rfl) _,rfl,j+1,false,hl,Bs k,.inl ⟨rfl,rfl,r,y.out.1 c r A rfl,ht⟩⟩
 .have n:Hid (a=true\/res=none):=by
   cases I:a with
   |true=>exact .inl rfl
   |false=>
    refine .inr ?_;subst I;cases m:cB u with
    |nil=>exact y.out.2.2 m
    |cons d r=>
     rw[m]at f;exact y.out.2.1 d r m λe=>f (by rw[e];rfl)
  have F:(iM a (cB u)!=(c.toNat:Int))=true:=by simp[f]
  have B:0<=iM a (cB u)/\iM a (cB u)<256:=by
   cases cB u with
   |nil=>simp[iM]
   |cons d r=>
    have:=Ar d;simp only[iM];split
    .omega
    .omega
  generalize iM a (cB u)=lv at*;go_enter func200,ntmps200;go_wp2_with fail;apply g.mono;rintro e o ⟨v,rfl,j,D,z,k⟩;have c2:o.cell? (Ad b 2)=some (.bool a):=aD k rfl;have J:=cK k 2;go_wp2
  (try simp only[Exit.inBlock,Exit.then])
  apply wI (results_none rfl _ _ _) rfl;exact⟨v.setCell (p:=(Ad b 2)) (.inl rfl) _,rfl,j,true,D,ng k,.inr ⟨rfl,n.out⟩⟩
end
end Go.Proofs.YtpbbmagjhkakgaaGreatDoor
