import Derived.Test.YtpbbmagjhkakgaaGreatDoorA3
import Derived.Test.YtpbbmagjhkakgaaGreatDoorA4
namespace Go.Proofs.YtpbbmagjhkakgaaGreatDoor
set_option maxHeartbeats 4000000
set_option maxRecDepth 100000
def Gn(s:aZ)(pos:Nat)(a:aB Tok):aB Tok:=
 match a.getLast? with
 |some t=>a.dropLast++[⟨t.sign,t.place,s.extract t.place.toNat (pos+1)⟩]
 |none=>a
theorem pY(s pos a t):Gn s pos (a++[t])=a++[⟨t.sign,t.place,s.extract t.place.toNat (pos+1)⟩]:=by
 simp[Gn]
def kT(s:aZ):Tok:=⟨-1,s.size,ByteArray.empty⟩
def eA(s:aZ):Nat->Nat->Int->aB Tok->aQ (aB Tok)
 |0,_,_,kX=>some (kX++[kT s])
 |b+1,pos,last,kX=>
  if pos<s.size then
   if aK (Utf8.decode s pos).1=-2 then none
   else if aK (Utf8.decode s pos).1=last/\cS (aK (Utf8.decode s pos).1)=true then
    eA s b (pos+(Utf8.decode s pos).2) (aK (Utf8.decode s pos).1) (Gn s pos kX)
   else if aK (Utf8.decode s pos).1=32 then eA s b (pos+(Utf8.decode s pos).2) (aK (Utf8.decode s pos).1) kX
   else eA s b (pos+(Utf8.decode s pos).2) (aK (Utf8.decode s pos).1) (kX++[⟨aK (Utf8.decode s pos).1,pos,Utf8.encode (Utf8.decode s pos).1⟩])
  else some (kX++[kT s])
theorem r_(s b pos last a)(h:¬pos<s.size):eA s b pos last a=some (a++[kT s]):=by
 cases b with
 |zero=>rfl
 |succ b=>simp[eA,h]
structure JG(pos:Nat)(last:Int)(kX:aB Tok):Prop where
 each:∀t,t∈kX->t.sign≠-1/\t.word.size<=300/\0<=t.place/\t.place<=pos
 len:kX.length<=pos
 join:cS last=true->kX≠[]
theorem JG.start:JG 0 32 []:=⟨aE,aE,by intro h;exact absurd h aG⟩
theorem JG.ends{pos last a}(h:JG pos last a)(s):Ends (a++[kT s]):=
 ⟨a,kT s,rfl,rfl,by show ByteArray.empty.size<=300;decide,λt b=>⟨(h.each t b).1,(h.each t b).2.1⟩⟩
theorem P8(r):(Utf8.encode r).size<=4:=by
 unfold Utf8.encode;simp only
 repeat' split
 all_goals simp[ByteArray.size]
theorem JG.blank{pos p2 last a}(h:JG pos last a)(c:pos<=p2):JG p2 32 a:=
 ⟨λt b=>by have:=h.each t b;exact⟨this.1,this.2.1,this.2.2.1,aA⟩,by have:=h.len;omega,by intro h;exact absurd h aG⟩
theorem JG.more{pos d last c r a}(h:JG pos last a)(f:pos<d)(e:c≠-1):JG d c (a++[⟨c,pos,Utf8.encode r⟩]):=by
 refine⟨?_,by have:=h.len;simp;omega,aE⟩;intro t b;obtain b|b:=i_.1 b
 .have:=h.each t b;exact⟨this.1,this.2.1,this.2.2.1,aA⟩
 .simp at b;subst b;have:=P8 r;exact⟨e,by show(Utf8.encode r).size<=300;omega,by show(0:Int)<=pos;omega,by show(pos:Int)<=d;omega⟩
theorem JG.grow{pos b last d c t}{s:aZ}(h:JG pos last (c++[t]))(f:pos<b)(e:s.size<=300):
  JG b d (c++[⟨t.sign,t.place,s.extract t.place.toNat (pos+1)⟩]):=by
 refine⟨?_,by have:=h.len;simp at this⊢;omega,aE⟩;intro x a;obtain a|a:=i_.1 a
 .have:=h.each x (by simp[a]);exact⟨this.1,this.2.1,this.2.2.1,aA⟩
 .simp at a;subst a;have:=h.each t aE;refine⟨this.1,?_,this.2.2.1,by have:=this.2.2.2;show t.place<=(b:Int);omega⟩;show(s.extract t.place.toNat (pos+1)).size<=300;rw[ByteArray.size_extract];omega
theorem ED(r):aK r≠-1\/aK r=-2:=by
 unfold aK
 repeat' split
 all_goals omega
theorem Bc(s pos)(h:pos<s.size):1<=(Utf8.decode s pos).2:=by
 by_cases a:(s[pos]'h).toNat<128
 .rw[decode_ascii s pos h a];exact aX
 .exact(decode_high s pos h aA).2
theorem UL(s pos):(Utf8.decode s pos).2<=4:=by
 unfold Utf8.decode;simp only
 repeat' split
 all_goals simp
section
open Go.Deep (BT)
def bC:BT c_->Nat
 |.nil=>0
 |.node _ _ _ l r=>1+max (bC l) (bC r)
def bD:BT c_->Int
 |.nil=>0
 |.node _ _ a l r=>a.hi+max (bD l) (bD r)
def JN:BT c_->Prop
 |.nil=>True
 |.node _ _ a l r=>(0<=a.lo/\a.lo<=a.hi/\a.hi<=1000000)/\JN l/\JN r
theorem kO:∀{x:BT c_},JN x->0<=bD x/\bD x<=1000000*bC x
 |.nil,_=>by simp[bD,bC]
 |.node _ _ a l r,⟨h,b,c⟩=>by
  let e:=kO b
  let d:=kO c
  simp only[bD,bC]
  omega
def Ie(n:Nat)(f:aB Tok->aQ (BT c_×aB Tok)):Prop:=∀a x r,f a=some (x,r)->bC x<=n
theorem Jg{n f}(i:Ie n f):Ie (n+1) (oK f):=by
 intro e x r h;unfold oK at h;split at h
 .cases hw:lu (bL e).1 with
  |none=>simp[hw]at h
  |some y=>
   simp[hw]at h;obtain⟨rfl,_⟩:=h;unfold lu at hw;split at hw
   .injection hw with hw;subst hw;simp[mk,bC]
   .split at hw
    .cases hw
    .injection hw with hw;subst hw;simp[mk,bC]
 .split at h
  .unfold qH at h;cases d:f (bL e).2 with
   |none=>simp[d]at h
   |some y=>
    let⟨p,t1⟩:=y;let k:=i _ _ _ d;simp only[d]at h;split at h
    .cases c:dZ (bL t1).1.sign (bL t1).2 with
     |none=>simp[c]at h
     |some y=>
      let⟨⟨a,b⟩,t2⟩:=y;simp only[c]at h;cases g:f t2 with
      |none=>simp[g]at h
      |some z=>
       let⟨q,t3⟩:=z;let m:=i _ _ _ g;simp only[g]at h;cases j:cT 41 t3 with
       |none=>simp[j]at h
       |some l=>
        simp only[j]at h;injection h with h;injection h with h _;subst h;simp only[mk,bC];omega
    .cases h
  .split at h
   .unfold kp at h;cases d:dZ (bL e).1.sign (bL e).2 with
    |none=>simp[d]at h
    |some y=>
     let⟨⟨a,b⟩,t1⟩:=y;simp only[d]at h;cases c:f t1 with
     |none=>simp[c]at h
     |some z=>
      let⟨p,t2⟩:=z;let k:=i _ _ _ c;simp only[c]at h;injection h with h;injection h with h _;subst h;simp only[mk,bC];omega
   .cases h
theorem xl:∀n,Ie n (lS n)
 |0=>λ_ _ _ h=>by cases h
 |n+1=>Jg (xl n)
def cV(s:aZ):aQ (BT c_)×Int:=
 if 300<s.size then(none,1)
 else match eA s s.size 0 32 []with
  |none=>(none,1)
  |some a=>match lS a.length a with
   |none=>(none,1)
   |some (x,r)=>match cT (-1) r with
    |none=>(none,1)
    |some _=>if 12<bC x then(none,2)else(some x,0)
def dO(r:Int):aB aV:=if r=172 then[194,172]else if r=8743 then[226,136,167]else if r=8744 then[226,136,168]else if r=89 then[89]else if r=79 then[79]else if r=72 then[72]else[83]
def mQ(r:Int):Prop:=r=172\/r=8743\/r=8744\/r=89\/r=79\/r=72\/r=83
def uz(a:c_):aB aV:=if lY a.op then dO a.op++[91]++Lib.itoa a.lo++[44]++Lib.itoa a.hi++[93]else dO a.op
def bF:BT c_->aB aV
 |.nil=>[]
 |.node _ _ a l r=>
  if a.op=116 then[116,114,117,101]
  else if a.op=97 then a.name.data.toList
  else if a.op=8743\/a.op=8744\/a.op=83 then[40]++bF l++[32]++uz a++[32]++bF r++[41]
  else uz a++bF l
def Good:BT c_->Prop
 |.nil=>False
 |.node _ _ a l r=>
  (a.op=116/\a.name=ByteArray.empty/\a.lo=0/\a.hi=0/\l=.nil/\r=.nil)
  \/(a.op=97/\(1<=a.name.size/\a.name.size<=8/\a.name≠ET/\∀c,c∈a.name.data.toList->97<=c.toNat/\c.toNat<=122)/\a.lo=0/\a.hi=0/\l=.nil/\r=.nil)
  \/((a.op=8743\/a.op=8744\/a.op=83)/\a.name=ByteArray.empty/\(0<=a.lo/\a.lo<=a.hi/\a.hi<=1000000)/\(lY a.op=false->a.lo=0/\a.hi=0)/\Good l/\Good r)
  \/((a.op=172\/a.op=89\/a.op=79\/a.op=72)/\a.name=ByteArray.empty/\(0<=a.lo/\a.lo<=a.hi/\a.hi<=1000000)/\(lY a.op=false->a.lo=0/\a.hi=0)/\Good l/\r=.nil)
theorem Good.win:∀{x:BT c_},Good x->JN x
 |.node _ _ a l r,h=>by
  obtain⟨_,_,b,d,rfl,rfl⟩|⟨_,_,b,d,rfl,rfl⟩|⟨_,_,b,_,c,e⟩|⟨_,_,b,_,c,rfl⟩:=h
  .exact⟨aA,trivial,trivial⟩
  .exact⟨aA,trivial,trivial⟩
  .exact⟨b,c.win,e.win⟩
  .exact⟨b,c.win,trivial⟩
theorem xP(r):(dO r).length<=3:=by
 unfold dO
 repeat' split
 all_goals decide
def eD:BT c_->BT c_
 |.nil=>.nil
 |.node b o a l r=>if a.op=172 then l else mk 172 ByteArray.empty 0 0 (.node b o a l r) .nil
def aN:BT c_->BT c_
 |.nil=>.nil
 |.node b o a l r=>
  if a.op=116\/a.op=97 then .node b o a l r
  else if a.op=172 then eD (aN l)
  else if a.op=8744 then eD (mk 8743 ByteArray.empty 0 0 (eD (aN l)) (eD (aN r)))
  else if a.op=72 then eD (mk 79 ByteArray.empty a.lo a.hi (eD (aN l)) .nil)
  else if a.op=89\/a.op=79 then mk a.op ByteArray.empty a.lo a.hi (aN l) .nil
  else mk a.op ByteArray.empty a.lo a.hi (aN l) (aN r)
theorem Good.ne:∀{x:BT c_},Good x->x≠.nil
 |.nil,h=>h.elim
 |.node _ _ _ _ _,_=>by intro h;cases h
theorem iw{x}(h:Good x):Good (eD x):=by
 cases x with
 |nil=>exact h
 |node b o a l r=>
  show Good (if a.op=172 then l else mk 172 ByteArray.empty 0 0 (BT.node b o a l r) .nil);by_cases c:a.op=172
  .rw[bY c];obtain⟨d,_⟩|⟨d,_⟩|⟨d,_⟩|⟨_,_,_,_,e,_⟩:=h
   .omega
   .omega
   .omega
   .exact e
  .rw[bN c];exact .inr (.inr (.inr ⟨.inl rfl,rfl,aE,λ_=>⟨rfl,rfl⟩,h,rfl⟩))
theorem dK:∀{x:BT c_},Good x->Good (aN x)
 |.nil,h=>h
 |.node b o a l r,h=>by
  let h':=h
  unfold aN
  obtain⟨c,_⟩|⟨c,_⟩|⟨c,m,f,i,g,n⟩|⟨c,m,f,i,g,p⟩:=h
  .rw[bY (.inl c)];exact h'
  .rw[bY (.inr c)];exact h'
  .let d:=dK g
   let j:=dK n
   rw[bN aA,bN aA]
   by_cases e:a.op=8744
   .rw[bY e]
    exact iw (.inr (.inr (.inl ⟨.inl rfl,rfl,aE,λ_=>⟨rfl,rfl⟩,iw d,iw j⟩)))
   .rw[bN e,bN aA,bN aA]
    exact .inr (.inr (.inl ⟨c,rfl,f,i,d,j⟩))
  .let d:=dK g
   rw[bN aA]
   by_cases e:a.op=172
   .rw[bY e];exact iw d
   .rw[bN e,bN aA]
    by_cases k:a.op=72
    .rw[bY k]
     exact iw (.inr (.inr (.inr ⟨.inr (.inr (.inl rfl)),rfl,f,λh=>absurd (show lY 79=false from h) aG,iw d,rfl⟩)))
    .rw[bN k,bY aA]
     exact .inr (.inr (.inr ⟨c,rfl,f,i,d,rfl⟩))
end
def nu(c:aV):Prop:=48<=c.toNat/\c.toNat<=57
theorem rA(n)(h:n<10):(UInt8.ofNat (48+n)).toNat=48+n:=by
 rw[Hr];omega
theorem ME(u):Lib.decDigits u≠[]:=by
 let h:=Lib.decDigits_length u;let p:=Lib.nDigits_pos u;intro e;rw[e]at h;simp at h;omega
theorem OI(u):∀c,c∈Lib.decDigits u->nu c:=by
 induction u using Nat.strongRecOn with
 |_ u b=>
  intro c a;rw[Lib.decDigits]at a;by_cases h:u<10
  .rw[dif_pos h]at a;rw[sA]at a;subst a;unfold nu;rw[rA u h];omega
  .rw[dif_neg h]at a;obtain a|a:=i_.1 a
   .exact b (u/10) aA c a
   .rw[sA]at a;subst a;unfold nu;rw[rA (u%10) aA];omega
theorem I8(l m):∀b,∀a,Lib.parseUint10 b l=.ok a->Lib.parseUint10 b (l++m)=Lib.parseUint10 a m:=by
 induction l with
 |nil=>intro b a h;simp only[Lib.parseUint10]at h;injection h with h;subst h;rfl
 |cons c l g=>
  intro b a h;simp only[Lib.parseUint10,mz]at h⊢;split at h
  .split at h
   .cases h
   .split at h
    .cases h
    .rename_i f d e;rw[bY f,bN d,bN e];exact g _ _ h
  .cases h
theorem QH(u)(b:u<=1000000000):Lib.parseUint10 0 (Lib.decDigits u)=.ok u:=by
 induction u using Nat.strongRecOn with
 |_ u a=>
  rw[Lib.decDigits];by_cases h:u<10
  .rw[dif_pos h];simp only[Lib.parseUint10,(rA u h)];rw[bY aA,bN aA,bN aA];congr 1;omega
  .rw[dif_neg h,I8 _ _ _ _ (a (u/10) aA aA)];simp only[Lib.parseUint10,(rA (u%10) aA)];rw[bY aA,bN aA,bN aA];congr 1;omega
theorem Su(u)(f:1<=u):(Lib.decDigits u).headD 0≠48:=by
 induction u using Nat.strongRecOn with
 |_ u d=>
  rw[Lib.decDigits];by_cases h:u<10
  .rw[dif_pos h];intro e;let c:=og UInt8.toNat e;simp only[List.headD_cons]at c;rw[rA u h]at c;have:(48:aV).toNat=48:=rfl;omega
  .rw[dif_neg h];have:=d (u/10) aA aA;cases b:Lib.decDigits (u/10)with
   |nil=>exact absurd b (ME (u/10))
   |cons a l=>rw[b]at this;simpa using this
theorem uI{l:aB aV}(a:l≠[])(d:∀c,c∈l->nu c):Lib.atoiAll l=match Lib.parseUint10 0 l with
  |.ok u=>if 9223372036854775808<=u then .range else .ok (u:Int)
  |x=>(match x with|.ok _=>.range|.range=>.range|_=>Lib.atoiAll []):=by
 cases l with
 |nil=>exact absurd rfl a
 |cons c r=>
  let e:=d c aE;unfold nu at e;unfold Lib.atoiAll;simp only;rw[bN aA];unfold Lib.parseMag;rw[bN aE];cases h:Lib.parseUint10 0 (c::r)with
  |ok u=>
   let b:¬c.toNat=45:=aA;simp only[b,not_false_eq_true,vW,false_and,fx]
  |_=>rfl
theorem JV{l}(b:l≠[])(d:∀c,c∈l->nu c){v}(h:Lib.atoiAll l=.ok v):0<=v:=by
 rw[uI b d]at h;cases a:Lib.parseUint10 0 l with
 |ok u=>
  rw[a]at h;simp only at h;split at h
  .cases h
  .injection h with h;omega
 |range=>rw[a]at h;cases h
 |_=>rw[a]at h;cases h
theorem Sm(u)(a:u<=1000000000):Lib.atoiAll (Lib.decDigits u)=.ok (u):=by
 rw[uI (ME u) (OI u),QH u a];simp only;rw[bN aA]
theorem C8(v)(h:0<=v):Lib.itoa v=Lib.decDigits v.toNat:=by unfold Lib.itoa;rw[bN aA]
theorem QF(v)(c:0<=v)(f:v<=1000000):wY ⟨(Lib.itoa v).toArray⟩=some v:=by
 rw[C8 v c];unfold wY;rw[bN,Sm v.toNat aA]
 .let e:((v.toNat:Nat):Int)=v:=by omega
  rw[e];show(if 1000000<v then none else some v)=some v;rw[bN aA]
 .rintro⟨a,d⟩;by_cases b:v.toNat<10
  .rw[Lib.decDigits,dif_pos b]at a;simp[ByteArray.size]at a
  .exact Su v.toNat aA d
section
open Go.Deep (BT)
def isLet(c:aV):Prop:=97<=c.toNat/\c.toNat<=122
def l_(t:Tok):Prop:=
 (t.sign=97->t.word.data.toList≠[]/\∀c,c∈t.word.data.toList->isLet c)/\(t.sign=48->t.word.data.toList≠[]/\∀c,c∈t.word.data.toList->nu c)
theorem l_.take{a}(d:Ends a)(h:∀t,t∈a->l_ t):l_ (bL a).1/\∀t,t∈(bL a).2->l_ t:=by
 obtain⟨t,r,rfl⟩:=d.cons;by_cases b:t.sign=-1
 .let e:bL (t::r)=(t,t::r):=by simp[bL,b]
  rw[e];exact⟨h t aE,h⟩
 .let e:bL (t::r)=(t,r):=by simp[bL,b]
  rw[e];exact⟨h t aE,λx c=>h x (sw _ c)⟩
theorem wE{b r s}(c:Ends b)(h:∀t,t∈b->l_ t)(a:cT s b=some r):∀t,t∈r->l_ t:=by
 unfold cT at a;split at a
 .injection a with a;subst a;exact(l_.take c h).2
 .cases a
theorem TH{c r v}(f:Ends c)(h:∀t,t∈c->l_ t)(b:qt c=some (v,r)):(0<=v/\v<=1000000)/\∀t,t∈r->l_ t:=by
 unfold qt at b;split at b
 .rename_i g;let e:=l_.take f h;let⟨hne,hd⟩:=e.1.2 g;cases a:wY (bL c).1.word with
  |none=>simp[a]at b
  |some x=>
   simp[a]at b;obtain⟨rfl,rfl⟩:=b;refine⟨?_,e.2⟩;unfold wY at a;split at a
   .cases a
   .cases d:Lib.atoiAll (bL c).1.word.data.toList with
    |ok u=>
     rw[d]at a;let Yu:(if 1000000<u then none else some u)=some x:=a;split at Yu
     .cases Yu
     .injection Yu with Yu;subst Yu;exact⟨JV hne hd d,aA⟩
    |_=>rw[d]at a;cases a
 .cases b
theorem GD{e r op a b}(k:Ends e)(h:∀t,t∈e->l_ t)(c:dZ op e=some ((a,b),r)):(0<=a/\a<=b/\b<=1000000)/\(lY op=false->a=0/\b=0)/\∀t,t∈r->l_ t:=by
 unfold dZ at c;split at c
 .rename_i hw;cases g:cT 91 e with
  |none=>simp[g]at c
  |some w=>
   let m:=(k.expect g).1;let q:=wE k h g;simp only[g]at c;cases d:qt w with
   |none=>simp[d]at c
   |some x=>
    let⟨a',t2⟩:=x;let l:=(m.num d).1;let A:=TH m q d;simp only[d]at c;cases i:cT 44 t2 with
    |none=>simp[i]at c
    |some v=>
     let n:=(l.expect i).1;let u:=wE l A.2 i;simp only[i]at c;cases f:qt v with
     |none=>simp[f]at c
     |some y=>
      let⟨b',t4⟩:=y;let z:=(n.num f).1;let s:=TH n u f;simp only[f]at c;cases j:cT 93 t4 with
      |none=>simp[j]at c
      |some B=>
       let p:=wE z s.2 j;simp only[j]at c;split at c
       .cases c
       .injection c with c;injection c with Qi Vw;injection Qi with Qi hx3;subst Qi;subst Vw;subst hx3;exact⟨aA,(λo=>by rw[hw]at o;cases o),p⟩
 .injection c with c;injection c with Qi Vw;injection Qi with Qi hx3;subst Qi;subst Vw;subst hx3;exact⟨aA,λ_=>⟨rfl,rfl⟩,h⟩
def RV(f:aB Tok->aQ (BT c_×aB Tok)):Prop:=∀a x r,Ends a->(∀t,t∈a->l_ t)->f a=some (x,r)->Good x/\∀t,t∈r->l_ t
theorem MV{f}(w:xc f)(v:RV f):RV (oK f):=by
 intro d x r s h c;let l:=s.take;let n:=l_.take s h;let B:=s.word;unfold oK at c;split at c
 .rename_i A;cases hw:lu (bL d).1 with
  |none=>simp[hw]at c
  |some y=>
   simp[hw]at c;obtain⟨rfl,rfl⟩:=c;refine⟨?_,n.2⟩;unfold lu at hw;split at hw
   .injection hw with hw;subst hw;exact .inl ⟨rfl,rfl,rfl,rfl,rfl,rfl⟩
   .rename_i o;split at hw
    .cases hw
    .rename_i D;injection hw with hw;subst hw;let⟨hne,hl⟩:=n.1.1 A;refine .inr (.inl ⟨rfl,⟨?_,by show(bL d).1.word.size<=8;omega,o,hl⟩,rfl,rfl,rfl,rfl⟩);show 1<=(bL d).1.word.size;have:(bL d).1.word.data.toList.length≠0:=by intro e;exact hne (ur.1 e)
     let u:(bL d).1.word.size=(bL d).1.word.data.toList.length:=by show(bL d).1.word.data.size=_;rw[yl]
     omega
 .split at c
  .unfold qH at c;cases g:f (bL d).2 with
   |none=>simp[g]at c
   |some y=>
    let⟨p,t1⟩:=y;let⟨e1,_⟩:=w _ _ _ l.1 g;let⟨g1,o1⟩:=v _ _ _ l.1 n.2 g;simp only[g]at c;split at c
    .rename_i j;let k:=e1.take;cases i:dZ (bL t1).1.sign (bL t1).2 with
     |none=>simp[i]at c
     |some y=>
      let⟨⟨a,b⟩,t2⟩:=y;let u:=(k.1.Bd i).1;let⟨w1,w2,o2⟩:=GD k.1 (l_.take e1 o1).2 i;simp only[i]at c;cases m:f t2 with
      |none=>simp[m]at c
      |some z=>
       let⟨q,t3⟩:=z;let⟨e3,_⟩:=w _ _ _ u m;let⟨g3,o3⟩:=v _ _ _ u o2 m;simp only[m]at c;cases t:cT 41 t3 with
       |none=>simp[t]at c
       |some C=>
        simp only[t]at c;injection c with c;injection c with Qi Vw;subst Qi;subst Vw;exact⟨.inr (.inr (.inl ⟨j,rfl,w1,w2,g1,g3⟩)),wE e3 o3 t⟩
    .cases c
  .split at c
   .rename_i j;unfold kp at c;cases g:dZ (bL d).1.sign (bL d).2 with
    |none=>simp[g]at c
    |some y=>
     let⟨⟨a,b⟩,t1⟩:=y;let⟨w1,w2,o1⟩:=GD l.1 n.2 g;simp only[g]at c;cases i:f t1 with
     |none=>simp[i]at c
     |some z=>
      let⟨p,t2⟩:=z;let⟨g2,o2⟩:=v _ _ _ ((l.1.Bd g).1) o1 i;simp only[i]at c;injection c with c;injection c with Qi Vw;subst Qi;subst Vw;exact⟨.inr (.inr (.inr ⟨j,rfl,w1,w2,g2,rfl⟩)),o2⟩
   .cases c
theorem BD:∀n,RV (lS n)
 |0=>λ_ _ _ _ _ h=>by cases h
 |n+1=>MV (qD n) (BD n)
end
theorem vP{r}(h:aK r=97):97<=r/\r<=122:=by
 unfold aK at h
 repeat' split at h
 all_goals omega
theorem se{r}(h:aK r=48):48<=r/\r<=57:=by
 unfold aK at h
 repeat' split at h
 all_goals omega
theorem sN(s pos)(h:pos<s.size)(b:(Utf8.decode s pos).1<128):(Utf8.decode s pos).2=1/\(s[pos]'h).toNat=(Utf8.decode s pos).1:=by
 by_cases a:(s[pos]'h).toNat<128
 .rw[decode_ascii s pos h a];exact⟨rfl,rfl⟩
 .have:=(decode_high s pos h aA).1;omega
theorem mH(r)(c:0<=r)(b:r<128):(Utf8.encode r).data.toList=[UInt8.ofNat r.toNat]:=by
 let a:Utf8.valid r=true:=by unfold Utf8.valid;simp;omega
 unfold Utf8.encode;simp only[a,fA];rw[bY aA]
theorem take_one(s:aZ)(p pos)(h:pos<s.size)(c:p<=pos):(s.data.toList.drop p).take (pos+1-p)=(s.data.toList.drop p).take (pos-p)++[s[pos]'h]:=by
 let e:pos+1-p=(pos-p)+1:=aA;let a:pos-p<(s.data.toList.drop p).length:=by
  rw[nQ,yl];have:s.data.size=s.size:=rfl;omega
 rw[e,List.take_succ_eq_append_getElem a];congr 2;rw[List.getElem_drop];let b:p+(pos-p)=pos:=aA;simp only[b];rfl
def U6(s:aZ)(pos:Nat)(last:Int)(a:aB Tok):Prop:=
 (∀t,t∈a->l_ t)/\(cS last=true->∃(b:aB Tok)(t:Tok)(p:Nat),a=b++[t]/\t.sign=last/\t.place=(p:Int)/\p<pos/\t.word.data.toList=(s.data.toList.drop p).take (pos-p))
theorem mj{a}(h:cS a=true):a=97\/a=48:=by
 unfold cS at h;simp at h;exact h
theorem J3{c r}(h:(c.toNat:Int)=r)(a:97<=r/\r<=122):isLet c:=by unfold isLet;omega
theorem Du{c r}(h:(c.toNat:Int)=r)(a:48<=r/\r<=57):nu c:=by unfold nu;omega
theorem Wc(s):∀b pos (last) (a A),U6 s pos last a->eA s b pos last a=some A->∀t,t∈A->l_ t:=by
 intro b;let l:∀a:aB Tok,(∀t,t∈a->l_ t)->∀t,t∈a++[kT s]->l_ t:=by
  intro a h t v;obtain v|v:=i_.1 v
  .exact h t v
  .rw[sA]at v;subst v;exact⟨λh=>absurd (show(-1:Int)=97 from h) aG,λh=>absurd (show(-1:Int)=48 from h) aG⟩
 induction b with
 |zero=>
  intro pos last a A k h;simp only[eA]at h;injection h with h;subst h;exact l a k.1
 |succ b D=>
  intro pos last a A k h;by_cases j:pos<s.size
  .rw[eA,bY j]at h;by_cases F:aK (Utf8.decode s pos).1=-2
   .rw[bY F]at h;cases h
   .rw[bN F]at h;by_cases E:aK (Utf8.decode s pos).1=last/\cS (aK (Utf8.decode s pos).1)=true
    .rw[bY E]at h;let⟨hl,i⟩:=E;obtain⟨B,t,p,rfl,n,y,G,z⟩:=k.2 (hl▸i);let C:(97<=((Utf8.decode s pos).1:Int)/\((Utf8.decode s pos).1:Int)<=122)\/(48<=((Utf8.decode s pos).1:Int)/\((Utf8.decode s pos).1:Int)<=57):=by
      obtain e|e:=mj i
      .exact .inl (vP e)
      .exact .inr (se e)
     let⟨hw,w⟩:=sN s pos j aA;rw[pY]at h;let f:(s.extract t.place.toNat (pos+1)).data.toList=t.word.data.toList++[s[pos]'j]:=by
      rw[Lib.extract_data,y,Int.toNat_natCast,take_one s p pos j aA,z]
     let m:=k.1 t aE;refine D _ _ _ _ ⟨?_,?_⟩ h
     .intro x g;obtain g|g:=i_.1 g
      .exact k.1 x (by simp[g])
      .rw[sA]at g;subst g;refine⟨λu=>?_,λu=>?_⟩
       .let xf:=u;show(s.extract t.place.toNat (pos+1)).data.toList≠[]/\∀c,c∈(s.extract t.place.toNat (pos+1)).data.toList->isLet c;rw[f];refine⟨aE,?_⟩;intro c d;obtain d|d:=i_.1 d
        .exact(m.1 xf).2 c d
        .rw[sA]at d;subst d;exact J3 (r:=(Utf8.decode s pos).1) aA (vP (r:=(Utf8.decode s pos).1) (by rw[hl,<-n];exact xf))
       .let xf:=u;show(s.extract t.place.toNat (pos+1)).data.toList≠[]/\∀c,c∈(s.extract t.place.toNat (pos+1)).data.toList->nu c;rw[f];refine⟨aE,?_⟩;intro c d;obtain d|d:=i_.1 d
        .exact(m.2 xf).2 c d
        .rw[sA]at d;subst d;exact Du (r:=(Utf8.decode s pos).1) aA (se (r:=(Utf8.decode s pos).1) (by rw[hl,<-n];exact xf))
     .intro _;refine⟨B,_,p,rfl,by rw[hl];exact n,y,aA,?_⟩;show(s.extract t.place.toNat (pos+1)).data.toList=_;rw[f,hw,take_one s p pos j aA,z]
    .rw[bN E]at h;by_cases q:aK (Utf8.decode s pos).1=32
     .rw[bY q]at h;exact D _ _ _ _ ⟨k.1,λw=>by rw[q]at w;exact absurd w aG⟩ h
     .rw[bN q]at h;refine D _ _ _ _ ⟨?_,?_⟩ h
      .intro x g;rcases i_.1 g with g|g
       .exact k.1 x g
       .rw[sA]at g;subst g;refine⟨λu=>?_,λu=>?_⟩
        .let o:=vP (r:=(Utf8.decode s pos).1) u;dsimp only;rw[mH _ aA aA];refine⟨aE,?_⟩;intro c d;rw[sA]at d;subst d;refine J3 (r:=(Utf8.decode s pos).1) ?_ o;rw[Hr];omega
        .let o:=se (r:=(Utf8.decode s pos).1) u;dsimp only;rw[mH _ aA aA];refine⟨aE,?_⟩;intro c d;rw[sA]at d;subst d;refine Du (r:=(Utf8.decode s pos).1) ?_ o;rw[Hr];omega
      .intro i;let C:0<=((Utf8.decode s pos).1:Int)/\((Utf8.decode s pos).1:Int)<128:=by
        obtain e|e:=mj i
        .have:=vP e;omega
        .have:=se e;omega
       let⟨hw,w⟩:=sN s pos j aA;refine⟨a,_,pos,rfl,rfl,rfl,aA,?_⟩;dsimp only;rw[mH _ C.1 C.2,hw];rw[(take_one s pos pos j aX)];simp;rw[<-w];simp
  .rw[r_ s _ pos last a j]at h;injection h with h;subst h;exact l a k.1
theorem U6.start(s):U6 s 0 32 []:=⟨aE,λh=>absurd h aG⟩
theorem NP{s x n}(h:cV s=(some x,n))(e:∀a,eA s s.size 0 32 []=some a->Ends a):Good x:=by
 unfold cV at h;split at h
 .simp at h
 .cases b:eA s s.size 0 32 []with
  |none=>simp[b]at h
  |some a=>
   simp only[b]at h;cases c:lS a.length a with
   |none=>simp[c]at h
   |some y=>
    let⟨z,r⟩:=y;simp only[c]at h;cases d:cT (-1) r with
    |none=>simp[d]at h
    |some f=>
     simp only[d]at h;split at h
     .simp at h
     .simp at h;obtain⟨rfl,_⟩:=h;exact(BD _ _ _ _ (e a b) (Wc s _ _ _ _ _ (U6.start s) b) c).1
section
open Go.Deep (BT)
def strip(t:Tok):Int×aB aV:=(t.sign,t.word.data.toList)
def Rk(a:c_):aB (Int×aB aV):=if lY a.op then[(91,[91]),(48,Lib.itoa a.lo),(44,[44]),(48,Lib.itoa a.hi),(93,[93])]else[]
def tk:BT c_->aB (Int×aB aV)
 |.nil=>[]
 |.node _ _ a l r=>
  if a.op=116 then[(97,[116,114,117,101])]
  else if a.op=97 then[(97,a.name.data.toList)]
  else if a.op=8743\/a.op=8744\/a.op=83 then(40,[40])::(tk l++((a.op,dO a.op)::(Rk a++(tk r++[(41,[41])]))))
  else(a.op,dO a.op)::(Rk a++tk l)
theorem YH{s:aZ}{pos c l}(h:s.data.toList.drop pos=c::l):∃b:pos<s.size,s[pos]'b=c:=by
 let a:(s.data.toList.drop pos)[0]?=some c:=by rw[h];rfl
 rw[uw]at a;simp only[E8]at a;rw[e_]at a;let⟨hl,he⟩:=a;exact⟨by rw[yl]at hl;exact hl,he⟩
theorem at_next{s:aZ}{pos m l}(h:s.data.toList.drop pos=m++l):s.data.toList.drop (pos+m.length)=l:=by
 rw[<-List.drop_drop,h];simp
theorem jb{s pos c l}(h:s.data.toList.drop pos=c::l)(a:c.toNat<128):pos<s.size/\Utf8.decode s pos=(c.toNat,1):=by
 let⟨hp,he⟩:=YH h;exact⟨hp,by rw[decode_ascii s pos hp (he▸a),he]⟩
theorem qY{s:aZ}{pos k c l}(h:s.data.toList.drop pos=l)(b:l[k]?=some c):pos+k<s.size/\s.get! (pos+k)=c:=by
 rw[<-h,uw,e_]at b;let⟨hl,he⟩:=b;let a:pos+k<s.data.size:=by rw[yl]at hl;exact hl
 refine⟨a,?_⟩;show s.data[pos+k]! =c;rw[getElem!_pos s.data (pos+k) a,<-he];simp
theorem Sv{s pos op l}(e:mQ op)(h:s.data.toList.drop pos=dO op++l):pos<s.size/\Utf8.decode s pos=(op.toNat,(dO op).length):=by
 obtain rfl|rfl|rfl|rfl|rfl|rfl|rfl:=e
 .let h':s.data.toList.drop pos=194::172::l:=h;let b:=qY (k:=0) h' rfl;let a:=qY (k:=1) h' rfl;refine⟨by have:=b.1;omega,?_⟩;let d:s.get! pos=194:=b.2;unfold Utf8.decode;simp[d,a.2,a.1];decide
 .let h':s.data.toList.drop pos=226::136::167::l:=h;let b:=qY (k:=0) h' rfl;let a:=qY (k:=1) h' rfl;let c:=qY (k:=2) h' rfl;refine⟨by have:=b.1;omega,?_⟩;let d:s.get! pos=226:=b.2;unfold Utf8.decode;simp[d,a.2,a.1,c.1,c.2];decide
 .let h':s.data.toList.drop pos=226::136::168::l:=h;let b:=qY (k:=0) h' rfl;let a:=qY (k:=1) h' rfl;let c:=qY (k:=2) h' rfl;refine⟨by have:=b.1;omega,?_⟩;let d:s.get! pos=226:=b.2;unfold Utf8.decode;simp[d,a.2,a.1,c.1,c.2];decide
 .exact jb (show s.data.toList.drop pos=89::l from h) aG
 .exact jb (show s.data.toList.drop pos=79::l from h) aG
 .exact jb (show s.data.toList.drop pos=72::l from h) aG
 .exact jb (show s.data.toList.drop pos=83::l from h) aG
def Cu(s:aZ)(pos:Nat)(last:Int)(l:aB aV)(n:Nat)(c:Int)(T:aB (Int×aB aV)):Prop:=
 ∀(b:Nat)(a:aB Tok),∃A:aB Tok,A.map strip=T/\eA s (b+n) pos last a=eA s b (pos+l.length) c (a++A)
theorem Cu.trans{s pos a b c l m n k T U}(h:Cu s pos a l n b T)(g:Cu s (pos+l.length) b m k c U):Cu s pos a (l++m) (k+n) c (T++U):=by
 intro q d;let⟨A,hA,e1⟩:=h (q+k) d;let⟨B,hB,e2⟩:=g q (d++A);refine⟨A++B,by rw[l8,hA,hB],?_⟩;rw[<-qw,e1,e2,kt,nc,qw]
theorem DI{s pos}(last){l}(h:s.data.toList.drop pos=32::l):Cu s pos last [32] 1 32 []:=by
 let⟨hp,hd⟩:=jb h aG;intro b a;refine⟨[],rfl,?_⟩;rw[eA,bY hp,hd];let e:aK ((32:aV).toNat:Nat)=32:=aG;dsimp only;rw[e,bN aG,bN (by intro h;exact absurd h.2 aG),bY rfl];simp
theorem Gj{s pos r}(last){m}(e:pos<s.size)(f:Utf8.decode s pos=(r,m.length))(d:aK r≠-2)(i:cS (aK r)=false)(a:aK r≠32)(g:(Utf8.encode r).data.toList=m):
  Cu s pos last m 1 (aK r) [(aK r,m)]:=by
 intro b c;refine⟨[⟨aK r,pos,Utf8.encode r⟩],by simp only[gW,sD,strip];rw[g],?_⟩;rw[eA,bY e,f];dsimp only;rw[bN d,bN (by intro h;rw[i]at h;exact absurd h.2 aG),bN a]
theorem OO{s pos op}(last){l}(a:mQ op)(h:s.data.toList.drop pos=dO op++l):Cu s pos last (dO op) 1 op [(op,dO op)]:=by
 let⟨hp,hd⟩:=Sv a h;let b:aK (op.toNat:Nat)=op:=by rcases a with rfl|rfl|rfl|rfl|rfl|rfl|rfl<;>decide
 have:=Gj (s:=s) (pos:=pos) (r:=op.toNat) last (m:=dO op) hp hd (by rw[b];rcases a with rfl|rfl|rfl|rfl|rfl|rfl|rfl<;>decide) (by rw[b];rcases a with rfl|rfl|rfl|rfl|rfl|rfl|rfl<;>decide) (by rw[b];rcases a with rfl|rfl|rfl|rfl|rfl|rfl|rfl<;>decide) (by rcases a with rfl|rfl|rfl|rfl|rfl|rfl|rfl<;>decide);rw[b]at this;exact this
theorem rC{s pos}(c last){l}(a:c=40\/c=41\/c=91\/c=93\/c=44)(h:s.data.toList.drop pos=c::l):Cu s pos last [c] 1 c.toNat [((c.toNat:Int),[c])]:=by
 obtain⟨d,e⟩:=jb h (by rcases a with rfl|rfl|rfl|rfl|rfl<;>decide);let b:aK (c.toNat:Nat)=(c.toNat:Int):=by rcases a with rfl|rfl|rfl|rfl|rfl<;>decide
 have:=Gj (s:=s) (pos:=pos) (r:=c.toNat) last (m:=[c]) d e (by rw[b];rcases a with rfl|rfl|rfl|rfl|rfl<;>decide) (by rw[b];rcases a with rfl|rfl|rfl|rfl|rfl<;>decide) (by rw[b];rcases a with rfl|rfl|rfl|rfl|rfl<;>decide) (by rcases a with rfl|rfl|rfl|rfl|rfl<;>decide);rw[b]at this;exact this
theorem Um{s f}(k:cS f=true):∀l (pos p rest b a) (i),s.data.toList.drop pos=l++rest->(∀c,c∈l->c.toNat<128/\aK (c.toNat:Nat)=f)->p<=pos->i.data.toList=(s.data.toList.drop p).take (pos-p)->
  ∃d,d.data.toList=(s.data.toList.drop p).take (pos+l.length-p)/\eA s (b+l.length) pos f (a++[⟨f,p,i⟩])=eA s b (pos+l.length) f (a++[⟨f,p,d⟩]):=by
 intro l
 induction l with
 |nil=>intro pos p rest b a i _ _ _ hw;exact⟨i,by simpa using hw,aE⟩
 |cons c l r=>
  intro pos p rest b a i h j t hw;let g:=j c aE;let⟨M6,hd⟩:=jb (show s.data.toList.drop pos=c::(l++rest)from h) g.1;let⟨d,e1,e2⟩:=r (pos+1) p rest b a (s.extract p (pos+1)) (at_next (m:=[c]) h) (λx n=>j x (by simp[n])) aA (Lib.extract_data s p (pos+1));refine⟨d,by rw[e1];congr 1;simp;omega,?_⟩;let o:b+(c::l).length=(b+l.length)+1:=bI;rw[o,eA,bY M6,hd];dsimp only;rw[g.2,bN (by rcases mj k with e|e<;>rw[e]<;>decide),bY ⟨rfl,k⟩,pY];dsimp only;let q:pos+1+l.length=pos+(c::l).length:=bI;rw[Int.toNat_natCast,e2,q]
theorem DJ{s a}(j:cS a=true){l rest pos last}(i:l≠[])(h:s.data.toList.drop pos=l++rest)(k:∀c,c∈l->c.toNat<128/\aK (c.toNat:Nat)=a)(o:last≠a):Cu s pos last l l.length a [(a,l)]:=by
 intro b f;cases l with
 |nil=>exact absurd rfl i
 |cons c l=>
  let d:=k c aE;let⟨M6,hd⟩:=jb (show s.data.toList.drop pos=c::(l++rest)from h) d.1;let g:(Utf8.encode (c.toNat:Nat)).data.toList=[c]:=by
   rw[mH _ aA aA];simp
  let hw:(Utf8.encode (c.toNat:Nat)).data.toList=(s.data.toList.drop pos).take (pos+1-pos):=by
   rw[g,h];have:pos+1-pos=1:=aA;rw[this];rfl
  let⟨wd',e1,e2⟩:=Um j l (pos+1) pos rest b f (Utf8.encode (c.toNat:Nat)) (at_next (m:=[c]) h) (λx n=>k x (by simp[n])) aA hw;refine⟨[⟨a,pos,wd'⟩],?_,?_⟩
  .simp only[gW,sD,strip];rw[e1,h];have:pos+1+l.length-pos=(c::l).length:=bI;rw[this,List.take_left'];rfl
  .let p:b+(c::l).length=(b+l.length)+1:=by simp;omega
   rw[p,eA,bY M6,hd];dsimp only;rw[d.2,bN (by rcases mj j with e|e<;>rw[e]<;>decide),bN (by intro h;exact o h.1.symm),bN (by rcases mj j with e|e<;>rw[e]<;>decide),e2];let q:pos+1+l.length=pos+(c::l).length:=bI;rw[q]
structure Key where
 op:Int
 name:aZ
 lo:Int
 hi:Int
 l:Int
 r:Int
def BK(k q:Key):Bool:=decide (k.op=q.op/\k.name=q.name/\k.lo=q.lo/\k.hi=q.hi/\k.l=q.l/\k.r=q.r)
theorem rM{k q}:BK k q=true↔k=q:=by
 unfold BK;rw[decide_eq_true_iff];constructor
 .rintro⟨f,a,e,c,d,b⟩;cases k;cases q;simp only at f a e c d b;subst f;subst a;subst e;subst c;subst d;subst b;rfl
 .rintro rfl;exact⟨rfl,rfl,rfl,rfl,rfl,rfl⟩
def q9(K:aB Key)(k:Key):aQ Nat:=K.findIdx? (BK k)
def Nq(K:aB Key)(k:Key):Int:=match q9 K k with|some i=>(i:Int)+1|none=>0
def rv(K:aB Key)(k:Key):Int×aB Key:=match q9 K k with|some i=>((i:Int)+1,K)|none=>((K.length:Int)+1,K++[k])
def cM(K:aB Key):BT c_->Int×aB Key
 |.nil=>(0,K)
 |.node _ _ a l r=>rv (cM (cM K l).2 r).2 ⟨a.op,a.name,a.lo,a.hi,(cM K l).1,(cM (cM K l).2 r).1⟩
def cF:BT c_->Nat
 |.nil=>0
 |.node _ _ _ l r=>cF l+cF r+1
theorem O5{K k i}(h:q9 K k=some i):i<K.length:=by
 unfold q9 at h;exact(RF.1 h).1
theorem R7(K k):K.length<=(rv K k).2.length/\(rv K k).2.length<=K.length+1:=by
 unfold rv;cases h:q9 K k with
 |some i=>simp
 |none=>simp
theorem R8(K k):1<=(rv K k).1/\(rv K k).1<=K.length+1:=by
 unfold rv;cases h:q9 K k with
 |some i=>have:=O5 h;simp;omega
 |none=>simp;omega
theorem n8:∀(x:BT c_)(K:aB Key),K.length<=(cM K x).2.length/\(cM K x).2.length<=K.length+cF x/\0<=(cM K x).1/\(cM K x).1<=K.length+cF x
 |.nil,K=>by simp[cM,cF]
 |.node _ _ a l r,K=>by
  let e:=n8 l K
  let b:=n8 r (cM K l).2
  let d:=R7 (cM (cM K l).2 r).2 ⟨a.op,a.name,a.lo,a.hi,(cM K l).1,(cM (cM K l).2 r).1⟩
  let c:=R8 (cM (cM K l).2 r).2 ⟨a.op,a.name,a.lo,a.hi,(cM K l).1,(cM (cM K l).2 r).1⟩
  simp only[cM,cF]
  omega
theorem vG(K k)(h:q9 K k=none):q9 (K++[k]) k=some K.length:=by
 unfold q9 at*;rw[List.findIdx?_append,h];simp[List.findIdx?_cons,rM.2 (rfl:k=k)]
theorem uk(K k q)(h:q≠k):q9 (K++[k]) q=q9 K q:=by
 unfold q9;rw[List.findIdx?_append];let b:BK q k=false:=by
  cases a:BK q k with
  |true=>exact absurd (rM.1 a) h
  |false=>rfl
 simp[List.findIdx?_cons,b]
end
section
open Tryz Go.RowKit
theorem F4(rest r w):
  Calls prog 152 #[.string rest,.int .i32 r] w λe a=>(∃s,e=.returned (.string s))/\a=w:=by
 by_cases b:r=65533
 .subst b;go_enter func152,ntmps152;go_wp2_with (go_at_call 185;refine(strings_HasPrefix _ _ _).mono ?_;rintro e a ⟨rfl,rfl⟩)
  all_goals go_ret
  all_goals exact⟨⟨_,rfl⟩,rfl⟩
 .let Zc:(r==65533)=false:=by simp[b]
  go_enter func152,ntmps152;go_wp2;go_ret;exact⟨⟨_,rfl⟩,rfl⟩
theorem O0:(prog.info? 260).map (λi=>(i.zero,i.size,i.bytes))=some (some (.agg #[.int .i32 0,Iv 0,.string ⟨#[]⟩]),3,32):=aM
theorem ud(w:aC)(t e):∀j u,(fB t)[j]?=some u->(w.alloc (.cells #[.int .i32 t.sign,Iv t.place,.string t.word] e)).cell? (((Ad w.heap.size 0):a_).add j)=some u:=by
 intro j u a;have:((Ad w.heap.size 0):a_).add j=(Ad w.heap.size j):=by simp[Addr.add];omega
 rw[this];exact aD (aP w (.cells #[.int .i32 t.sign,Iv t.place,.string t.word] e (0,0)) _ rfl) (by simpa[fB]using a)
theorem Pm(t):∀u,u∈fB t->u.oneCell'=true:=by
 intro u a;simp[fB]at a;obtain rfl|rfl|rfl:=a<;>rfl
theorem o_(a t):((a++[t]).map fB).flatten=(a.map fB).flatten++fB t:=aE
theorem eN(b:aB Tok):(b.map fB).flatten.length=b.length*3:=by
 induction b with
 |nil=>rfl
 |cons a l c=>simp only[gW,Cj,kt,c,hY];simp[fB];omega
theorem fO{w:aC}{base size n e v xs}(h:w.ownsRow base e size v n xs)(a:0<n):∃g cap,v=Sl g n cap/\base<=g/\g<w.heap.size/\n<=cap/\cap<=maxLen:=by
 obtain⟨_,⟨_,l⟩|⟨g,cap,f,c,b,i,a,d,j,k⟩⟩:=h
 .omega
 .exact⟨g,cap,c,b,aL i,a,d⟩
theorem Na{w W c:aC}{o s p n e size v xs}(b:W.heap[w.heap.size]?=some (.stringIter s p))(a:W.ownsRow (w.heap.size+1) e size v n xs)(d:(W.alloc o).grownBy c v.ownBlock):
  c.heap[w.heap.size]?=some (.stringIter s p):=by
 let f:=aL b;rw[d.block _ bI (λh=>by have:=(a.lt _ h.symm).1;omega),Lib.alloc_old W o _ f];exact b
theorem LM{base:Nat}{w:aC}{v:aF}{b:aB Tok}(h:w.ownsRow base 260 3 v b.length (b.map fB).flatten)(c:b≠[]):uF w.heap.size w v b:=by
 obtain⟨m,⟨_,k⟩|⟨g,cap,a,e,l,d,j,f,n,i⟩⟩:=h
 .exact absurd (ur.1 k) c
 .refine⟨g,0,cap,a,_,_,a.toList.drop (b.length*3),e,aL d,d,j,f,?_⟩;rw[<-i,vU,yg]
def U5(w:aC)(res:aQ (aB Tok))(e:Ending)(b:aC):Prop:=
 Bl w b/\((∃a v,res=some a/\e=.returned (.tuple #[v,.nilIface])/\uF b.heap.size b v a/\Ends a/\a.length<=305)
  \/(res=none/\∃c,e=.returned (.tuple #[.slice none 0 0,.iface 201 (.pointer (some c))])))
theorem zsa{T:bQ} (h:T:=by
 go_wp2_with (at_builtin;refine js _ rfl _ _ 204 rfl (w.heap.size+1) 260 i0 _ 3 32 underlying204 hi nk nt nH rfl (by decide) _ _ _ rfl (xe.alloc _) (Ad W.heap.size 0) 1 1 (fB ⟨sg,pos,Utf8.encode r⟩) rfl rfl ?c1 ?c2 ?c3 ?c4 ?c5 ?_)
 case c1=>exact ud W ⟨sg,pos,Utf8.encode r⟩ _
 case c2=>exact Pm _
 case c3=>unfold maxLen;omega
 case c4=>omega
 case c5=>have:=MX.size;have:=aL M5;simp;omega
 intro v' w2 OZ OY _;go_wp2_with fail;have S5:=Na M5 xe OY;refine⟨⟨pos+wid,f,sg,kX++[⟨sg,pos,Utf8.encode r⟩],S5,?_,rfl,?_,ZY,by omega,Kz.more (by omega) hs1,by omega⟩,?_⟩
 .rw[o_];simpa using OZ
 .exact(MX.al _).grown OY (by have:=MX.size;simp;omega) (λk hk=>by have:=(xe.lt k hk).1;omega)
 .rw[Ac S5,hm.out];omega):T:=h
theorem Ur(s w)(M:s.size<=300):
  Calls prog 113 #[.string s] w (U5 w (eA s s.size 0 32 [])):=by
 generalize u:eA s s.size 0 32 []=res;go_enter func113,ntmps113;go_wp2;go_loopw [4,5] (λv l wr=>∃(pos b:Nat)(last:Int)(kX:aB Tok),wr.heap[w.heap.size]?=some (.stringIter s pos)/\wr.ownsRow (w.heap.size+1) 260 3 v kX.length (kX.map fB).flatten/\l=.int .i32 last/\Bl w wr/\Hid (eA s b pos last kX=res)/\s.size<=pos+b/\JG pos last kX/\pos<=304) (λ_ _ wr=>s.size-wr.iterPos w.heap.size)
 case atStart=>
  exact⟨0,s.size,32,[],World.iter_heap w s 0,fF _ _ _ _,rfl,aT.al (.stringIter s 0),u,aA,JG.start,aA⟩
 case round=>
  obtain⟨pos,b,last,kX,h,c,rfl,m,x,I,Kz,F⟩:=hrel;have G:=Kz.len;by_cases y:pos<s.size
  .have D:∀n,(Instr.next (Pt w.heap.size) true n).run prog wr=_:=λn=>Lib.run_next_any_at wr w.heap.size s pos n h y;have J:=Bc s pos y;have H:=UL s pos;obtain⟨f,rfl⟩:∃f,b=f+1:=⟨b-1,aA⟩;have M5:=Lib.iterAt_heap wr w.heap.size s pos (pos+(Utf8.decode s pos).2) h;have MX:=Lib.below_iterAt m (k:=w.heap.size) aX s (pos+(Utf8.decode s pos).2);have xe:=ownsRow_iterAt c (k:=w.heap.size) aA s (pos+(Utf8.decode s pos).2);have C:Hid (res=(if aK (Utf8.decode s pos).1=-2 then none
    else if aK (Utf8.decode s pos).1=last/\cS (aK (Utf8.decode s pos).1)=true then
     eA s f (pos+(Utf8.decode s pos).2) (aK (Utf8.decode s pos).1) (Gn s pos kX)
    else if aK (Utf8.decode s pos).1=32 then eA s f (pos+(Utf8.decode s pos).2) (aK (Utf8.decode s pos).1) kX
    else eA s f (pos+(Utf8.decode s pos).2) (aK (Utf8.decode s pos).1) (kX++[⟨aK (Utf8.decode s pos).1,pos,Utf8.encode (Utf8.decode s pos).1⟩]))):=by
    show _=_;rw[<-x.out];show eA s (f+1) pos last kX=_;rw[eA,bY y]
   have hm:=hid (Ac h);have L:=ED (Utf8.decode s pos).1;go_wp2_with fail;apply(Oc _ _).mono;rintro e B ⟨rfl,rfl⟩;generalize wr.iterAt w.heap.size s (pos+(Utf8.decode s pos).2)=W at*;generalize((Utf8.decode s pos).1:Int)=r at*;generalize(Utf8.decode s pos).2=wid at*;generalize aK r=sg at*;by_cases o:sg=-2
   .have j:Hid (res=none):=by show _=_;rw[C.out,bY o]
    subst o;go_wp2_with fail;apply(F4 _ _ _).mono;rintro e B ⟨⟨str,rfl⟩,rfl⟩;go_wp2;go_ret2;exact⟨MX.al _,.inr ⟨j.out,_,rfl⟩⟩
   .have R:(sg==-2)=false:=by simp[o]
    have hs1:sg≠-1:=aA;by_cases A:sg=last/\cS sg=true
    .have j:Hid (res=eA s f (pos+wid) sg (Gn s pos kX)):=by show _=_;rw[C.out,bN o,bY A]
     have⟨q,hjb⟩:=A;subst q;obtain⟨d,t,rfl⟩:∃d t,kX=d++[t]:=⟨kX.dropLast,kX.getLast (Kz.join hjb),(List.dropLast_concat_getLast (Kz.join hjb)).symm⟩;rw[pY]at j;have⟨g,cap,hv,hg1,hg2,aaV,XO⟩:=fO xe aE;subst hv;simp only[kt,hY,jl,fC]at*;have cp:W.cell? (Ad g (d.length*3+1))=some (Iv t.place):=by
      rw[xe.cellAt _ aA,o_,sr (by rw[eN];omega),eN];simp[fB]
     have O:W.cell? (Ad g (d.length*3+2))=some (.string t.word):=by
      rw[xe.cellAt _ aA,o_,sr (by rw[eN];omega),eN];simp[fB]
     have P:W.frozen? (Ad g (d.length*3+2))=false:=xe.frozenAt _;have⟨_,_,Z7,hp1⟩:=Kz.each t aE;unfold maxLen at XO;go_wp2_with fail;apply(AX _ _).mono;rintro e B ⟨rfl,rfl⟩;go_wp2_with fail;have ZX:=hid j.out.symm;have S5:(B.setCell (Ad g (d.length*3+2)) (.string (s.extract t.place.toNat (pos+1)))).heap[w.heap.size]?=some (.stringIter s (pos+wid)):=by
      rw[mn _ _ _ _ (by show w.heap.size≠g;omega)];exact M5
     refine⟨⟨pos+wid,f,sg,d++[⟨t.sign,t.place,s.extract t.place.toNat (pos+1)⟩],S5,?_,rfl,?_,ZX,aA,Kz.grow aA M,aA⟩,?_⟩
     .have:=(xe.stored (d.length*3+2) (.string (s.extract t.place.toNat (pos+1)))).1;rw[o_]at this;rw[o_];rw[E5 _ _ (by rw[eN];omega),eN]at this;have K:d.length*3+2-d.length*3=2:=aA;rw[K]at this;simpa[fB]using this
     .exact MX.setCell (p:=(Ad g (d.length*3+2))) (by show w.heap.size<=g;omega) _
     .rw[Ac S5,hm.out];omega
    .have j:Hid (res=if sg=32 then eA s f (pos+wid) sg kX else eA s f (pos+wid) sg (kX++[⟨sg,pos,Utf8.encode r⟩])):=by show _=_;rw[C.out,bN o,bN A]
     have a:(sg==last)=false\/((sg==last)=true/\cS sg=false):=by
      by_cases q:sg=last
      .exact .inr ⟨by simp[q],by cases N:cS sg with|true=>exact absurd ⟨q,N⟩ A|false=>rfl⟩
      .exact .inl (by simp[q])
     have⟨i0,hi,nk,nt,nH⟩:=eB O0;by_cases i:sg=32
     .have ZY:Hid (eA s f (pos+wid) 32 kX=res):=by show _=_;rw[j.out,bY i,i]
      subst i;have z:=Kz.blank (p2:=pos+wid) aA;obtain a|⟨a,E⟩:=a
      .go_wp2_with fail;exact⟨⟨pos+wid,f,32,kX,M5,xe,rfl,MX,ZY,aA,z,aA⟩,by rw[Ac M5,hm.out];omega⟩
      .go_wp2_with fail;apply(AX _ _).m0;go_wp2_with fail;exact⟨⟨pos+wid,f,32,kX,M5,xe,rfl,MX,ZY,aA,z,aA⟩,by rw[Ac M5,hm.out];omega⟩
     .have ZY:Hid (eA s f (pos+wid) sg (kX++[⟨sg,pos,Utf8.encode r⟩])=res):=by show _=_;rw[j.out,bN i]
      have Q:(sg !=32)=true:=by simp[i]
      obtain a|⟨a,E⟩:=a
      .exact zsa
      .go_wp2_with fail;apply(AX _ _).m0;exact zsa
  .have D:∀n,(Instr.next (Pt w.heap.size) true n).run prog wr=_:=λn=>Lib.run_next_end_at wr w.heap.size s pos n h y;have j:Hid (res=some (kX++[kT s])):=by show _=_;rw[<-x.out,r_ s b pos last kX y]
   have⟨i0,hi,nk,nt,nH⟩:=eB O0;go_wp2_with (at_builtin;refine js _ rfl _ _ 204 rfl (w.heap.size+1) 260 i0 _ 3 32 underlying204 hi nk nt nH rfl aG _ _ _ rfl (c.alloc _) (Ad wr.heap.size 0) 1 1 (fB (kT s)) rfl rfl ?c1 ?c2 ?c3 ?c4 ?c5 ?_)
   case c1=>exact ud wr (kT s) _
   case c2=>exact Pm _
   case c3=>unfold maxLen;omega
   case c4=>omega
   case c5=>have:=aL h;simp;omega
   intro v' w2 OZ OY _;go_wp2;go_ret2;refine⟨?_,.inl ⟨_,_,j.out,rfl,LM (by rw[o_];simpa using OZ) aE,Kz.ends s,bI⟩⟩;exact(m.al _).grown OY (by have:=m.size;simp;omega) (λk hk=>by have:=(c.lt k hk).1;omega)
theorem Dl(B:Nat)(v:aF)(n:Nat)(xs:aB aF)(w:aC)(d:w.ownsRowF B 5 1 v n xs)(g:n+4<=140737488355328)(k:B<=w.heap.size):
  Calls prog 190 #[v,.int .i32 172] w λe i=>∃f,e=.returned f/\i.ownsRowF B 5 1 f (n+2) (xs++[.int .u8 194,.int .u8 172])/\∃o,(w.alloc o).grownBy i v.ownBlock:=by
 let⟨i0,hi,nk,nt,nH⟩:=eB tF;go_enter func190,ntmps190;go_wp2_with (first|go_in|(at_builtin;refine wpList_append_ownF _ rfl _ _ 99 rfl B 5 i0 (.int .u8 0) 1 1 underlying99 hi nk nt nH rfl aG _ _ _ rfl (d.alloc _) (Ad w.heap.size 0) 2 2 [.int .u8 194,.int .u8 172] rfl rfl ?c1 ?c2 ?c3 ?c4 ?c5 ?_))
 case c1=>
  intro j u a
  match j,a with
  |0,a=>simp at a;subst a;simp[Addr.add]
  |1,a=>simp at a;subst a;simp[Addr.add]
  |(j+2),a=>simp at a
 case c2=>intro u h;simp at h;rcases h with rfl|rfl<;>rfl
 case c3=>unfold maxLen;omega
 case c4=>omega
 case c5=>simp;omega
 intro f l b c _;go_wp2;go_ret;exact⟨_,rfl,b,_,c⟩
theorem Cx(B:Nat)(v:aF)(n:Nat)(xs:aB aF)(w:aC)(d:w.ownsRowF B 5 1 v n xs)(g:n+4<=140737488355328)(k:B<=w.heap.size):
  Calls prog 190 #[v,.int .i32 8743] w λe i=>∃f,e=.returned f/\i.ownsRowF B 5 1 f (n+3) (xs++[.int .u8 226,.int .u8 136,.int .u8 167])/\∃o,(w.alloc o).grownBy i v.ownBlock:=by
 let⟨i0,hi,nk,nt,nH⟩:=eB tF;go_enter func190,ntmps190;go_wp2_with (first|go_in|(at_builtin;refine wpList_append_ownF _ rfl _ _ 99 rfl B 5 i0 (.int .u8 0) 1 1 underlying99 hi nk nt nH rfl aG _ _ _ rfl (d.alloc _) (Ad w.heap.size 0) 3 3 [.int .u8 226,.int .u8 136,.int .u8 167] rfl rfl ?c1 ?c2 ?c3 ?c4 ?c5 ?_))
 case c1=>
  intro j u a
  match j,a with
  |0,a=>simp at a;subst a;simp[Addr.add]
  |1,a=>simp at a;subst a;simp[Addr.add]
  |2,a=>simp at a;subst a;simp[Addr.add]
  |(j+3),a=>simp at a
 case c2=>intro u h;simp at h;rcases h with rfl|rfl|rfl<;>rfl
 case c3=>unfold maxLen;omega
 case c4=>omega
 case c5=>simp;omega
 intro f l b c _;go_wp2;go_ret;exact⟨_,rfl,b,_,c⟩
theorem Cy(B:Nat)(v:aF)(n:Nat)(xs:aB aF)(w:aC)(d:w.ownsRowF B 5 1 v n xs)(g:n+4<=140737488355328)(k:B<=w.heap.size):
  Calls prog 190 #[v,.int .i32 8744] w λe i=>∃f,e=.returned f/\i.ownsRowF B 5 1 f (n+3) (xs++[.int .u8 226,.int .u8 136,.int .u8 168])/\∃o,(w.alloc o).grownBy i v.ownBlock:=by
 let⟨i0,hi,nk,nt,nH⟩:=eB tF;go_enter func190,ntmps190;go_wp2_with (first|go_in|(at_builtin;refine wpList_append_ownF _ rfl _ _ 99 rfl B 5 i0 (.int .u8 0) 1 1 underlying99 hi nk nt nH rfl aG _ _ _ rfl (d.alloc _) (Ad w.heap.size 0) 3 3 [.int .u8 226,.int .u8 136,.int .u8 168] rfl rfl ?c1 ?c2 ?c3 ?c4 ?c5 ?_))
 case c1=>
  intro j u a
  match j,a with
  |0,a=>simp at a;subst a;simp[Addr.add]
  |1,a=>simp at a;subst a;simp[Addr.add]
  |2,a=>simp at a;subst a;simp[Addr.add]
  |(j+3),a=>simp at a
 case c2=>intro u h;simp at h;rcases h with rfl|rfl|rfl<;>rfl
 case c3=>unfold maxLen;omega
 case c4=>omega
 case c5=>simp;omega
 intro f l b c _;go_wp2;go_ret;exact⟨_,rfl,b,_,c⟩
theorem Ft(B:Nat)(v:aF)(n:Nat)(xs:aB aF)(w:aC)(d:w.ownsRowF B 5 1 v n xs)(g:n+4<=140737488355328)(k:B<=w.heap.size):
  Calls prog 190 #[v,.int .i32 89] w λe i=>∃f,e=.returned f/\i.ownsRowF B 5 1 f (n+1) (xs++[.int .u8 89])/\∃o,(w.alloc o).grownBy i v.ownBlock:=by
 let⟨i0,hi,nk,nt,nH⟩:=eB tF;go_enter func190,ntmps190;go_wp2_with (first|go_in|(at_builtin;refine wpList_append_ownF _ rfl _ _ 99 rfl B 5 i0 (.int .u8 0) 1 1 underlying99 hi nk nt nH rfl aG _ _ _ rfl (d.alloc _) (Ad w.heap.size 0) 1 1 [.int .u8 89] rfl rfl ?c1 ?c2 ?c3 ?c4 ?c5 ?_))
 case c1=>
  intro j u c
  match j,c with
  |0,c=>simp at c;subst c;simp[Addr.add]
  |(j+1),c=>simp at c
 case c2=>intro u h;simp at h;subst h;rfl
 case c3=>unfold maxLen;omega
 case c4=>omega
 case c5=>simp;omega
 intro f l a b _;go_wp2;go_ret;exact⟨_,rfl,a,_,b⟩
theorem Fp(B:Nat)(v:aF)(n:Nat)(xs:aB aF)(w:aC)(d:w.ownsRowF B 5 1 v n xs)(g:n+4<=140737488355328)(k:B<=w.heap.size):
  Calls prog 190 #[v,.int .i32 79] w λe i=>∃f,e=.returned f/\i.ownsRowF B 5 1 f (n+1) (xs++[.int .u8 79])/\∃o,(w.alloc o).grownBy i v.ownBlock:=by
 let⟨i0,hi,nk,nt,nH⟩:=eB tF;go_enter func190,ntmps190;go_wp2_with (first|go_in|(at_builtin;refine wpList_append_ownF _ rfl _ _ 99 rfl B 5 i0 (.int .u8 0) 1 1 underlying99 hi nk nt nH rfl aG _ _ _ rfl (d.alloc _) (Ad w.heap.size 0) 1 1 [.int .u8 79] rfl rfl ?c1 ?c2 ?c3 ?c4 ?c5 ?_))
 case c1=>
  intro j u c
  match j,c with
  |0,c=>simp at c;subst c;simp[Addr.add]
  |(j+1),c=>simp at c
 case c2=>intro u h;simp at h;subst h;rfl
 case c3=>unfold maxLen;omega
 case c4=>omega
 case c5=>simp;omega
 intro f l a b _;go_wp2;go_ret;exact⟨_,rfl,a,_,b⟩
theorem Fo(B:Nat)(v:aF)(n:Nat)(xs:aB aF)(w:aC)(d:w.ownsRowF B 5 1 v n xs)(g:n+4<=140737488355328)(k:B<=w.heap.size):
  Calls prog 190 #[v,.int .i32 72] w λe i=>∃f,e=.returned f/\i.ownsRowF B 5 1 f (n+1) (xs++[.int .u8 72])/\∃o,(w.alloc o).grownBy i v.ownBlock:=by
 let⟨i0,hi,nk,nt,nH⟩:=eB tF;go_enter func190,ntmps190;go_wp2_with (first|go_in|(at_builtin;refine wpList_append_ownF _ rfl _ _ 99 rfl B 5 i0 (.int .u8 0) 1 1 underlying99 hi nk nt nH rfl aG _ _ _ rfl (d.alloc _) (Ad w.heap.size 0) 1 1 [.int .u8 72] rfl rfl ?c1 ?c2 ?c3 ?c4 ?c5 ?_))
 case c1=>
  intro j u c
  match j,c with
  |0,c=>simp at c;subst c;simp[Addr.add]
  |(j+1),c=>simp at c
 case c2=>intro u h;simp at h;subst h;rfl
 case c3=>unfold maxLen;omega
 case c4=>omega
 case c5=>simp;omega
 intro f l a b _;go_wp2;go_ret;exact⟨_,rfl,a,_,b⟩
theorem Fq(B:Nat)(v:aF)(n:Nat)(xs:aB aF)(w:aC)(d:w.ownsRowF B 5 1 v n xs)(g:n+4<=140737488355328)(k:B<=w.heap.size):
  Calls prog 190 #[v,.int .i32 83] w λe i=>∃f,e=.returned f/\i.ownsRowF B 5 1 f (n+1) (xs++[.int .u8 83])/\∃o,(w.alloc o).grownBy i v.ownBlock:=by
 let⟨i0,hi,nk,nt,nH⟩:=eB tF;go_enter func190,ntmps190;go_wp2_with (first|go_in|(at_builtin;refine wpList_append_ownF _ rfl _ _ 99 rfl B 5 i0 (.int .u8 0) 1 1 underlying99 hi nk nt nH rfl aG _ _ _ rfl (d.alloc _) (Ad w.heap.size 0) 1 1 [.int .u8 83] rfl rfl ?c1 ?c2 ?c3 ?c4 ?c5 ?_))
 case c1=>
  intro j u c
  match j,c with
  |0,c=>simp at c;subst c;simp[Addr.add]
  |(j+1),c=>simp at c
 case c2=>intro u h;simp at h;subst h;rfl
 case c3=>unfold maxLen;omega
 case c4=>omega
 case c5=>simp;omega
 intro f l a b _;go_wp2;go_ret;exact⟨_,rfl,a,_,b⟩
theorem Dm(r:Int)(g:mQ r)(B:Nat)(v:aF)(n:Nat)(xs:aB aF)(w:aC)(b:w.ownsRowF B 5 1 v n xs)(a:n+4<=140737488355328)(c:B<=w.heap.size):
  Calls prog 190 #[v,.int .i32 r] w λe f=>∃d,e=.returned d/\f.ownsRowF B 5 1 d (n+(dO r).length) (xs++Lib.byteCells (dO r))/\∃o,(w.alloc o).grownBy f v.ownBlock:=by
 obtain rfl|rfl|rfl|rfl|rfl|rfl|rfl:=g
 .exact Dl B v n xs w b a c
 .exact Cx B v n xs w b a c
 .exact Cy B v n xs w b a c
 .exact Ft B v n xs w b a c
 .exact Fp B v n xs w b a c
 .exact Fo B v n xs w b a c
 .exact Fq B v n xs w b a c
theorem F7(r)(y:mQ r)(B b d w)(h:yp B b d w)(m:d.length+4<=140737488355328)(G:B<=w.heap.size):
  Calls prog 164 #[Pt b,.int .i32 r] w λe I=>(∃n,e=.returned (.tuple #[Iv n,.nilIface]))/\H6 B b (d++Lib.byteCells (dO r)) w I:=by
 let C:=xP r;let D:1<=(dO r).length:=by rcases y with rfl|rfl|rfl|rfl|rfl|rfl|rfl<;>decide
 go_enter func164,ntmps164;go_wp2_with fail;refine(qU B b d _ h).m λs ⟨F,i,q⟩=>?_;let⟨hB,v,OV,pZ,hne⟩:=F;obtain⟨ao,cap,rfl⟩:∃ao cap,v=.slice ao d.length cap:=by
  obtain⟨l,z⟩|⟨g,cap,u,H,l,_⟩:=pZ.2
  .exact⟨none,0,by rw[l,z]⟩
  .exact⟨_,_,l⟩
 let M:s.cell? (Ad b 0)=some (Pt b):=by rw[uq OV];rfl
 let J:s.cell? (Ad b 1)=some (.slice ao d.length cap):=by rw[uq OV];rfl
 let t:=aL OV;go_wp2_with fail;refine(Dm r y B _ d.length d _ pZ m (by have:=i.size;omega)).mono ?_;rintro e x ⟨E,rfl,f,o,a⟩;let j:x.heap[b]?=some (.cells #[Pt b,.slice ao d.length cap] 137 (0,0)):=by
  rw[a.block b bI λe=>hne e.symm,Lib.alloc_old s _ b t];exact OV
 let d0:x.cell? (Ad b 0)=some (Pt b):=by rw[uq j];rfl
 let L:x.cell? (Ad b 1)=some (.slice ao d.length cap):=by rw[uq j];rfl
 let K:=cJ j 1;obtain⟨g,c,rfl⟩:∃g c,E=Sl g (d.length+(dO r).length) c:=by
  obtain⟨_,z⟩|⟨g,c,u,H,l,_⟩:=f.2
  .omega
  .exact⟨g,c,l⟩
 go_wp2;go_ret2;refine⟨⟨_,rfl⟩,.inr (Lib.BuilderAtF.put (T:=137) (e:=5) hB j (bs':=d++Lib.byteCells (dO r)) (by simpa[Lib.byteCells_length]using f) aG),?_,((q.alloc _).grown a (Lib.ownsRowF_kind (pZ.alloc _))).setCell (Ad b 1) rfl _⟩
 .exact((i.alloc (by have:=i.size;omega) _).grown a (by have:=i.size;simp;omega) λk A=>(pZ.lt k A).1).setCell (p:=(Ad b 1)) hB _
end
end Go.Proofs.YtpbbmagjhkakgaaGreatDoor
