import Derived.Test.YtpbbmagjhkakgaaGreatDoorA3
import Derived.Test.YtpbbmagjhkakgaaGreatDoorA4
namespace Go.Proofs.YtpbbmagjhkakgaaGreatDoor
set_option maxHeartbeats 4000000
set_option maxRecDepth 100000
def GX(s:a_)(pos:Nat)(a:aB Tok):aB Tok:=
 match a.getLast? with
 |some t=>a.dropLast++[⟨t.sign,t.place,s.extract t.place.toNat (pos+1)⟩]
 |none=>a
theorem qh(s pos a t):GX s pos (a++[t])=a++[⟨t.sign,t.place,s.extract t.place.toNat (pos+1)⟩]:=by
 simp[GX]
def kY(s:a_):Tok:=⟨-1,s.size,ByteArray.empty⟩
def eA(s:a_):Nat->Nat->Int->aB Tok->aR (aB Tok)
 |0,_,_,lg=>some (lg++[kY s])
 |b+1,pos,last,lg=>
  if pos<s.size then
   if aM (Utf8.decode s pos).1=-2 then none
   else if aM (Utf8.decode s pos).1=last/\cT (aM (Utf8.decode s pos).1)=true then
    eA s b (pos+(Utf8.decode s pos).2) (aM (Utf8.decode s pos).1) (GX s pos lg)
   else if aM (Utf8.decode s pos).1=32 then eA s b (pos+(Utf8.decode s pos).2) (aM (Utf8.decode s pos).1) lg
   else eA s b (pos+(Utf8.decode s pos).2) (aM (Utf8.decode s pos).1) (lg++[⟨aM (Utf8.decode s pos).1,pos,Utf8.encode (Utf8.decode s pos).1⟩])
  else some (lg++[kY s])
theorem sB(s b pos last a)(h:¬pos<s.size):eA s b pos last a=some (a++[kY s]):=by
 cases b with
 |zero=>rfl
 |succ b=>simp[eA,h]
structure J_(pos:Nat)(last:Int)(lg:aB Tok):Prop where
 each:∀t,t∈lg->t.sign≠-1/\t.word.size<=300/\0<=t.place/\t.place<=pos
 len:lg.length<=pos
 join:cT last=true->lg≠[]
theorem J_.start:J_ 0 32 []:=⟨aF,aF,by intro h;exact absurd h aG⟩
theorem J_.ends{pos last a}(h:J_ pos last a)(s):Ends (a++[kY s]):=
 ⟨a,kY s,rfl,rfl,by show ByteArray.empty.size<=300;decide,λt b=>⟨(h.each t b).1,(h.each t b).2.1⟩⟩
theorem QI(r):(Utf8.encode r).size<=4:=by
 unfold Utf8.encode;simp only
 repeat' split
 all_goals simp[ByteArray.size]
theorem J_.blank{pos p2 last a}(h:J_ pos last a)(c:pos<=p2):J_ p2 32 a:=
 ⟨λt b=>by have:=h.each t b;exact⟨this.1,this.2.1,this.2.2.1,aA⟩,by have:=h.len;omega,by intro h;exact absurd h aG⟩
theorem J_.more{pos d last c r a}(h:J_ pos last a)(f:pos<d)(e:c≠-1):J_ d c (a++[⟨c,pos,Utf8.encode r⟩]):=by
 refine⟨?_,by have:=h.len;simp;omega,aF⟩;intro t b;obtain b|b:=jc.1 b
 .have:=h.each t b;exact⟨this.1,this.2.1,this.2.2.1,aA⟩
 .simp at b;subst b;have:=QI r;exact⟨e,by show(Utf8.encode r).size<=300;omega,by show(0:Int)<=pos;omega,by show(pos:Int)<=d;omega⟩
theorem J_.grow{pos b last d c t}{s:a_}(h:J_ pos last (c++[t]))(f:pos<b)(e:s.size<=300):
  J_ b d (c++[⟨t.sign,t.place,s.extract t.place.toNat (pos+1)⟩]):=by
 refine⟨?_,by have:=h.len;simp at this⊢;omega,aF⟩;intro x a;obtain a|a:=jc.1 a
 .have:=h.each x (by simp[a]);exact⟨this.1,this.2.1,this.2.2.1,aA⟩
 .simp at a;subst a;have:=h.each t aF;refine⟨this.1,?_,this.2.2.1,by have:=this.2.2.2;show t.place<=(b:Int);omega⟩;show(s.extract t.place.toNat (pos+1)).size<=300;rw[ByteArray.size_extract];omega
theorem E3(r):aM r≠-1\/aM r=-2:=by
 unfold aM
 repeat' split
 all_goals omega
theorem Bx(s pos)(h:pos<s.size):1<=(Utf8.decode s pos).2:=by
 by_cases a:(s[pos]'h).toNat<128
 .rw[decode_ascii s pos h a];exact aZ
 .exact(decode_high s pos h aA).2
theorem Vq(s pos):(Utf8.decode s pos).2<=4:=by
 unfold Utf8.decode;simp only
 repeat' split
 all_goals simp
section
open Go.Deep (BT)
def bD:BT dD->Nat
 |.nil=>0
 |.node _ _ _ l r=>1+max (bD l) (bD r)
def bE:BT dD->Int
 |.nil=>0
 |.node _ _ a l r=>a.hi+max (bE l) (bE r)
def Kf:BT dD->Prop
 |.nil=>True
 |.node _ _ a l r=>(0<=a.lo/\a.lo<=a.hi/\a.hi<=1000000)/\Kf l/\Kf r
theorem kS:∀{x:BT dD},Kf x->0<=bE x/\bE x<=1000000*bD x
 |.nil,_=>by simp[bE,bD]
 |.node _ _ a l r,⟨h,b,c⟩=>by
  let e:=kS b
  let d:=kS c
  simp only[bE,bD]
  omega
def IU(n:Nat)(f:aB Tok->aR (BT dD×aB Tok)):Prop:=∀a x r,f a=some (x,r)->bD x<=n
theorem JF{n f}(i:IU n f):IU (n+1) (oV f):=by
 intro e x r h;unfold oV at h;split at h
 .cases hw:lF (bL e).1 with
  |none=>simp[hw]at h
  |some y=>
   simp[hw]at h;obtain⟨rfl,_⟩:=h;unfold lF at hw;split at hw
   .injection hw with hw;subst hw;simp[mk,bD]
   .split at hw
    .cases hw
    .injection hw with hw;subst hw;simp[mk,bD]
 .split at h
  .unfold qT at h;cases d:f (bL e).2 with
   |none=>simp[d]at h
   |some y=>
    let⟨p,t1⟩:=y;let k:=i _ _ _ d;simp only[d]at h;split at h
    .cases c:dZ (bL t1).1.sign (bL t1).2 with
     |none=>simp[c]at h
     |some y=>
      let⟨⟨a,b⟩,t2⟩:=y;simp only[c]at h;cases g:f t2 with
      |none=>simp[g]at h
      |some z=>
       let⟨q,t3⟩:=z;let m:=i _ _ _ g;simp only[g]at h;cases j:cU 41 t3 with
       |none=>simp[j]at h
       |some l=>
        simp only[j]at h;injection h with h;injection h with h _;subst h;simp only[mk,bD];omega
    .cases h
  .split at h
   .unfold kt at h;cases d:dZ (bL e).1.sign (bL e).2 with
    |none=>simp[d]at h
    |some y=>
     let⟨⟨a,b⟩,t1⟩:=y;simp only[d]at h;cases c:f t1 with
     |none=>simp[c]at h
     |some z=>
      let⟨p,t2⟩:=z;let k:=i _ _ _ c;simp only[c]at h;injection h with h;injection h with h _;subst h;simp only[mk,bD];omega
   .cases h
theorem xH:∀n,IU n (l_ n)
 |0=>λ_ _ _ h=>by cases h
 |n+1=>JF (xH n)
def cW(s:a_):aR (BT dD)×Int:=
 if 300<s.size then(none,1)
 else match eA s s.size 0 32 []with
  |none=>(none,1)
  |some a=>match l_ a.length a with
   |none=>(none,1)
   |some (x,r)=>match cU (-1) r with
    |none=>(none,1)
    |some _=>if 12<bD x then(none,2)else(some x,0)
def dO(r:Int):aB aX:=if r=172 then[194,172]else if r=8743 then[226,136,167]else if r=8744 then[226,136,168]else if r=89 then[89]else if r=79 then[79]else if r=72 then[72]else[83]
def mZ(r:Int):Prop:=r=172\/r=8743\/r=8744\/r=89\/r=79\/r=72\/r=83
def uR(a:dD):aB aX:=if mi a.op then dO a.op++[91]++Lib.itoa a.lo++[44]++Lib.itoa a.hi++[93]else dO a.op
def bF:BT dD->aB aX
 |.nil=>[]
 |.node _ _ a l r=>
  if a.op=116 then[116,114,117,101]
  else if a.op=97 then a.name.data.toList
  else if a.op=8743\/a.op=8744\/a.op=83 then[40]++bF l++[32]++uR a++[32]++bF r++[41]
  else uR a++bF l
def Good:BT dD->Prop
 |.nil=>False
 |.node _ _ a l r=>
  (a.op=116/\a.name=ByteArray.empty/\a.lo=0/\a.hi=0/\l=.nil/\r=.nil)
  \/(a.op=97/\(1<=a.name.size/\a.name.size<=8/\a.name≠Fh/\∀c,c∈a.name.data.toList->97<=c.toNat/\c.toNat<=122)/\a.lo=0/\a.hi=0/\l=.nil/\r=.nil)
  \/((a.op=8743\/a.op=8744\/a.op=83)/\a.name=ByteArray.empty/\(0<=a.lo/\a.lo<=a.hi/\a.hi<=1000000)/\(mi a.op=false->a.lo=0/\a.hi=0)/\Good l/\Good r)
  \/((a.op=172\/a.op=89\/a.op=79\/a.op=72)/\a.name=ByteArray.empty/\(0<=a.lo/\a.lo<=a.hi/\a.hi<=1000000)/\(mi a.op=false->a.lo=0/\a.hi=0)/\Good l/\r=.nil)
theorem Good.win:∀{x:BT dD},Good x->Kf x
 |.node _ _ a l r,h=>by
  obtain⟨_,_,b,d,rfl,rfl⟩|⟨_,_,b,d,rfl,rfl⟩|⟨_,_,b,_,c,e⟩|⟨_,_,b,_,c,rfl⟩:=h
  .exact⟨aA,trivial,trivial⟩
  .exact⟨aA,trivial,trivial⟩
  .exact⟨b,c.win,e.win⟩
  .exact⟨b,c.win,trivial⟩
theorem yj(r):(dO r).length<=3:=by
 unfold dO
 repeat' split
 all_goals decide
def eD:BT dD->BT dD
 |.nil=>.nil
 |.node b o a l r=>if a.op=172 then l else mk 172 ByteArray.empty 0 0 (.node b o a l r) .nil
def aO:BT dD->BT dD
 |.nil=>.nil
 |.node b o a l r=>
  if a.op=116\/a.op=97 then .node b o a l r
  else if a.op=172 then eD (aO l)
  else if a.op=8744 then eD (mk 8743 ByteArray.empty 0 0 (eD (aO l)) (eD (aO r)))
  else if a.op=72 then eD (mk 79 ByteArray.empty a.lo a.hi (eD (aO l)) .nil)
  else if a.op=89\/a.op=79 then mk a.op ByteArray.empty a.lo a.hi (aO l) .nil
  else mk a.op ByteArray.empty a.lo a.hi (aO l) (aO r)
theorem Good.ne:∀{x:BT dD},Good x->x≠.nil
 |.nil,h=>h.elim
 |.node _ _ _ _ _,_=>by intro h;cases h
theorem iA{x}(h:Good x):Good (eD x):=by
 cases x with
 |nil=>exact h
 |node b o a l r=>
  show Good (if a.op=172 then l else mk 172 ByteArray.empty 0 0 (BT.node b o a l r) .nil);by_cases c:a.op=172
  .rw[bY c];obtain⟨d,_⟩|⟨d,_⟩|⟨d,_⟩|⟨_,_,_,_,e,_⟩:=h
   .omega
   .omega
   .omega
   .exact e
  .rw[bN c];exact .inr (.inr (.inr ⟨.inl rfl,rfl,aF,λ_=>⟨rfl,rfl⟩,h,rfl⟩))
theorem dK:∀{x:BT dD},Good x->Good (aO x)
 |.nil,h=>h
 |.node b o a l r,h=>by
  let h':=h
  unfold aO
  obtain⟨c,_⟩|⟨c,_⟩|⟨c,m,f,i,g,n⟩|⟨c,m,f,i,g,p⟩:=h
  .rw[bY (.inl c)];exact h'
  .rw[bY (.inr c)];exact h'
  .let d:=dK g
   let j:=dK n
   rw[bN aA,bN aA]
   by_cases e:a.op=8744
   .rw[bY e]
    exact iA (.inr (.inr (.inl ⟨.inl rfl,rfl,aF,λ_=>⟨rfl,rfl⟩,iA d,iA j⟩)))
   .rw[bN e,bN aA,bN aA]
    exact .inr (.inr (.inl ⟨c,rfl,f,i,d,j⟩))
  .let d:=dK g
   rw[bN aA]
   by_cases e:a.op=172
   .rw[bY e];exact iA d
   .rw[bN e,bN aA]
    by_cases k:a.op=72
    .rw[bY k]
     exact iA (.inr (.inr (.inr ⟨.inr (.inr (.inl rfl)),rfl,f,λh=>absurd (show mi 79=false from h) aG,iA d,rfl⟩)))
    .rw[bN k,bY aA]
     exact .inr (.inr (.inr ⟨c,rfl,f,i,d,rfl⟩))
end
def nK(c:aX):Prop:=48<=c.toNat/\c.toNat<=57
theorem rO(n)(h:n<10):(UInt8.ofNat (48+n)).toNat=48+n:=by
 rw[Im];omega
theorem Nh(u):Lib.decDigits u≠[]:=by
 let h:=Lib.decDigits_length u;let p:=Lib.nDigits_pos u;intro e;rw[e]at h;simp at h;omega
theorem Pl(u):∀c,c∈Lib.decDigits u->nK c:=by
 induction u using Nat.strongRecOn with
 |_ u b=>
  intro c a;rw[Lib.decDigits]at a;by_cases h:u<10
  .rw[dif_pos h]at a;rw[sO]at a;subst a;unfold nK;rw[rO u h];omega
  .rw[dif_neg h]at a;obtain a|a:=jc.1 a
   .exact b (u/10) aA c a
   .rw[sO]at a;subst a;unfold nK;rw[rO (u%10) aA];omega
theorem Jx(l m):∀b,∀a,Lib.parseUint10 b l=.ok a->Lib.parseUint10 b (l++m)=Lib.parseUint10 a m:=by
 induction l with
 |nil=>intro b a h;simp only[Lib.parseUint10]at h;injection h with h;subst h;rfl
 |cons c l g=>
  intro b a h;simp only[Lib.parseUint10,lq]at h⊢;split at h
  .split at h
   .cases h
   .split at h
    .cases h
    .rename_i f d e;rw[bY f,bN d,bN e];exact g _ _ h
  .cases h
theorem Rj(u)(b:u<=1000000000):Lib.parseUint10 0 (Lib.decDigits u)=.ok u:=by
 induction u using Nat.strongRecOn with
 |_ u a=>
  rw[Lib.decDigits];by_cases h:u<10
  .rw[dif_pos h];simp only[Lib.parseUint10,(rO u h)];rw[bY aA,bN aA,bN aA];congr 1;omega
  .rw[dif_neg h,Jx _ _ _ _ (a (u/10) aA aA)];simp only[Lib.parseUint10,(rO (u%10) aA)];rw[bY aA,bN aA,bN aA];congr 1;omega
theorem Tc(u)(f:1<=u):(Lib.decDigits u).headD 0≠48:=by
 induction u using Nat.strongRecOn with
 |_ u d=>
  rw[Lib.decDigits];by_cases h:u<10
  .rw[dif_pos h];intro e;let c:=oB UInt8.toNat e;simp only[List.headD_cons]at c;rw[rO u h]at c;have:(48:aX).toNat=48:=rfl;omega
  .rw[dif_neg h];have:=d (u/10) aA aA;cases b:Lib.decDigits (u/10)with
   |nil=>exact absurd b (Nh (u/10))
   |cons a l=>rw[b]at this;simpa using this
theorem u6{l:aB aX}(a:l≠[])(d:∀c,c∈l->nK c):Lib.atoiAll l=match Lib.parseUint10 0 l with
  |.ok u=>if 9223372036854775808<=u then .range else .ok (u:Int)
  |x=>(match x with|.ok _=>.range|.range=>.range|_=>Lib.atoiAll []):=by
 cases l with
 |nil=>exact absurd rfl a
 |cons c r=>
  let e:=d c aF;unfold nK at e;unfold Lib.atoiAll;simp only;rw[bN aA];unfold Lib.parseMag;rw[bN aF];cases h:Lib.parseUint10 0 (c::r)with
  |ok u=>
   let b:¬c.toNat=45:=aA;simp only[b,not_false_eq_true,wH,false_and,fA]
  |_=>rfl
theorem Km{l}(b:l≠[])(d:∀c,c∈l->nK c){v}(h:Lib.atoiAll l=.ok v):0<=v:=by
 rw[u6 b d]at h;cases a:Lib.parseUint10 0 l with
 |ok u=>
  rw[a]at h;simp only at h;split at h
  .cases h
  .injection h with h;omega
 |range=>rw[a]at h;cases h
 |_=>rw[a]at h;cases h
theorem S5(u)(a:u<=1000000000):Lib.atoiAll (Lib.decDigits u)=.ok (u):=by
 rw[u6 (Nh u) (Pl u),Rj u a];simp only;rw[bN aA]
theorem Dr(v)(h:0<=v):Lib.itoa v=Lib.decDigits v.toNat:=by unfold Lib.itoa;rw[bN aA]
theorem Rh(v)(c:0<=v)(f:v<=1000000):xr ⟨(Lib.itoa v).toArray⟩=some v:=by
 rw[Dr v c];unfold xr;rw[bN,S5 v.toNat aA]
 .let e:((v.toNat:Nat):Int)=v:=by omega
  rw[e];show(if 1000000<v then none else some v)=some v;rw[bN aA]
 .rintro⟨a,d⟩;by_cases b:v.toNat<10
  .rw[Lib.decDigits,dif_pos b]at a;simp[ByteArray.size]at a
  .exact Tc v.toNat aA d
section
open Go.Deep (BT)
def isLet(c:aX):Prop:=97<=c.toNat/\c.toNat<=122
def mo(t:Tok):Prop:=
 (t.sign=97->t.word.data.toList≠[]/\∀c,c∈t.word.data.toList->isLet c)/\(t.sign=48->t.word.data.toList≠[]/\∀c,c∈t.word.data.toList->nK c)
theorem mo.take{a}(d:Ends a)(h:∀t,t∈a->mo t):mo (bL a).1/\∀t,t∈(bL a).2->mo t:=by
 obtain⟨t,r,rfl⟩:=d.cons;by_cases b:t.sign=-1
 .let e:bL (t::r)=(t,t::r):=by simp[bL,b]
  rw[e];exact⟨h t aF,h⟩
 .let e:bL (t::r)=(t,r):=by simp[bL,b]
  rw[e];exact⟨h t aF,λx c=>h x (sM _ c)⟩
theorem wY{b r s}(c:Ends b)(h:∀t,t∈b->mo t)(a:cU s b=some r):∀t,t∈r->mo t:=by
 unfold cU at a;split at a
 .injection a with a;subst a;exact(mo.take c h).2
 .cases a
theorem Uq{c r v}(f:Ends c)(h:∀t,t∈c->mo t)(b:qE c=some (v,r)):(0<=v/\v<=1000000)/\∀t,t∈r->mo t:=by
 unfold qE at b;split at b
 .rename_i g;let e:=mo.take f h;let⟨hne,hd⟩:=e.1.2 g;cases a:xr (bL c).1.word with
  |none=>simp[a]at b
  |some x=>
   simp[a]at b;obtain⟨rfl,rfl⟩:=b;refine⟨?_,e.2⟩;unfold xr at a;split at a
   .cases a
   .cases d:Lib.atoiAll (bL c).1.word.data.toList with
    |ok u=>
     rw[d]at a;let Zp:(if 1000000<u then none else some u)=some x:=a;split at Zp
     .cases Zp
     .injection Zp with Zp;subst Zp;exact⟨Km hne hd d,aA⟩
    |_=>rw[d]at a;cases a
 .cases b
theorem Hl{e r op a b}(k:Ends e)(h:∀t,t∈e->mo t)(c:dZ op e=some ((a,b),r)):(0<=a/\a<=b/\b<=1000000)/\(mi op=false->a=0/\b=0)/\∀t,t∈r->mo t:=by
 unfold dZ at c;split at c
 .rename_i hw;cases g:cU 91 e with
  |none=>simp[g]at c
  |some w=>
   let m:=(k.expect g).1;let q:=wY k h g;simp only[g]at c;cases d:qE w with
   |none=>simp[d]at c
   |some x=>
    let⟨a',t2⟩:=x;let l:=(m.num d).1;let A:=Uq m q d;simp only[d]at c;cases i:cU 44 t2 with
    |none=>simp[i]at c
    |some v=>
     let n:=(l.expect i).1;let u:=wY l A.2 i;simp only[i]at c;cases f:qE v with
     |none=>simp[f]at c
     |some y=>
      let⟨b',t4⟩:=y;let z:=(n.num f).1;let s:=Uq n u f;simp only[f]at c;cases j:cU 93 t4 with
      |none=>simp[j]at c
      |some B=>
       let p:=wY z s.2 j;simp only[j]at c;split at c
       .cases c
       .injection c with c;injection c with QU Wh;injection QU with QU hx3;subst QU;subst Wh;subst hx3;exact⟨aA,(λo=>by rw[hw]at o;cases o),p⟩
 .injection c with c;injection c with QU Wh;injection QU with QU hx3;subst QU;subst Wh;subst hx3;exact⟨aA,λ_=>⟨rfl,rfl⟩,h⟩
def SG(f:aB Tok->aR (BT dD×aB Tok)):Prop:=∀a x r,Ends a->(∀t,t∈a->mo t)->f a=some (x,r)->Good x/\∀t,t∈r->mo t
theorem Nz{f}(w:xx f)(v:SG f):SG (oV f):=by
 intro d x r s h c;let l:=s.take;let n:=mo.take s h;let B:=s.word;unfold oV at c;split at c
 .rename_i A;cases hw:lF (bL d).1 with
  |none=>simp[hw]at c
  |some y=>
   simp[hw]at c;obtain⟨rfl,rfl⟩:=c;refine⟨?_,n.2⟩;unfold lF at hw;split at hw
   .injection hw with hw;subst hw;exact .inl ⟨rfl,rfl,rfl,rfl,rfl,rfl⟩
   .rename_i o;split at hw
    .cases hw
    .rename_i D;injection hw with hw;subst hw;let⟨hne,hl⟩:=n.1.1 A;refine .inr (.inl ⟨rfl,⟨?_,by show(bL d).1.word.size<=8;omega,o,hl⟩,rfl,rfl,rfl,rfl⟩);show 1<=(bL d).1.word.size;have:(bL d).1.word.data.toList.length≠0:=by intro e;exact hne (uJ.1 e)
     let u:(bL d).1.word.size=(bL d).1.word.data.toList.length:=by show(bL d).1.word.data.size=_;rw[yB]
     omega
 .split at c
  .unfold qT at c;cases g:f (bL d).2 with
   |none=>simp[g]at c
   |some y=>
    let⟨p,t1⟩:=y;let⟨e1,_⟩:=w _ _ _ l.1 g;let⟨g1,o1⟩:=v _ _ _ l.1 n.2 g;simp only[g]at c;split at c
    .rename_i j;let k:=e1.take;cases i:dZ (bL t1).1.sign (bL t1).2 with
     |none=>simp[i]at c
     |some y=>
      let⟨⟨a,b⟩,t2⟩:=y;let u:=(k.1.Bz i).1;let⟨w1,w2,o2⟩:=Hl k.1 (mo.take e1 o1).2 i;simp only[i]at c;cases m:f t2 with
      |none=>simp[m]at c
      |some z=>
       let⟨q,t3⟩:=z;let⟨e3,_⟩:=w _ _ _ u m;let⟨g3,o3⟩:=v _ _ _ u o2 m;simp only[m]at c;cases t:cU 41 t3 with
       |none=>simp[t]at c
       |some C=>
        simp only[t]at c;injection c with c;injection c with QU Wh;subst QU;subst Wh;exact⟨.inr (.inr (.inl ⟨j,rfl,w1,w2,g1,g3⟩)),wY e3 o3 t⟩
    .cases c
  .split at c
   .rename_i j;unfold kt at c;cases g:dZ (bL d).1.sign (bL d).2 with
    |none=>simp[g]at c
    |some y=>
     let⟨⟨a,b⟩,t1⟩:=y;let⟨w1,w2,o1⟩:=Hl l.1 n.2 g;simp only[g]at c;cases i:f t1 with
     |none=>simp[i]at c
     |some z=>
      let⟨p,t2⟩:=z;let⟨g2,o2⟩:=v _ _ _ ((l.1.Bz g).1) o1 i;simp only[i]at c;injection c with c;injection c with QU Wh;subst QU;subst Wh;exact⟨.inr (.inr (.inr ⟨j,rfl,w1,w2,g2,rfl⟩)),o2⟩
   .cases c
theorem BZ:∀n,SG (l_ n)
 |0=>λ_ _ _ _ _ h=>by cases h
 |n+1=>Nz (qO n) (BZ n)
end
theorem wy{r}(h:aM r=97):97<=r/\r<=122:=by
 unfold aM at h
 repeat' split at h
 all_goals omega
theorem sC{r}(h:aM r=48):48<=r/\r<=57:=by
 unfold aM at h
 repeat' split at h
 all_goals omega
theorem s9(s pos)(h:pos<s.size)(b:(Utf8.decode s pos).1<128):(Utf8.decode s pos).2=1/\(s[pos]'h).toNat=(Utf8.decode s pos).1:=by
 by_cases a:(s[pos]'h).toNat<128
 .rw[decode_ascii s pos h a];exact⟨rfl,rfl⟩
 .have:=(decode_high s pos h aA).1;omega
theorem mQ(r)(c:0<=r)(b:r<128):(Utf8.encode r).data.toList=[UInt8.ofNat r.toNat]:=by
 let a:Utf8.valid r=true:=by unfold Utf8.valid;simp;omega
 unfold Utf8.encode;simp only[a,fB];rw[bY aA]
theorem take_one(s:a_)(p pos)(h:pos<s.size)(c:p<=pos):(s.data.toList.drop p).take (pos+1-p)=(s.data.toList.drop p).take (pos-p)++[s[pos]'h]:=by
 let e:pos+1-p=(pos-p)+1:=aA;let a:pos-p<(s.data.toList.drop p).length:=by
  rw[nZ,yB];have:s.data.size=s.size:=rfl;omega
 rw[e,List.take_succ_eq_append_getElem a];congr 2;rw[List.getElem_drop];let b:p+(pos-p)=pos:=aA;simp only[b];rfl
def VN(s:a_)(pos:Nat)(last:Int)(a:aB Tok):Prop:=
 (∀t,t∈a->mo t)/\(cT last=true->∃(b:aB Tok)(t:Tok)(p:Nat),a=b++[t]/\t.sign=last/\t.place=(p:Int)/\p<pos/\t.word.data.toList=(s.data.toList.drop p).take (pos-p))
theorem mB{a}(h:cT a=true):a=97\/a=48:=by
 unfold cT at h;simp at h;exact h
theorem Ku{c r}(h:(c.toNat:Int)=r)(a:97<=r/\r<=122):isLet c:=by unfold isLet;omega
theorem DT{c r}(h:(c.toNat:Int)=r)(a:48<=r/\r<=57):nK c:=by unfold nK;omega
theorem WX(s):∀b pos (last) (a A),VN s pos last a->eA s b pos last a=some A->∀t,t∈A->mo t:=by
 intro b;let l:∀a:aB Tok,(∀t,t∈a->mo t)->∀t,t∈a++[kY s]->mo t:=by
  intro a h t v;obtain v|v:=jc.1 v
  .exact h t v
  .rw[sO]at v;subst v;exact⟨λh=>absurd (show(-1:Int)=97 from h) aG,λh=>absurd (show(-1:Int)=48 from h) aG⟩
 induction b with
 |zero=>
  intro pos last a A k h;simp only[eA]at h;injection h with h;subst h;exact l a k.1
 |succ b D=>
  intro pos last a A k h;by_cases j:pos<s.size
  .rw[eA,bY j]at h;by_cases F:aM (Utf8.decode s pos).1=-2
   .rw[bY F]at h;cases h
   .rw[bN F]at h;by_cases E:aM (Utf8.decode s pos).1=last/\cT (aM (Utf8.decode s pos).1)=true
    .rw[bY E]at h;let⟨hl,i⟩:=E;obtain⟨B,t,p,rfl,n,y,G,z⟩:=k.2 (hl▸i);let C:(97<=((Utf8.decode s pos).1:Int)/\((Utf8.decode s pos).1:Int)<=122)\/(48<=((Utf8.decode s pos).1:Int)/\((Utf8.decode s pos).1:Int)<=57):=by
      obtain e|e:=mB i
      .exact .inl (wy e)
      .exact .inr (sC e)
     let⟨hw,w⟩:=s9 s pos j aA;rw[qh]at h;let f:(s.extract t.place.toNat (pos+1)).data.toList=t.word.data.toList++[s[pos]'j]:=by
      rw[Lib.extract_data,y,Int.toNat_natCast,take_one s p pos j aA,z]
     let m:=k.1 t aF;refine D _ _ _ _ ⟨?_,?_⟩ h
     .intro x g;obtain g|g:=jc.1 g
      .exact k.1 x (by simp[g])
      .rw[sO]at g;subst g;refine⟨λu=>?_,λu=>?_⟩
       .let xB:=u;show(s.extract t.place.toNat (pos+1)).data.toList≠[]/\∀c,c∈(s.extract t.place.toNat (pos+1)).data.toList->isLet c;rw[f];refine⟨aF,?_⟩;intro c d;obtain d|d:=jc.1 d
        .exact(m.1 xB).2 c d
        .rw[sO]at d;subst d;exact Ku (r:=(Utf8.decode s pos).1) aA (wy (r:=(Utf8.decode s pos).1) (by rw[hl,<-n];exact xB))
       .let xB:=u;show(s.extract t.place.toNat (pos+1)).data.toList≠[]/\∀c,c∈(s.extract t.place.toNat (pos+1)).data.toList->nK c;rw[f];refine⟨aF,?_⟩;intro c d;obtain d|d:=jc.1 d
        .exact(m.2 xB).2 c d
        .rw[sO]at d;subst d;exact DT (r:=(Utf8.decode s pos).1) aA (sC (r:=(Utf8.decode s pos).1) (by rw[hl,<-n];exact xB))
     .intro _;refine⟨B,_,p,rfl,by rw[hl];exact n,y,aA,?_⟩;show(s.extract t.place.toNat (pos+1)).data.toList=_;rw[f,hw,take_one s p pos j aA,z]
    .rw[bN E]at h;by_cases q:aM (Utf8.decode s pos).1=32
     .rw[bY q]at h;exact D _ _ _ _ ⟨k.1,λw=>by rw[q]at w;exact absurd w aG⟩ h
     .rw[bN q]at h;refine D _ _ _ _ ⟨?_,?_⟩ h
      .intro x g;rcases jc.1 g with g|g
       .exact k.1 x g
       .rw[sO]at g;subst g;refine⟨λu=>?_,λu=>?_⟩
        .let o:=wy (r:=(Utf8.decode s pos).1) u;dsimp only;rw[mQ _ aA aA];refine⟨aF,?_⟩;intro c d;rw[sO]at d;subst d;refine Ku (r:=(Utf8.decode s pos).1) ?_ o;rw[Im];omega
        .let o:=sC (r:=(Utf8.decode s pos).1) u;dsimp only;rw[mQ _ aA aA];refine⟨aF,?_⟩;intro c d;rw[sO]at d;subst d;refine DT (r:=(Utf8.decode s pos).1) ?_ o;rw[Im];omega
      .intro i;let C:0<=((Utf8.decode s pos).1:Int)/\((Utf8.decode s pos).1:Int)<128:=by
        obtain e|e:=mB i
        .have:=wy e;omega
        .have:=sC e;omega
       let⟨hw,w⟩:=s9 s pos j aA;refine⟨a,_,pos,rfl,rfl,rfl,aA,?_⟩;dsimp only;rw[mQ _ C.1 C.2,hw];rw[(take_one s pos pos j aZ)];simp;rw[<-w];simp
  .rw[sB s _ pos last a j]at h;injection h with h;subst h;exact l a k.1
theorem VN.start(s):VN s 0 32 []:=⟨aF,λh=>absurd h aG⟩
theorem Oq{s x n}(h:cW s=(some x,n))(e:∀a,eA s s.size 0 32 []=some a->Ends a):Good x:=by
 unfold cW at h;split at h
 .simp at h
 .cases b:eA s s.size 0 32 []with
  |none=>simp[b]at h
  |some a=>
   simp only[b]at h;cases c:l_ a.length a with
   |none=>simp[c]at h
   |some y=>
    let⟨z,r⟩:=y;simp only[c]at h;cases d:cU (-1) r with
    |none=>simp[d]at h
    |some f=>
     simp only[d]at h;split at h
     .simp at h
     .simp at h;obtain⟨rfl,_⟩:=h;exact(BZ _ _ _ _ (e a b) (WX s _ _ _ _ _ (VN.start s) b) c).1
section
open Go.Deep (BT)
def strip(t:Tok):Int×aB aX:=(t.sign,t.word.data.toList)
def R5(a:dD):aB (Int×aB aX):=if mi a.op then[(91,[91]),(48,Lib.itoa a.lo),(44,[44]),(48,Lib.itoa a.hi),(93,[93])]else[]
def tk:BT dD->aB (Int×aB aX)
 |.nil=>[]
 |.node _ _ a l r=>
  if a.op=116 then[(97,[116,114,117,101])]
  else if a.op=97 then[(97,a.name.data.toList)]
  else if a.op=8743\/a.op=8744\/a.op=83 then(40,[40])::(tk l++((a.op,dO a.op)::(R5 a++(tk r++[(41,[41])]))))
  else(a.op,dO a.op)::(R5 a++tk l)
theorem ZF{s:a_}{pos c l}(h:s.data.toList.drop pos=c::l):∃b:pos<s.size,s[pos]'b=c:=by
 let a:(s.data.toList.drop pos)[0]?=some c:=by rw[h];rfl
 rw[uN]at a;simp only[FE]at a;rw[eY]at a;let⟨hl,he⟩:=a;exact⟨by rw[yB]at hl;exact hl,he⟩
theorem at_next{s:a_}{pos m l}(h:s.data.toList.drop pos=m++l):s.data.toList.drop (pos+m.length)=l:=by
 rw[<-List.drop_drop,h];simp
theorem je{s pos c l}(h:s.data.toList.drop pos=c::l)(a:c.toNat<128):pos<s.size/\Utf8.decode s pos=(c.toNat,1):=by
 let⟨hp,he⟩:=ZF h;exact⟨hp,by rw[decode_ascii s pos hp (he▸a),he]⟩
theorem rq{s:a_}{pos k c l}(h:s.data.toList.drop pos=l)(b:l[k]?=some c):pos+k<s.size/\s.get! (pos+k)=c:=by
 rw[<-h,uN,eY]at b;let⟨hl,he⟩:=b;let a:pos+k<s.data.size:=by rw[yB]at hl;exact hl
 refine⟨a,?_⟩;show s.data[pos+k]! =c;rw[getElem!_pos s.data (pos+k) a,<-he];simp
theorem Td{s pos op l}(e:mZ op)(h:s.data.toList.drop pos=dO op++l):pos<s.size/\Utf8.decode s pos=(op.toNat,(dO op).length):=by
 obtain rfl|rfl|rfl|rfl|rfl|rfl|rfl:=e
 .let h':s.data.toList.drop pos=194::172::l:=h;let b:=rq (k:=0) h' rfl;let a:=rq (k:=1) h' rfl;refine⟨by have:=b.1;omega,?_⟩;let d:s.get! pos=194:=b.2;unfold Utf8.decode;simp[d,a.2,a.1];decide
 .let h':s.data.toList.drop pos=226::136::167::l:=h;let b:=rq (k:=0) h' rfl;let a:=rq (k:=1) h' rfl;let c:=rq (k:=2) h' rfl;refine⟨by have:=b.1;omega,?_⟩;let d:s.get! pos=226:=b.2;unfold Utf8.decode;simp[d,a.2,a.1,c.1,c.2];decide
 .let h':s.data.toList.drop pos=226::136::168::l:=h;let b:=rq (k:=0) h' rfl;let a:=rq (k:=1) h' rfl;let c:=rq (k:=2) h' rfl;refine⟨by have:=b.1;omega,?_⟩;let d:s.get! pos=226:=b.2;unfold Utf8.decode;simp[d,a.2,a.1,c.1,c.2];decide
 .exact je (show s.data.toList.drop pos=89::l from h) aG
 .exact je (show s.data.toList.drop pos=79::l from h) aG
 .exact je (show s.data.toList.drop pos=72::l from h) aG
 .exact je (show s.data.toList.drop pos=83::l from h) aG
def CS(s:a_)(pos:Nat)(last:Int)(l:aB aX)(n:Nat)(c:Int)(T:aB (Int×aB aX)):Prop:=
 ∀(b:Nat)(a:aB Tok),∃A:aB Tok,A.map strip=T/\eA s (b+n) pos last a=eA s b (pos+l.length) c (a++A)
theorem CS.trans{s pos a b c l m n k T U}(h:CS s pos a l n b T)(g:CS s (pos+l.length) b m k c U):CS s pos a (l++m) (k+n) c (T++U):=by
 intro q d;let⟨A,hA,e1⟩:=h (q+k) d;let⟨B,hB,e2⟩:=g q (d++A);refine⟨A++B,by rw[ml,hA,hB],?_⟩;rw[<-qG,e1,e2,ky,nC,qG]
theorem D6{s pos}(last){l}(h:s.data.toList.drop pos=32::l):CS s pos last [32] 1 32 []:=by
 let⟨hp,hd⟩:=je h aG;intro b a;refine⟨[],rfl,?_⟩;rw[eA,bY hp,hd];let e:aM ((32:aX).toNat:Nat)=32:=aG;dsimp only;rw[e,bN aG,bN (by intro h;exact absurd h.2 aG),bY rfl];simp
theorem GQ{s pos r}(last){m}(e:pos<s.size)(f:Utf8.decode s pos=(r,m.length))(d:aM r≠-2)(i:cT (aM r)=false)(a:aM r≠32)(g:(Utf8.encode r).data.toList=m):
  CS s pos last m 1 (aM r) [(aM r,m)]:=by
 intro b c;refine⟨[⟨aM r,pos,Utf8.encode r⟩],by simp only[hY,sR,strip];rw[g],?_⟩;rw[eA,bY e,f];dsimp only;rw[bN d,bN (by intro h;rw[i]at h;exact absurd h.2 aG),bN a]
theorem Pp{s pos op}(last){l}(a:mZ op)(h:s.data.toList.drop pos=dO op++l):CS s pos last (dO op) 1 op [(op,dO op)]:=by
 let⟨hp,hd⟩:=Td a h;let b:aM (op.toNat:Nat)=op:=by rcases a with rfl|rfl|rfl|rfl|rfl|rfl|rfl<;>decide
 have:=GQ (s:=s) (pos:=pos) (r:=op.toNat) last (m:=dO op) hp hd (by rw[b];rcases a with rfl|rfl|rfl|rfl|rfl|rfl|rfl<;>decide) (by rw[b];rcases a with rfl|rfl|rfl|rfl|rfl|rfl|rfl<;>decide) (by rw[b];rcases a with rfl|rfl|rfl|rfl|rfl|rfl|rfl<;>decide) (by rcases a with rfl|rfl|rfl|rfl|rfl|rfl|rfl<;>decide);rw[b]at this;exact this
theorem rP{s pos}(c last){l}(a:c=40\/c=41\/c=91\/c=93\/c=44)(h:s.data.toList.drop pos=c::l):CS s pos last [c] 1 c.toNat [((c.toNat:Int),[c])]:=by
 obtain⟨d,e⟩:=je h (by rcases a with rfl|rfl|rfl|rfl|rfl<;>decide);let b:aM (c.toNat:Nat)=(c.toNat:Int):=by rcases a with rfl|rfl|rfl|rfl|rfl<;>decide
 have:=GQ (s:=s) (pos:=pos) (r:=c.toNat) last (m:=[c]) d e (by rw[b];rcases a with rfl|rfl|rfl|rfl|rfl<;>decide) (by rw[b];rcases a with rfl|rfl|rfl|rfl|rfl<;>decide) (by rw[b];rcases a with rfl|rfl|rfl|rfl|rfl<;>decide) (by rcases a with rfl|rfl|rfl|rfl|rfl<;>decide);rw[b]at this;exact this
theorem U1{s f}(k:cT f=true):∀l (pos p rest b a) (i),s.data.toList.drop pos=l++rest->(∀c,c∈l->c.toNat<128/\aM (c.toNat:Nat)=f)->p<=pos->i.data.toList=(s.data.toList.drop p).take (pos-p)->
  ∃d,d.data.toList=(s.data.toList.drop p).take (pos+l.length-p)/\eA s (b+l.length) pos f (a++[⟨f,p,i⟩])=eA s b (pos+l.length) f (a++[⟨f,p,d⟩]):=by
 intro l
 induction l with
 |nil=>intro pos p rest b a i _ _ _ hw;exact⟨i,by simpa using hw,aF⟩
 |cons c l r=>
  intro pos p rest b a i h j t hw;let g:=j c aF;let⟨NI,hd⟩:=je (show s.data.toList.drop pos=c::(l++rest)from h) g.1;let⟨d,e1,e2⟩:=r (pos+1) p rest b a (s.extract p (pos+1)) (at_next (m:=[c]) h) (λx n=>j x (by simp[n])) aA (Lib.extract_data s p (pos+1));refine⟨d,by rw[e1];congr 1;simp;omega,?_⟩;let o:b+(c::l).length=(b+l.length)+1:=bI;rw[o,eA,bY NI,hd];dsimp only;rw[g.2,bN (by rcases mB k with e|e<;>rw[e]<;>decide),bY ⟨rfl,k⟩,qh];dsimp only;let q:pos+1+l.length=pos+(c::l).length:=bI;rw[Int.toNat_natCast,e2,q]
theorem D7{s a}(j:cT a=true){l rest pos last}(i:l≠[])(h:s.data.toList.drop pos=l++rest)(k:∀c,c∈l->c.toNat<128/\aM (c.toNat:Nat)=a)(o:last≠a):CS s pos last l l.length a [(a,l)]:=by
 intro b f;cases l with
 |nil=>exact absurd rfl i
 |cons c l=>
  let d:=k c aF;let⟨NI,hd⟩:=je (show s.data.toList.drop pos=c::(l++rest)from h) d.1;let g:(Utf8.encode (c.toNat:Nat)).data.toList=[c]:=by
   rw[mQ _ aA aA];simp
  let hw:(Utf8.encode (c.toNat:Nat)).data.toList=(s.data.toList.drop pos).take (pos+1-pos):=by
   rw[g,h];have:pos+1-pos=1:=aA;rw[this];rfl
  let⟨wd',e1,e2⟩:=U1 j l (pos+1) pos rest b f (Utf8.encode (c.toNat:Nat)) (at_next (m:=[c]) h) (λx n=>k x (by simp[n])) aA hw;refine⟨[⟨a,pos,wd'⟩],?_,?_⟩
  .simp only[hY,sR,strip];rw[e1,h];have:pos+1+l.length-pos=(c::l).length:=bI;rw[this,List.take_left'];rfl
  .let p:b+(c::l).length=(b+l.length)+1:=by simp;omega
   rw[p,eA,bY NI,hd];dsimp only;rw[d.2,bN (by rcases mB j with e|e<;>rw[e]<;>decide),bN (by intro h;exact o h.1.symm),bN (by rcases mB j with e|e<;>rw[e]<;>decide),e2];let q:pos+1+l.length=pos+(c::l).length:=bI;rw[q]
structure Key where
 op:Int
 name:a_
 lo:Int
 hi:Int
 l:Int
 r:Int
def B7(k q:Key):Bool:=decide (k.op=q.op/\k.name=q.name/\k.lo=q.lo/\k.hi=q.hi/\k.l=q.l/\k.r=q.r)
theorem r8{k q}:B7 k q=true↔k=q:=by
 unfold B7;rw[decide_eq_true_iff];constructor
 .rintro⟨f,a,e,c,d,b⟩;cases k;cases q;simp only at f a e c d b;subst f;subst a;subst e;subst c;subst d;subst b;rfl
 .rintro rfl;exact⟨rfl,rfl,rfl,rfl,rfl,rfl⟩
def rz(K:aB Key)(k:Key):aR Nat:=K.findIdx? (B7 k)
def N1(K:aB Key)(k:Key):Int:=match rz K k with|some i=>(i:Int)+1|none=>0
def rL(K:aB Key)(k:Key):Int×aB Key:=match rz K k with|some i=>((i:Int)+1,K)|none=>((K.length:Int)+1,K++[k])
def cO(K:aB Key):BT dD->Int×aB Key
 |.nil=>(0,K)
 |.node _ _ a l r=>rL (cO (cO K l).2 r).2 ⟨a.op,a.name,a.lo,a.hi,(cO K l).1,(cO (cO K l).2 r).1⟩
def cF:BT dD->Nat
 |.nil=>0
 |.node _ _ _ l r=>cF l+cF r+1
theorem PH{K k i}(h:rz K k=some i):i<K.length:=by
 unfold rz at h;exact(Sn.1 h).1
theorem SQ(K k):K.length<=(rL K k).2.length/\(rL K k).2.length<=K.length+1:=by
 unfold rL;cases h:rz K k with
 |some i=>simp
 |none=>simp
theorem SR(K k):1<=(rL K k).1/\(rL K k).1<=K.length+1:=by
 unfold rL;cases h:rz K k with
 |some i=>have:=PH h;simp;omega
 |none=>simp;omega
theorem ou:∀(x:BT dD)(K:aB Key),K.length<=(cO K x).2.length/\(cO K x).2.length<=K.length+cF x/\0<=(cO K x).1/\(cO K x).1<=K.length+cF x
 |.nil,K=>by simp[cO,cF]
 |.node _ _ a l r,K=>by
  let e:=ou l K
  let b:=ou r (cO K l).2
  let d:=SQ (cO (cO K l).2 r).2 ⟨a.op,a.name,a.lo,a.hi,(cO K l).1,(cO (cO K l).2 r).1⟩
  let c:=SR (cO (cO K l).2 r).2 ⟨a.op,a.name,a.lo,a.hi,(cO K l).1,(cO (cO K l).2 r).1⟩
  simp only[cO,cF]
  omega
theorem vZ(K k)(h:rz K k=none):rz (K++[k]) k=some K.length:=by
 unfold rz at*;rw[List.findIdx?_append,h];simp[List.findIdx?_cons,r8.2 (rfl:k=k)]
theorem uG(K k q)(h:q≠k):rz (K++[k]) q=rz K q:=by
 unfold rz;rw[List.findIdx?_append];let b:B7 q k=false:=by
  cases a:B7 q k with
  |true=>exact absurd (r8.1 a) h
  |false=>rfl
 simp[List.findIdx?_cons,b]
end
section
open Tryz Go.RowKit
theorem Gx(rest r w):
  Calls prog 152 #[.string rest,.int .i32 r] w λe a=>(∃s,e=.returned (.string s))/\a=w:=by
 by_cases b:r=65533
 .subst b;go_enter func152,ntmps152;go_wp2_with (go_at_call 185;refine(strings_HasPrefix _ _ _).mono ?_;rintro e a ⟨rfl,rfl⟩)
  all_goals go_ret
  all_goals exact⟨⟨_,rfl⟩,rfl⟩
 .let hr':(r==65533)=false:=by simp[b]
  go_enter func152,ntmps152;go_wp2;go_ret;exact⟨⟨_,rfl⟩,rfl⟩
theorem PC:(prog.info? 260).map (λi=>(i.zero,i.size,i.bytes))=some (some (.agg #[.int .i32 0,Iv 0,.string ⟨#[]⟩]),3,32):=aL
theorem uA(w:aC)(t e):∀j u,(fC t)[j]?=some u->(w.alloc (.cells #[.int .i32 t.sign,Iv t.place,.string t.word] e)).cell? (((Ad w.heap.size 0):bC).add j)=some u:=by
 intro j u a;have:((Ad w.heap.size 0):bC).add j=(Ad w.heap.size j):=by simp[Addr.add];omega
 rw[this];exact aD (aQ w (.cells #[.int .i32 t.sign,Iv t.place,.string t.word] e (0,0)) _ rfl) (by simpa[fC]using a)
theorem P3(t):∀u,u∈fC t->u.oneCell'=true:=by
 intro u a;simp[fC]at a;obtain rfl|rfl|rfl:=a<;>rfl
theorem pF(a t):((a++[t]).map fC).flatten=(a.map fC).flatten++fC t:=aF
theorem eN(b:aB Tok):(b.map fC).flatten.length=b.length*3:=by
 induction b with
 |nil=>rfl
 |cons a l c=>simp only[hY,CG,ky,c,ic];simp[fC];omega
theorem fS{w:aC}{base size n e v xs}(h:w.ownsRow base e size v n xs)(a:0<n):∃g cap,v=Sl g n cap/\base<=g/\g<w.heap.size/\n<=cap/\cap<=maxLen:=by
 obtain⟨_,⟨_,l⟩|⟨g,cap,f,c,b,i,a,d,j,k⟩⟩:=h
 .omega
 .exact⟨g,cap,c,b,aN i,a,d⟩
theorem NN{w W c:aC}{o s p n e size v xs}(b:W.heap[w.heap.size]?=some (.stringIter s p))(a:W.ownsRow (w.heap.size+1) e size v n xs)(d:(W.alloc o).grownBy c v.ownBlock):
  c.heap[w.heap.size]?=some (.stringIter s p):=by
 let f:=aN b;rw[d.block _ bI (λh=>by have:=(a.lt _ h.symm).1;omega),Lib.alloc_old W o _ f];exact b
theorem Mf{base:Nat}{w:aC}{v:aE}{b:aB Tok}(h:w.ownsRow base 260 3 v b.length (b.map fC).flatten)(c:b≠[]):uX w.heap.size w v b:=by
 obtain⟨m,⟨_,k⟩|⟨g,cap,a,e,l,d,j,f,n,i⟩⟩:=h
 .exact absurd (uJ.1 k) c
 .refine⟨g,0,cap,a,_,_,a.toList.drop (b.length*3),e,aN d,d,j,f,?_⟩;rw[<-i,wF,yz]
def VM(w:aC)(res:aR (aB Tok))(e:Ending)(b:aC):Prop:=
 Bl w b/\((∃a v,res=some a/\e=.returned (.tuple #[v,.nilIface])/\uX b.heap.size b v a/\Ends a/\a.length<=305)
  \/(res=none/\∃c,e=.returned (.tuple #[.slice none 0 0,.iface 201 (.pointer (some c))])))
theorem zsa{T:bQ} (h:T:=by
 go_wp2_with (at_builtin;refine jz _ rfl _ _ 204 rfl (w.heap.size+1) 260 i0 _ 3 32 underlying204 hi nI nJ nS rfl (by decide) _ _ _ rfl (xA.alloc _) (Ad W.heap.size 0) 1 1 (fC ⟨sg,pos,Utf8.encode r⟩) rfl rfl ?c1 ?c2 ?c3 ?c4 ?c5 ?_)
 case c1=>exact uA W ⟨sg,pos,Utf8.encode r⟩ _
 case c2=>exact P3 _
 case c3=>unfold maxLen;omega
 case c4=>omega
 case c5=>have:=NC.size;have:=aN NH;simp;omega
 intro v' w2 PB PA _;go_wp2_with fail;have TK:=NN NH xA PA;refine⟨⟨pos+wid,f,sg,lg++[⟨sg,pos,Utf8.encode r⟩],TK,?_,rfl,?_,hR2,by omega,K8.more (by omega) hs1,by omega⟩,?_⟩
 .rw[pF];simpa using PB
 .exact(NC.al _).grown PA (by have:=NC.size;simp;omega) (λk hk=>by have:=(xA.lt k hk).1;omega)
 .rw[Av TK,hm.out];omega):T:=h
theorem U6(s w)(M:s.size<=300):
  Calls prog 113 #[.string s] w (VM w (eA s s.size 0 32 [])):=by
 generalize u:eA s s.size 0 32 []=res;go_enter func113,ntmps113;go_wp2;go_loopw [4,5] (λv l wr=>∃(pos b:Nat)(last:Int)(lg:aB Tok),wr.heap[w.heap.size]?=some (.stringIter s pos)/\wr.ownsRow (w.heap.size+1) 260 3 v lg.length (lg.map fC).flatten/\l=.int .i32 last/\Bl w wr/\Hid (eA s b pos last lg=res)/\s.size<=pos+b/\J_ pos last lg/\pos<=304) (λ_ _ wr=>s.size-wr.iterPos w.heap.size)
 case atStart=>
  exact⟨0,s.size,32,[],World.iter_heap w s 0,fI _ _ _ _,rfl,aV.al (.stringIter s 0),u,aA,J_.start,aA⟩
 case round=>
  obtain⟨pos,b,last,lg,h,c,rfl,m,x,I,K8,F⟩:=hrel;have G:=K8.len;by_cases y:pos<s.size
  .have D:∀n,(Instr.next (Pt w.heap.size) true n).run prog wr=_:=λn=>Lib.run_next_any_at wr w.heap.size s pos n h y;have J:=Bx s pos y;have H:=Vq s pos;obtain⟨f,rfl⟩:∃f,b=f+1:=⟨b-1,aA⟩;have NH:=Lib.iterAt_heap wr w.heap.size s pos (pos+(Utf8.decode s pos).2) h;have NC:=Lib.below_iterAt m (k:=w.heap.size) aZ s (pos+(Utf8.decode s pos).2);have xA:=ownsRow_iterAt c (k:=w.heap.size) aA s (pos+(Utf8.decode s pos).2);have C:Hid (res=(if aM (Utf8.decode s pos).1=-2 then none
    else if aM (Utf8.decode s pos).1=last/\cT (aM (Utf8.decode s pos).1)=true then
     eA s f (pos+(Utf8.decode s pos).2) (aM (Utf8.decode s pos).1) (GX s pos lg)
    else if aM (Utf8.decode s pos).1=32 then eA s f (pos+(Utf8.decode s pos).2) (aM (Utf8.decode s pos).1) lg
    else eA s f (pos+(Utf8.decode s pos).2) (aM (Utf8.decode s pos).1) (lg++[⟨aM (Utf8.decode s pos).1,pos,Utf8.encode (Utf8.decode s pos).1⟩]))):=by
    show _=_;rw[<-x.out];show eA s (f+1) pos last lg=_;rw[eA,bY y]
   have hm:=hid (Av h);have L:=E3 (Utf8.decode s pos).1;go_wp2_with fail;apply(OT _ _).mono;rintro e B ⟨rfl,rfl⟩;generalize wr.iterAt w.heap.size s (pos+(Utf8.decode s pos).2)=W at*;generalize((Utf8.decode s pos).1:Int)=r at*;generalize(Utf8.decode s pos).2=wid at*;generalize aM r=sg at*;by_cases o:sg=-2
   .have j:Hid (res=none):=by show _=_;rw[C.out,bY o]
    subst o;go_wp2_with fail;apply(Gx _ _ _).mono;rintro e B ⟨⟨str,rfl⟩,rfl⟩;go_wp2;go_ret2;exact⟨NC.al _,.inr ⟨j.out,_,rfl⟩⟩
   .have R:(sg==-2)=false:=by simp[o]
    have hs1:sg≠-1:=aA;by_cases A:sg=last/\cT sg=true
    .have j:Hid (res=eA s f (pos+wid) sg (GX s pos lg)):=by show _=_;rw[C.out,bN o,bY A]
     have⟨q,hjb⟩:=A;subst q;obtain⟨d,t,rfl⟩:∃d t,lg=d++[t]:=⟨lg.dropLast,lg.getLast (K8.join hjb),(List.dropLast_concat_getLast (K8.join hjb)).symm⟩;rw[qh]at j;have⟨g,cap,hv,hg1,hg2,abk,YB⟩:=fS xA aF;subst hv;simp only[ky,ic,jr,fE]at*;have cp:W.cell? (Ad g (d.length*3+1))=some (Iv t.place):=by
      rw[xA.cellAt _ aA,pF,sK (by rw[eN];omega),eN];simp[fC]
     have O:W.cell? (Ad g (d.length*3+2))=some (.string t.word):=by
      rw[xA.cellAt _ aA,pF,sK (by rw[eN];omega),eN];simp[fC]
     have P:W.frozen? (Ad g (d.length*3+2))=false:=xA.frozenAt _;have⟨_,_,hp0,hp1⟩:=K8.each t aF;unfold maxLen at YB;go_wp2_with fail;apply(Bg _ _).mono;rintro e B ⟨rfl,rfl⟩;go_wp2_with fail;have hR':=hid j.out.symm;have TK:(B.setCell (Ad g (d.length*3+2)) (.string (s.extract t.place.toNat (pos+1)))).heap[w.heap.size]?=some (.stringIter s (pos+wid)):=by
      rw[mE _ _ _ _ (by show w.heap.size≠g;omega)];exact NH
     refine⟨⟨pos+wid,f,sg,d++[⟨t.sign,t.place,s.extract t.place.toNat (pos+1)⟩],TK,?_,rfl,?_,hR',aA,K8.grow aA M,aA⟩,?_⟩
     .have:=(xA.stored (d.length*3+2) (.string (s.extract t.place.toNat (pos+1)))).1;rw[pF]at this;rw[pF];rw[FB _ _ (by rw[eN];omega),eN]at this;have K:d.length*3+2-d.length*3=2:=aA;rw[K]at this;simpa[fC]using this
     .exact NC.setCell (p:=(Ad g (d.length*3+2))) (by show w.heap.size<=g;omega) _
     .rw[Av TK,hm.out];omega
    .have j:Hid (res=if sg=32 then eA s f (pos+wid) sg lg else eA s f (pos+wid) sg (lg++[⟨sg,pos,Utf8.encode r⟩])):=by show _=_;rw[C.out,bN o,bN A]
     have a:(sg==last)=false\/((sg==last)=true/\cT sg=false):=by
      by_cases q:sg=last
      .exact .inr ⟨by simp[q],by cases N:cT sg with|true=>exact absurd ⟨q,N⟩ A|false=>rfl⟩
      .exact .inl (by simp[q])
     have⟨i0,hi,nI,nJ,nS⟩:=eB PC;by_cases i:sg=32
     .have hR2:Hid (eA s f (pos+wid) 32 lg=res):=by show _=_;rw[j.out,bY i,i]
      subst i;have z:=K8.blank (p2:=pos+wid) aA;obtain a|⟨a,E⟩:=a
      .go_wp2_with fail;exact⟨⟨pos+wid,f,32,lg,NH,xA,rfl,NC,hR2,aA,z,aA⟩,by rw[Av NH,hm.out];omega⟩
      .go_wp2_with fail;apply(Bg _ _).m0;go_wp2_with fail;exact⟨⟨pos+wid,f,32,lg,NH,xA,rfl,NC,hR2,aA,z,aA⟩,by rw[Av NH,hm.out];omega⟩
     .have hR2:Hid (eA s f (pos+wid) sg (lg++[⟨sg,pos,Utf8.encode r⟩])=res):=by show _=_;rw[j.out,bN i]
      have Q:(sg !=32)=true:=by simp[i]
      obtain a|⟨a,E⟩:=a
      .exact zsa
      .go_wp2_with fail;apply(Bg _ _).m0;exact zsa
  .have D:∀n,(Instr.next (Pt w.heap.size) true n).run prog wr=_:=λn=>Lib.run_next_end_at wr w.heap.size s pos n h y;have j:Hid (res=some (lg++[kY s])):=by show _=_;rw[<-x.out,sB s b pos last lg y]
   have⟨i0,hi,nI,nJ,nS⟩:=eB PC;go_wp2_with (at_builtin;refine jz _ rfl _ _ 204 rfl (w.heap.size+1) 260 i0 _ 3 32 underlying204 hi nI nJ nS rfl aG _ _ _ rfl (c.alloc _) (Ad wr.heap.size 0) 1 1 (fC (kY s)) rfl rfl ?c1 ?c2 ?c3 ?c4 ?c5 ?_)
   case c1=>exact uA wr (kY s) _
   case c2=>exact P3 _
   case c3=>unfold maxLen;omega
   case c4=>omega
   case c5=>have:=aN h;simp;omega
   intro v' w2 PB PA _;go_wp2;go_ret2;refine⟨?_,.inl ⟨_,_,j.out,rfl,Mf (by rw[pF];simpa using PB) aF,K8.ends s,bI⟩⟩;exact(m.al _).grown PA (by have:=m.size;simp;omega) (λk hk=>by have:=(c.lt k hk).1;omega)
theorem DJ(B:Nat)(v:aE)(n:Nat)(xs:aB aE)(w:aC)(d:w.ownsRowF B 5 1 v n xs)(g:n+4<=140737488355328)(k:B<=w.heap.size):
  Calls prog 190 #[v,.int .i32 172] w λe i=>∃f,e=.returned f/\i.ownsRowF B 5 1 f (n+2) (xs++[.int .u8 194,.int .u8 172])/\∃o,(w.alloc o).grownBy i v.ownBlock:=by
 let⟨i0,hi,nI,nJ,nS⟩:=eB tU;go_enter func190,ntmps190;go_wp2_with (first|go_in|(at_builtin;refine wpList_append_ownF _ rfl _ _ 99 rfl B 5 i0 (.int .u8 0) 1 1 underlying99 hi nI nJ nS rfl aG _ _ _ rfl (d.alloc _) (Ad w.heap.size 0) 2 2 [.int .u8 194,.int .u8 172] rfl rfl ?c1 ?c2 ?c3 ?c4 ?c5 ?_))
 case c1=>
  intro j u a
  match j,a with
  |0,a=>simp at a;subst a;simp[Addr.add]
  |1,a=>simp at a;subst a;simp[Addr.add]
  |(j+2),a=>simp at a
 case c2=>intro u h;simp at h;rcases h with rfl|rfl<;>rfl
 case c3=>unfold maxLen;omega
 case c4=>omega
 case c5=>simp;omega
 intro f l b c _;go_wp2;go_ret;exact⟨_,rfl,b,_,c⟩
theorem CV(B:Nat)(v:aE)(n:Nat)(xs:aB aE)(w:aC)(d:w.ownsRowF B 5 1 v n xs)(g:n+4<=140737488355328)(k:B<=w.heap.size):
  Calls prog 190 #[v,.int .i32 8743] w λe i=>∃f,e=.returned f/\i.ownsRowF B 5 1 f (n+3) (xs++[.int .u8 226,.int .u8 136,.int .u8 167])/\∃o,(w.alloc o).grownBy i v.ownBlock:=by
 let⟨i0,hi,nI,nJ,nS⟩:=eB tU;go_enter func190,ntmps190;go_wp2_with (first|go_in|(at_builtin;refine wpList_append_ownF _ rfl _ _ 99 rfl B 5 i0 (.int .u8 0) 1 1 underlying99 hi nI nJ nS rfl aG _ _ _ rfl (d.alloc _) (Ad w.heap.size 0) 3 3 [.int .u8 226,.int .u8 136,.int .u8 167] rfl rfl ?c1 ?c2 ?c3 ?c4 ?c5 ?_))
 case c1=>
  intro j u a
  match j,a with
  |0,a=>simp at a;subst a;simp[Addr.add]
  |1,a=>simp at a;subst a;simp[Addr.add]
  |2,a=>simp at a;subst a;simp[Addr.add]
  |(j+3),a=>simp at a
 case c2=>intro u h;simp at h;rcases h with rfl|rfl|rfl<;>rfl
 case c3=>unfold maxLen;omega
 case c4=>omega
 case c5=>simp;omega
 intro f l b c _;go_wp2;go_ret;exact⟨_,rfl,b,_,c⟩
theorem CW(B:Nat)(v:aE)(n:Nat)(xs:aB aE)(w:aC)(d:w.ownsRowF B 5 1 v n xs)(g:n+4<=140737488355328)(k:B<=w.heap.size):
  Calls prog 190 #[v,.int .i32 8744] w λe i=>∃f,e=.returned f/\i.ownsRowF B 5 1 f (n+3) (xs++[.int .u8 226,.int .u8 136,.int .u8 168])/\∃o,(w.alloc o).grownBy i v.ownBlock:=by
 let⟨i0,hi,nI,nJ,nS⟩:=eB tU;go_enter func190,ntmps190;go_wp2_with (first|go_in|(at_builtin;refine wpList_append_ownF _ rfl _ _ 99 rfl B 5 i0 (.int .u8 0) 1 1 underlying99 hi nI nJ nS rfl aG _ _ _ rfl (d.alloc _) (Ad w.heap.size 0) 3 3 [.int .u8 226,.int .u8 136,.int .u8 168] rfl rfl ?c1 ?c2 ?c3 ?c4 ?c5 ?_))
 case c1=>
  intro j u a
  match j,a with
  |0,a=>simp at a;subst a;simp[Addr.add]
  |1,a=>simp at a;subst a;simp[Addr.add]
  |2,a=>simp at a;subst a;simp[Addr.add]
  |(j+3),a=>simp at a
 case c2=>intro u h;simp at h;rcases h with rfl|rfl|rfl<;>rfl
 case c3=>unfold maxLen;omega
 case c4=>omega
 case c5=>simp;omega
 intro f l b c _;go_wp2;go_ret;exact⟨_,rfl,b,_,c⟩
theorem FY(B:Nat)(v:aE)(n:Nat)(xs:aB aE)(w:aC)(d:w.ownsRowF B 5 1 v n xs)(g:n+4<=140737488355328)(k:B<=w.heap.size):
  Calls prog 190 #[v,.int .i32 89] w λe i=>∃f,e=.returned f/\i.ownsRowF B 5 1 f (n+1) (xs++[.int .u8 89])/\∃o,(w.alloc o).grownBy i v.ownBlock:=by
 let⟨i0,hi,nI,nJ,nS⟩:=eB tU;go_enter func190,ntmps190;go_wp2_with (first|go_in|(at_builtin;refine wpList_append_ownF _ rfl _ _ 99 rfl B 5 i0 (.int .u8 0) 1 1 underlying99 hi nI nJ nS rfl aG _ _ _ rfl (d.alloc _) (Ad w.heap.size 0) 1 1 [.int .u8 89] rfl rfl ?c1 ?c2 ?c3 ?c4 ?c5 ?_))
 case c1=>
  intro j u c
  match j,c with
  |0,c=>simp at c;subst c;simp[Addr.add]
  |(j+1),c=>simp at c
 case c2=>intro u h;simp at h;subst h;rfl
 case c3=>unfold maxLen;omega
 case c4=>omega
 case c5=>simp;omega
 intro f l a b _;go_wp2;go_ret;exact⟨_,rfl,a,_,b⟩
theorem FW(B:Nat)(v:aE)(n:Nat)(xs:aB aE)(w:aC)(d:w.ownsRowF B 5 1 v n xs)(g:n+4<=140737488355328)(k:B<=w.heap.size):
  Calls prog 190 #[v,.int .i32 79] w λe i=>∃f,e=.returned f/\i.ownsRowF B 5 1 f (n+1) (xs++[.int .u8 79])/\∃o,(w.alloc o).grownBy i v.ownBlock:=by
 let⟨i0,hi,nI,nJ,nS⟩:=eB tU;go_enter func190,ntmps190;go_wp2_with (first|go_in|(at_builtin;refine wpList_append_ownF _ rfl _ _ 99 rfl B 5 i0 (.int .u8 0) 1 1 underlying99 hi nI nJ nS rfl aG _ _ _ rfl (d.alloc _) (Ad w.heap.size 0) 1 1 [.int .u8 79] rfl rfl ?c1 ?c2 ?c3 ?c4 ?c5 ?_))
 case c1=>
  intro j u c
  match j,c with
  |0,c=>simp at c;subst c;simp[Addr.add]
  |(j+1),c=>simp at c
 case c2=>intro u h;simp at h;subst h;rfl
 case c3=>unfold maxLen;omega
 case c4=>omega
 case c5=>simp;omega
 intro f l a b _;go_wp2;go_ret;exact⟨_,rfl,a,_,b⟩
theorem FV(B:Nat)(v:aE)(n:Nat)(xs:aB aE)(w:aC)(d:w.ownsRowF B 5 1 v n xs)(g:n+4<=140737488355328)(k:B<=w.heap.size):
  Calls prog 190 #[v,.int .i32 72] w λe i=>∃f,e=.returned f/\i.ownsRowF B 5 1 f (n+1) (xs++[.int .u8 72])/\∃o,(w.alloc o).grownBy i v.ownBlock:=by
 let⟨i0,hi,nI,nJ,nS⟩:=eB tU;go_enter func190,ntmps190;go_wp2_with (first|go_in|(at_builtin;refine wpList_append_ownF _ rfl _ _ 99 rfl B 5 i0 (.int .u8 0) 1 1 underlying99 hi nI nJ nS rfl aG _ _ _ rfl (d.alloc _) (Ad w.heap.size 0) 1 1 [.int .u8 72] rfl rfl ?c1 ?c2 ?c3 ?c4 ?c5 ?_))
 case c1=>
  intro j u c
  match j,c with
  |0,c=>simp at c;subst c;simp[Addr.add]
  |(j+1),c=>simp at c
 case c2=>intro u h;simp at h;subst h;rfl
 case c3=>unfold maxLen;omega
 case c4=>omega
 case c5=>simp;omega
 intro f l a b _;go_wp2;go_ret;exact⟨_,rfl,a,_,b⟩
theorem FX(B:Nat)(v:aE)(n:Nat)(xs:aB aE)(w:aC)(d:w.ownsRowF B 5 1 v n xs)(g:n+4<=140737488355328)(k:B<=w.heap.size):
  Calls prog 190 #[v,.int .i32 83] w λe i=>∃f,e=.returned f/\i.ownsRowF B 5 1 f (n+1) (xs++[.int .u8 83])/\∃o,(w.alloc o).grownBy i v.ownBlock:=by
 let⟨i0,hi,nI,nJ,nS⟩:=eB tU;go_enter func190,ntmps190;go_wp2_with (first|go_in|(at_builtin;refine wpList_append_ownF _ rfl _ _ 99 rfl B 5 i0 (.int .u8 0) 1 1 underlying99 hi nI nJ nS rfl aG _ _ _ rfl (d.alloc _) (Ad w.heap.size 0) 1 1 [.int .u8 83] rfl rfl ?c1 ?c2 ?c3 ?c4 ?c5 ?_))
 case c1=>
  intro j u c
  match j,c with
  |0,c=>simp at c;subst c;simp[Addr.add]
  |(j+1),c=>simp at c
 case c2=>intro u h;simp at h;subst h;rfl
 case c3=>unfold maxLen;omega
 case c4=>omega
 case c5=>simp;omega
 intro f l a b _;go_wp2;go_ret;exact⟨_,rfl,a,_,b⟩
theorem DK(r:Int)(g:mZ r)(B:Nat)(v:aE)(n:Nat)(xs:aB aE)(w:aC)(b:w.ownsRowF B 5 1 v n xs)(a:n+4<=140737488355328)(c:B<=w.heap.size):
  Calls prog 190 #[v,.int .i32 r] w λe f=>∃d,e=.returned d/\f.ownsRowF B 5 1 d (n+(dO r).length) (xs++Lib.byteCells (dO r))/\∃o,(w.alloc o).grownBy f v.ownBlock:=by
 obtain rfl|rfl|rfl|rfl|rfl|rfl|rfl:=g
 .exact DJ B v n xs w b a c
 .exact CV B v n xs w b a c
 .exact CW B v n xs w b a c
 .exact FY B v n xs w b a c
 .exact FW B v n xs w b a c
 .exact FV B v n xs w b a c
 .exact FX B v n xs w b a c
theorem GA(r)(y:mZ r)(B b d w)(h:yG B b d w)(m:d.length+4<=140737488355328)(G:B<=w.heap.size):
  Calls prog 164 #[Pt b,.int .i32 r] w λe I=>(∃n,e=.returned (.tuple #[Iv n,.nilIface]))/\IC B b (d++Lib.byteCells (dO r)) w I:=by
 let C:=yj r;let D:1<=(dO r).length:=by rcases y with rfl|rfl|rfl|rfl|rfl|rfl|rfl<;>decide
 go_enter func164,ntmps164;go_wp2_with fail;refine(ri B b d _ h).m λs ⟨F,i,q⟩=>?_;let⟨hB,v,Pw,qi,hne⟩:=F;obtain⟨ao,cap,rfl⟩:∃ao cap,v=.slice ao d.length cap:=by
  obtain⟨l,z⟩|⟨g,cap,u,H,l,_⟩:=qi.2
  .exact⟨none,0,by rw[l,z]⟩
  .exact⟨_,_,l⟩
 let M:s.cell? (Ad b 0)=some (Pt b):=by rw[uI Pw];rfl
 let J:s.cell? (Ad b 1)=some (.slice ao d.length cap):=by rw[uI Pw];rfl
 let t:=aN Pw;go_wp2_with fail;refine(DK r y B _ d.length d _ qi m (by have:=i.size;omega)).mono ?_;rintro e x ⟨E,rfl,f,o,a⟩;let j:x.heap[b]?=some (.cells #[Pt b,.slice ao d.length cap] 137 (0,0)):=by
  rw[a.block b bI λe=>hne e.symm,Lib.alloc_old s _ b t];exact Pw
 let d0:x.cell? (Ad b 0)=some (Pt b):=by rw[uI j];rfl
 let L:x.cell? (Ad b 1)=some (.slice ao d.length cap):=by rw[uI j];rfl
 let K:=cK j 1;obtain⟨g,c,rfl⟩:∃g c,E=Sl g (d.length+(dO r).length) c:=by
  obtain⟨_,z⟩|⟨g,c,u,H,l,_⟩:=f.2
  .omega
  .exact⟨g,c,l⟩
 go_wp2;go_ret2;refine⟨⟨_,rfl⟩,.inr (Lib.BuilderAtF.put (T:=137) (e:=5) hB j (bs':=d++Lib.byteCells (dO r)) (by simpa[Lib.byteCells_length]using f) aG),?_,((q.alloc _).grown a (Lib.ownsRowF_kind (qi.alloc _))).setCell (Ad b 1) rfl _⟩
 .exact((i.alloc (by have:=i.size;omega) _).grown a (by have:=i.size;simp;omega) λk A=>(qi.lt k A).1).setCell (p:=(Ad b 1)) hB _
end
end Go.Proofs.YtpbbmagjhkakgaaGreatDoor
