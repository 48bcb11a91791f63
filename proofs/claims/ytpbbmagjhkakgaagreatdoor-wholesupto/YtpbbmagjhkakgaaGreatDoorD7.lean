import Derived.Test.YtpbbmagjhkakgaaGreatDoorD6
namespace Go.Proofs.YtpbbmagjhkakgaaGreatDoor
set_option maxHeartbeats 4000000
set_option maxRecDepth 100000
namespace Ev
open Tryz Go.RowKit Go.Deep Lf
def mf(n:Nat)(row:aB aE):aB aE:=(List.replicate n row).flatten
theorem EW(n row):(mf n row).length=n*row.length:=by simp[mf]
theorem wo(n m row):mf (n+m) row=mf n row++mf m row:=by unfold mf;rw[<-MD,List.replicate_append_replicate]
theorem Rw(n m row)(h:n<=m):(mf m row).take (n*row.length)=mf n row:=by
 obtain⟨k,rfl⟩:=Nat.exists_eq_add_of_le h;rw[wo,<-EW,List.take_left]
def EE(n:Nat):aB aE:=[Iv (-(n:Int)),Iv (-(n:Int)),Iv (-(n:Int)),.bool false]
def xD(n:Nat):aB aE:=[.string ⟨(oW n).toArray⟩]
structure mK where
 n:Nat
 gv:aE
 tv:aE
def Yk(e:mK):aB aE:=[Iv (e.n:Int),e.gv,e.tv]
def nF(E:aB mK):aB aE:=(E.map Yk).flatten
def Reads(w:aC)(t:TypeId)(row:aB aE)(v:aE):Prop:=∃k,k<=1000000000/\w.ownsRow 0 t row.length v k (mf k row)
structure BJ(Lw:Nat->Prop)(w:aC)(e:mK):Prop where
 g:Reads w 59 (EE e.n) e.gv
 t:Reads w 9 (xD e.n) e.tv
 own:∀b,e.gv.ownBlock=some b\/e.tv.ownBlock=some b->Lw b
structure lu(Lw:Nat->Prop)(wb:Nat)(lN kv:aE)(n:Nat)(E:aB mK)(w:aC):Prop where
 cell:w.heap[wb]?=some (.cells #[lN,Iv (n:Int),kv] 70 (0,0))
 kept:w.ownsRow 0 123 3 kv E.length (nF E)
 mR:∀e∈E,BJ Lw w e
 own:Lw wb/\∀b,kv.ownBlock=some b->Lw b
def IE(b:Nat->Prop)(d:Nat)(a:aE)(n:Nat)(E:aB mK)(w:aC):Prop:=∃c,lu b d a c n E w
theorem Reads.spare{P w a t row v}(h:Reads w t row v)(d:aH P w a)(c:∀b,v.ownBlock=some b->¬P b):Reads a t row v:=by
 let⟨k,hk,h⟩:=h;exact⟨k,hk,cG h d c⟩
theorem BJ.spare{P f w g e}(h:BJ f w e)(d:aH P w g)(c:∀b,e.gv.ownBlock=some b\/e.tv.ownBlock=some b->¬P b):BJ f g e:=
 ⟨h.g.spare d λb a=>c b (.inl a),h.t.spare d λb a=>c b (.inr a),h.own⟩
theorem lu.move{P Lw j n a i E w k}(h:lu Lw j a i n E w)(f:aH P w k)(c:∀b,Lw b->¬P b):lu Lw j a i n E k:=
 ⟨f.get h.cell (c _ h.own.1),cG h.kept f λb d=>c b (h.own.2 b d),λe g=>(h.mR e g).spare f λb d=>c b ((h.mR e g).own b d),h.own⟩
theorem lu.mono{g c j n a i E w}(h:lu g j a i n E w)(hL:∀b,g b->c b):lu c j a i n E w:=
 ⟨h.cell,h.kept,λe d=>⟨(h.mR e d).g,(h.mR e d).t,λb f=>hL b ((h.mR e d).own b f)⟩,hL _ h.own.1,λb f=>hL b (h.own.2 b f)⟩
theorem Ru{t}{row}{l I i}{n m k}{w v}(G:0<row.length)(h:Sw 0 t row.length l n m (mf n row) (mf m row) w I v)(K:w.ownsRow 0 t row.length l n (mf n row))(y:w.ownsRow 0 t row.length i k (mf k row))(p:k<=n+m):v.ownsRow 0 t row.length i k (mf k row):=by
 by_cases e:i.ownBlock=l.ownBlock
 .obtain⟨d,⟨rfl,F⟩|⟨g,cap,o,rfl,_,f,r,a5,q,J⟩⟩:=y
  .exact⟨d,.inl ⟨rfl,F⟩⟩
  obtain c|⟨_,c⟩:=h.at_
  .obtain⟨_,⟨rfl,_⟩|⟨M,s,C,rfl,_,z,T,Q,E,N⟩⟩:=K
   .cases e
   cases e;obtain⟨_,⟨j,_⟩|⟨S,x,a,j,_,B,R,W,H,X⟩⟩:=h.old
   .cases j
   cases j;obtain⟨_,⟨rfl,_⟩|⟨U,A,u,rfl,_,D,O,P,V,L⟩⟩:=h.own
   .cases c
   cases c;rw[f]at z;cases z;rw[B]at D;cases D;have b:=Nat.eq_of_mul_eq_mul_right G (q.symm.trans E);subst b;refine⟨d,.inr ⟨g,cap,_,rfl,Nat.zero_le _,B,r,a5,H,?_⟩⟩;have:a.toList.take (k*row.length)=(a.toList.take ((n+m)*row.length)).take (k*row.length):=by
    rw[List.take_take,CD (MC _ p)]
   rw[this,L,<-wo,Rw _ _ _ p]
  .exact⟨d,.inr ⟨g,cap,o,rfl,cC,(c g (aN f)).trans f,r,a5,q,J⟩⟩
 .exact y.kept h.grown (.inr e)
theorem zK(n:Nat)(w)(c:n<=1000000000000):Calls prog 72 #[Iv (n)] w λe b=>e=.returned (.agg #[Iv (-(n)),Iv (-(n)),Iv (-(n)),.bool false])/\Bl w b:=by
 go_enter func72,ntmps72;go_wp2_with fail;let a:(w.alloc (.cells #[Iv (-(n:Int)),Iv (-(n:Int)),Iv (-(n:Int)),.bool false] 59)).heap[w.heap.size]?=some (.cells #[Iv (-(n:Int)),Iv (-(n:Int)),Iv (-(n:Int)),.bool false] 59 (0,0)):=aQ _ _ _ rfl;refine⟨rfl,_,?_,rfl,aV.al _⟩;simp[results,f72,go_sem,loadVar,aD (i:=0) a rfl,aD (i:=1) a rfl,aD (i:=2) a rfl,(aD (i:=3) a rfl)]
theorem Bf:(prog.info? 123).map (λi=>(i.zero,i.size,i.bytes))=some (some (.agg #[Iv 0,.slice none 0 0,.slice none 0 0]),3,56):=aL
theorem lf{w:aC}{base size n b e t v xs a m}(h:w.ownsRow base e size v n xs)(d:w.heap[b]?=some (.cells a t m))(c:e≠t):v.ownBlock≠some b:=λe=>by
 let⟨cur,k⟩:=cE h e
 rw[d]at k
 cases k
 exact c rfl
theorem gO(w b i v):aH (λk=>k=b) w (w.setCell (Ad b i) v):=fJ w (Ad b i) v
theorem lu.put{Lw a:Nat->bQ}{d n:Nat}{i m v':aE}{E f:aB mK}{w w':aC}(j:w.heap[d]?=some (.cells #[i,Iv (n:Int),m] 70 (0,0)))(p:w.ownsRow 0 123 3 m E.length (nF E))(z:∀e∈E++f,BJ Lw w e)(hL:∀b,Lw b->a b)(hw:Lw d)
  (h:w.grownBy w' m.ownBlock) (r:w'.ownsRow 0 123 3 v' (E.length+f.length) (nF E++nF f)) (B:∀b,v'.ownBlock=some b->a b):lu a d i v' n (E++f) (w'.setCell (Ad d 2) v'):=by
 let Dp:=(h.block d (aN j) λe=>lf p j aG e.symm).trans j;let u:=gO w' d 2 v';refine⟨by simp[World.setCell,uy,Dp],?_,λe C=>?_,hL _ hw,B⟩
 .have:nF (E++f)=nF E++nF f:=by simp[nF]
  rw[this,ky];exact cG r u λg h e=>lf r Dp aG (e▸h)
 .let o:=z e C;let⟨k1,p1,q1⟩:=o.g;let⟨k2,p2,q2⟩:=o.t;let x:∀{t:TypeId}{s k:Nat}{v:aE}{xs:aB aE},w.ownsRow 0 t s v k xs->t≠70->t≠123->(w'.setCell (Ad d 2) v').ownsRow 0 t s v k xs:=λ{t s k v xs} q A y=>eF q λg l=>by
   let⟨cur,c⟩:=cE q l;rw[u.block g (fZ (aN c) h.size) λe=>lf q j A (e▸l)];exact h.block g (aN c) λe=>by
    let⟨abj,c2⟩:=cE p e.symm;rw[c]at c2;cases c2;exact y rfl
  exact⟨⟨k1,p1,x q1 aG aG⟩,⟨k2,p2,x q2 aG aG⟩,λb l=>hL b (o.own b l)⟩
theorem Uh{c}(h:c.toNat<97\/122<c.toNat):si c=false:=by
 unfold si;rw[Bool.and_eq_false_iff,Mz,Mz];omega
theorem PF{c}(h:¬c.toNat<97)(k:¬122<c.toNat):si c=true:=by
 unfold si;rw[jS aA,jS aA];rfl
theorem HZ(s w)(u:s.size<=1000000000):Calls prog 107 #[.string s] w λe t=>e=.returned (.bool (ja s))/\Bl w t:=by
 have j:Hid (ja s=(s.data.toList.all si&&(decide (1<=s.size)&&decide (s.size<=8)&& !(s.toList==[116,114,117,101])))):=rfl;generalize ja s=res at*;go_enter func107,ntmps107;go_wp2;go_loopw [3] (λk wr=>∃(i:Nat)(z:aB aX),k=Iv i/\i<=s.size/\Bl w wr/\Go.Proofs.YtpbbmagjhkakgaaGreatDoor.At s i z/\Hid (s.data.toList.all si=z.all si)) (λk _=>s.size-(intOf k).toNat)
 case atStart=>exact⟨0,_,rfl,cC,aV,lJ s 0,rfl⟩
 case round=>
  obtain⟨i,z,rfl,n,g,m,a⟩:=hrel;cases z with
  |nil=>
   have l:=m.nil;have b:Hid (res=(decide (1<=s.size)&&decide (s.size<=8)&& !(s.toList==[116,114,117,101]))):=by show _=_;rw[j.out,a.out];rfl
   cases q:(s.toList==[116,114,117,101])<;>rw[q]at b<;>by_cases f:1<=s.size<;>by_cases d:s.size<=8
   all_goals go_wp2_with fail
   all_goals go_ret
   all_goals exact⟨by rw[b.out];simp[f,d],g⟩
  |cons c r=>
   have⟨l,hc,ht⟩:=m.cons;have o:=Ar c;have b:Hid (si c=false->res=false):=λh=>by rw[j.out,a.out,List.all_cons,h];rfl
   by_cases f:c.toNat<97
   .clear a j;go_wp2;go_ret;exact⟨by rw[b.out (Uh (.inl f))];rfl,g⟩
   .by_cases d:122<c.toNat
    .clear a j;go_wp2;go_ret;exact⟨by rw[b.out (Uh (.inr d))];rfl,g⟩
    .have p:Hid (s.data.toList.all si=r.all si):=by show _=_;rw[a.out,List.all_cons,PF f d];rfl
     go_wp2
     try go_big_round
     exact⟨⟨i+1,r,dV,l,g,ht,p⟩,zm⟩
theorem AU{w g t a n}(h:(g,t,n)∈jn)(b:iw w g t a):lQ w (.iface 357 (.pointer (some a))) n:=⟨_,a,og (by simp[leaves]),.inl ⟨rfl,g,t,h,b⟩⟩
theorem rQ{w T a n}(h:(T,n)∈r_)(b:T∈leaves):lQ w (.iface T (.pointer (some a))) n:=⟨_,a,og b,.inr h⟩
def VE(w a:aC)(e:Ending)(z:Int):Prop:=Bl w a/\((z=0/\e=.returned .nilIface)\/(z≠0/\∃T q,e=.returned (.iface T q)/\lQ a (.iface T q) z))
theorem Q'{s}(h:ja s=true):∀{i:Nat}{z},Go.Proofs.YtpbbmagjhkakgaaGreatDoor.At s i z->z.all si=true:=by
 intro i z b;unfold ja at h;rw[sP,yE]at h;rw[yE];intro c a;rw[<-(show s.data.toList.drop i=z from b)]at a;exact h.1 c (sN a)
theorem wS{s}(h:ja s=true):oC s:=by
 let i:=h;unfold ja at h;simp only[sP,pz,Bool.not_eq_true']at h;refine⟨h.2.1.1,h.2.1.2,?_,h.2.2,λpos g=>?_⟩
 .rw[rG];intro e;have:=oB List.length e;rw[Iz]at this;let b:=h.2.1.1;rw[show s.size=s.data.toList.length by simp]at b;rw[this]at b;simp at b
 .let a:=lJ s pos;cases e:s.data.toList.drop pos with
  |nil=>rw[e]at a;exact absurd g a.nil
  |cons c r=>
   let d:=Q' i a;rw[e,List.all_cons,sP]at d;let f:=d.1;unfold si at f;simp only[sP,pz]at f;have:=(je e aA).2;rw[this];show 97<=((c.toNat:Nat):Int)/\((c.toNat:Nat):Int)<=122;omega
theorem Es(s w)(u:s.size<=maxLen):Calls prog 167 #[.string s] w λe x=>e=.returned (.bool (ja s))/\Bl w x:=by
 cases g:ja s with
 |true=>exact G_ s (wS g) w
 |false=>
  unfold maxLen at u;have l:(s.toList==[])=decide (s.size=0):=by
   rw[CK,wG,pz,Iz,show s.size=s.data.toList.length by simp];exact uJ.symm
  by_cases o:s.size=0
  .rw[jS o]at l;go_enter func167,ntmps167;go_wp2;go_ret;exact⟨rfl,aV⟩
  rw[j_ o]at l;by_cases B:8<s.size
  .go_enter func167,ntmps167;go_wp2;go_ret;exact⟨rfl,aV⟩
  cases v:(s.toList==[116,114,117,101])with
  |true=>
   go_enter func167,ntmps167;go_wp2;go_ret;exact⟨rfl,aV⟩
  |false=>
   have y:Hid (s.data.toList.all si=false):=by
    show s.data.toList.all si=false;have:=g;unfold ja at this;rw[v,jS (by omega:1<=s.size),jS (by omega:s.size<=8)]at this;simpa using this
   go_enter func167,ntmps167;go_wp2;go_loopw [4] (λ_ wr=>∃(pos:Nat)(z:aB aX),wr.heap[w.heap.size]?=some (.stringIter s pos)/\Bl w wr/\Hid (Go.Proofs.YtpbbmagjhkakgaaGreatDoor.At s pos z/\z.all si=false)) (λ_ wr=>s.size-wr.iterPos w.heap.size)
   case atStart=>exact⟨0,_,World.iter_heap w s 0,aV.al (.stringIter s 0),lJ s 0,y.out⟩
   case round=>
    have⟨pos,z,hit,hbw,hz⟩:=hrel;cases z with
    |nil=>have:=hz.out.2;simp at this
    |cons c r=>
     have⟨hp,hc,ht⟩:=hz.out.1.cons;have h:∀j,(Instr.next (Pt w.heap.size) true j).run prog wr=_:=λj=>Lib.run_next_any_at wr w.heap.size s pos j hit hp;have a:=Lib.below_iterAt hbw (k:=w.heap.size) aZ s (pos+(Utf8.decode s pos).2);have q:=decode_le s pos;cases b:si c with
     |false=>
      have p:¬(97<=((Utf8.decode s pos).1:Int)/\((Utf8.decode s pos).1:Int)<=122):=by
       intro i;by_cases n:c.toNat<128
       .have:=(je hz.out.1 n).2;rw[this]at i;have:si c=true:=PF (by simp at i;omega) (by simp at i;omega);rw[this]at b;cases b
       .have:=(decode_high s pos hp (by rw[hc];omega)).1;omega
      generalize wr.iterAt w.heap.size s (pos+(Utf8.decode s pos).2)=W at*;generalize((Utf8.decode s pos).1)=m at*;generalize((Utf8.decode s pos).2)=C at*;by_cases n:(m:Int)<97
      .go_wp2;go_ret;exact⟨rfl,a⟩
      .have A:(122:Int)<m:=by omega
       go_wp2;go_ret;exact⟨rfl,a⟩
     |true=>
      have d:=b;unfold si at d;simp only[sP,pz]at d;have t:Hid (Go.Proofs.YtpbbmagjhkakgaaGreatDoor.At s (pos+1) r/\r.all si=false):=⟨ht,by have:=hz.out.2;rw[List.all_cons,b]at this;simpa using this⟩;rw[((je hz.out.1 aA).2)]at h a;have f:=Lib.iterAt_heap wr w.heap.size s pos (pos+1) hit;simp only at h a;generalize c.toNat=D at*;generalize wr.iterAt w.heap.size s (pos+1)=W at*;go_wp2;go_roundw
      case rel=>exact⟨_,r,f,a,t⟩
      case measure=>rw[(Av hit),Av f];omega
theorem DV(ao:aR bC)(A:aB a_)(cap:Nat)(w:aC)(h:eQ w ao A)(hl:A.length<=1000000000)(M:∀s∈A,s.size<=maxLen)(T:A.length<=cap){a:bC}(E:iw w 6 JK a):
  Calls prog 126 #[.slice ao A.length cap] w λe K=>VE w K e (if fu A=true then 0 else 10):=by
 have I:Hid (∀W b,Bl w W->fu A=false->VE w W (.returned (.iface 290 (.pointer (some b)))) (if fu A=true then 0 else 10)):=λW b k P=>by
  rw[P];exact⟨k,.inr ⟨aG,_,_,rfl,_,a,Pq (f:=281) (g:=6) aF (E.down k),.inl ⟨rfl,_,_,by simp[jn],E.down k⟩⟩⟩
 have HT:Hid (∀W,Bl w W->fu A=true->VE w W (.returned .nilIface) (if fu A=true then 0 else 10)):=λW k P=>by
  rw[P];exact⟨k,.inl ⟨rfl,rfl⟩⟩
 have G:=hid λK (k:Bl w K)=>h.below k;have J:Hid (10<A.length->fu A=false):=λh=>by unfold fu;rw[j_ aA];rfl
 have D:=hid λW (i:Nat) x (q:A[i]?=some x)=>Es x W (M x (iF q));generalize(if fu A=true then(0:Int)else 10)=z at*;by_cases N:10<A.length
 .generalize A.length=n at*;go_enter func126,ntmps126;go_wp2;go_ret;exact I.out _ _ (aV.al _) (J.out N)
 have C:=hid λW (i:Nat) x (k:Bl w W) (hi:i<=A.length)=>yT W ao A cap i x (G.out W k) hi aA;generalize B:A.length=n at*;have o:=hid B;clear B;go_enter func126,ntmps126;go_wp2_with fail;go_loopw [13] (λO wr=>∃i:Nat,O=Iv i/\i<=n/\Bl w wr/\Hid ((∀s∈A.take i,ja s=true)/\(A.take i).Nodup)) (λO _=>n-(intOf O).toNat)
 case atStart=>exact⟨0,rfl,cC,aV,λs E=>by simp at E,aF⟩
 case round=>
  obtain⟨i,rfl,V,l,H⟩:=hrel;by_cases hi:i<n
  .obtain⟨x,q⟩:∃x,A[i]?=some x:=⟨_,fH (o.out▸hi)⟩;obtain⟨b,off,rfl,k,S⟩:=G.out wr l (by intro e;rw[e]at q;simp at q);have X:=S i (o.out▸hi);rw[qB,q,fD]at X;have v:=hid λW=>D.out W i x q;have r:=hid λW (k:Bl w W)=>C.out W i x k aA;have q:=hid q;clear G D C S;cases p:ja x with
   |false=>
    have t:Hid (fu A=false):=by
     show _=_;unfold fu;rw[show A.all ja=false from by rw[List.all_eq_false];exact⟨_,iF q.out,by rw[p];decide⟩];simp
    have c:=v.out;rw[p]at c;have c:=hid c;clear p v r;go_wp2_with fail;refine(c.out _).m λR d=>?_;go_wp2_with fail;go_ret;exact I.out _ _ ((l.tr d).al _) t.out
   |true=>
    have c:=v.out;rw[p]at c;have c:=hid c;clear v;cases u:Lib.containsS (A.take i) x with
    |true=>
     have t:Hid (fu A=false):=by
      show _=_;unfold fu;have:decide A.Nodup=false:=j_ λZ=>by
       have Y:=(Lib.containsS_iff _ _).1 u;obtain⟨j,L,Q⟩:=List.getElem_of_mem Y;rw[List.getElem_take]at Q;have:=(List.getElem?_inj (by rw[o.out];simp at L;omega) Z).1 ((fH (by rw[o.out];simp at L;omega)).trans ((oB some Q).trans q.out.symm));simp at L;omega
      rw[this];simp
     have m:=r.out;rw[u]at m;have m:=hid m;clear u r;go_wp2_with fail;refine(c.out _).m λR d=>?_;go_wp2_with fail;apply(m.out _ (l.tr d)).mono;rintro e w2 ⟨rfl,rfl⟩;go_wp2_with fail;go_ret;exact I.out _ _ ((l.tr d).al _) t.out
    |false=>
     have m:=r.out;rw[u]at m;clear r;go_wp2_with fail;refine(c.out _).m λR d=>?_;go_wp2_with fail;apply(m _ (l.tr d)).m0;go_wp2;go_roundw
     case rel=>exact⟨i+1,dV,aA,l.tr d,by
      rw[yD,q.out];refine⟨λy F=>?_,MF.2 ⟨H.out.2,aF,λa U b k e=>?_⟩⟩
      .simp at F;obtain F|rfl:=F
       .exact H.out.1 y F
       .exact p
      .simp at k;subst k e;have:=u;rw[(Lib.containsS_iff _ _).2 U]at this;cases this⟩
     case measure=>exact zm
  .obtain rfl:i=n:=by omega
   have t:Hid (fu A=true):=by
    show _=_;unfold fu;have:=H.out;rw[rD (o.out▸aZ)]at this;rw[o.out,jS (by omega:i<=10),yE.2 this.1,jS this.2];rfl
   go_wp2;go_ret;exact HT.out _ l t.out
def B8(C:aB jb)(t:Int):Bool:=match C.getLast? with
 |some c=>decide (t<=c.time)
 |none=>false
theorem F4(aY:Nat)(r o t ev y:aE)(E:aB jb)(time:Int)(w:aC)(hw:w.heap[aY]?=some (.cells #[r,o,t,ev,y] 153 (0,0)))(n:fL w ev E)(A:E.length<=1000000){a:bC}(l:iw w 5 P0 a):
  Calls prog 125 #[Pt aY,Iv time] w λe x=>VE w x e (if time<0\/1000000000000<time\/B8 E time=true then 9 else 0):=by
 have HB:Hid (VE w w (.returned (.iface 357 (.pointer (some a)))) 9):=⟨aV,.inr ⟨aG,_,_,rfl,AU (by simp[jn]) l⟩⟩;have j:Hid (VE w w (.returned .nilIface) 0):=⟨aV,.inl ⟨rfl,rfl⟩⟩;have c:=l.cell;by_cases u:time<0
 .rw[bY (.inl u)];go_enter func125,ntmps125;go_wp2;go_ret;exact HB.out
 by_cases p:1000000000000<time
 .rw[bY (.inr (.inl p))];go_enter func125,ntmps125;go_wp2;go_ret;exact HB.out
 have q:=aN hw;have f:w.cell? (Ad aY 3)=some ev:=aD hw rfl;obtain⟨ea,cap,rfl,h,s,i⟩:=n.form;cases b:E.length with
 |zero=>
  rw[uJ.1 b,bN (by simp[B8];omega)];rw[b]at f;go_enter func125,ntmps125;go_wp2;go_ret;exact j.out
 |succ m=>
  have d:E[m]?=some E[m]:=fH aA;obtain⟨g,rfl,B⟩:=i (by intro e;rw[e]at b;simp at b);have C:=n.cell (k:=1) d rfl;have hL:B8 E time=decide (time<=E[m].time):=by unfold B8;rw[Sm,show E.length-1=m from aA,d]
  rw[hL];rw[b]at f h;generalize E[m].time=z at*;by_cases v:time<=z
  .rw[bY (.inr (.inr (jS v)))];go_enter func125,ntmps125;go_wp2;go_ret;exact HB.out
  .rw[bN bI];go_enter func125,ntmps125;go_wp2;go_ret;exact j.out
theorem F3(aY a room g ev i E time w)(hw:w.heap[aY]?=some (.cells #[Iv a,Iv room,g,ev,i] 153 (0,0)))(j:fL w ev E)(l:E.length<=1000000)(o:0<=time/\time<=1000000000000)(m:0<=a/\a<=1000000000):
  Calls prog 128 #[Pt aY,Iv time] w λe b=>VE w b e (if room<(E.length:Int)-nU (time-a) E+1 then 12 else 0):=by
 by_cases c:room<(E.length:Int)-nU (time-a) E+1
 case neg=>
  rw[bN c];exact(IY aY a room g ev i E time w hw j l o m aA).mono λe b h=>⟨h.2,.inl ⟨rfl,h.1⟩⟩
 rw[bY c];have y:=hid λb (q:Bl w b)=>Ju aY a (Iv room) g ev i E time b (q.aT hw) (j.below q) l o m;have s:=tX (time-a) E;generalize nU (time-a) E=k at*;obtain⟨ea,cap,rfl,r,x,u⟩:=j.form;generalize p:E.length=n at*;have f:Hid (∀b,Bl w b->b.cell? (Ad aY 1)=some (Iv room)/\b.cell? (Ad aY 3)=some (.slice ea n cap)):=λb h=>⟨aD (h.aT hw) rfl,aD (h.aT hw) rfl⟩;have v:w.cell? (Ad aY 3)=some (.slice ea n cap):=aD hw rfl;go_enter func128,ntmps128;go_wp2
 go_region_held (λb=>b.cell? (Ad aY 1)=some (Iv room)/\b.cell? (Ad aY 3)=some (.slice ea n cap))
  ((refine f.out _ ?_;first|exact aV.drew|exact(cD w.heap.size w).drew.trans d))
  ((go_at_call 131;refine(y.out _ ?_).mono ?_;exact aV.drew;rintro e t ⟨rfl,d⟩))
 all_goals(obtain⟨A,z⟩:=f.out t ((cD w.heap.size w).drew.trans d))
 all_goals go_wp2_with fail
 all_goals go_ret
 all_goals exact⟨((cD w.heap.size w).drew.trans d).al _,.inr ⟨aG,_,_,rfl,rQ (by simp[r_]) (by simp[leaves])⟩⟩
def IZ(a room:Int)(E:aB jb)(L:aB Nat)(t:Int)(A:aB a_):Int:=
 if t<0\/1000000000000<t\/B8 E t=true then 9
 else if fu A=false then 10
 else if L.any (λn=>decide (30<=n))=true then 11
 else if room<(E.length:Int)-nU (t-a) E+1 then 12 else 0
theorem DW(aY a room R ev pa bS ps E L time ao A cap w)(hw:w.heap[aY]?=some (.cells #[Iv a,Iv room,R,ev,.slice pa ps.length bS] 153 (0,0)))(f:fL w ev E)(v:E.length<=1000000)(hr:0<=a/\a<=1000000000)
  (h:eQ w ao A) (hl:A.length<=1000000000) (Y:∀s∈A,s.size<=maxLen) (M:A.length<=cap) (hP:iu w pa bS ps) (a8:ps.length<=1000000) (aa:ps.length<=bS) (hL:L.length=ps.length)
  (hS:∀i (p:nk),ps[i]?=some p->∃cX o c,p.fY=some (Ad cX 0)/\w.heap[cX]?=some (.cells #[.slice o (L.getD i 0) c] 177 (0,0))) (H:cZ w):
  Calls prog 86 #[Pt aY,Iv time,.slice ao A.length cap] w λe b=>VE w b e (IZ a room E L time A):=by
 have⟨a1,hs1⟩:=H.Xx;have⟨a2,hs2⟩:=H.Tf;have O:=F4 aY (Iv a) (Iv room) R ev (.slice pa ps.length bS) E time w hw f v hs1;have r:=hid λb (d:Bl w b)=>DV ao A cap b (h.below d) hl Y M (hs2.down d);unfold IZ;by_cases u:time<0\/1000000000000<time\/B8 E time=true
 .rw[bY u]at O⊢;go_enter func86,ntmps86;go_wp2_with fail;apply O.mono;rintro e P ⟨d,⟨h,_⟩|⟨_,T,q,rfl,f⟩⟩
  .cases h
  replace f:Hid _:=f;go_wp2;go_ret;exact⟨d,.inr ⟨aG,T,q,rfl,f.out⟩⟩
 rw[bN u]at O⊢;have S:=hid λb (d:Bl w b)=>F3 aY a room R ev (.slice pa ps.length bS) E time b (d.aT hw) (f.below d) v aA hr;have Q:Hid (∀b,Bl w b->b.cell? (Ad aY 4)=some (.slice pa ps.length bS)):=λb d=>aD (d.aT hw) rfl;have D:Calls prog 125 #[Pt aY,Iv time] w λe b=>e=.returned .nilIface/\Bl w b:=O.mono λe b h=>by
  obtain⟨d,⟨_,rfl⟩|⟨h,_⟩⟩:=h
  .exact⟨rfl,d⟩
  .exact absurd rfl h
 cases C:fu A with
 |false=>
  rw[C]at r;rw[bY rfl];generalize A.length=al at*;go_enter func86,ntmps86;go_wp2_with fail;refine D.m λw0 j=>?_;go_wp2_with fail;apply(r.out _ j).mono;rintro e P ⟨d,⟨h,_⟩|⟨_,T,q,rfl,f⟩⟩
  .cases h
  replace f:Hid _:=f;go_wp2;go_ret;exact⟨j.tr d,.inr ⟨aG,T,q,rfl,f.out⟩⟩
 |true=>
 rw[C]at r;rw[bN aG];have I:Hid (∀b,Bl w b->Calls prog 126 #[.slice ao A.length cap] b λe U=>e=.returned .nilIface/\Bl b U):=λb d=>(r.out b d).mono λe b h=>by
  obtain⟨d,⟨_,rfl⟩|⟨h,_⟩⟩:=h
  .exact⟨rfl,d⟩
  .exact absurd rfl h
 generalize(if room<(E.length:Int)-nU (time-a) E+1 then(12:Int)else 0)=zr at*;have HF:Hid ((∀n∈L,n<30)->(if L.any (λn=>decide (30<=n))=true then(11:Int)else zr)=zr):=λh=>bN (by
  simp only[Ap,pz,not_exists,not_and];exact λn v=>by have:=h n v;omega)
 have W:Hid (∀n∈L,30<=n->(if L.any (λn=>decide (30<=n))=true then(11:Int)else zr)=11):=λn v h=>bY (by
  simp only[Ap,pz];exact⟨n,v,h⟩)
 generalize(if L.any (λn=>decide (30<=n))=true then(11:Int)else zr)=z at*;have x:=hid hL;generalize A.length=al at*;generalize F:ps.length=n at*;go_enter func86,ntmps86;go_wp2_with fail;refine D.m λw0 j=>?_;go_wp2_with fail;refine(I.out _ j).m λP B=>?_;have q4:=Q.out P (j.tr B);go_wp2;go_loopw [29] (λX wr=>∃i:Nat,X=Iv i/\i<=n/\Bl w wr/\Hid (∀k∈L.take i,k<30)) (λX _=>n-(intOf X).toNat)
 case atStart=>exact⟨0,rfl,cC,j.tr B,λk y=>by simp at y⟩
 case round=>
  obtain⟨i,rfl,a7,g,Z⟩:=hrel;by_cases hi:i<n
  .have t:ps[i]?=some ps[i]:=fH aA;have⟨cX,o,c,Ss,hsb⟩:=hS i _ t;obtain⟨_,rfl,_⟩|⟨pb,po,a6,mp,rfl,V,G⟩:=hP
   .simp at F;omega
   .have⟨p0,p1,p2,p3,p4⟩:=G i _ t;generalize ps[i]=p at*;rw[Ss]at p4;have J:Hid (L[i]?=some (L.getD i 0)):=by
     show _=_;have h1:i<L.length:=by rw[x.out];exact hi
     rw[qB,fH h1];rfl
    generalize L.getD i 0=k at*;have K_:=g.aT V;have z0:=aD K_ p0;have z1:=aD K_ p1;have z2:=aD K_ p2;have z3:=aD K_ p3;have z4:=aD K_ p4;have N:=NM cX o k c (wr.alloc (.cells #[.string p.name,.pointer p.eE,Iv p.node,Iv p.cP,Pt cX] 183)) ((g.al _).aT hsb);have l:Bl w (wr.alloc (.cells #[.string p.name,.pointer p.eE,Iv p.node,Iv p.cP,Pt cX] 183)):=g.al _;by_cases y:30<=k
    .rw[show decide ((k:Int)>=30)=true from jS aA]at N;go_wp2_with fail;apply N.mono;rintro e w2 ⟨rfl,rfl⟩;go_wp2;go_ret;rw[(W.out k (iF J.out) y)];exact⟨l.al _,.inr ⟨aG,_,_,rfl,rQ (by simp[r_]) (by simp[leaves])⟩⟩
    .rw[show decide ((k:Int)>=30)=false from j_ aA]at N;go_wp2_with fail;apply N.mono;rintro e w2 ⟨rfl,rfl⟩;go_wp2;go_roundw
     case rel=>exact⟨i+1,dV,aA,l,λm K=>by
      rw[yD,J.out]at K;simp at K;obtain K|rfl:=K
      .exact Z.out m K
      .omega⟩
     case measure=>exact zm
  .obtain rfl:i=n:=by omega
   have hz:=hid (HF.out λk y=>Z.out k (by rw[rD (by rw[x.out];exact aZ)];exact y));go_wp2_with fail;apply(S.out _ g).mono;rintro e w2 ⟨l,⟨h,rfl⟩|⟨h,T,q,rfl,f⟩⟩
   .replace h:Hid _:=h;go_wp2;go_ret;rw[hz.out];exact⟨g.tr l,.inl ⟨h.out,rfl⟩⟩
   .replace f:Hid _:=f;replace h:Hid _:=h;go_wp2;go_ret;rw[hz.out];exact⟨g.tr l,.inr ⟨h.out,T,q,rfl,f.out⟩⟩
theorem pC(w:aC)(a:aB aE)(t):∀j u,a[j]?=some u->(w.alloc (.cells a.toArray t)).cell? (((Ad w.heap.size 0):bC).add j)=some u:=by
 intro j u b;have:((Ad w.heap.size 0):bC).add j=(Ad w.heap.size j):=by simp[Addr.add];omega
 rw[this];exact aD (aQ w (.cells a.toArray t (0,0)) _ rfl) (by simpa using b)
def half(row:aB aE)(i:Nat)(xs:aB aE):aB aE:=mf i row++xs.drop (i*row.length)
theorem KZ{row xs k}(h:xs.length=k*row.length):half row k xs=mf k row:=by
 unfold half;rw[List.drop_eq_nil_of_le aA,CL]
section
variable{Lw:Nat->Prop}{wb n:Nat}{lN kv:aE}{E:aB mK}{w:aC}
theorem lu.tick(h:lu Lw wb lN kv n E w):lu Lw wb lN kv (n+1) E (w.setCell (Ad wb 1) (Iv ((n)+1))):=by
 let c:=gO w wb 1 (Iv ((n:Int)+1));let b:=h.cell;refine⟨by simp[World.setCell,uy,b],cG h.kept c λg a e=>lf h.kept b aG (e▸a),λe d=>?_,h.own⟩;let⟨⟨k1,p1,q1⟩,⟨k2,p2,q2⟩,h7⟩:=h.mR e d;exact⟨⟨k1,p1,cG q1 c λg a e=>lf q1 b aG (e▸a)⟩,⟨k2,p2,cG q2 c λg a e=>lf q2 b aG (e▸a)⟩,h7⟩
theorem lu.keep{W f}{P:Nat->bQ}{k d o}(h:lu Lw wb lN kv n E w)(hw:Lw wb)(p:aH (λb=>P b\/b=wb) w W)(t:lu Lw wb lN kv (n+1) E W)(r:∀e∈k,BJ (λb=>(Lw b\/P b)\/w.heap.size<=b) W e)
  (g:(W.alloc o).grownBy f kv.ownBlock) (s:f.ownsRow 0 123 3 d (E.length+k.length) (nF E++nF k)) (i:d.ownBlock=kv.ownBlock\/d.ownBlock=some (W.heap.size+1)):
  IE (λb=>(Lw b\/P b)\/w.heap.size<=b) wb lN (n+1) (E++k) (f.setCell (Ad wb 2) d)/\aH (λb=>Lw b\/P b) w (f.setCell (Ad wb 2) d)/\f.heap[wb]?=some (.cells #[lN,Iv ((n+1:Nat):Int),kv] 70 (0,0)):=by
 let m:Bl W (W.alloc o):=aV.al _;let l:aH (λ_=>False) W (W.alloc o):=aH.aS m;let c:lu Lw wb lN kv (n+1) E (W.alloc o):=t.move l λ_ _ x=>x;refine⟨⟨d,lu.put (Lw:=λb=>(Lw b\/P b)\/w.heap.size<=b) c.cell c.kept (λe j=>?_) (λ_ x=>x) (.inl (.inl hw)) g s λb a=>?_⟩,?_,(g.block wb (aN c.cell) λe=>lf c.kept c.cell aG e.symm).trans c.cell⟩
 .obtain j|j:=jc.1 j
  .have:=c.mR e j;exact⟨this.g,this.t,λb a=>.inl (.inl (this.own b a))⟩
  .exact(r e j).spare l λ_ _ x=>x
 .obtain i|i:=i
  .exact .inl (.inl (h.own.2 _ (i▸a)))
  .rw[i]at a;cases a;exact .inr (Nat.le_succ_of_le p.size)
 .refine aH.trans (p.mono λb _ a=>a.elim .inr λe=>.inl (e▸hw)) (aH.trans (aH.aS m) (aH.trans ⟨g.os,g.output,g.size,λb a q=>g.block b a λe=>q (.inl (h.own.2 b e.symm))⟩ ((gO f wb 2 d).mono λb _ e=>.inl (e▸hw))))
theorem K3(n i S s)(h:S[i]?=some s):(half (xD n) i (cJ S))[i]?=some (.string s)/\(half (xD n) i (cJ S)).set i (.string ⟨(oW n).toArray⟩)=half (xD n) (i+1) (cJ S):=by
 let a:(mf i (xD n)).length=i:=by rw[EW];simp[xD]
 let b:(cJ S).drop (i*(xD n).length)=.string s::(cJ S).drop ((i+1)*(xD n).length):=by
  have:(cJ S)[i]?=some (.string s):=by simp[cJ,h]
  let⟨hi,e⟩:=eY.1 this;simp only[xD,List.length_singleton,Nat.mul_one];rw[pw hi,e]
 unfold half;rw[b];refine⟨by rw[sK aA,a];simp,?_⟩;rw[FB _ _ aA,a,FF,CC,wo i 1,nC];rfl
theorem Q2(h:lu Lw wb lN kv n E w)(hn:n<=1000000000000)(hE:E.length<=1000000000000)(g cap G L M)(a8:L.length<=100000000)
  (V:w.ownsRow 0 9 1 (Sl g (L.length+2) cap) (L.length+2) (cJ (L++[dG,dG]))) (A:¬Lw g)
  (K:∀j,j<L.length->∃d y,M=some (Ad d y)/\d<w.heap.size/\¬Lw d/\d≠g/\w.cell? (Ad d (y+j))=some (.string (L.getD j ByteArray.empty))):
  Calls prog 63 #[Pt wb,Sl g (L.length+2) cap,.slice M L.length G] w λe w'=>e=.returned (.bool true)/\∃x,(x.length<=4/\∀e∈x,e.n=n+1)/\IE (λb=>(Lw b\/b=g)\/w.heap.size<=b) wb lN (n+1) (E++x) w'/\aH (λb=>Lw b\/b=g) w w':=by
 have c1:w.cell? (Ad wb 1)=some (Iv (n:Int)):=aD h.cell rfl;have f1:=cK h.cell 1;have F:=h.own.1;have Z:=h.tick;have v:=gO w wb 1 (Iv ((n:Int)+1));have H:(w.setCell (Ad wb 1) (Iv ((n:Int)+1))).ownsRow 0 9 1 (Sl g (L.length+2) cap) (L.length+2) (half (xD (n+1)) 0 (cJ (L++[dG,dG]))):=by
  rw[show half (xD (n+1)) 0 (cJ (L++[dG,dG]))=cJ (L++[dG,dG])by simp[half,mf]];exact cG V v λk K e=>lf V h.cell aG (e▸K)
 have B:(cJ (L++[dG,dG])).length=(L.length+2)*(xD (n+1)).length:=by simp[cJ,xD]
 have HE:Hid (∀(W m:aC)(o:Obj)(q:aE),aH (λb=>b=g) (w.setCell (Ad wb 1) (Iv ((n:Int)+1))) W->W.ownsRow 0 9 1 (Sl g (L.length+2) cap) (L.length+2) (half (xD (n+1)) (L.length+2) (cJ (L++[dG,dG])))->(W.alloc o).grownBy m kv.ownBlock->m.ownsRow 0 123 3 q (E.length+1) (nF E++[Iv ((n:Int)+1),.slice none 0 0,Sl g (L.length+2) cap])->(q.ownBlock=kv.ownBlock\/q.ownBlock=some (W.heap.size+1))->∃x,(x.length<=4/\∀e∈x,e.n=n+1)/\IE (λb=>(Lw b\/b=g)\/w.heap.size<=b) wb lN (n+1) (E++x) (m.setCell (Ad wb 2) q)/\aH (λb=>Lw b\/b=g) w (m.setCell (Ad wb 2) q)/\m.heap[wb]?=some (.cells #[lN,Iv ((n+1:Nat):Int),kv] 70 (0,0))):=λW m o q C s hg h5 ho=>by
  rw[KZ B]at s;refine⟨[⟨n+1,.slice none 0 0,Sl g (L.length+2) cap⟩],aF,h.keep F ((v.mono λ_ _=>.inr).trans (C.mono λ_ _=>.inl)) (Z.move C λb f e=>A (e▸f)) (λe he=>?_) hg h5 ho⟩;cases sO.1 he;exact⟨⟨0,aA,fI _ _ _ _⟩,⟨L.length+2,aA,s⟩,λb f=>by
   obtain f|f:=f
   .cases f
   .cases f;exact .inl (.inr rfl)⟩
 have HK:Hid (∀W:aC,aH (λb=>b=g) (w.setCell (Ad wb 1) (Iv ((n:Int)+1))) W->W.cell? (Ad wb 2)=some kv/\W.ownsRow 0 123 3 kv E.length (nF E)/\∀j,j<L.length->∃d y,M=some (Ad d y)/\W.cell? (Ad d (y+j))=some (.string (L.getD j ByteArray.empty))):=λW C=>by
  have U:=Z.move C λb f e=>A (e▸f);refine⟨aD U.cell rfl,U.kept,λj hj=>?_⟩;have⟨d,y,e1,O,e3,e4,e5⟩:=K j hj;exact⟨d,y,e1,by rw[fP (a:=(Ad d (y+j))) ((C.block d (fZ O v.size) e4).trans (v.block d O λe=>e3 (e▸F)))];exact e5⟩
 have HS:Hid (∀(W:aC) i,i<L.length+2->W.ownsRow 0 9 1 (Sl g (L.length+2) cap) (L.length+2) (half (xD (n+1)) i (cJ (L++[dG,dG])))->W.cell? (Ad g i)=some (.string ((L++[dG,dG]).getD i ByteArray.empty))/\W.frozen? (Ad g i)=false/\(W.setCell (Ad g i) (.string ⟨(oW (n+1)).toArray⟩)).ownsRow 0 9 1 (Sl g (L.length+2) cap) (L.length+2) (half (xD (n+1)) (i+1) (cJ (L++[dG,dG])))):=λW i hi s=>by
  have D:i<(L++[dG,dG]).length:=bI;have:=K3 (n+1) i (L++[dG,dG]) _ (fH D);refine⟨?_,s.frozenAt i,by rw[<-this.2];exact(s.stored i _).1⟩;rw[s.cellAt i aA,this.1];rw[qB,fH D];rfl
 have HT:=hid λ(W:aC)=>Fc (n+1) W;have⟨i0,XF,nI,nJ,nS⟩:=eB Bf;generalize ad:L.length=len at*;go_enter func63,ntmps63;go_wp2_with fail;generalize w.setCell (Ad wb 1) (Iv ((n:Int)+1))=X at*;go_loopw [8,9] (λP S wr=>∃i:Nat,P=.bool true/\S=Iv i/\i<=len+2/\aH (λb=>b=g) X wr/\wr.ownsRow 0 9 1 (Sl g (len+2) cap) (len+2) (half (xD (n+1)) i (cJ (L++[dG,dG])))) (λ_ S _=>len+2-(intOf S).toNat)
 case atStart=>exact⟨0,rfl,rfl,cC,aH.refl _ _,H⟩
 case round=>
  obtain⟨i,rfl,rfl,a7,R,c⟩:=hrel;have⟨d2,hkr,hK⟩:=HK.out wr R;by_cases hi:i<len+2
  .have⟨hci,hfz,YE⟩:=HS.out wr i hi c;have HR:Hid (∀W:aC,Bl wr W->W.cell? (Ad g i)=wr.cell? (Ad g i)/\W.frozen? (Ad g i)=false/\aH (λb=>b=g) X (W.setCell (Ad g i) (.string ⟨(oW (n+1)).toArray⟩))/\(W.setCell (Ad g i) (.string ⟨(oW (n+1)).toArray⟩)).ownsRow 0 9 1 (Sl g (len+2) cap) (len+2) (half (xD (n+1)) (i+1) (cJ (L++[dG,dG])))):=λW f=>by
    have s:=fQ c f;exact⟨f.cell (p:=(Ad g i)) (c.lt g rfl).2,s.frozenAt i,(R.trans (aH.aS f)).trans (gO W g i _),(HS.out W i hi s).2.2⟩
   by_cases N:i<len
   .obtain⟨d,y,rfl,aa⟩:=hK i N;rw[show(L++[dG,dG]).getD i ByteArray.empty=L.getD i ByteArray.empty by rw[qB,qB,uw aA]]at hci;generalize L.getD i ByteArray.empty=t at*;generalize oW (n+1)=tx at*;go_wp2;go_quiet(fail);go_wp2_with fail;refine(HT.out _).m λT I=>?_;have⟨y1,y2,z⟩:=HR.out T ((below_drewN _ _).tr I);rw[hci]at y1;replace z:Hid _:=z;go_wp2
    try go_big_round
    exact⟨⟨i+1,rfl,dV,hi,z.out⟩,zm⟩
   .rw[show(L++[dG,dG]).getD i ByteArray.empty=⟨#[115,112,97,114,101]⟩by
     rw[qB,sK aA];have:i-L.length=0\/i-L.length=1:=aA;obtain e|e:=this<;>rw[e]<;>rfl]at hci
    generalize oW (n+1)=tx at*;go_wp2_with fail;refine(HT.out _).m λT I=>?_;have⟨y1,y2,z⟩:=HR.out T I;rw[hci]at y1;replace z:Hid _:=z;go_wp2
    try go_big_round
    exact⟨⟨i+1,rfl,dV,hi,z.out⟩,zm⟩
  .obtain rfl:i=len+2:=by omega
   have J:=hid λm o q=>HE.out wr m o q R c;go_wp2_with (at_builtin;refine wpList_append_own_at _ rfl _ _ 68 rfl 0 123 i0 _ 3 56 underlying68 XF nI nJ nS rfl aG _ _ _ rfl (hkr.alloc _) (Ad wr.heap.size 0) 1 1 [Iv ((n:Int)+1),.slice none 0 0,Sl g (len+2) cap] rfl rfl (pC wr _ _) (by intro u Y;simp at Y;rcases Y with rfl|rfl|rfl<;>rfl) eP aA cC ?_);intro q m l r _ Q;have⟨x,q1,q2,q3,q4⟩:=J.out _ _ _ r l Q;have O:m.cell? (Ad wb 2)=some kv:=aD q4 rfl;have a6:=cK q4 2;obtain⟨g5,a1,rfl,_⟩:=fS l aA;go_wp2;go_ret;exact⟨rfl,x,⟨q1,q2,q3⟩⟩
end
theorem QX:(prog.info? 59).map (λi=>(i.zero,i.size,i.bytes))=some (some (.agg #[Iv 0,Iv 0,Iv 0,.bool false]),4,32):=aL
theorem qX{L i k v u}(h:L[i]?=some v)(a:(J3 v)[k]?=some u):(lr L)[i*4+k]?=some u:=jl J3 4 (λ_=>rfl) L i k v u h a
theorem EX{row}(h:∀u∈row,u.oneCell'=true)(k):∀u∈mf k row,u.oneCell'=true:=λu b=>by
 obtain⟨r,c,a⟩:=Ir.1 b
 exact h u ((List.mem_replicate.1 c).2▸a)
theorem WE{n}:∀u∈EE n,u.oneCell'=true:=by simp[EE,Value.oneCell']
theorem WD{n}:∀u∈xD n,u.oneCell'=true:=by simp[xD,Value.oneCell']
structure Gv(t:TypeId)(row:aB aE)(X:aE)(ll:Nat)(w0:aC)(vs:aB (aE×Nat))(W:aC):Prop where
 sp:aH (λb=>X.ownBlock=some b) w0 W
 own:W.ownsRow 0 t row.length X ll (mf ll row)
 vs:∀p∈vs,W.ownsRow 0 t row.length p.1 p.2 (mf p.2 row)/\∀b,p.1.ownBlock=some b->X.ownBlock=some b\/w0.heap.size<=b
section
variable{t:TypeId}{row:aB aE}{X:aE}{ll:Nat}{w0 W W':aC}{vs:aB (aE×Nat)}
theorem Gv.below(h:Gv t row X ll w0 vs W)(a:Bl W W'):Gv t row X ll w0 vs W':=
 ⟨h.sp.trans (aH.aS a),fQ h.own a,λp b=>⟨fQ (h.vs p b).1 a,(h.vs p b).2⟩⟩
theorem Gv.slice(h:Gv t row X ll w0 vs W){v k}(a:(v,k+1)∈vs):∃x c,v=Sl x (k+1) c:=by
 obtain⟨x,c,e,_⟩:=fS (h.vs _ a).1 (Nat.succ_pos _);exact⟨x,c,e⟩
theorem Gv.app(h:Gv t row X ll w0 vs W)(g:0<row.length){m}{v}(a:Sw 0 t row.length X ll m (mf ll row) (mf m row) W v W')(f:∀p∈vs,p.2<=ll+m):Gv t row X ll w0 ((v,ll+m)::vs) W':=by
 refine⟨h.sp.trans ⟨a.grown.os,a.grown.output,a.grown.size,λb d i=>a.grown.block b d λe=>i e.symm⟩,a.old,λp c=>?_⟩;rcases gA.1 c with rfl|c
 .refine⟨by rw[wo];exact a.own,λb d=>?_⟩;rcases a.at_ with e|⟨e,_⟩
  .exact .inl (e▸d)
  .rw[e]at d;cases d;exact .inr h.sp.size
 .exact⟨Ru g a h.own (h.vs p c).1 (f p c),(h.vs p c).2⟩
end
section
variable{Lw:Nat->Prop}{wb n:Nat}{lN kv:aE}{E:aB mK}{w:aC}
theorem lu.given(h:lu Lw wb lN kv n E w){t row X ll vs}(x:∀b,X.ownBlock=some b->¬Lw b){W g}(i:Gv t row X ll (w.setCell (Ad wb 1) (Iv ((n)+1))) vs W)(B:ll<=100000000)(l:∀p∈vs,p.2<=100000100){E'}
  (A:∀e∈E',e.n=n+1/\((t=59/\row=EE (n+1)/\(e.gv=X\/∃p∈vs,e.gv=p.1)/\e.tv=.slice none 0 0)\/(t=9/\row=xD (n+1)/\(e.tv=X\/∃p∈vs,e.tv=p.1)/\e.gv=.slice none 0 0))) {o f}
  (y:(W.alloc o).grownBy g kv.ownBlock) (u:g.ownsRow 0 123 3 f (E.length+E'.length) (nF E++nF E')) (z:f.ownBlock=kv.ownBlock\/f.ownBlock=some (W.heap.size+1)):
  IE (λb=>(Lw b\/X.ownBlock=some b)\/w.heap.size<=b) wb lN (n+1) (E++E') (g.setCell (Ad wb 2) f)/\aH (λb=>Lw b\/X.ownBlock=some b) w (g.setCell (Ad wb 2) f)/\g.heap[wb]?=some (.cells #[lN,Iv ((n+1:Nat):Int),kv] 70 (0,0)):=by
 let m:=gO w wb 1 (Iv ((n:Int)+1));refine h.keep h.own.1 ((m.mono λ_ _=>.inr).trans (i.sp.mono λ_ _=>.inl)) (h.tick.move i.sp λb a e=>x b e a) (λe s=>?_) y u z;let C:(w.setCell (Ad wb 1) (Iv ((n:Int)+1))).heap.size=w.heap.size:=eC ..;let c:∀v,(v=X\/∃p∈vs,v=p.1)->Reads W t row v/\∀b,v.ownBlock=some b->(Lw b\/X.ownBlock=some b)\/w.heap.size<=b:=by
  rintro v (rfl|⟨p,q,rfl⟩)
  .exact⟨⟨ll,aA,i.own⟩,λb a=>.inl (.inr a)⟩
  .refine⟨⟨p.2,by have:=l p q;omega,(i.vs p q).1⟩,λb a=>?_⟩;rcases(i.vs p q).2 b a with h|h
   .exact .inl (.inr h)
   .exact .inr (C▸h)
 let d:∀t row,Reads W t row (.slice none 0 0):=λt row=>⟨0,aA,fI _ _ _ _⟩;obtain⟨r,⟨rfl,rfl,k,j⟩|⟨rfl,rfl,k,j⟩⟩:=A e s
 .exact⟨r▸(c _ k).1,j▸d _ _,λb a=>a.elim ((c _ k).2 b) λa=>by rw[j]at a;cases a⟩
 .exact⟨j▸d _ _,r▸(c _ k).1,λb a=>a.elim (λa=>by rw[j]at a;cases a) ((c _ k).2 b)⟩
theorem lu.gv3(h:lu Lw wb lN kv n E w){t row lo ll i D}(u:∀g,(.slice lo ll i:aE).ownBlock=some g->¬Lw g)(C:w.ownsRow 0 t row.length (.slice lo ll i) ll D)(I:D.length=ll*row.length)(S:ll<=1000)(f:aE->mK)(z:∀v,(f v).n=n+1/\((t=59/\row=EE (n+1)/\(f v).gv=v/\(f v).tv=.slice none 0 0)\/(t=9/\row=xD (n+1)/\(f v).tv=v/\(f v).gv=.slice none 0 0))):
  Hid (∀q (W l:aC) o j s r y,Gv t row (.slice lo ll i) ll ((w.drewN q).setCell (Ad wb 1) (Iv ((n:Int)+1))) [(y,ll+3),(r,ll+2),(s,ll+1)] W->(W.alloc o).grownBy l kv.ownBlock->l.ownsRow 0 123 3 j (E.length+4) (nF E++nF [f (.slice lo ll i),f s,f r,f y])->(j.ownBlock=kv.ownBlock\/j.ownBlock=some (W.heap.size+1))->
   (∃E',(E'.length<=4/\∀e∈E',e.n=n+1)/\IE (λb=>(Lw b\/(.slice lo ll i:aE).ownBlock=some b)\/w.heap.size<=b) wb lN (n+1) (E++E') (l.setCell (Ad wb 2) j)/\aH (λb=>Lw b\/(.slice lo ll i:aE).ownBlock=some b) w (l.setCell (Ad wb 2) j))/\l.heap[wb]?=some (.cells #[lN,Iv ((n+1:Nat):Int),kv] 70 (0,0)))/\
  Hid (∀q W,aH (λb=>(.slice lo ll i:aE).ownBlock=some b) ((w.drewN q).setCell (Ad wb 1) (Iv ((n:Int)+1))) W->W.cell? (Ad wb 2)=some kv/\W.ownsRow 0 123 3 kv E.length (nF E))/\
  Hid (∀q,((w.drewN q).setCell (Ad wb 1) (Iv ((n:Int)+1))).ownsRow 0 t row.length (.slice lo ll i) ll (half row 0 D))/\
  Hid (∀A W,aH (λb=>(.slice lo ll i:aE).ownBlock=some b) A W->W.ownsRow 0 t row.length (.slice lo ll i) ll (half row ll D)->Gv t row (.slice lo ll i) ll A [] W):=by
 let H:∀q,lu Lw wb lN kv n E (w.drewN q):=λq=>h.move (aH.aS (below_drewN w q) (P:=λ_=>False)) λ_ _ x=>x;refine⟨λq W l o j s r y K N L R=>?_,λq W O=>?_,λq=>?_,λA W Q m=>⟨Q,KZ I▸m,aF⟩⟩
 .have:=(H q).given u K aA bI (E':=[f (.slice lo ll i),f s,f r,f y]) (λe F=>by
   obtain⟨v,G,rfl⟩:∃v,(v=.slice lo ll i\/∃p∈[(y,ll+3),(r,ll+2),(s,ll+1)],v=p.1)/\e=f v:=by simp at F;rcases F with rfl|rfl|rfl|rfl<;>exact⟨_,aF,rfl⟩
   exact⟨(z v).1,(z v).2.imp (λ⟨a,b,c,d⟩=>⟨a,b,c.symm▸G,d⟩) λ⟨a,b,c,d⟩=>⟨a,b,c.symm▸G,d⟩⟩) N L R
  exact⟨⟨_,by simp[(z _).1],this.1,(aH.aS (below_drewN w q)).trans this.2.1⟩,this.2.2⟩
 .let B:=(H q).tick.move O λb M e=>u b e M;exact⟨aD B.cell rfl,B.kept⟩
 .rw[show half row 0 D=D by simp[half,mf]];exact cG (fQ C (below_drewN w q)) (gO _ wb 1 _) λk J e=>lf C h.cell (by rcases(z default).2 with h|h<;>rw[h.1]<;>decide) (e▸J)
def Gv.r{t row X ll w0 vs W}(_:Gv t row X ll w0 vs W)(k:Nat):aB aE:=mf k row
theorem zgv{T:bQ} (h:T:=by
 obtain rfl:ll=i:=by omega
 have G0:=HG.out _ _ hO qi;clear HS Vz qi hO HG;go_wp2_with fail;refine(HT.out _).m λw2 b2=>?_;have G1:=G0.below b2;go_wp2_with (at_builtin;refine mj _ rfl _ _ _ rfl 0 _ iV _ _ _ hU hiV Wi Wj Wk rfl _ _ _ rfl (G1.own.alloc _) (Ad w2.heap.size 0) 1 1 (G1.r 1) rfl rfl (by decide) (pC w2 _ _) (EX Wd _) (by unfold maxLen;omega) (by omega) cC ?_);intro v1 w3 A1;have G2:=(G1.below (aV.al _)).app (by simp[EE,xD]) A1 (by simp);clear G0 G1 A1 b2;go_wp2_with fail;refine(HT.out _).m λw4 b4=>?_;have G3:=G2.below b4;go_wp2_with fail;refine(HT.out _).m λw5 b5=>?_;have G4:=G3.below b5;clear G2 G3 b4 b5;go_wp2_with (at_builtin;refine mj _ rfl _ _ _ rfl 0 _ iV _ _ _ hU hiV Wi Wj Wk rfl _ _ _ rfl (G4.own.alloc _) (Ad w5.heap.size 0) 2 2 (G4.r 2) rfl rfl (by decide) (pC w5 _ _) (EX Wd _) (by unfold maxLen;omega) (by omega) cC ?_);intro v2 w6 A2;have G5:=(G4.below (aV.al _)).app (by simp[EE,xD]) A2 (by simp);clear G4 A2;go_wp2_with fail;refine(HT.out _).m λw7 b7=>?_;have G6:=G5.below b7;go_wp2_with fail;refine(HT.out _).m λw8 b8=>?_;have G7:=G6.below b8;go_wp2_with fail;refine(HT.out _).m λw9 b9=>?_;have G8:=G7.below b9;clear G5 G6 G7 b7 b8 b9;go_wp2_with (at_builtin;refine mj _ rfl _ _ _ rfl 0 _ iV _ _ _ hU hiV Wi Wj Wk rfl _ _ _ rfl (G8.own.alloc _) (Ad w9.heap.size 0) 3 3 (G8.r 3) rfl rfl (by decide) (pC w9 _ _) (EX Wd _) (by unfold maxLen;omega) (by omega) cC ?_);intro v3 wa A3;have G9:=(G8.below (aV.al _)).app (by simp[EE,xD]) A3 (by simp);clear G8 A3 HT;obtain⟨d2,hkr⟩:=hK.out _ G9.sp;obtain⟨x1,c1,rfl⟩:=G9.slice (v:=v1) (k:=ll) (by simp);obtain⟨x2,c2,rfl⟩:=G9.slice (v:=v2) (k:=ll+1) (by simp);obtain⟨x3,c3,rfl⟩:=G9.slice (v:=v3) (k:=ll+2) (by simp);have hF2:Hid (∀w5 o v5,_):=λw5 o v5=>hF.out wa w5 o v5 _ _ _ G9;clear hK G9 hF;go_wp2_with (at_builtin;refine wpList_append_own_at _ rfl _ _ 68 rfl 0 123 iK _ 3 56 underlying68 hiK aac aad aae rfl (by decide) _ _ _ rfl (hkr.alloc _) (Ad wa.heap.size 0) 4 4 _ (by rfl) (by rfl) (pC wa _ _) (by simp[Value.oneCell']) (by unfold maxLen;omega) (by omega) cC ?_);intro v5 w5 TU TJ _ hat;obtain⟨⟨E',q1⟩,q4⟩:=hF2.out _ _ _ TJ TU hat;have e2:w5.cell? (Ad wb 2)=some kv:=aD q4 rfl;have fz2:w5.frozen? (Ad wb 2)=false:=cK q4 2;replace q1:Hid _:=q1;obtain⟨g5,abh,rfl,_⟩:=fS TU (by omega);clear q4 hF2 TU TJ hat hkr d2;go_wp2_with fail;go_ret;exact⟨rfl,E',q1.out⟩):T:=h
theorem KF(L k)(h:k<=L.length):(lr L).drop (k*4)=lr (L.drop k):=by
 let e:lr L=lr (L.take k)++lr (L.drop k):=by unfold lr;rw[<-MD,<-ml,yz]
 rw[e,List.drop_left' (by rw[show(lr (L.take k)).length=(L.take k).length*4 from eN J3 4 (λ_=>rfl) _,kV,CD h])]
theorem V9{W:aC}{g b i L v}(hi:L[i]?=some v)(h:W.ownsRow 0 59 4 (Sl g L.length b) L.length (half (EE n) i (lr L))):W.cell? (Ad g (i*4))=some (Iv v.ev)/\W.cell? (Ad g (i*4+1))=some (Iv v.time)/\W.cell? (Ad g (i*4+2))=some (Iv v.cP)/\W.cell? (Ad g (i*4+3))=some (.bool v.ok)/\
  ((((W.setCell (Ad g (i*4)) (Iv (-(n)))).setCell (Ad g (i*4+1)) (Iv (-(n)))).setCell (Ad g (i*4+2)) (Iv (-(n)))).setCell (Ad g (i*4+3)) (.bool false)).ownsRow 0 59 4 (Sl g L.length b) L.length (half (EE n) (i+1) (lr L)):=by
 let a:(mf i (EE n)).length=i*4:=EW ..;let f:half (EE n) i (lr L)=mf i (EE n)++(Iv v.ev::Iv v.time::Iv v.cP::.bool v.ok::(lr L).drop ((i+1)*4)):=by
  unfold half;obtain⟨e,d⟩:=eY.1 hi;rw[show i*(EE n).length=i*4 from rfl,KF L i aA,KF L (i+1) aA,pw e,d];rfl
 let c:half (EE n) (i+1) (lr L)=mf i (EE n)++(Iv (-(n:Int))::Iv (-(n:Int))::Iv (-(n:Int))::.bool false::(lr L).drop ((i+1)*4)):=by
  unfold half;rw[wo,nC];rfl
 rw[f]at h;refine⟨?_,?_,?_,?_,?_⟩
 .exact d_ h rfl (by rw[sK aA,a];simp)
 .exact d_ h rfl (by rw[sK aA,a];simp)
 .exact d_ h rfl (by rw[sK aA,a];simp)
 .exact d_ h rfl (by rw[sK aA,a];simp)
 .have:=iW (iW (iW (iW h (i*4) (Iv (-(n:Int)))) (i*4+1) (Iv (-(n:Int)))) (i*4+2) (Iv (-(n:Int)))) (i*4+3) (.bool false);rw[c];simpa[List.set_append,a]using this
theorem QR(h:lu Lw wb lN kv n E w)(hn:n<1000000000000)(hE:E.length<=1000000000000)(l k:aE)(L:aB Vd)(H:w.ownsRow 0 59 4 l L.length (lr L))(N:w.ownsRow 0 199 4 k L.length (lr L))(y:∀g,l.ownBlock=some g->¬Lw g)(D:L.length<=1000):
  Calls prog 71 #[Pt wb,l,k] w λe A=>e=.returned (.bool true)/\∃E',(E'.length<=4/\∀e∈E',e.n=n+1)/\IE (λb=>(Lw b\/l.ownBlock=some b)\/w.heap.size<=b) wb lN (n+1) (E++E') A/\aH (λb=>Lw b\/l.ownBlock=some b) w A:=by
 obtain⟨lo,x,rfl,U,ad,j⟩:=bT H;obtain⟨Z,kc,rfl,X,Y,f⟩:=bT N;have J:Hid (∀i:Nat,i<L.length->∃v:Vd,L[i]?=some v/\∃r p,lo=some (Ad r 0)/\Z=some (Ad p 0)/\w.cell? (Ad r (i*4))=some (Iv v.ev)/\w.cell? (Ad r (i*4+1))=some (Iv v.time)/\w.cell? (Ad r (i*4+2))=some (Iv v.cP)/\w.cell? (Ad r (i*4+3))=some (.bool v.ok)/\w.cell? (Ad p (i*4))=some (Iv v.ev)/\w.cell? (Ad p (i*4+1))=some (Iv v.time)/\w.cell? (Ad p (i*4+2))=some (Iv v.cP)/\w.cell? (Ad p (i*4+3))=some (.bool v.ok)):=λi hi=>by
  obtain⟨r,z,_,_,a⟩:=j aA;obtain⟨p,e2,_,_,b⟩:=f aA;have o:L[i]?=some L[i]:=fH hi;exact⟨_,o,r,p,z,e2,a _ _ (qX (k:=0) o rfl),a _ _ (qX (k:=1) o rfl),a _ _ (qX (k:=2) o rfl),a _ _ (qX (k:=3) o rfl),b _ _ (qX (k:=0) o rfl),b _ _ (qX (k:=1) o rfl),b _ _ (qX (k:=2) o rfl),b _ _ (qX (k:=3) o rfl)⟩
 have HT:Hid (∀W,Calls prog 72 #[Iv ((n:Int)+1)] W λe A=>e=.returned (.agg #[Iv (-((n:Int)+1)),Iv (-((n:Int)+1)),Iv (-((n:Int)+1)),.bool false])/\Bl W A):=λW=>zK (n+1) W aA;have u:(lr L).length=L.length*4:=eN J3 4 (λ_=>rfl) L;have HS:Hid (∀(W:aC)(i:Nat),i<L.length->W.ownsRow 0 59 4 (.slice lo L.length x) L.length (half (EE (n+1)) i (lr L))->∃g a b c d,lo=some (Ad g 0)/\∀W',Bl W W'->W'.cell? (Ad g (i*4))=some (Iv a)/\W'.cell? (Ad g (i*4+1))=some (Iv b)/\W'.cell? (Ad g (i*4+2))=some (Iv c)/\W'.cell? (Ad g (i*4+3))=some (.bool d)/\W'.frozen? (Ad g (i*4))=false/\W'.frozen? (Ad g (i*4+1))=false/\W'.frozen? (Ad g (i*4+2))=false/\W'.frozen? (Ad g (i*4+3))=false/\∀V,((((W'.setCell (Ad g (i*4)) (Iv (-((n:Int)+1)))).setCell (Ad g (i*4+1)) (Iv (-((n:Int)+1)))).setCell (Ad g (i*4+2)) (Iv (-((n:Int)+1)))).setCell (Ad g (i*4+3)) (.bool false))=V->V.ownsRow 0 59 4 (.slice lo L.length x) L.length (half (EE (n+1)) (i+1) (lr L))/\aH (λb=>(.slice lo L.length x:aE).ownBlock=some b) W V):=λW i hi P=>by
  have G:=P;obtain⟨_,⟨z,e2⟩|⟨g,cap,aa,z,_⟩⟩:=G
  .omega
  cases z;have o:L[i]?=some L[i]:=fH hi;refine⟨g,L[i].ev,L[i].time,L[i].cP,L[i].ok,rfl,λW' T=>?_⟩;have m:=fQ P T;obtain⟨Q,S,R,O,a5⟩:=V9 o m;refine⟨Q,S,R,O,m.frozenAt _,m.frozenAt _,m.frozenAt _,m.frozenAt _,?_⟩;rintro V rfl;refine⟨a5,(aH.aS T).trans ?_⟩;exact((((gO _ g _ _).trans (gO _ g _ _)).trans (gO _ g _ _)).trans (gO _ g _ _)).mono λb _ e=>by rw[e];rfl
 obtain⟨M,F,s,HG⟩:=h.gv3 y H u D (λv=>⟨n+1,v,.slice none 0 0⟩) λv=>⟨rfl,.inl ⟨rfl,rfl,rfl,rfl⟩⟩;have c1:w.cell? (Ad wb 1)=some (Iv (n:Int)):=aD h.cell rfl;have f1:w.frozen? (Ad wb 1)=false:=cK h.cell 1;clear j f h H N u y;generalize L.length=ll at*;obtain⟨iV,hiV,Wi,Wj,Wk⟩:=eB QX;obtain⟨iK,hiK,aac,aad,aae⟩:=eB Bf;go_enter func71,ntmps71;go_wp2_with fail;go_loopw [7,8] (λK t wr=>∃i:Nat,K=.bool true/\t=Iv i/\i<=ll/\∃q,wr=w.drewN q) (λ_ t _=>ll-(intOf t).toNat)
 case atStart=>exact⟨0,rfl,rfl,cC,0,rfl⟩
 case round=>
  obtain⟨i,rfl,rfl,I,q,rfl⟩:=hrel;by_cases hi:i<ll
  .obtain⟨v,_,r,p,rfl,rfl,x0,x1,x2,x3,y0,y1,y2,y3⟩:=J.out i hi;clear J HS M F s HT;have e0:(v.ev==v.ev)=true:=CI _;have z:(v.time==v.time)=true:=CI _;have e2:(v.cP==v.cP)=true:=CI _;have e3:(v.ok==v.ok)=true:=CI _;generalize v.ev=z0 at*;generalize v.time=z1 at*;generalize v.cP=z2 at*;generalize v.ok=z3 at*;go_wp2_with fail;go_quiet(fail);go_wp2_with fail
   try go_big_round
   exact⟨⟨i+1,rfl,dV,hi,_,rfl⟩,zm⟩
  .obtain rfl:ll=i:=by omega
   clear J;have hF:=M.out q;have hK:=F.out q;have Vz:=s.out q;replace hF:Hid _:=hF;replace hK:Hid _:=hK;replace Vz:Hid _:=Vz;clear M F s;go_wp2_with fail;generalize(w.drewN q).setCell (Ad wb 1) (Iv ((n:Int)+1))=w1 at*;go_loopw [10] (λt wr=>∃i:Nat,t=Iv i/\i<=ll/\aH (λb=>(.slice lo ll x:aE).ownBlock=some b) w1 wr/\wr.ownsRow 0 59 4 (.slice lo ll x) ll (half (EE (n+1)) i (lr L))) (λt _=>ll-(intOf t).toNat)
   case atStart=>exact⟨0,rfl,cC,aH.refl _ _,Vz.out⟩
   case round=>
    obtain⟨i,rfl,I,hO,qi⟩:=hrel;by_cases hi:i<ll
    .obtain⟨g,a,b,c,d,ho,B⟩:=HS.out wr i hi qi;subst ho;replace B:Hid _:=B;replace hO:Hid _:=hO;clear HS qi hF hK Vz;go_wp2_with fail;refine(HT.out _).m λw2 b2=>?_;obtain⟨Q,S,R,O,a5,a6,a7,a8,C⟩:=B.out w2 b2;replace C:Hid _:=C;clear B HT;go_wp2_with fail
     try go_big_round
     exact⟨⟨i+1,dV,hi,hO.out.trans (C.out _ rfl).2,(C.out _ rfl).1⟩,zm⟩
    .have hU:=underlying54;have Wd:=@WE (n+1);exact zgv
end
theorem wu{k j c row v}(a:j<k)(b:row[c]?=some v):(mf k row)[j*row.length+c]?=some v:=by
 have:mf k row=((List.replicate k ()).map λ_=>row).flatten:=by simp[mf]
 rw[this];exact jl (λ_=>row) row.length (λ_=>rfl) (List.replicate k ()) j c () v (by simp[a]) b
theorem BJ.cells{m w e}(h:BJ m w e):∃d k i b f l,e.gv=.slice k d i/\e.tv=.slice f b l/\d<=1000000000/\b<=1000000000/\d<=i/\b<=l/\(∀j,j<d->∃g,k=some (Ad g 0)/\g<w.heap.size/\w.cell? (Ad g (j*4))=some (Iv (-(e.n:Int)))/\w.cell? (Ad g (j*4+1))=some (Iv (-(e.n:Int)))/\w.cell? (Ad g (j*4+2))=some (Iv (-(e.n:Int)))/\w.cell? (Ad g (j*4+3))=some (.bool false))/\∀j,j<b->∃g,f=some (Ad g 0)/\g<w.heap.size/\w.cell? (Ad g j)=some (.string ⟨(oW e.n).toArray⟩):=by
 let⟨⟨d,p1,q1⟩,⟨b,p2,q2⟩,_⟩:=h;let⟨k,i,e1,a1,_,b1⟩:=bT q1;let⟨f,l,e2,a2,_,b2⟩:=bT q2;refine⟨d,k,i,b,f,l,e1,e2,p1,p2,a1,a2,λj a=>?_,λj a=>?_⟩
 .let⟨g,h1,h2,_,h3⟩:=b1 aA;exact⟨g,h1,h2,h3 _ _ (wu (row:=EE e.n) (c:=0) a rfl),h3 _ _ (wu (row:=EE e.n) (c:=1) a rfl),h3 _ _ (wu (row:=EE e.n) (c:=2) a rfl),h3 _ _ (wu (row:=EE e.n) (c:=3) a rfl)⟩
 .let⟨g,h1,h2,_,h3⟩:=b2 aA;refine⟨g,h1,h2,h3 j _ ?_⟩;have:=wu (row:=xD e.n) (c:=0) a rfl;simpa[xD]using this
theorem EC{Lw Z n Q kv E w}(h:lu Lw Z Q kv n E w)(hE:E.length<=1000000000000)(z:∀e∈E,e.n<=1000000000000):
  Calls prog 38 #[.pointer (some ⟨Z,0,none⟩)] w λe w'=>e=.returned (.bool true)/\Below w.heap.size w w':=by
 have HC:Hid (∀e∈E,_):=λe M=>(h.mR e M).cells;have z:=hid z;have hc:=h.cell;obtain⟨ko,kc,rfl,a7,_,t⟩:=bT h.kept;have HK:Hid (∀(i:Nat)(e:mK),E[i]?=some e->∃s,ko=some ⟨s,0,none⟩/\s<w.heap.size/\w.cell? ⟨s,i*3,none⟩=some (.int .i64 (e.n:Int))/\w.cell? ⟨s,i*3+1,none⟩=some e.gv/\w.cell? ⟨s,i*3+2,none⟩=some e.tv):=λi e hi=>by
  have⟨s,e1,e2,_,e3⟩:=t (by have:=(eY.1 hi).1;omega);have R:∀k v,(Yk e)[k]?=some v->(nF E)[i*3+k]?=some v:=λk v hv=>jl Yk 3 (λ_=>rfl) E i k e v hi hv;exact⟨s,e1,e2,e3 _ _ (R 0 _ rfl),e3 _ _ (R 1 _ rfl),e3 _ _ (R 2 _ rfl)⟩
 go_enter func38,ntmps38;go_wp2;go_loopw [3] (λY wr=>∃i:Nat,Y=.int .i64 i/\i<=E.length/\Below w.heap.size w wr) (λY _=>E.length-(intOf Y).toNat)
 case atStart=>exact⟨0,rfl,cC,aV⟩
 case round=>
  obtain⟨i,rfl,a8,b⟩:=hrel;have U:=b.aT hc;have c2:wr.cell? ⟨Z,2,none⟩=some (.slice ko E.length kc):=aD U rfl;by_cases hi:i<E.length
  .have T:decide ((i:Int)<(E.length:Int))=true:=by simp;omega
   obtain⟨e,M⟩:∃e,E[i]?=some e:=⟨E[i],fH hi⟩;have J:=iF M;obtain⟨s,rfl,A,k0,k1,k2⟩:=HK.out i e M;have⟨o,go,gc,q,tO,tc,e1,e2,l1,l2,l3,l4,R1,X⟩:=HC.out e J;rw[e1]at k1;rw[e2]at k2;have k0':=(b.cell (p:=⟨s,i*3,none⟩) A).trans k0;have k1':=(b.cell (p:=⟨s,i*3+1,none⟩) A).trans k1;have k2':=(b.cell (p:=⟨s,i*3+2,none⟩) A).trans k2;have G:=b.al (.cells #[.int .i64 (e.n:Int),.slice go o gc,.slice tO q tc] 123 (0,0));have u:=aQ wr (.cells #[.int .i64 (e.n:Int),.slice go o gc,.slice tO q tc] 123 (0,0)) _ rfl;have hV:=hid λ(W:aC)=>zK e.n W (z.out e J);have hT:=hid λ(W:aC)=>Fc e.n W;have R1:Hid (∀W,Below w.heap.size w W->∀j,j<o->_):=λW r j D=>by
    obtain⟨g,O,C,S,a4,a5,a6⟩:=R1 j D;exact(⟨g,O,(r.cell (p:=⟨g,j*4,none⟩) C).trans S,(r.cell (p:=⟨g,j*4+1,none⟩) C).trans a4,(r.cell (p:=⟨g,j*4+2,none⟩) C).trans a5,(r.cell (p:=⟨g,j*4+3,none⟩) C).trans a6⟩:∃g,go=some ⟨g,0,none⟩/\W.cell? ⟨g,j*4,none⟩=some (.int .i64 (-(e.n:Int)))/\W.cell? ⟨g,j*4+1,none⟩=some (.int .i64 (-(e.n:Int)))/\W.cell? ⟨g,j*4+2,none⟩=some (.int .i64 (-(e.n:Int)))/\W.cell? ⟨g,j*4+3,none⟩=some (.bool false))
   have X:Hid (∀W,Below w.heap.size w W->∀j,j<q->_):=λW r j D=>by
    obtain⟨g,O,C,S⟩:=X j D;exact(⟨g,O,(r.cell (p:=⟨g,j,none⟩) C).trans S⟩:∃g,tO=some ⟨g,0,none⟩/\W.cell? ⟨g,j,none⟩=some (.string ⟨(oW e.n).toArray⟩))
   generalize(⟨(oW e.n).toArray⟩:a_)=tx at*;generalize(e.n:Int)=l at*;go_wp2_with fail;generalize wr.alloc (.cells #[.int .i64 l,.slice go o gc,.slice tO q tc] 123 (0,0))=W at*;generalize wr.heap.size=d at*;have HW:Hid (∀V,Below W.heap.size W V->Below w.heap.size w V/\V.cell? ⟨d,0,none⟩=some (.int .i64 l)/\V.cell? ⟨d,1,none⟩=some (.slice go o gc)/\V.cell? ⟨d,2,none⟩=some (.slice tO q tc)):=λV r=>⟨G.tr r,aD (r.aT u) rfl,aD (r.aT u) rfl,aD (r.aT u) rfl⟩;clear u G b c2 k0' k1' k2';go_loopw [5] (λB P=>∃j:Nat,B=.int .i64 j/\j<=o/\Below W.heap.size W P) (λB _=>o-(intOf B).toNat)
   case atStart=>exact⟨0,rfl,cC,aV⟩
   case round=>
    obtain⟨j,rfl,D,c⟩:=hrel;obtain⟨I,F,N,L⟩:=HW.out _ c;by_cases m:j<o
    .have f:decide ((j:Int)<(o:Int))=true:=by simp;omega
     obtain⟨g,rfl,K,y1,y2,y3⟩:=R1.out _ I j m;have y:Hid (∀a,Below wr.heap.size wr a->a.cell? ⟨d,0,none⟩=some (.int .i64 l)/\a.cell? ⟨d,1,none⟩=some (.slice (some ⟨g,0,none⟩) o gc)/\a.cell? ⟨g,j*4,none⟩=some (.int .i64 (-l))/\a.cell? ⟨g,j*4+1,none⟩=some (.int .i64 (-l))/\a.cell? ⟨g,j*4+2,none⟩=some (.int .i64 (-l))/\a.cell? ⟨g,j*4+3,none⟩=some (.bool false)/\Below wr.heap.size wr a):=λa h=>⟨(h.cell (p:=⟨d,0,none⟩) (eS F)).trans F,(h.cell (p:=⟨d,1,none⟩) (eS N)).trans N,(h.cell (p:=⟨g,j*4,none⟩) (eS K)).trans K,(h.cell (p:=⟨g,j*4+1,none⟩) (eS y1)).trans y1,(h.cell (p:=⟨g,j*4+2,none⟩) (eS y2)).trans y2,(h.cell (p:=⟨g,j*4+3,none⟩) (eS y3)).trans y3,h⟩;go_wp2
     go_region_held3 (λa=>a.cell? ⟨d,0,none⟩=some (.int .i64 l)/\a.cell? ⟨d,1,none⟩=some (.slice (some ⟨g,0,none⟩) o gc)/\a.cell? ⟨g,j*4,none⟩=some (.int .i64 (-l))/\a.cell? ⟨g,j*4+1,none⟩=some (.int .i64 (-l))/\a.cell? ⟨g,j*4+2,none⟩=some (.int .i64 (-l))/\a.cell? ⟨g,j*4+3,none⟩=some (.bool false)/\Below wr.heap.size wr a)
      ((refine y.out _ ?_;(repeat(with_reducible (first|exact Below.refl _ _|refine Below.drew ?_|refine Below.tr ?_ H)))))
      (first|(go_at_call_of 72 (Value.int IntKind.i64 l);refine(hV.out _).mono ?_;rintro x wA ⟨rfl,H⟩))
     all_goals go_wp2_with fail
     all_goals
      try go_big_round
      exact⟨⟨j+1,dV,m,by repeat(with_reducible (first|exact c|refine MK ?_|refine Below.tr ?_ H))⟩,zm⟩
    .have f:decide ((j:Int)<(o:Int))=false:=by simp;omega
     go_wp2;go_loopw [6] (λB P=>∃j:Nat,B=.int .i64 j/\j<=q/\Below W.heap.size W P) (λB _=>q-(intOf B).toNat)
     case atStart=>exact⟨0,rfl,cC,c⟩
     case round=>
      clear D m f c I F N L;obtain⟨j,rfl,D,c⟩:=hrel;obtain⟨I,F,N,L⟩:=HW.out _ c;by_cases m:j<q
      .have f:decide ((j:Int)<(q:Int))=true:=by simp;omega
       obtain⟨g,rfl,K⟩:=X.out _ I j m;have y:Hid (∀a,Below wr.heap.size wr a->a.cell? ⟨d,0,none⟩=some (.int .i64 l)/\a.cell? ⟨d,2,none⟩=some (.slice (some ⟨g,0,none⟩) q tc)/\a.cell? ⟨g,j,none⟩=some (.string tx)/\Below wr.heap.size wr a):=λa h=>⟨(h.cell (p:=⟨d,0,none⟩) (eS F)).trans F,(h.cell (p:=⟨d,2,none⟩) (eS L)).trans L,(h.cell (p:=⟨g,j,none⟩) (eS K)).trans K,h⟩;go_wp2
       go_region_held3 (λa=>a.cell? ⟨d,0,none⟩=some (.int .i64 l)/\a.cell? ⟨d,2,none⟩=some (.slice (some ⟨g,0,none⟩) q tc)/\a.cell? ⟨g,j,none⟩=some (.string tx)/\Below wr.heap.size wr a)
        ((refine y.out _ ?_;(repeat(with_reducible (first|exact Below.refl _ _|refine Below.drew ?_|refine Below.tr ?_ H)))))
        (first|(go_at_call_of 73 (Value.int IntKind.i64 l);refine(hT.out _).mono ?_;rintro x wA ⟨rfl,H⟩))
       all_goals go_wp2_with fail
       all_goals
        try go_big_round
        exact⟨⟨j+1,dV,m,by repeat(with_reducible (first|exact c|refine MK ?_|refine Below.tr ?_ H))⟩,zm⟩
      .have f:decide ((j:Int)<(q:Int))=false:=by simp;omega
       go_wp2
       try go_big_round
       exact⟨⟨i+1,dV,hi,I⟩,zm⟩
  .have T:decide ((i:Int)<(E.length:Int))=false:=by simp;omega
   go_wp2;go_ret;exact⟨rfl,b⟩
end Ev
end Go.Proofs.YtpbbmagjhkakgaaGreatDoor
