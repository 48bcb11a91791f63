import Derived.Test.YtpbbmagjhkakgaaGreatDoorD4
namespace Go.Proofs.YtpbbmagjhkakgaaGreatDoor
set_option maxHeartbeats 4000000
set_option maxRecDepth 100000
namespace Ev
open Tryz Go.RowKit Go.Deep Lf
def lV(n:Nat)(row:aB aF):aB aF:=(List.replicate n row).flatten
theorem Ew(n row):(lV n row).length=n*row.length:=by simp[lV]
theorem vM(n m row):lV (n+m) row=lV n row++lV m row:=by unfold lV;rw[<-L3,List.replicate_append_replicate]
theorem QS(n m row)(h:n<=m):(lV m row).take (n*row.length)=lV n row:=by
 obtain⟨k,rfl⟩:=Nat.exists_eq_add_of_le h;rw[vM,<-Ew,List.take_left]
def Ee(n:Nat):aB aF:=[Iv (-(n:Int)),Iv (-(n:Int)),Iv (-(n:Int)),.bool false]
def xh(n:Nat):aB aF:=[.string ⟨(oL n).toArray⟩]
structure mB where
 n:Nat
 gv:aF
 tv:aF
def Xy(e:mB):aB aF:=[Iv (e.n:Int),e.gv,e.tv]
def nh(E:aB mB):aB aF:=(E.map Xy).flatten
def Reads(w:aC)(t:TypeId)(row:aB aF)(v:aF):Prop:=∃k,k<=1000000000/\w.ownsRow 0 t row.length v k (lV k row)
structure Bo(Lw:Nat->Prop)(w:aC)(e:mB):Prop where
 g:Reads w 59 (Ee e.n) e.gv
 t:Reads w 9 (xh e.n) e.tv
 own:∀b,e.gv.ownBlock=some b\/e.tv.ownBlock=some b->Lw b
structure k_(Lw:Nat->Prop)(wb:Nat)(lT kv:aF)(n:Nat)(E:aB mB)(w:aC):Prop where
 cell:w.heap[wb]?=some (.cells #[lT,Iv (n:Int),kv] 70 (0,0))
 kept:w.ownsRow 0 123 3 kv E.length (nh E)
 nD:∀e∈E,Bo Lw w e
 own:Lw wb/\∀b,kv.ownBlock=some b->Lw b
def H7(b:Nat->Prop)(d:Nat)(a:aF)(n:Nat)(E:aB mB)(w:aC):Prop:=∃c,k_ b d a c n E w
theorem Reads.spare{P w a t row v}(h:Reads w t row v)(d:aI P w a)(c:∀b,v.ownBlock=some b->¬P b):Reads a t row v:=by
 let⟨k,hk,h⟩:=h;exact⟨k,hk,cG h d c⟩
theorem Bo.spare{P f w g e}(h:Bo f w e)(d:aI P w g)(c:∀b,e.gv.ownBlock=some b\/e.tv.ownBlock=some b->¬P b):Bo f g e:=
 ⟨h.g.spare d λb a=>c b (.inl a),h.t.spare d λb a=>c b (.inr a),h.own⟩
theorem k_.move{P Lw j n a i E w k}(h:k_ Lw j a i n E w)(f:aI P w k)(c:∀b,Lw b->¬P b):k_ Lw j a i n E k:=
 ⟨f.get h.cell (c _ h.own.1),cG h.kept f λb d=>c b (h.own.2 b d),λe g=>(h.nD e g).spare f λb d=>c b ((h.nD e g).own b d),h.own⟩
theorem k_.mono{g c j n a i E w}(h:k_ g j a i n E w)(hL:∀b,g b->c b):k_ c j a i n E w:=
 ⟨h.cell,h.kept,λe d=>⟨(h.nD e d).g,(h.nD e d).t,λb f=>hL b ((h.nD e d).own b f)⟩,hL _ h.own.1,λb f=>hL b (h.own.2 b f)⟩
theorem QQ{t}{row}{l I i}{n m k}{w v}(G:0<row.length)(h:RN 0 t row.length l n m (lV n row) (lV m row) w I v)(K:w.ownsRow 0 t row.length l n (lV n row))(y:w.ownsRow 0 t row.length i k (lV k row))(p:k<=n+m):v.ownsRow 0 t row.length i k (lV k row):=by
 by_cases e:i.ownBlock=l.ownBlock
 .obtain⟨d,⟨rfl,F⟩|⟨g,cap,o,rfl,_,f,r,a5,q,J⟩⟩:=y
  .exact⟨d,.inl ⟨rfl,F⟩⟩
  obtain c|⟨_,c⟩:=h.at_
  .obtain⟨_,⟨rfl,_⟩|⟨M,s,C,rfl,_,z,T,Q,E,N⟩⟩:=K
   .cases e
   cases e;obtain⟨_,⟨j,_⟩|⟨S,x,a,j,_,B,R,W,H,X⟩⟩:=h.old
   .cases j
   cases j;obtain⟨_,⟨rfl,_⟩|⟨U,A,u,rfl,_,D,O,P,V,L⟩⟩:=h.own
   .cases c
   cases c;rw[f]at z;cases z;rw[B]at D;cases D;have b:=Nat.eq_of_mul_eq_mul_right G (q.symm.trans E);subst b;refine⟨d,.inr ⟨g,cap,_,rfl,Nat.zero_le _,B,r,a5,H,?_⟩⟩;have:a.toList.take (k*row.length)=(a.toList.take ((n+m)*row.length)).take (k*row.length):=by
    rw[List.take_take,Ch (L2 _ p)]
   rw[this,L,<-vM,QS _ _ _ p]
  .exact⟨d,.inr ⟨g,cap,o,rfl,cD,(c g (aL f)).trans f,r,a5,q,J⟩⟩
 .exact y.kept h.grown (.inr e)
theorem zh(n:Nat)(w)(c:n<=1000000000000):Calls prog 72 #[Iv (n)] w λe b=>e=.returned (.agg #[Iv (-(n)),Iv (-(n)),Iv (-(n)),.bool false])/\Bl w b:=by
 go_enter func72,ntmps72;go_wp2_with fail;let a:(w.alloc (.cells #[Iv (-(n:Int)),Iv (-(n:Int)),Iv (-(n:Int)),.bool false] 59)).heap[w.heap.size]?=some (.cells #[Iv (-(n:Int)),Iv (-(n:Int)),Iv (-(n:Int)),.bool false] 59 (0,0)):=aP _ _ _ rfl;refine⟨rfl,_,?_,rfl,aT.al _⟩;simp[results,f72,go_sem,loadVar,aD (i:=0) a rfl,aD (i:=1) a rfl,aD (i:=2) a rfl,(aD (i:=3) a rfl)]
theorem AW:(prog.info? 123).map (λi=>(i.zero,i.size,i.bytes))=some (some (.agg #[Iv 0,.slice none 0 0,.slice none 0 0]),3,56):=aM
theorem kW{w:aC}{base size n b e t v xs a m}(h:w.ownsRow base e size v n xs)(d:w.heap[b]?=some (.cells a t m))(c:e≠t):v.ownBlock≠some b:=λe=>by
 let⟨cur,k⟩:=cE h e
 rw[d]at k
 cases k
 exact c rfl
theorem gJ(w b i v):aI (λk=>k=b) w (w.setCell (Ad b i) v):=fH w (Ad b i) v
theorem k_.put{Lw a:Nat->bQ}{d n:Nat}{i m v':aF}{E f:aB mB}{w w':aC}(j:w.heap[d]?=some (.cells #[i,Iv (n:Int),m] 70 (0,0)))(p:w.ownsRow 0 123 3 m E.length (nh E))(z:∀e∈E++f,Bo Lw w e)(hL:∀b,Lw b->a b)(hw:Lw d)
  (h:w.grownBy w' m.ownBlock) (r:w'.ownsRow 0 123 3 v' (E.length+f.length) (nh E++nh f)) (B:∀b,v'.ownBlock=some b->a b):k_ a d i v' n (E++f) (w'.setCell (Ad d 2) v'):=by
 let MY:=(h.block d (aL j) λe=>kW p j aG e.symm).trans j;let u:=gJ w' d 2 v';refine⟨by simp[World.setCell,ua,MY],?_,λe C=>?_,hL _ hw,B⟩
 .have:nh (E++f)=nh E++nh f:=by simp[nh]
  rw[this,kt];exact cG r u λg h e=>kW r MY aG (e▸h)
 .let o:=z e C;let⟨k1,p1,q1⟩:=o.g;let⟨k2,p2,q2⟩:=o.t;let x:∀{t:TypeId}{s k:Nat}{v:aF}{xs:aB aF},w.ownsRow 0 t s v k xs->t≠70->t≠123->(w'.setCell (Ad d 2) v').ownsRow 0 t s v k xs:=λ{t s k v xs} q A y=>eF q λg l=>by
   let⟨cur,c⟩:=cE q l;rw[u.block g (fW (aL c) h.size) λe=>kW q j A (e▸l)];exact h.block g (aL c) λe=>by
    let⟨aaU,c2⟩:=cE p e.symm;rw[c]at c2;cases c2;exact y rfl
  exact⟨⟨k1,p1,x q1 aG aG⟩,⟨k2,p2,x q2 aG aG⟩,λb l=>hL b (o.own b l)⟩
theorem Ty{c}(h:c.toNat<97\/122<c.toNat):rQ c=false:=by
 unfold rQ;rw[Bool.and_eq_false_iff,LZ,LZ];omega
theorem O3{c}(h:¬c.toNat<97)(k:¬122<c.toNat):rQ c=true:=by
 unfold rQ;rw[kh aA,kh aA];rfl
theorem GR(s w)(u:s.size<=1000000000):Calls prog 107 #[.string s] w λe t=>e=.returned (.bool (iY s))/\Bl w t:=by
 have j:Hid (iY s=(s.data.toList.all rQ&&(decide (1<=s.size)&&decide (s.size<=8)&& !(s.toList==[116,114,117,101])))):=rfl;generalize iY s=res at*;go_enter func107,ntmps107;go_wp2;go_loopw [3] (λk wr=>∃(i:Nat)(z:aB aV),k=Iv i/\i<=s.size/\Bl w wr/\Go.Proofs.YtpbbmagjhkakgaaGreatDoor.At s i z/\Hid (s.data.toList.all rQ=z.all rQ)) (λk _=>s.size-(intOf k).toNat)
 case atStart=>exact⟨0,_,rfl,cD,aT,lA s 0,rfl⟩
 case round=>
  obtain⟨i,z,rfl,n,g,m,a⟩:=hrel;cases z with
  |nil=>
   have l:=m.nil;have b:Hid (res=(decide (1<=s.size)&&decide (s.size<=8)&& !(s.toList==[116,114,117,101]))):=by show _=_;rw[j.out,a.out];rfl
   cases q:(s.toList==[116,114,117,101])<;>rw[q]at b<;>by_cases f:1<=s.size<;>by_cases d:s.size<=8
   all_goals go_wp2_with fail
   all_goals go_ret
   all_goals exact⟨by rw[b.out];simp[f,d],g⟩
  |cons c r=>
   have⟨l,hc,ht⟩:=m.cons;have o:=z_ c;have b:Hid (rQ c=false->res=false):=λh=>by rw[j.out,a.out,List.all_cons,h];rfl
   by_cases f:c.toNat<97
   .clear a j;go_wp2;go_ret;exact⟨by rw[b.out (Ty (.inl f))];rfl,g⟩
   .by_cases d:122<c.toNat
    .clear a j;go_wp2;go_ret;exact⟨by rw[b.out (Ty (.inr d))];rfl,g⟩
    .have p:Hid (s.data.toList.all rQ=r.all rQ):=by show _=_;rw[a.out,List.all_cons,O3 f d];rfl
     go_wp2
     try go_big_round
     exact⟨⟨i+1,r,dU,l,g,ht,p⟩,zm⟩
theorem AA{w g t a n}(h:(g,t,n)∈jk)(b:ik w g t a):lG w (.iface 357 (.pointer (some a))) n:=⟨_,a,nX (by simp[leaves]),.inl ⟨rfl,g,t,h,b⟩⟩
theorem rD{w T a n}(h:(T,n)∈rN)(b:T∈leaves):lG w (.iface T (.pointer (some a))) n:=⟨_,a,nX b,.inr h⟩
def UX(w a:aC)(e:Ending)(z:Int):Prop:=Bl w a/\((z=0/\e=.returned .nilIface)\/(z≠0/\∃T q,e=.returned (.iface T q)/\lG a (.iface T q) z))
theorem Qz{s}(h:iY s=true):∀{i:Nat}{z},Go.Proofs.YtpbbmagjhkakgaaGreatDoor.At s i z->z.all rQ=true:=by
 intro i z b;unfold iY at h;rw[sB,yn]at h;rw[yn];intro c a;rw[<-(show s.data.toList.drop i=z from b)]at a;exact h.1 c (sx a)
theorem wu{s}(h:iY s=true):oh s:=by
 let i:=h;unfold iY at h;simp only[sB,oX,Bool.not_eq_true']at h;refine⟨h.2.1.1,h.2.1.2,?_,h.2.2,λpos g=>?_⟩
 .rw[ri];intro e;have:=og List.length e;rw[H3]at this;let b:=h.2.1.1;rw[show s.size=s.data.toList.length by simp]at b;rw[this]at b;simp at b
 .let a:=lA s pos;cases e:s.data.toList.drop pos with
  |nil=>rw[e]at a;exact absurd g a.nil
  |cons c r=>
   let d:=Qz i a;rw[e,List.all_cons,sB]at d;let f:=d.1;unfold rQ at f;simp only[sB,oX]at f;have:=(jb e aA).2;rw[this];show 97<=((c.toNat:Nat):Int)/\((c.toNat:Nat):Int)<=122;omega
theorem D6(s w)(u:s.size<=maxLen):Calls prog 167 #[.string s] w λe x=>e=.returned (.bool (iY s))/\Bl w x:=by
 cases g:iY s with
 |true=>exact Gr s (wu g) w
 |false=>
  unfold maxLen at u;have l:(s.toList==[])=decide (s.size=0):=by
   rw[Cn,vV,oX,H3,show s.size=s.data.toList.length by simp];exact ur.symm
  by_cases o:s.size=0
  .rw[kh o]at l;go_enter func167,ntmps167;go_wp2;go_ret;exact⟨rfl,aT⟩
  rw[kg o]at l;by_cases B:8<s.size
  .go_enter func167,ntmps167;go_wp2;go_ret;exact⟨rfl,aT⟩
  cases v:(s.toList==[116,114,117,101])with
  |true=>
   go_enter func167,ntmps167;go_wp2;go_ret;exact⟨rfl,aT⟩
  |false=>
   have y:Hid (s.data.toList.all rQ=false):=by
    show s.data.toList.all rQ=false;have:=g;unfold iY at this;rw[v,kh (by omega:1<=s.size),kh (by omega:s.size<=8)]at this;simpa using this
   go_enter func167,ntmps167;go_wp2;go_loopw [4] (λ_ wr=>∃(pos:Nat)(z:aB aV),wr.heap[w.heap.size]?=some (.stringIter s pos)/\Bl w wr/\Hid (Go.Proofs.YtpbbmagjhkakgaaGreatDoor.At s pos z/\z.all rQ=false)) (λ_ wr=>s.size-wr.iterPos w.heap.size)
   case atStart=>exact⟨0,_,World.iter_heap w s 0,aT.al (.stringIter s 0),lA s 0,y.out⟩
   case round=>
    have⟨pos,z,hit,Z0,hz⟩:=hrel;cases z with
    |nil=>have:=hz.out.2;simp at this
    |cons c r=>
     have⟨hp,hc,ht⟩:=hz.out.1.cons;have h:∀j,(Instr.next (Pt w.heap.size) true j).run prog wr=_:=λj=>Lib.run_next_any_at wr w.heap.size s pos j hit hp;have a:=Lib.below_iterAt Z0 (k:=w.heap.size) aX s (pos+(Utf8.decode s pos).2);have q:=decode_le s pos;cases b:rQ c with
     |false=>
      have p:¬(97<=((Utf8.decode s pos).1:Int)/\((Utf8.decode s pos).1:Int)<=122):=by
       intro i;by_cases n:c.toNat<128
       .have:=(jb hz.out.1 n).2;rw[this]at i;have:rQ c=true:=O3 (by simp at i;omega) (by simp at i;omega);rw[this]at b;cases b
       .have:=(decode_high s pos hp (by rw[hc];omega)).1;omega
      generalize wr.iterAt w.heap.size s (pos+(Utf8.decode s pos).2)=W at*;generalize((Utf8.decode s pos).1)=m at*;generalize((Utf8.decode s pos).2)=C at*;by_cases n:(m:Int)<97
      .go_wp2;go_ret;exact⟨rfl,a⟩
      .have A:(122:Int)<m:=by omega
       go_wp2;go_ret;exact⟨rfl,a⟩
     |true=>
      have d:=b;unfold rQ at d;simp only[sB,oX]at d;have t:Hid (Go.Proofs.YtpbbmagjhkakgaaGreatDoor.At s (pos+1) r/\r.all rQ=false):=⟨ht,by have:=hz.out.2;rw[List.all_cons,b]at this;simpa using this⟩;rw[((jb hz.out.1 aA).2)]at h a;have f:=Lib.iterAt_heap wr w.heap.size s pos (pos+1) hit;simp only at h a;generalize c.toNat=D at*;generalize wr.iterAt w.heap.size s (pos+1)=W at*;go_wp2;go_roundw
      case rel=>exact⟨_,r,f,a,t⟩
      case measure=>rw[(Ac hit),Ac f];omega
theorem Dw(ao:aQ a_)(A:aB aZ)(cap:Nat)(w:aC)(h:eQ w ao A)(hl:A.length<=1000000000)(M:∀s∈A,s.size<=maxLen)(T:A.length<=cap){a:a_}(E:ik w 6 Jl a):
  Calls prog 126 #[.slice ao A.length cap] w λe K=>UX w K e (if ft A=true then 0 else 10):=by
 have I:Hid (∀W b,Bl w W->ft A=false->UX w W (.returned (.iface 290 (.pointer (some b)))) (if ft A=true then 0 else 10)):=λW b k P=>by
  rw[P];exact⟨k,.inr ⟨aG,_,_,rfl,_,a,OP (f:=281) (g:=6) aE (E.down k),.inl ⟨rfl,_,_,by simp[jk],E.down k⟩⟩⟩
 have HT:Hid (∀W,Bl w W->ft A=true->UX w W (.returned .nilIface) (if ft A=true then 0 else 10)):=λW k P=>by
  rw[P];exact⟨k,.inl ⟨rfl,rfl⟩⟩
 have G:=hid λK (k:Bl w K)=>h.below k;have J:Hid (10<A.length->ft A=false):=λh=>by unfold ft;rw[kg aA];rfl
 have D:=hid λW (i:Nat) x (q:A[i]?=some x)=>D6 x W (M x (iA q));generalize(if ft A=true then(0:Int)else 10)=z at*;by_cases N:10<A.length
 .generalize A.length=n at*;go_enter func126,ntmps126;go_wp2;go_ret;exact I.out _ _ (aT.al _) (J.out N)
 have C:=hid λW (i:Nat) x (k:Bl w W) (hi:i<=A.length)=>yC W ao A cap i x (G.out W k) hi aA;generalize B:A.length=n at*;have o:=hid B;clear B;go_enter func126,ntmps126;go_wp2_with fail;go_loopw [13] (λO wr=>∃i:Nat,O=Iv i/\i<=n/\Bl w wr/\Hid ((∀s∈A.take i,iY s=true)/\(A.take i).Nodup)) (λO _=>n-(intOf O).toNat)
 case atStart=>exact⟨0,rfl,cD,aT,λs E=>by simp at E,aE⟩
 case round=>
  obtain⟨i,rfl,V,l,H⟩:=hrel;by_cases hi:i<n
  .obtain⟨x,q⟩:∃x,A[i]?=some x:=⟨_,fG (o.out▸hi)⟩;obtain⟨b,off,rfl,k,S⟩:=G.out wr l (by intro e;rw[e]at q;simp at q);have X:=S i (o.out▸hi);rw[qp,q,ig]at X;have v:=hid λW=>D.out W i x q;have r:=hid λW (k:Bl w W)=>C.out W i x k aA;have q:=hid q;clear G D C S;cases p:iY x with
   |false=>
    have t:Hid (ft A=false):=by
     show _=_;unfold ft;rw[show A.all iY=false from by rw[List.all_eq_false];exact⟨_,iA q.out,by rw[p];decide⟩];simp
    have c:=v.out;rw[p]at c;have c:=hid c;clear p v r;go_wp2_with fail;refine(c.out _).m λR d=>?_;go_wp2_with fail;go_ret;exact I.out _ _ ((l.tr d).al _) t.out
   |true=>
    have c:=v.out;rw[p]at c;have c:=hid c;clear v;cases u:Lib.containsS (A.take i) x with
    |true=>
     have t:Hid (ft A=false):=by
      show _=_;unfold ft;have:decide A.Nodup=false:=kg λZ=>by
       have Y:=(Lib.containsS_iff _ _).1 u;obtain⟨j,L,Q⟩:=List.getElem_of_mem Y;rw[List.getElem_take]at Q;have:=(List.getElem?_inj (by rw[o.out];simp at L;omega) Z).1 ((fG (by rw[o.out];simp at L;omega)).trans ((og some Q).trans q.out.symm));simp at L;omega
      rw[this];simp
     have m:=r.out;rw[u]at m;have m:=hid m;clear u r;go_wp2_with fail;refine(c.out _).m λR d=>?_;go_wp2_with fail;apply(m.out _ (l.tr d)).mono;rintro e w2 ⟨rfl,rfl⟩;go_wp2_with fail;go_ret;exact I.out _ _ ((l.tr d).al _) t.out
    |false=>
     have m:=r.out;rw[u]at m;clear r;go_wp2_with fail;refine(c.out _).m λR d=>?_;go_wp2_with fail;apply(m _ (l.tr d)).m0;go_wp2;go_roundw
     case rel=>exact⟨i+1,dU,aA,l.tr d,by
      rw[ym,q.out];refine⟨λy F=>?_,L5.2 ⟨H.out.2,aE,λa U b k e=>?_⟩⟩
      .simp at F;obtain F|rfl:=F
       .exact H.out.1 y F
       .exact p
      .simp at k;subst k e;have:=u;rw[(Lib.containsS_iff _ _).2 U]at this;cases this⟩
     case measure=>exact zm
  .obtain rfl:i=n:=by omega
   have t:Hid (ft A=true):=by
    show _=_;unfold ft;have:=H.out;rw[rf (o.out▸aX)]at this;rw[o.out,kh (by omega:i<=10),yn.2 this.1,kh this.2];rfl
   go_wp2;go_ret;exact HT.out _ l t.out
def BM(C:aB iZ)(t:Int):Bool:=match C.getLast? with
 |some c=>decide (t<=c.time)
 |none=>false
theorem Fz(aW:Nat)(r o t ev y:aF)(E:aB iZ)(time:Int)(w:aC)(hw:w.heap[aW]?=some (.cells #[r,o,t,ev,y] 153 (0,0)))(n:fJ w ev E)(A:E.length<=1000000){a:a_}(l:ik w 5 Pl a):
  Calls prog 125 #[Pt aW,Iv time] w λe x=>UX w x e (if time<0\/1000000000000<time\/BM E time=true then 9 else 0):=by
 have HB:Hid (UX w w (.returned (.iface 357 (.pointer (some a)))) 9):=⟨aT,.inr ⟨aG,_,_,rfl,AA (by simp[jk]) l⟩⟩;have j:Hid (UX w w (.returned .nilIface) 0):=⟨aT,.inl ⟨rfl,rfl⟩⟩;have c:=l.cell;by_cases u:time<0
 .rw[bY (.inl u)];go_enter func125,ntmps125;go_wp2;go_ret;exact HB.out
 by_cases p:1000000000000<time
 .rw[bY (.inr (.inl p))];go_enter func125,ntmps125;go_wp2;go_ret;exact HB.out
 have q:=aL hw;have f:w.cell? (Ad aW 3)=some ev:=aD hw rfl;obtain⟨ea,cap,rfl,h,s,i⟩:=n.form;cases b:E.length with
 |zero=>
  rw[ur.1 b,bN (by simp[BM];omega)];rw[b]at f;go_enter func125,ntmps125;go_wp2;go_ret;exact j.out
 |succ m=>
  have d:E[m]?=some E[m]:=fG aA;obtain⟨g,rfl,B⟩:=i (by intro e;rw[e]at b;simp at b);have C:=n.cell (k:=1) d rfl;have hL:BM E time=decide (time<=E[m].time):=by unfold BM;rw[RE,show E.length-1=m from aA,d]
  rw[hL];rw[b]at f h;generalize E[m].time=z at*;by_cases v:time<=z
  .rw[bY (.inr (.inr (kh v)))];go_enter func125,ntmps125;go_wp2;go_ret;exact HB.out
  .rw[bN bI];go_enter func125,ntmps125;go_wp2;go_ret;exact j.out
theorem Fy(aW a room g ev i E time w)(hw:w.heap[aW]?=some (.cells #[Iv a,Iv room,g,ev,i] 153 (0,0)))(j:fJ w ev E)(l:E.length<=1000000)(o:0<=time/\time<=1000000000000)(m:0<=a/\a<=1000000000):
  Calls prog 128 #[Pt aW,Iv time] w λe b=>UX w b e (if room<(E.length:Int)-nK (time-a) E+1 then 12 else 0):=by
 by_cases c:room<(E.length:Int)-nK (time-a) E+1
 case neg=>
  rw[bN c];exact(Ik aW a room g ev i E time w hw j l o m aA).mono λe b h=>⟨h.2,.inl ⟨rfl,h.1⟩⟩
 rw[bY c];have y:=hid λb (q:Bl w b)=>I5 aW a (Iv room) g ev i E time b (q.aS hw) (j.below q) l o m;have s:=tI (time-a) E;generalize nK (time-a) E=k at*;obtain⟨ea,cap,rfl,r,x,u⟩:=j.form;generalize p:E.length=n at*;have f:Hid (∀b,Bl w b->b.cell? (Ad aW 1)=some (Iv room)/\b.cell? (Ad aW 3)=some (.slice ea n cap)):=λb h=>⟨aD (h.aS hw) rfl,aD (h.aS hw) rfl⟩;have v:w.cell? (Ad aW 3)=some (.slice ea n cap):=aD hw rfl;go_enter func128,ntmps128;go_wp2
 go_region_held (λb=>b.cell? (Ad aW 1)=some (Iv room)/\b.cell? (Ad aW 3)=some (.slice ea n cap))
  ((refine f.out _ ?_;first|exact aT.drew|exact(cC w.heap.size w).drew.trans d))
  ((go_at_call 131;refine(y.out _ ?_).mono ?_;exact aT.drew;rintro e t ⟨rfl,d⟩))
 all_goals(obtain⟨A,z⟩:=f.out t ((cC w.heap.size w).drew.trans d))
 all_goals go_wp2_with fail
 all_goals go_ret
 all_goals exact⟨((cC w.heap.size w).drew.trans d).al _,.inr ⟨aG,_,_,rfl,rD (by simp[rN]) (by simp[leaves])⟩⟩
def Il(a room:Int)(E:aB iZ)(L:aB Nat)(t:Int)(A:aB aZ):Int:=
 if t<0\/1000000000000<t\/BM E t=true then 9
 else if ft A=false then 10
 else if L.any (λn=>decide (30<=n))=true then 11
 else if room<(E.length:Int)-nK (t-a) E+1 then 12 else 0
theorem Dx(aW a room R ev pa bS ps E L time ao A cap w)(hw:w.heap[aW]?=some (.cells #[Iv a,Iv room,R,ev,.slice pa ps.length bS] 153 (0,0)))(f:fJ w ev E)(v:E.length<=1000000)(hr:0<=a/\a<=1000000000)
  (h:eQ w ao A) (hl:A.length<=1000000000) (Y:∀s∈A,s.size<=maxLen) (M:A.length<=cap) (hP:ij w pa bS ps) (a8:ps.length<=1000000) (aa:ps.length<=bS) (hL:L.length=ps.length)
  (hS:∀i (p:mW),ps[i]?=some p->∃cW o c,p.fV=some (Ad cW 0)/\w.heap[cW]?=some (.cells #[.slice o (L.getD i 0) c] 177 (0,0))) (H:dG w):
  Calls prog 86 #[Pt aW,Iv time,.slice ao A.length cap] w λe b=>UX w b e (Il a room E L time A):=by
 have⟨a1,hs1⟩:=H.WM;have⟨a2,hs2⟩:=H.Sy;have O:=Fz aW (Iv a) (Iv room) R ev (.slice pa ps.length bS) E time w hw f v hs1;have r:=hid λb (d:Bl w b)=>Dw ao A cap b (h.below d) hl Y M (hs2.down d);unfold Il;by_cases u:time<0\/1000000000000<time\/BM E time=true
 .rw[bY u]at O⊢;go_enter func86,ntmps86;go_wp2_with fail;apply O.mono;rintro e P ⟨d,⟨h,_⟩|⟨_,T,q,rfl,f⟩⟩
  .cases h
  replace f:Hid _:=f;go_wp2;go_ret;exact⟨d,.inr ⟨aG,T,q,rfl,f.out⟩⟩
 rw[bN u]at O⊢;have S:=hid λb (d:Bl w b)=>Fy aW a room R ev (.slice pa ps.length bS) E time b (d.aS hw) (f.below d) v aA hr;have Q:Hid (∀b,Bl w b->b.cell? (Ad aW 4)=some (.slice pa ps.length bS)):=λb d=>aD (d.aS hw) rfl;have D:Calls prog 125 #[Pt aW,Iv time] w λe b=>e=.returned .nilIface/\Bl w b:=O.mono λe b h=>by
  obtain⟨d,⟨_,rfl⟩|⟨h,_⟩⟩:=h
  .exact⟨rfl,d⟩
  .exact absurd rfl h
 cases C:ft A with
 |false=>
  rw[C]at r;rw[bY rfl];generalize A.length=al at*;go_enter func86,ntmps86;go_wp2_with fail;refine D.m λw0 j=>?_;go_wp2_with fail;apply(r.out _ j).mono;rintro e P ⟨d,⟨h,_⟩|⟨_,T,q,rfl,f⟩⟩
  .cases h
  replace f:Hid _:=f;go_wp2;go_ret;exact⟨j.tr d,.inr ⟨aG,T,q,rfl,f.out⟩⟩
 |true=>
 rw[C]at r;rw[bN aG];have I:Hid (∀b,Bl w b->Calls prog 126 #[.slice ao A.length cap] b λe U=>e=.returned .nilIface/\Bl b U):=λb d=>(r.out b d).mono λe b h=>by
  obtain⟨d,⟨_,rfl⟩|⟨h,_⟩⟩:=h
  .exact⟨rfl,d⟩
  .exact absurd rfl h
 generalize(if room<(E.length:Int)-nK (time-a) E+1 then(12:Int)else 0)=zr at*;have HF:Hid ((∀n∈L,n<30)->(if L.any (λn=>decide (30<=n))=true then(11:Int)else zr)=zr):=λh=>bN (by
  simp only[zY,oX,not_exists,not_and];exact λn v=>by have:=h n v;omega)
 have W:Hid (∀n∈L,30<=n->(if L.any (λn=>decide (30<=n))=true then(11:Int)else zr)=11):=λn v h=>bY (by
  simp only[zY,oX];exact⟨n,v,h⟩)
 generalize(if L.any (λn=>decide (30<=n))=true then(11:Int)else zr)=z at*;have x:=hid hL;generalize A.length=al at*;generalize F:ps.length=n at*;go_enter func86,ntmps86;go_wp2_with fail;refine D.m λw0 j=>?_;go_wp2_with fail;refine(I.out _ j).m λP B=>?_;have q4:=Q.out P (j.tr B);go_wp2;go_loopw [29] (λX wr=>∃i:Nat,X=Iv i/\i<=n/\Bl w wr/\Hid (∀k∈L.take i,k<30)) (λX _=>n-(intOf X).toNat)
 case atStart=>exact⟨0,rfl,cD,j.tr B,λk y=>by simp at y⟩
 case round=>
  obtain⟨i,rfl,a7,g,Z⟩:=hrel;by_cases hi:i<n
  .have t:ps[i]?=some ps[i]:=fG aA;have⟨cW,o,c,RJ,hsb⟩:=hS i _ t;obtain⟨_,rfl,_⟩|⟨pb,po,a6,mp,rfl,V,G⟩:=hP
   .simp at F;omega
   .have⟨p0,p1,p2,p3,p4⟩:=G i _ t;generalize ps[i]=p at*;rw[RJ]at p4;have J:Hid (L[i]?=some (L.getD i 0)):=by
     show _=_;have h1:i<L.length:=by rw[x.out];exact hi
     rw[qp,fG h1];rfl
    generalize L.getD i 0=k at*;have KA:=g.aS V;have z0:=aD KA p0;have z1:=aD KA p1;have z2:=aD KA p2;have z3:=aD KA p3;have z4:=aD KA p4;have N:=M_ cW o k c (wr.alloc (.cells #[.string p.name,.pointer p.eE,Iv p.node,Iv p.cO,Pt cW] 183)) ((g.al _).aS hsb);have l:Bl w (wr.alloc (.cells #[.string p.name,.pointer p.eE,Iv p.node,Iv p.cO,Pt cW] 183)):=g.al _;by_cases y:30<=k
    .rw[show decide ((k:Int)>=30)=true from kh aA]at N;go_wp2_with fail;apply N.mono;rintro e w2 ⟨rfl,rfl⟩;go_wp2;go_ret;rw[(W.out k (iA J.out) y)];exact⟨l.al _,.inr ⟨aG,_,_,rfl,rD (by simp[rN]) (by simp[leaves])⟩⟩
    .rw[show decide ((k:Int)>=30)=false from kg aA]at N;go_wp2_with fail;apply N.mono;rintro e w2 ⟨rfl,rfl⟩;go_wp2;go_roundw
     case rel=>exact⟨i+1,dU,aA,l,λm K=>by
      rw[ym,J.out]at K;simp at K;obtain K|rfl:=K
      .exact Z.out m K
      .omega⟩
     case measure=>exact zm
  .obtain rfl:i=n:=by omega
   have hz:=hid (HF.out λk y=>Z.out k (by rw[rf (by rw[x.out];exact aX)];exact y));go_wp2_with fail;apply(S.out _ g).mono;rintro e w2 ⟨l,⟨h,rfl⟩|⟨h,T,q,rfl,f⟩⟩
   .replace h:Hid _:=h;go_wp2;go_ret;rw[hz.out];exact⟨g.tr l,.inl ⟨h.out,rfl⟩⟩
   .replace f:Hid _:=f;replace h:Hid _:=h;go_wp2;go_ret;rw[hz.out];exact⟨g.tr l,.inr ⟨h.out,T,q,rfl,f.out⟩⟩
theorem oZ(w:aC)(a:aB aF)(t):∀j u,a[j]?=some u->(w.alloc (.cells a.toArray t)).cell? (((Ad w.heap.size 0):a_).add j)=some u:=by
 intro j u b;have:((Ad w.heap.size 0):a_).add j=(Ad w.heap.size j):=by simp[Addr.add];omega
 rw[this];exact aD (aP w (.cells a.toArray t (0,0)) _ rfl) (by simpa using b)
def half(row:aB aF)(i:Nat)(xs:aB aF):aB aF:=lV i row++xs.drop (i*row.length)
theorem Ku{row xs k}(h:xs.length=k*row.length):half row k xs=lV k row:=by
 unfold half;rw[List.drop_eq_nil_of_le aA,Ht]
section
variable{Lw:Nat->Prop}{wb n:Nat}{lT kv:aF}{E:aB mB}{w:aC}
theorem k_.tick(h:k_ Lw wb lT kv n E w):k_ Lw wb lT kv (n+1) E (w.setCell (Ad wb 1) (Iv ((n)+1))):=by
 let c:=gJ w wb 1 (Iv ((n:Int)+1));let b:=h.cell;refine⟨by simp[World.setCell,ua,b],cG h.kept c λg a e=>kW h.kept b aG (e▸a),λe d=>?_,h.own⟩;let⟨⟨k1,p1,q1⟩,⟨k2,p2,q2⟩,h7⟩:=h.nD e d;exact⟨⟨k1,p1,cG q1 c λg a e=>kW q1 b aG (e▸a)⟩,⟨k2,p2,cG q2 c λg a e=>kW q2 b aG (e▸a)⟩,h7⟩
theorem k_.keep{W f}{P:Nat->bQ}{k d o}(h:k_ Lw wb lT kv n E w)(hw:Lw wb)(p:aI (λb=>P b\/b=wb) w W)(t:k_ Lw wb lT kv (n+1) E W)(r:∀e∈k,Bo (λb=>(Lw b\/P b)\/w.heap.size<=b) W e)
  (g:(W.alloc o).grownBy f kv.ownBlock) (s:f.ownsRow 0 123 3 d (E.length+k.length) (nh E++nh k)) (i:d.ownBlock=kv.ownBlock\/d.ownBlock=some (W.heap.size+1)):
  H7 (λb=>(Lw b\/P b)\/w.heap.size<=b) wb lT (n+1) (E++k) (f.setCell (Ad wb 2) d)/\aI (λb=>Lw b\/P b) w (f.setCell (Ad wb 2) d)/\f.heap[wb]?=some (.cells #[lT,Iv ((n+1:Nat):Int),kv] 70 (0,0)):=by
 let m:Bl W (W.alloc o):=aT.al _;let l:aI (λ_=>False) W (W.alloc o):=aI.aR m;let c:k_ Lw wb lT kv (n+1) E (W.alloc o):=t.move l λ_ _ x=>x;refine⟨⟨d,k_.put (Lw:=λb=>(Lw b\/P b)\/w.heap.size<=b) c.cell c.kept (λe j=>?_) (λ_ x=>x) (.inl (.inl hw)) g s λb a=>?_⟩,?_,(g.block wb (aL c.cell) λe=>kW c.kept c.cell aG e.symm).trans c.cell⟩
 .obtain j|j:=i_.1 j
  .have:=c.nD e j;exact⟨this.g,this.t,λb a=>.inl (.inl (this.own b a))⟩
  .exact(r e j).spare l λ_ _ x=>x
 .obtain i|i:=i
  .exact .inl (.inl (h.own.2 _ (i▸a)))
  .rw[i]at a;cases a;exact .inr (Nat.le_succ_of_le p.size)
 .refine aI.trans (p.mono λb _ a=>a.elim .inr λe=>.inl (e▸hw)) (aI.trans (aI.aR m) (aI.trans ⟨g.os,g.output,g.size,λb a q=>g.block b a λe=>q (.inl (h.own.2 b e.symm))⟩ ((gJ f wb 2 d).mono λb _ e=>.inl (e▸hw))))
theorem Kv(n i S s)(h:S[i]?=some s):(half (xh n) i (cI S))[i]?=some (.string s)/\(half (xh n) i (cI S)).set i (.string ⟨(oL n).toArray⟩)=half (xh n) (i+1) (cI S):=by
 let a:(lV i (xh n)).length=i:=by rw[Ew];simp[xh]
 let b:(cI S).drop (i*(xh n).length)=.string s::(cI S).drop ((i+1)*(xh n).length):=by
  have:(cI S)[i]?=some (.string s):=by simp[cI,h]
  let⟨hi,e⟩:=e_.1 this;simp only[xh,List.length_singleton,Nat.mul_one];rw[oV hi,e]
 unfold half;rw[b];refine⟨by rw[sr aA,a];simp,?_⟩;rw[E5 _ _ aA,a,E9,Cg,vM i 1,nc];rfl
theorem Qq(h:k_ Lw wb lT kv n E w)(hn:n<=1000000000000)(hE:E.length<=1000000000000)(g cap G L M)(a8:L.length<=100000000)
  (V:w.ownsRow 0 9 1 (Sl g (L.length+2) cap) (L.length+2) (cI (L++[dE,dE]))) (A:¬Lw g)
  (K:∀j,j<L.length->∃d y,M=some (Ad d y)/\d<w.heap.size/\¬Lw d/\d≠g/\w.cell? (Ad d (y+j))=some (.string (L.getD j ByteArray.empty))):
  Calls prog 63 #[Pt wb,Sl g (L.length+2) cap,.slice M L.length G] w λe w'=>e=.returned (.bool true)/\∃x,(x.length<=4/\∀e∈x,e.n=n+1)/\H7 (λb=>(Lw b\/b=g)\/w.heap.size<=b) wb lT (n+1) (E++x) w'/\aI (λb=>Lw b\/b=g) w w':=by
 have c1:w.cell? (Ad wb 1)=some (Iv (n:Int)):=aD h.cell rfl;have f1:=cJ h.cell 1;have F:=h.own.1;have Z:=h.tick;have v:=gJ w wb 1 (Iv ((n:Int)+1));have H:(w.setCell (Ad wb 1) (Iv ((n:Int)+1))).ownsRow 0 9 1 (Sl g (L.length+2) cap) (L.length+2) (half (xh (n+1)) 0 (cI (L++[dE,dE]))):=by
  rw[show half (xh (n+1)) 0 (cI (L++[dE,dE]))=cI (L++[dE,dE])by simp[half,lV]];exact cG V v λk K e=>kW V h.cell aG (e▸K)
 have B:(cI (L++[dE,dE])).length=(L.length+2)*(xh (n+1)).length:=by simp[cI,xh]
 have HE:Hid (∀(W m:aC)(o:Obj)(q:aF),aI (λb=>b=g) (w.setCell (Ad wb 1) (Iv ((n:Int)+1))) W->W.ownsRow 0 9 1 (Sl g (L.length+2) cap) (L.length+2) (half (xh (n+1)) (L.length+2) (cI (L++[dE,dE])))->(W.alloc o).grownBy m kv.ownBlock->m.ownsRow 0 123 3 q (E.length+1) (nh E++[Iv ((n:Int)+1),.slice none 0 0,Sl g (L.length+2) cap])->(q.ownBlock=kv.ownBlock\/q.ownBlock=some (W.heap.size+1))->∃x,(x.length<=4/\∀e∈x,e.n=n+1)/\H7 (λb=>(Lw b\/b=g)\/w.heap.size<=b) wb lT (n+1) (E++x) (m.setCell (Ad wb 2) q)/\aI (λb=>Lw b\/b=g) w (m.setCell (Ad wb 2) q)/\m.heap[wb]?=some (.cells #[lT,Iv ((n+1:Nat):Int),kv] 70 (0,0))):=λW m o q C s hg h5 ho=>by
  rw[Ku B]at s;refine⟨[⟨n+1,.slice none 0 0,Sl g (L.length+2) cap⟩],aE,h.keep F ((v.mono λ_ _=>.inr).trans (C.mono λ_ _=>.inl)) (Z.move C λb f e=>A (e▸f)) (λe he=>?_) hg h5 ho⟩;cases sA.1 he;exact⟨⟨0,aA,fF _ _ _ _⟩,⟨L.length+2,aA,s⟩,λb f=>by
   obtain f|f:=f
   .cases f
   .cases f;exact .inl (.inr rfl)⟩
 have HK:Hid (∀W:aC,aI (λb=>b=g) (w.setCell (Ad wb 1) (Iv ((n:Int)+1))) W->W.cell? (Ad wb 2)=some kv/\W.ownsRow 0 123 3 kv E.length (nh E)/\∀j,j<L.length->∃d y,M=some (Ad d y)/\W.cell? (Ad d (y+j))=some (.string (L.getD j ByteArray.empty))):=λW C=>by
  have U:=Z.move C λb f e=>A (e▸f);refine⟨aD U.cell rfl,U.kept,λj hj=>?_⟩;have⟨d,y,e1,O,e3,e4,e5⟩:=K j hj;exact⟨d,y,e1,by rw[fT (a:=(Ad d (y+j))) ((C.block d (fW O v.size) e4).trans (v.block d O λe=>e3 (e▸F)))];exact e5⟩
 have HS:Hid (∀(W:aC) i,i<L.length+2->W.ownsRow 0 9 1 (Sl g (L.length+2) cap) (L.length+2) (half (xh (n+1)) i (cI (L++[dE,dE])))->W.cell? (Ad g i)=some (.string ((L++[dE,dE]).getD i ByteArray.empty))/\W.frozen? (Ad g i)=false/\(W.setCell (Ad g i) (.string ⟨(oL (n+1)).toArray⟩)).ownsRow 0 9 1 (Sl g (L.length+2) cap) (L.length+2) (half (xh (n+1)) (i+1) (cI (L++[dE,dE])))):=λW i hi s=>by
  have D:i<(L++[dE,dE]).length:=bI;have:=Kv (n+1) i (L++[dE,dE]) _ (fG D);refine⟨?_,s.frozenAt i,by rw[<-this.2];exact(s.stored i _).1⟩;rw[s.cellAt i aA,this.1];rw[qp,fG D];rfl
 have HT:=hid λ(W:aC)=>EO (n+1) W;have⟨i0,WV,nk,nt,nH⟩:=eB AW;generalize ad:L.length=len at*;go_enter func63,ntmps63;go_wp2_with fail;generalize w.setCell (Ad wb 1) (Iv ((n:Int)+1))=X at*;go_loopw [8,9] (λP S wr=>∃i:Nat,P=.bool true/\S=Iv i/\i<=len+2/\aI (λb=>b=g) X wr/\wr.ownsRow 0 9 1 (Sl g (len+2) cap) (len+2) (half (xh (n+1)) i (cI (L++[dE,dE])))) (λ_ S _=>len+2-(intOf S).toNat)
 case atStart=>exact⟨0,rfl,rfl,cD,aI.refl _ _,H⟩
 case round=>
  obtain⟨i,rfl,rfl,a7,R,c⟩:=hrel;have⟨d2,Z5,hK⟩:=HK.out wr R;by_cases hi:i<len+2
  .have⟨Z1,hfz,XR⟩:=HS.out wr i hi c;have HR:Hid (∀W:aC,Bl wr W->W.cell? (Ad g i)=wr.cell? (Ad g i)/\W.frozen? (Ad g i)=false/\aI (λb=>b=g) X (W.setCell (Ad g i) (.string ⟨(oL (n+1)).toArray⟩))/\(W.setCell (Ad g i) (.string ⟨(oL (n+1)).toArray⟩)).ownsRow 0 9 1 (Sl g (len+2) cap) (len+2) (half (xh (n+1)) (i+1) (cI (L++[dE,dE])))):=λW f=>by
    have s:=fN c f;exact⟨f.cell (p:=(Ad g i)) (c.lt g rfl).2,s.frozenAt i,(R.trans (aI.aR f)).trans (gJ W g i _),(HS.out W i hi s).2.2⟩
   by_cases N:i<len
   .obtain⟨d,y,rfl,aa⟩:=hK i N;rw[show(L++[dE,dE]).getD i ByteArray.empty=L.getD i ByteArray.empty by rw[qp,qp,tZ aA]]at Z1;generalize L.getD i ByteArray.empty=t at*;generalize oL (n+1)=tx at*;go_wp2;go_quiet(fail);go_wp2_with fail;refine(HT.out _).m λT I=>?_;have⟨y1,y2,z⟩:=HR.out T ((below_drewN _ _).tr I);rw[Z1]at y1;replace z:Hid _:=z;go_wp2
    try go_big_round
    exact⟨⟨i+1,rfl,dU,hi,z.out⟩,zm⟩
   .rw[show(L++[dE,dE]).getD i ByteArray.empty=⟨#[115,112,97,114,101]⟩by
     rw[qp,sr aA];have:i-L.length=0\/i-L.length=1:=aA;obtain e|e:=this<;>rw[e]<;>rfl]at Z1
    generalize oL (n+1)=tx at*;go_wp2_with fail;refine(HT.out _).m λT I=>?_;have⟨y1,y2,z⟩:=HR.out T I;rw[Z1]at y1;replace z:Hid _:=z;go_wp2
    try go_big_round
    exact⟨⟨i+1,rfl,dU,hi,z.out⟩,zm⟩
  .obtain rfl:i=len+2:=by omega
   have J:=hid λm o q=>HE.out wr m o q R c;go_wp2_with (at_builtin;refine wpList_append_own_at _ rfl _ _ 68 rfl 0 123 i0 _ 3 56 underlying68 WV nk nt nH rfl aG _ _ _ rfl (Z5.alloc _) (Ad wr.heap.size 0) 1 1 [Iv ((n:Int)+1),.slice none 0 0,Sl g (len+2) cap] rfl rfl (oZ wr _ _) (by intro u Y;simp at Y;rcases Y with rfl|rfl|rfl<;>rfl) eP aA cD ?_);intro q m l r _ Q;have⟨x,q1,q2,q3,q4⟩:=J.out _ _ _ r l Q;have O:m.cell? (Ad wb 2)=some kv:=aD q4 rfl;have a6:=cJ q4 2;obtain⟨g5,a1,rfl,_⟩:=fO l aA;go_wp2;go_ret;exact⟨rfl,x,⟨q1,q2,q3⟩⟩
end
theorem Ql:(prog.info? 59).map (λi=>(i.zero,i.size,i.bytes))=some (some (.agg #[Iv 0,Iv 0,Iv 0,.bool false]),4,32):=aM
theorem qL{L i k v u}(h:L[i]?=some v)(a:(Jz v)[k]?=some u):(kZ L)[i*4+k]?=some u:=jh Jz 4 (λ_=>rfl) L i k v u h a
theorem Ex{row}(h:∀u∈row,u.oneCell'=true)(k):∀u∈lV k row,u.oneCell'=true:=λu b=>by
 obtain⟨r,c,a⟩:=HI.1 b
 exact h u ((List.mem_replicate.1 c).2▸a)
theorem VU{n}:∀u∈Ee n,u.oneCell'=true:=by simp[Ee,Value.oneCell']
theorem VT{n}:∀u∈xh n,u.oneCell'=true:=by simp[xh,Value.oneCell']
structure Gv(t:TypeId)(row:aB aF)(X:aF)(ll:Nat)(w0:aC)(vs:aB (aF×Nat))(W:aC):Prop where
 sp:aI (λb=>X.ownBlock=some b) w0 W
 own:W.ownsRow 0 t row.length X ll (lV ll row)
 vs:∀p∈vs,W.ownsRow 0 t row.length p.1 p.2 (lV p.2 row)/\∀b,p.1.ownBlock=some b->X.ownBlock=some b\/w0.heap.size<=b
section
variable{t:TypeId}{row:aB aF}{X:aF}{ll:Nat}{w0 W W':aC}{vs:aB (aF×Nat)}
theorem Gv.below(h:Gv t row X ll w0 vs W)(a:Bl W W'):Gv t row X ll w0 vs W':=
 ⟨h.sp.trans (aI.aR a),fN h.own a,λp b=>⟨fN (h.vs p b).1 a,(h.vs p b).2⟩⟩
theorem Gv.slice(h:Gv t row X ll w0 vs W){v k}(a:(v,k+1)∈vs):∃x c,v=Sl x (k+1) c:=by
 obtain⟨x,c,e,_⟩:=fO (h.vs _ a).1 (Nat.succ_pos _);exact⟨x,c,e⟩
theorem Gv.app(h:Gv t row X ll w0 vs W)(g:0<row.length){m}{v}(a:RN 0 t row.length X ll m (lV ll row) (lV m row) W v W')(f:∀p∈vs,p.2<=ll+m):Gv t row X ll w0 ((v,ll+m)::vs) W':=by
 refine⟨h.sp.trans ⟨a.grown.os,a.grown.output,a.grown.size,λb d i=>a.grown.block b d λe=>i e.symm⟩,a.old,λp c=>?_⟩;rcases gp.1 c with rfl|c
 .refine⟨by rw[vM];exact a.own,λb d=>?_⟩;rcases a.at_ with e|⟨e,_⟩
  .exact .inl (e▸d)
  .rw[e]at d;cases d;exact .inr h.sp.size
 .exact⟨QQ g a h.own (h.vs p c).1 (f p c),(h.vs p c).2⟩
end
section
variable{Lw:Nat->Prop}{wb n:Nat}{lT kv:aF}{E:aB mB}{w:aC}
theorem k_.given(h:k_ Lw wb lT kv n E w){t row X ll vs}(x:∀b,X.ownBlock=some b->¬Lw b){W g}(i:Gv t row X ll (w.setCell (Ad wb 1) (Iv ((n)+1))) vs W)(B:ll<=100000000)(l:∀p∈vs,p.2<=100000100){E'}
  (A:∀e∈E',e.n=n+1/\((t=59/\row=Ee (n+1)/\(e.gv=X\/∃p∈vs,e.gv=p.1)/\e.tv=.slice none 0 0)\/(t=9/\row=xh (n+1)/\(e.tv=X\/∃p∈vs,e.tv=p.1)/\e.gv=.slice none 0 0))) {o f}
  (y:(W.alloc o).grownBy g kv.ownBlock) (u:g.ownsRow 0 123 3 f (E.length+E'.length) (nh E++nh E')) (z:f.ownBlock=kv.ownBlock\/f.ownBlock=some (W.heap.size+1)):
  H7 (λb=>(Lw b\/X.ownBlock=some b)\/w.heap.size<=b) wb lT (n+1) (E++E') (g.setCell (Ad wb 2) f)/\aI (λb=>Lw b\/X.ownBlock=some b) w (g.setCell (Ad wb 2) f)/\g.heap[wb]?=some (.cells #[lT,Iv ((n+1:Nat):Int),kv] 70 (0,0)):=by
 let m:=gJ w wb 1 (Iv ((n:Int)+1));refine h.keep h.own.1 ((m.mono λ_ _=>.inr).trans (i.sp.mono λ_ _=>.inl)) (h.tick.move i.sp λb a e=>x b e a) (λe s=>?_) y u z;let C:(w.setCell (Ad wb 1) (Iv ((n:Int)+1))).heap.size=w.heap.size:=eC ..;let c:∀v,(v=X\/∃p∈vs,v=p.1)->Reads W t row v/\∀b,v.ownBlock=some b->(Lw b\/X.ownBlock=some b)\/w.heap.size<=b:=by
  rintro v (rfl|⟨p,q,rfl⟩)
  .exact⟨⟨ll,aA,i.own⟩,λb a=>.inl (.inr a)⟩
  .refine⟨⟨p.2,by have:=l p q;omega,(i.vs p q).1⟩,λb a=>?_⟩;rcases(i.vs p q).2 b a with h|h
   .exact .inl (.inr h)
   .exact .inr (C▸h)
 let d:∀t row,Reads W t row (.slice none 0 0):=λt row=>⟨0,aA,fF _ _ _ _⟩;obtain⟨r,⟨rfl,rfl,k,j⟩|⟨rfl,rfl,k,j⟩⟩:=A e s
 .exact⟨r▸(c _ k).1,j▸d _ _,λb a=>a.elim ((c _ k).2 b) λa=>by rw[j]at a;cases a⟩
 .exact⟨j▸d _ _,r▸(c _ k).1,λb a=>a.elim (λa=>by rw[j]at a;cases a) ((c _ k).2 b)⟩
theorem k_.gv3(h:k_ Lw wb lT kv n E w){t row lo ll i D}(u:∀g,(.slice lo ll i:aF).ownBlock=some g->¬Lw g)(C:w.ownsRow 0 t row.length (.slice lo ll i) ll D)(I:D.length=ll*row.length)(S:ll<=1000)(f:aF->mB)(z:∀v,(f v).n=n+1/\((t=59/\row=Ee (n+1)/\(f v).gv=v/\(f v).tv=.slice none 0 0)\/(t=9/\row=xh (n+1)/\(f v).tv=v/\(f v).gv=.slice none 0 0))):
  Hid (∀q (W l:aC) o j s r y,Gv t row (.slice lo ll i) ll ((w.drewN q).setCell (Ad wb 1) (Iv ((n:Int)+1))) [(y,ll+3),(r,ll+2),(s,ll+1)] W->(W.alloc o).grownBy l kv.ownBlock->l.ownsRow 0 123 3 j (E.length+4) (nh E++nh [f (.slice lo ll i),f s,f r,f y])->(j.ownBlock=kv.ownBlock\/j.ownBlock=some (W.heap.size+1))->
   (∃E',(E'.length<=4/\∀e∈E',e.n=n+1)/\H7 (λb=>(Lw b\/(.slice lo ll i:aF).ownBlock=some b)\/w.heap.size<=b) wb lT (n+1) (E++E') (l.setCell (Ad wb 2) j)/\aI (λb=>Lw b\/(.slice lo ll i:aF).ownBlock=some b) w (l.setCell (Ad wb 2) j))/\l.heap[wb]?=some (.cells #[lT,Iv ((n+1:Nat):Int),kv] 70 (0,0)))/\
  Hid (∀q W,aI (λb=>(.slice lo ll i:aF).ownBlock=some b) ((w.drewN q).setCell (Ad wb 1) (Iv ((n:Int)+1))) W->W.cell? (Ad wb 2)=some kv/\W.ownsRow 0 123 3 kv E.length (nh E))/\
  Hid (∀q,((w.drewN q).setCell (Ad wb 1) (Iv ((n:Int)+1))).ownsRow 0 t row.length (.slice lo ll i) ll (half row 0 D))/\
  Hid (∀A W,aI (λb=>(.slice lo ll i:aF).ownBlock=some b) A W->W.ownsRow 0 t row.length (.slice lo ll i) ll (half row ll D)->Gv t row (.slice lo ll i) ll A [] W):=by
 let H:∀q,k_ Lw wb lT kv n E (w.drewN q):=λq=>h.move (aI.aR (below_drewN w q) (P:=λ_=>False)) λ_ _ x=>x;refine⟨λq W l o j s r y K N L R=>?_,λq W O=>?_,λq=>?_,λA W Q m=>⟨Q,Ku I▸m,aE⟩⟩
 .have:=(H q).given u K aA bI (E':=[f (.slice lo ll i),f s,f r,f y]) (λe F=>by
   obtain⟨v,G,rfl⟩:∃v,(v=.slice lo ll i\/∃p∈[(y,ll+3),(r,ll+2),(s,ll+1)],v=p.1)/\e=f v:=by simp at F;rcases F with rfl|rfl|rfl|rfl<;>exact⟨_,aE,rfl⟩
   exact⟨(z v).1,(z v).2.imp (λ⟨a,b,c,d⟩=>⟨a,b,c.symm▸G,d⟩) λ⟨a,b,c,d⟩=>⟨a,b,c.symm▸G,d⟩⟩) N L R
  exact⟨⟨_,by simp[(z _).1],this.1,(aI.aR (below_drewN w q)).trans this.2.1⟩,this.2.2⟩
 .let B:=(H q).tick.move O λb M e=>u b e M;exact⟨aD B.cell rfl,B.kept⟩
 .rw[show half row 0 D=D by simp[half,lV]];exact cG (fN C (below_drewN w q)) (gJ _ wb 1 _) λk J e=>kW C h.cell (by rcases(z default).2 with h|h<;>rw[h.1]<;>decide) (e▸J)
def Gv.r{t row X ll w0 vs W}(_:Gv t row X ll w0 vs W)(k:Nat):aB aF:=lV k row
theorem zgv{T:bQ} (h:T:=by
 obtain rfl:ll=i:=by omega
 have G0:=HG.out _ _ hO pZ;clear HS US pZ hO HG;go_wp2_with fail;refine(HT.out _).m λw2 b2=>?_;have G1:=G0.below b2;go_wp2_with (at_builtin;refine lZ _ rfl _ _ _ rfl 0 _ iV _ _ _ hU Z2 Vx Vy Vz rfl _ _ _ rfl (G1.own.alloc _) (Ad w2.heap.size 0) 1 1 (G1.r 1) rfl rfl (by decide) (oZ w2 _ _) (Ex Vu _) (by unfold maxLen;omega) (by omega) cD ?_);intro v1 w3 A1;have G2:=(G1.below (aT.al _)).app (by simp[Ee,xh]) A1 (by simp);clear G0 G1 A1 b2;go_wp2_with fail;refine(HT.out _).m λw4 b4=>?_;have G3:=G2.below b4;go_wp2_with fail;refine(HT.out _).m λw5 b5=>?_;have G4:=G3.below b5;clear G2 G3 b4 b5;go_wp2_with (at_builtin;refine lZ _ rfl _ _ _ rfl 0 _ iV _ _ _ hU Z2 Vx Vy Vz rfl _ _ _ rfl (G4.own.alloc _) (Ad w5.heap.size 0) 2 2 (G4.r 2) rfl rfl (by decide) (oZ w5 _ _) (Ex Vu _) (by unfold maxLen;omega) (by omega) cD ?_);intro v2 w6 A2;have G5:=(G4.below (aT.al _)).app (by simp[Ee,xh]) A2 (by simp);clear G4 A2;go_wp2_with fail;refine(HT.out _).m λw7 b7=>?_;have G6:=G5.below b7;go_wp2_with fail;refine(HT.out _).m λw8 b8=>?_;have G7:=G6.below b8;go_wp2_with fail;refine(HT.out _).m λw9 b9=>?_;have G8:=G7.below b9;clear G5 G6 G7 b7 b8 b9;go_wp2_with (at_builtin;refine lZ _ rfl _ _ _ rfl 0 _ iV _ _ _ hU Z2 Vx Vy Vz rfl _ _ _ rfl (G8.own.alloc _) (Ad w9.heap.size 0) 3 3 (G8.r 3) rfl rfl (by decide) (oZ w9 _ _) (Ex Vu _) (by unfold maxLen;omega) (by omega) cD ?_);intro v3 wa A3;have G9:=(G8.below (aT.al _)).app (by simp[Ee,xh]) A3 (by simp);clear G8 A3 HT;obtain⟨d2,Z5⟩:=hK.out _ G9.sp;obtain⟨x1,c1,rfl⟩:=G9.slice (v:=v1) (k:=ll) (by simp);obtain⟨x2,c2,rfl⟩:=G9.slice (v:=v2) (k:=ll+1) (by simp);obtain⟨x3,c3,rfl⟩:=G9.slice (v:=v3) (k:=ll+2) (by simp);have ZW:Hid (∀w5 o v5,_):=λw5 o v5=>hF.out wa w5 o v5 _ _ _ G9;clear hK G9 hF;go_wp2_with (at_builtin;refine wpList_append_own_at _ rfl _ _ 68 rfl 0 123 iK _ 3 56 underlying68 hiK Ze Zf Zg rfl (by decide) _ _ _ rfl (Z5.alloc _) (Ad wa.heap.size 0) 4 4 _ (by rfl) (by rfl) (oZ wa _ _) (by simp[Value.oneCell']) (by unfold maxLen;omega) (by omega) cD ?_);intro v5 w5 Td S4 _ hat;obtain⟨⟨E',q1⟩,q4⟩:=ZW.out _ _ _ S4 Td hat;have e2:w5.cell? (Ad wb 2)=some kv:=aD q4 rfl;have fz2:w5.frozen? (Ad wb 2)=false:=cJ q4 2;replace q1:Hid _:=q1;obtain⟨g5,aaT,rfl,_⟩:=fO Td (by omega);clear q4 ZW Td S4 hat Z5 d2;go_wp2_with fail;go_ret;exact⟨rfl,E',q1.out⟩):T:=h
theorem Kb(L k)(h:k<=L.length):(kZ L).drop (k*4)=kZ (L.drop k):=by
 let e:kZ L=kZ (L.take k)++kZ (L.drop k):=by unfold kZ;rw[<-L3,<-l8,yg]
 rw[e,List.drop_left' (by rw[show(kZ (L.take k)).length=(L.take k).length*4 from eN Jz 4 (λ_=>rfl) _,kR,Ch h])]
theorem Vo{W:aC}{g b i L v}(hi:L[i]?=some v)(h:W.ownsRow 0 59 4 (Sl g L.length b) L.length (half (Ee n) i (kZ L))):W.cell? (Ad g (i*4))=some (Iv v.ev)/\W.cell? (Ad g (i*4+1))=some (Iv v.time)/\W.cell? (Ad g (i*4+2))=some (Iv v.cO)/\W.cell? (Ad g (i*4+3))=some (.bool v.ok)/\
  ((((W.setCell (Ad g (i*4)) (Iv (-(n)))).setCell (Ad g (i*4+1)) (Iv (-(n)))).setCell (Ad g (i*4+2)) (Iv (-(n)))).setCell (Ad g (i*4+3)) (.bool false)).ownsRow 0 59 4 (Sl g L.length b) L.length (half (Ee n) (i+1) (kZ L)):=by
 let a:(lV i (Ee n)).length=i*4:=Ew ..;let f:half (Ee n) i (kZ L)=lV i (Ee n)++(Iv v.ev::Iv v.time::Iv v.cO::.bool v.ok::(kZ L).drop ((i+1)*4)):=by
  unfold half;obtain⟨e,d⟩:=e_.1 hi;rw[show i*(Ee n).length=i*4 from rfl,Kb L i aA,Kb L (i+1) aA,oV e,d];rfl
 let c:half (Ee n) (i+1) (kZ L)=lV i (Ee n)++(Iv (-(n:Int))::Iv (-(n:Int))::Iv (-(n:Int))::.bool false::(kZ L).drop ((i+1)*4)):=by
  unfold half;rw[vM,nc];rfl
 rw[f]at h;refine⟨?_,?_,?_,?_,?_⟩
 .exact d_ h rfl (by rw[sr aA,a];simp)
 .exact d_ h rfl (by rw[sr aA,a];simp)
 .exact d_ h rfl (by rw[sr aA,a];simp)
 .exact d_ h rfl (by rw[sr aA,a];simp)
 .have:=iQ (iQ (iQ (iQ h (i*4) (Iv (-(n:Int)))) (i*4+1) (Iv (-(n:Int)))) (i*4+2) (Iv (-(n:Int)))) (i*4+3) (.bool false);rw[c];simpa[List.set_append,a]using this
theorem Qf(h:k_ Lw wb lT kv n E w)(hn:n<1000000000000)(hE:E.length<=1000000000000)(l k:aF)(L:aB Vd)(H:w.ownsRow 0 59 4 l L.length (kZ L))(N:w.ownsRow 0 199 4 k L.length (kZ L))(y:∀g,l.ownBlock=some g->¬Lw g)(D:L.length<=1000):
  Calls prog 71 #[Pt wb,l,k] w λe A=>e=.returned (.bool true)/\∃E',(E'.length<=4/\∀e∈E',e.n=n+1)/\H7 (λb=>(Lw b\/l.ownBlock=some b)\/w.heap.size<=b) wb lT (n+1) (E++E') A/\aI (λb=>Lw b\/l.ownBlock=some b) w A:=by
 obtain⟨lo,x,rfl,U,ad,j⟩:=bT H;obtain⟨Z,kc,rfl,X,Y,f⟩:=bT N;have J:Hid (∀i:Nat,i<L.length->∃v:Vd,L[i]?=some v/\∃r p,lo=some (Ad r 0)/\Z=some (Ad p 0)/\w.cell? (Ad r (i*4))=some (Iv v.ev)/\w.cell? (Ad r (i*4+1))=some (Iv v.time)/\w.cell? (Ad r (i*4+2))=some (Iv v.cO)/\w.cell? (Ad r (i*4+3))=some (.bool v.ok)/\w.cell? (Ad p (i*4))=some (Iv v.ev)/\w.cell? (Ad p (i*4+1))=some (Iv v.time)/\w.cell? (Ad p (i*4+2))=some (Iv v.cO)/\w.cell? (Ad p (i*4+3))=some (.bool v.ok)):=λi hi=>by
  obtain⟨r,z,_,_,a⟩:=j aA;obtain⟨p,e2,_,_,b⟩:=f aA;have o:L[i]?=some L[i]:=fG hi;exact⟨_,o,r,p,z,e2,a _ _ (qL (k:=0) o rfl),a _ _ (qL (k:=1) o rfl),a _ _ (qL (k:=2) o rfl),a _ _ (qL (k:=3) o rfl),b _ _ (qL (k:=0) o rfl),b _ _ (qL (k:=1) o rfl),b _ _ (qL (k:=2) o rfl),b _ _ (qL (k:=3) o rfl)⟩
 have HT:Hid (∀W,Calls prog 72 #[Iv ((n:Int)+1)] W λe A=>e=.returned (.agg #[Iv (-((n:Int)+1)),Iv (-((n:Int)+1)),Iv (-((n:Int)+1)),.bool false])/\Bl W A):=λW=>zh (n+1) W aA;have u:(kZ L).length=L.length*4:=eN Jz 4 (λ_=>rfl) L;have HS:Hid (∀(W:aC)(i:Nat),i<L.length->W.ownsRow 0 59 4 (.slice lo L.length x) L.length (half (Ee (n+1)) i (kZ L))->∃g a b c d,lo=some (Ad g 0)/\∀W',Bl W W'->W'.cell? (Ad g (i*4))=some (Iv a)/\W'.cell? (Ad g (i*4+1))=some (Iv b)/\W'.cell? (Ad g (i*4+2))=some (Iv c)/\W'.cell? (Ad g (i*4+3))=some (.bool d)/\W'.frozen? (Ad g (i*4))=false/\W'.frozen? (Ad g (i*4+1))=false/\W'.frozen? (Ad g (i*4+2))=false/\W'.frozen? (Ad g (i*4+3))=false/\∀V,((((W'.setCell (Ad g (i*4)) (Iv (-((n:Int)+1)))).setCell (Ad g (i*4+1)) (Iv (-((n:Int)+1)))).setCell (Ad g (i*4+2)) (Iv (-((n:Int)+1)))).setCell (Ad g (i*4+3)) (.bool false))=V->V.ownsRow 0 59 4 (.slice lo L.length x) L.length (half (Ee (n+1)) (i+1) (kZ L))/\aI (λb=>(.slice lo L.length x:aF).ownBlock=some b) W V):=λW i hi P=>by
  have G:=P;obtain⟨_,⟨z,e2⟩|⟨g,cap,aa,z,_⟩⟩:=G
  .omega
  cases z;have o:L[i]?=some L[i]:=fG hi;refine⟨g,L[i].ev,L[i].time,L[i].cO,L[i].ok,rfl,λW' T=>?_⟩;have m:=fN P T;obtain⟨Q,S,R,O,a5⟩:=Vo o m;refine⟨Q,S,R,O,m.frozenAt _,m.frozenAt _,m.frozenAt _,m.frozenAt _,?_⟩;rintro V rfl;refine⟨a5,(aI.aR T).trans ?_⟩;exact((((gJ _ g _ _).trans (gJ _ g _ _)).trans (gJ _ g _ _)).trans (gJ _ g _ _)).mono λb _ e=>by rw[e];rfl
 obtain⟨M,F,s,HG⟩:=h.gv3 y H u D (λv=>⟨n+1,v,.slice none 0 0⟩) λv=>⟨rfl,.inl ⟨rfl,rfl,rfl,rfl⟩⟩;have c1:w.cell? (Ad wb 1)=some (Iv (n:Int)):=aD h.cell rfl;have f1:w.frozen? (Ad wb 1)=false:=cJ h.cell 1;clear j f h H N u y;generalize L.length=ll at*;obtain⟨iV,Z2,Vx,Vy,Vz⟩:=eB Ql;obtain⟨iK,hiK,Ze,Zf,Zg⟩:=eB AW;go_enter func71,ntmps71;go_wp2_with fail;go_loopw [7,8] (λK t wr=>∃i:Nat,K=.bool true/\t=Iv i/\i<=ll/\∃q,wr=w.drewN q) (λ_ t _=>ll-(intOf t).toNat)
 case atStart=>exact⟨0,rfl,rfl,cD,0,rfl⟩
 case round=>
  obtain⟨i,rfl,rfl,I,q,rfl⟩:=hrel;by_cases hi:i<ll
  .obtain⟨v,_,r,p,rfl,rfl,x0,x1,x2,x3,y0,y1,y2,y3⟩:=J.out i hi;clear J HS M F s HT;have e0:(v.ev==v.ev)=true:=Cl _;have z:(v.time==v.time)=true:=Cl _;have e2:(v.cO==v.cO)=true:=Cl _;have e3:(v.ok==v.ok)=true:=Cl _;generalize v.ev=z0 at*;generalize v.time=z1 at*;generalize v.cO=z2 at*;generalize v.ok=z3 at*;go_wp2_with fail;go_quiet(fail);go_wp2_with fail
   try go_big_round
   exact⟨⟨i+1,rfl,dU,hi,_,rfl⟩,zm⟩
  .obtain rfl:ll=i:=by omega
   clear J;have hF:=M.out q;have hK:=F.out q;have US:=s.out q;replace hF:Hid _:=hF;replace hK:Hid _:=hK;replace US:Hid _:=US;clear M F s;go_wp2_with fail;generalize(w.drewN q).setCell (Ad wb 1) (Iv ((n:Int)+1))=w1 at*;go_loopw [10] (λt wr=>∃i:Nat,t=Iv i/\i<=ll/\aI (λb=>(.slice lo ll x:aF).ownBlock=some b) w1 wr/\wr.ownsRow 0 59 4 (.slice lo ll x) ll (half (Ee (n+1)) i (kZ L))) (λt _=>ll-(intOf t).toNat)
   case atStart=>exact⟨0,rfl,cD,aI.refl _ _,US.out⟩
   case round=>
    obtain⟨i,rfl,I,hO,pZ⟩:=hrel;by_cases hi:i<ll
    .obtain⟨g,a,b,c,d,ho,B⟩:=HS.out wr i hi pZ;subst ho;replace B:Hid _:=B;replace hO:Hid _:=hO;clear HS pZ hF hK US;go_wp2_with fail;refine(HT.out _).m λw2 b2=>?_;obtain⟨Q,S,R,O,a5,a6,a7,a8,C⟩:=B.out w2 b2;replace C:Hid _:=C;clear B HT;go_wp2_with fail
     try go_big_round
     exact⟨⟨i+1,dU,hi,hO.out.trans (C.out _ rfl).2,(C.out _ rfl).1⟩,zm⟩
    .have hU:=underlying54;have Vu:=@VU (n+1);exact zgv
end
theorem vN{k j c row v}(a:j<k)(b:row[c]?=some v):(lV k row)[j*row.length+c]?=some v:=by
 have:lV k row=((List.replicate k ()).map λ_=>row).flatten:=by simp[lV]
 rw[this];exact jh (λ_=>row) row.length (λ_=>rfl) (List.replicate k ()) j c () v (by simp[a]) b
theorem Bo.cells{m w e}(h:Bo m w e):∃d k i b f l,e.gv=.slice k d i/\e.tv=.slice f b l/\d<=1000000000/\b<=1000000000/\d<=i/\b<=l/\(∀j,j<d->∃g,k=some (Ad g 0)/\g<w.heap.size/\w.cell? (Ad g (j*4))=some (Iv (-(e.n:Int)))/\w.cell? (Ad g (j*4+1))=some (Iv (-(e.n:Int)))/\w.cell? (Ad g (j*4+2))=some (Iv (-(e.n:Int)))/\w.cell? (Ad g (j*4+3))=some (.bool false))/\∀j,j<b->∃g,f=some (Ad g 0)/\g<w.heap.size/\w.cell? (Ad g j)=some (.string ⟨(oL e.n).toArray⟩):=by
 let⟨⟨d,p1,q1⟩,⟨b,p2,q2⟩,_⟩:=h;let⟨k,i,e1,a1,_,b1⟩:=bT q1;let⟨f,l,e2,a2,_,b2⟩:=bT q2;refine⟨d,k,i,b,f,l,e1,e2,p1,p2,a1,a2,λj a=>?_,λj a=>?_⟩
 .let⟨g,h1,h2,_,h3⟩:=b1 aA;exact⟨g,h1,h2,h3 _ _ (vN (row:=Ee e.n) (c:=0) a rfl),h3 _ _ (vN (row:=Ee e.n) (c:=1) a rfl),h3 _ _ (vN (row:=Ee e.n) (c:=2) a rfl),h3 _ _ (vN (row:=Ee e.n) (c:=3) a rfl)⟩
 .let⟨g,h1,h2,_,h3⟩:=b2 aA;refine⟨g,h1,h2,h3 j _ ?_⟩;have:=vN (row:=xh e.n) (c:=0) a rfl;simpa[xh]using this
theorem Np{Lw Z n Q kv E w}(h:k_ Lw Z Q kv n E w)(hE:E.length<=1000000000000)(z:∀e∈E,e.n<=1000000000000):
  Calls prog 38 #[.pointer (some ⟨Z,0,none⟩)] w λe w'=>e=.returned (.bool true)/\Below w.heap.size w w':=by
 have HC:Hid (∀e∈E,_):=λe M=>(h.nD e M).cells;have z:=hid z;have hc:=h.cell;obtain⟨ko,kc,rfl,a7,_,t⟩:=bT h.kept;have HK:Hid (∀(i:Nat)(e:mB),E[i]?=some e->∃s,ko=some ⟨s,0,none⟩/\s<w.heap.size/\w.cell? ⟨s,i*3,none⟩=some (.int .i64 (e.n:Int))/\w.cell? ⟨s,i*3+1,none⟩=some e.gv/\w.cell? ⟨s,i*3+2,none⟩=some e.tv):=λi e hi=>by
  have⟨s,e1,e2,_,e3⟩:=t (by have:=(e_.1 hi).1;omega);have R:∀k v,(Xy e)[k]?=some v->(nh E)[i*3+k]?=some v:=λk v hv=>jh Xy 3 (λ_=>rfl) E i k e v hi hv;exact⟨s,e1,e2,e3 _ _ (R 0 _ rfl),e3 _ _ (R 1 _ rfl),e3 _ _ (R 2 _ rfl)⟩
 go_enter func38,ntmps38;go_wp2;go_loopw [3] (λY wr=>∃i:Nat,Y=.int .i64 i/\i<=E.length/\Below w.heap.size w wr) (λY _=>E.length-(intOf Y).toNat)
 case atStart=>exact⟨0,rfl,cD,aT⟩
 case round=>
  obtain⟨i,rfl,a8,b⟩:=hrel;have U:=b.aS hc;have c2:wr.cell? ⟨Z,2,none⟩=some (.slice ko E.length kc):=aD U rfl;by_cases hi:i<E.length
  .have T:decide ((i:Int)<(E.length:Int))=true:=by simp;omega
   obtain⟨e,M⟩:∃e,E[i]?=some e:=⟨E[i],fG hi⟩;have J:=iA M;obtain⟨s,rfl,A,k0,k1,k2⟩:=HK.out i e M;have⟨o,go,gc,q,tO,tc,e1,e2,l1,l2,l3,l4,R1,X⟩:=HC.out e J;rw[e1]at k1;rw[e2]at k2;have k0':=(b.cell (p:=⟨s,i*3,none⟩) A).trans k0;have k1':=(b.cell (p:=⟨s,i*3+1,none⟩) A).trans k1;have k2':=(b.cell (p:=⟨s,i*3+2,none⟩) A).trans k2;have G:=b.al (.cells #[.int .i64 (e.n:Int),.slice go o gc,.slice tO q tc] 123 (0,0));have u:=aP wr (.cells #[.int .i64 (e.n:Int),.slice go o gc,.slice tO q tc] 123 (0,0)) _ rfl;have hV:=hid λ(W:aC)=>zh e.n W (z.out e J);have hT:=hid λ(W:aC)=>EO e.n W;have R1:Hid (∀W,Below w.heap.size w W->∀j,j<o->_):=λW r j D=>by
    obtain⟨g,O,C,S,a4,a5,a6⟩:=R1 j D;exact(⟨g,O,(r.cell (p:=⟨g,j*4,none⟩) C).trans S,(r.cell (p:=⟨g,j*4+1,none⟩) C).trans a4,(r.cell (p:=⟨g,j*4+2,none⟩) C).trans a5,(r.cell (p:=⟨g,j*4+3,none⟩) C).trans a6⟩:∃g,go=some ⟨g,0,none⟩/\W.cell? ⟨g,j*4,none⟩=some (.int .i64 (-(e.n:Int)))/\W.cell? ⟨g,j*4+1,none⟩=some (.int .i64 (-(e.n:Int)))/\W.cell? ⟨g,j*4+2,none⟩=some (.int .i64 (-(e.n:Int)))/\W.cell? ⟨g,j*4+3,none⟩=some (.bool false))
   have X:Hid (∀W,Below w.heap.size w W->∀j,j<q->_):=λW r j D=>by
    obtain⟨g,O,C,S⟩:=X j D;exact(⟨g,O,(r.cell (p:=⟨g,j,none⟩) C).trans S⟩:∃g,tO=some ⟨g,0,none⟩/\W.cell? ⟨g,j,none⟩=some (.string ⟨(oL e.n).toArray⟩))
   generalize(⟨(oL e.n).toArray⟩:aZ)=tx at*;generalize(e.n:Int)=l at*;go_wp2_with fail;generalize wr.alloc (.cells #[.int .i64 l,.slice go o gc,.slice tO q tc] 123 (0,0))=W at*;generalize wr.heap.size=d at*;have HW:Hid (∀V,Below W.heap.size W V->Below w.heap.size w V/\V.cell? ⟨d,0,none⟩=some (.int .i64 l)/\V.cell? ⟨d,1,none⟩=some (.slice go o gc)/\V.cell? ⟨d,2,none⟩=some (.slice tO q tc)):=λV r=>⟨G.tr r,aD (r.aS u) rfl,aD (r.aS u) rfl,aD (r.aS u) rfl⟩;clear u G b c2 k0' k1' k2';go_loopw [5] (λB P=>∃j:Nat,B=.int .i64 j/\j<=o/\Below W.heap.size W P) (λB _=>o-(intOf B).toNat)
   case atStart=>exact⟨0,rfl,cD,aT⟩
   case round=>
    obtain⟨j,rfl,D,c⟩:=hrel;obtain⟨I,F,N,L⟩:=HW.out _ c;by_cases m:j<o
    .have f:decide ((j:Int)<(o:Int))=true:=by simp;omega
     obtain⟨g,rfl,K,y1,y2,y3⟩:=R1.out _ I j m;have y:Hid (∀a,Below wr.heap.size wr a->a.cell? ⟨d,0,none⟩=some (.int .i64 l)/\a.cell? ⟨d,1,none⟩=some (.slice (some ⟨g,0,none⟩) o gc)/\a.cell? ⟨g,j*4,none⟩=some (.int .i64 (-l))/\a.cell? ⟨g,j*4+1,none⟩=some (.int .i64 (-l))/\a.cell? ⟨g,j*4+2,none⟩=some (.int .i64 (-l))/\a.cell? ⟨g,j*4+3,none⟩=some (.bool false)/\Below wr.heap.size wr a):=λa h=>⟨(h.cell (p:=⟨d,0,none⟩) (eS F)).trans F,(h.cell (p:=⟨d,1,none⟩) (eS N)).trans N,(h.cell (p:=⟨g,j*4,none⟩) (eS K)).trans K,(h.cell (p:=⟨g,j*4+1,none⟩) (eS y1)).trans y1,(h.cell (p:=⟨g,j*4+2,none⟩) (eS y2)).trans y2,(h.cell (p:=⟨g,j*4+3,none⟩) (eS y3)).trans y3,h⟩;go_wp2
     go_region_held3 (λa=>a.cell? ⟨d,0,none⟩=some (.int .i64 l)/\a.cell? ⟨d,1,none⟩=some (.slice (some ⟨g,0,none⟩) o gc)/\a.cell? ⟨g,j*4,none⟩=some (.int .i64 (-l))/\a.cell? ⟨g,j*4+1,none⟩=some (.int .i64 (-l))/\a.cell? ⟨g,j*4+2,none⟩=some (.int .i64 (-l))/\a.cell? ⟨g,j*4+3,none⟩=some (.bool false)/\Below wr.heap.size wr a)
      ((refine y.out _ ?_;(repeat(with_reducible (first|exact Below.refl _ _|refine Below.drew ?_|refine Below.tr ?_ H)))))
      (first|(go_at_call_of 72 (Value.int IntKind.i64 l);refine(hV.out _).mono ?_;rintro x wA ⟨rfl,H⟩))
     all_goals go_wp2_with fail
     all_goals
      try go_big_round
      exact⟨⟨j+1,dU,m,by repeat(with_reducible (first|exact c|refine L_ ?_|refine Below.tr ?_ H))⟩,zm⟩
    .have f:decide ((j:Int)<(o:Int))=false:=by simp;omega
     go_wp2;go_loopw [6] (λB P=>∃j:Nat,B=.int .i64 j/\j<=q/\Below W.heap.size W P) (λB _=>q-(intOf B).toNat)
     case atStart=>exact⟨0,rfl,cD,c⟩
     case round=>
      clear D m f c I F N L;obtain⟨j,rfl,D,c⟩:=hrel;obtain⟨I,F,N,L⟩:=HW.out _ c;by_cases m:j<q
      .have f:decide ((j:Int)<(q:Int))=true:=by simp;omega
       obtain⟨g,rfl,K⟩:=X.out _ I j m;have y:Hid (∀a,Below wr.heap.size wr a->a.cell? ⟨d,0,none⟩=some (.int .i64 l)/\a.cell? ⟨d,2,none⟩=some (.slice (some ⟨g,0,none⟩) q tc)/\a.cell? ⟨g,j,none⟩=some (.string tx)/\Below wr.heap.size wr a):=λa h=>⟨(h.cell (p:=⟨d,0,none⟩) (eS F)).trans F,(h.cell (p:=⟨d,2,none⟩) (eS L)).trans L,(h.cell (p:=⟨g,j,none⟩) (eS K)).trans K,h⟩;go_wp2
       go_region_held3 (λa=>a.cell? ⟨d,0,none⟩=some (.int .i64 l)/\a.cell? ⟨d,2,none⟩=some (.slice (some ⟨g,0,none⟩) q tc)/\a.cell? ⟨g,j,none⟩=some (.string tx)/\Below wr.heap.size wr a)
        ((refine y.out _ ?_;(repeat(with_reducible (first|exact Below.refl _ _|refine Below.drew ?_|refine Below.tr ?_ H)))))
        (first|(go_at_call_of 73 (Value.int IntKind.i64 l);refine(hT.out _).mono ?_;rintro x wA ⟨rfl,H⟩))
       all_goals go_wp2_with fail
       all_goals
        try go_big_round
        exact⟨⟨j+1,dU,m,by repeat(with_reducible (first|exact c|refine L_ ?_|refine Below.tr ?_ H))⟩,zm⟩
      .have f:decide ((j:Int)<(q:Int))=false:=by simp;omega
       go_wp2
       try go_big_round
       exact⟨⟨i+1,dU,hi,I⟩,zm⟩
  .have T:decide ((i:Int)<(E.length:Int))=false:=by simp;omega
   go_wp2;go_ret;exact⟨rfl,b⟩
end Ev
end Go.Proofs.YtpbbmagjhkakgaaGreatDoor
