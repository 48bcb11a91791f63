import Derived.Test.YtpbbmagjhkakgaaGreatDoorC3
import Derived.Test.YtpbbmagjhkakgaaGreatDoorC6
import Derived.Test.YtpbbmagjhkakgaaGreatDoorC8
import Derived.Test.YtpbbmagjhkakgaaGreatDoorD2
import Derived.Deep.SlicePairs
import Derived.Stop.LaidTwo
namespace Go.Proofs.YtpbbmagjhkakgaaGreatDoor
set_option maxHeartbeats 4000000
set_option maxRecDepth 100000
open Go.Proofs.Tryz Go.RowKit Go.Deep Go.ChangeShapes Go.WideShapes Go.ChangeAt Go.Conc Ev
theorem QE(s t w)(l:s.size<=maxLen)(c:t.size<=maxLen)(k:dW w)(f:dG w)(b:14<=w.heap.size):
  Calls prog 16 #[Sl w.heap.size 2 2] (w.alloc (.cells #[.string s,.string t] 9 (0,0))) λe h=>e=.returned (.tuple #[Iv (jJ [] [s,t]).1,Iv (jJ [] [s,t]).2])/\Bl w h:=by
 let a:=(cC w.heap.size w).al (.cells #[.string s,.string t] 9 (0,0));let i:=aP w (.cells #[.string s,.string t] 9 (0,0)) _ rfl;refine(GB [s,t] w.heap.size 0 2 _ (k.below a) (f.keep a.block) (gC b a.size) aE aE ?_ ?_).mono ?_
 .intro j d;have:j=0\/j=1:=by simp at d;omega
  obtain rfl|rfl:=this
  .exact aD i rfl
  .exact aD i rfl
 .intro j d;have:j=0\/j=1:=by simp at d;omega
  obtain rfl|rfl:=this
  .exact l
  .exact c
 .rintro e h ⟨rfl,g⟩;exact⟨rfl,a.tr g⟩
theorem M0:tL ⟨#[79,32,91,48,32,44,32,53,93,40,32,112,32,83,91,49,44,50,93,32,33,116,114,117,101,32,41]⟩=.tuple #[.string ⟨#[79,91,48,44,53,93,40,112,32,83,91,49,44,50,93,32,194,172,116,114,117,101,41]⟩,Iv 0]:=aM
theorem M4:tM ⟨#[89,91,48,44,51,93,79,91,49,44,53,93,112]⟩=.tuple #[Iv 8,Iv 0]:=aM
theorem MZ:jJ [] [⟨#[40,97,32,124,32,98,41]⟩,⟨#[33,40,33,97,32,38,32,33,98,41]⟩]=(6,0):=aM
def JL(w:aC)(res:aQ (BT c_)×Int)(e:Ending)(a:aC):Prop:=
 Bl w a/\((∃x p,res=(some x,0)/\e=.returned (.tuple #[.pointer p,Iv 0])/\bX w.heap.size a x (.pointer p))
  \/(res=(none,1)/\e=.returned (.tuple #[.pointer none,Iv 1]))\/(res=(none,2)/\e=.returned (.tuple #[.pointer none,Iv 2])))
theorem Only.new{s a b c}(h:Bl a b)(k:Only s b c)(d:a.heap.size<=s):Bl a c:=
 ⟨k.os.trans h.os,k.tape.trans h.tape,k.output.trans h.output,gC h.size k.size,λi hi=>(k.block i (fW hi h.size) aA).trans (h.block i hi)⟩
theorem wI(s w)(R:s.size<=2000000):Calls prog 144 #[.string s] w (JL w (Lg s)):=by
 have M:=N4 s w R;have C:Hid (Lg s=match ie s s.size 0 []with
 |none=>(none,1)
 |some u=>if 300<s.size then(none,1)
  else match jS (u.length+1) u with
   |none=>(none,1)
   |some (x,r)=>if cB r=[]then(if 12<bC x then(none,2)else(some x,0))else(none,1)):=rfl
 have A:=Wl s s.size 0 [];generalize Lg s=res at*;generalize ie s s.size 0 []=sg at*;go_enter func144,ntmps144;go_wp2_with fail;apply M.mono;rintro e n ⟨m,⟨u,d,rfl,G,rfl⟩|⟨rfl,rfl⟩⟩
 .by_cases I:300<s.size
  .have h:Hid (res=(none,1)):=by show _=_;rw[C.out];simp only;rw[bY I]
   have XH:decide ((300:Int)<(s.size:Int))=true:=bI;go_wp2;go_ret2;exact⟨m,.inr (.inl ⟨h.out,rfl⟩)⟩
  .have XH:decide ((300:Int)<(s.size:Int))=false:=by simp;omega
   have V:u.length<=s.size:=A u aE aA rfl;have i:Hid (res=match jS (u.length+1) u with
    |none=>(none,1)
    |some (x,r)=>if cB r=[]then(if 12<bC x then(none,2)else(some x,0))else(none,1)):=by show _=_;rw[C.out];simp only;rw[bN I]
   have L:d.size=u.length:=by rw[<-G,fP]
   go_wp2_with fail;refine(GX (u.length+1) n.heap.size 0 d u _ (aP _ _ _ rfl) aA cD (show d.data.toList.drop 0=u by rw[vU];exact G) jV).mono ?_;rintro e X ⟨W,j,p,o,T,J,rfl,Q⟩;go_wp2_with fail;refine(A5 n.heap.size j d o X J aA).m λq ⟨H,z⟩=>?_;have v:=Only.new (Only.new (m.al (.cells #[.string d,Iv 0,.bool false] 304 (0,0))) W m.size) H m.size;have c0:q.cell? (Ad n.heap.size 0)=some (.string d):=aD z rfl;have Z:q.cell? (Ad n.heap.size 1)=some (Iv (vQ d j)):=aD z rfl;have c2:q.cell? (Ad n.heap.size 2)=some (.bool o):=aD z rfl;obtain⟨_,rfl,x,t,b,O,B⟩|⟨rfl,b⟩:=Q
   .have f:=O.skip;have K:=EG T;have⟨gx,dx⟩:=Hb _ _ _ _ b;have g:=(B.only H aE).low (B':=w.heap.size) (by simp;have:=m.size;omega);generalize vQ d j=k at*;by_cases a:cB t=[]
    .have N:k=d.size:=by rw[a]at f;have:=f.nil;omega
     have h:Hid (res=if 12<bC x then(none,2)else(some x,0)):=by show _=_;rw[i.out,b];simp only;rw[bY a]
     have S:((k:Int)!=(u.length:Int))=false:=by simp only[bne_eq_false_iff_eq];omega
     have E:=Xc _ _ _ (.inl ⟨rfl,rfl,rfl⟩) x (.pointer p) w.heap.size q.drew (g.below aT.drew) gx aA;have P:bC x<=400:=aA;by_cases UR:12<bC x
     .have l:Hid (res=(none,2)):=by show _=_;rw[h.out,bY UR]
      have aan:decide ((12:Int)<(bC x:Int))=true:=bI;generalize bC x=D at*;go_wp2
      go_region
      go_wp2_with fail;refine E.m λU y=>?_;go_wp2;go_ret2;exact⟨v.drew.tr y,.inr (.inr ⟨l.out,rfl⟩)⟩
     .have l:Hid (res=(some x,0)):=by show _=_;rw[h.out,bN UR]
      have aan:decide ((12:Int)<(bC x:Int))=false:=bI;generalize bC x=D at*;go_wp2
      go_region
      go_wp2_with fail;refine E.m λU y=>?_;go_wp2;go_ret2;exact⟨v.drew.tr y,.inl ⟨x,p,l.out,rfl,g.below (aT.drew.tr y)⟩⟩
    .have N:k≠d.size:=by
      cases F:cB t with
      |nil=>exact absurd F a
      |cons c r=>rw[F]at f;obtain⟨Y,_⟩:=f.cons;omega
     have h:Hid (res=(none,1)):=by show _=_;rw[i.out,b];simp only;rw[bN a]
     have S:((k:Int)!=(u.length:Int))=true:=by simp only[bne_iff_ne];omega
     go_wp2
     go_region
     go_wp2;go_ret2;exact⟨v.drew,.inr (.inl ⟨h.out,rfl⟩)⟩
   .have h:Hid (res=(none,1)):=by
     show _=_;obtain b|b:=b
     .cases b
     .rw[i.out,b]
    generalize vQ d j=k at*;go_wp2
    go_region
    go_wp2;go_ret2;exact⟨v.drew,.inr (.inl ⟨h.out,rfl⟩)⟩
 .go_wp2;go_ret2;exact⟨m,.inr (.inl ⟨C.out,rfl⟩)⟩
theorem G_:∀x,R4 x:=by
 intro x
 induction x with
 |nil=>intro v n B p L w _ g;exact g.elim
 |node m o a l r i q=>
  intro v n B p L w h g s hL f c;let A:cF (.node m o a l r)=cF l+cF r+1:=rfl;obtain⟨X,F,G,rfl,H,u,d,z,C,e⟩:=wH h g;obtain⟨rfl,rfl,rfl,rfl⟩|⟨t,rfl,rfl,al,rfl⟩|⟨t,E,⟨al,rfl⟩,D,rfl⟩:=e
  .exact xY m o a _ _ [] aE aE (λ_=>rfl) none none d rfl X B p n L w u aE h g s hL f c
  .exact xY m o a l _ [l] (λy k=>by simp at k;subst k;exact⟨i,t,aA⟩) bI (λ_=>rfl) (some al) none d rfl X B p n L w u (λj y b=>by
    match j,b with
    |0,b=>simp at b;subst b;exact⟨_,rfl,z⟩) h g s hL f c
  .exact xY m o a l r [l,r] (λy k=>by
    simp at k;obtain rfl|rfl:=k
    .exact⟨i,t,aA⟩
    .exact⟨q,E,aA⟩) bI (λ_=>rfl) (some al) (some D) d rfl X B p n L w u (λj y b=>by
    match j,b with
    |0,b=>simp at b;subst b;exact⟨_,rfl,z⟩
    |1,b=>simp at b;subst b;exact⟨_,rfl,C⟩) h g s hL f c
theorem NZ(s w)(k:s.size<=2000000):
  Calls prog 101 #[.string s] w λe o=>e=.returned (tL s)/\Bl w o:=by
 have f:=wI s w k;rw[Da]at f;have c:∀x n,cV s=(some x,n)->Good x/\mF x/\bC x<=12/\n=0:=λx n h=>dH h;have a:Hid (tL s=match(cV s).1 with|some x=>.tuple #[.string ⟨(bF x).toArray⟩,Iv 0]|none=>.tuple #[.string ⟨#[]⟩,Iv (cV s).2]):=rfl;generalize tL s=m at*;generalize cV s=res at*;go_enter func101,ntmps101;go_wp2_with fail;apply f.mono;rintro e j ⟨b,⟨x,p,rfl,rfl,g⟩|⟨rfl,rfl⟩|⟨rfl,rfl⟩⟩
 .have⟨gx,_,dx,_⟩:=c x 0 rfl;go_wp2_with fail;refine(GY x (.pointer p) _ j g gx (by have:=Ld gx dx;omega)).mono ?_;rintro e q ⟨l,d,rfl,i⟩;have UT:d=⟨(bF x).toArray⟩:=mg i;subst UT;go_wp2;go_ret2;exact⟨by rw[a.out];rfl,b.tr l⟩
 .go_wp2;go_ret2;exact⟨by rw[a.out];rfl,b⟩
 .go_wp2;go_ret2;exact⟨by rw[a.out];rfl,b⟩
theorem FZ(s w)(i:s.size<=2000000):
  Calls prog 102 #[.string s] w λe l=>e=.returned (tM s)/\Bl w l:=by
 have d:=wI s w i;rw[Da]at d;have c:∀x n,cV s=(some x,n)->Good x/\mF x/\bC x<=12/\n=0:=λx n h=>dH h;have a:Hid (tM s=match(cV s).1 with|some x=>.tuple #[Iv (bD x),Iv 0]|none=>.tuple #[Iv 0,Iv (cV s).2]):=rfl;generalize tM s=k at*;generalize cV s=res at*;go_enter func102,ntmps102;go_wp2_with fail;apply d.mono;rintro e g ⟨b,⟨x,p,rfl,rfl,f⟩|⟨rfl,rfl⟩|⟨rfl,rfl⟩⟩
 .have⟨gx,_,dx,_⟩:=c x 0 rfl;go_wp2_with fail;refine(xX x (.pointer p) _ g f gx aA).m λm j=>?_;go_wp2;go_ret2;exact⟨by rw[a.out];rfl,b.tr j⟩
 .go_wp2;go_ret2;exact⟨by rw[a.out];rfl,b⟩
 .go_wp2;go_ret2;exact⟨by rw[a.out];rfl,b⟩
def vE:aB (aB aV)->aB aZ->Int×Int
 |L,[]=>((L.length:Int),0)
 |L,t::ts=>match(cV t).1 with
  |some x=>vE (dC L (aN x)) ts
  |none=>(0,(cV t).2)
theorem QD(L:aB (aB aV))(a:aB aZ)(i:Nat)(h:i<a.length):vE L (a.drop i)=match(cV (a.getD i ByteArray.empty)).1 with
  |some x=>vE (dC L (aN x)) (a.drop (i+1))
  |none=>(0,(cV (a.getD i ByteArray.empty)).2):=by
 let e:a.getD i ByteArray.empty=a[i]:=by simp[List.getD,h]
 rw[oV h,e];rfl
theorem KW:∀(a:aB aZ)(K:aB Key)(L:aB (aB aV)),Twin K L->vE L a=jJ K a
 |[],K,L,h=>by simp only[vE,jJ];rw[h.len]
 |t::a,K,L,h=>by
  simp only[vE,jJ]
  cases b:cV t with
  |mk o n=>
   cases o with
   |none=>rfl
   |some x=>
    let⟨gx,zx,_,_⟩:=dH b
    exact KW a _ _ (count_eq h ⟨gx,zx⟩)
theorem NW(a r u cap w)(U:a.length<=50000000)(D:r<w.heap.size)
  (P:∀j,j<a.length->w.cell? (Ad r (u+j))=some (.string (a.getD j ByteArray.empty))) (S:∀j,j<a.length->(a.getD j ByteArray.empty).size<=2000000):
  Calls prog 103 #[.slice (some (Ad r u)) a.length cap] w λe R=>e=.returned (.tuple #[Iv (jJ [] a).1,Iv (jJ [] a).2])/\Bl w R:=by
 rw[<-KW a [] [] Twin.nil];generalize l:vE [] a=res;generalize F:a.length=n at*;go_enter func103,ntmps103;go_wp2;go_loopw [4,5] (λlv C wr=>∃(i:Nat)(L:aB (aB aV)),C=Iv i/\i<=n/\wr.ownsRow w.heap.size 9 1 lv L.length (strs L)/\Bl w wr/\L.length<=16384*i/\Hid (vE L (a.drop i)=res)) (λ_ C _=>n-(intOf C).toNat)
 case atStart=>exact⟨0,[],rfl,cD,fF _ _ _ _,aT,aE,l⟩
 case round=>
  obtain⟨i,L,rfl,H,d,c,hL,E⟩:=hrel;by_cases hi:i<n
  .have z:decide ((i:Int)<(n:Int))=true:=by simp;omega
   have B:wr.cell? (Ad r (u+i))=some (.string (a.getD i ByteArray.empty)):=c.cell (p:=(Ad r (u+i))) D▸P i hi;have o:=wI (a.getD i ByteArray.empty) wr (S i hi);rw[Da]at o;have A:∀x m,cV (a.getD i ByteArray.empty)=(some x,m)->Good x/\mF x/\bC x<=12/\m=0:=λx m h=>dH h;have s:=QD L a i aA;rw[E.out]at s;have g:=hid s;generalize a.getD i ByteArray.empty=t at*;generalize cV t=rd at*;go_wp2_with fail;apply o.mono;rintro e G ⟨k,⟨x,p,rfl,rfl,K⟩|⟨rfl,rfl⟩|⟨rfl,rfl⟩⟩
   .have⟨gx,_,dx,_⟩:=A x 0 rfl;have M:=rS dx;have b:=hid g.out;have J:=dK gx;have I:=j7 (aN x) L;go_wp2_with fail;apply(GO x (.pointer p) wr.heap.size G K gx k.size).mono;rintro e T ⟨q,rfl,Q,v⟩;have z1:=k.size;have X:=v.size;have W:=c.size;have y:=G_ (aN x) (.pointer q) _ wr.heap.size w.heap.size L T Q J aA (fN (fN d k) v) aA aA;generalize aN x=O at*;go_wp2_with fail;apply y.mono;rintro e V ⟨N,v3,rfl,f⟩;go_wp2
    try go_big_round
    exact⟨⟨i+1,dC L O,dU,hi,f,((c.tr k).tr v).tr N,aA,b.out.symm⟩,zm⟩
   .have b:=hid g.out;go_wp2;go_ret2;exact⟨by cases b.out;rfl,c.tr k⟩
   .have b:=hid g.out;go_wp2;go_ret2;exact⟨by cases b.out;rfl,c.tr k⟩
  .have z:decide ((i:Int)<(n:Int))=false:=by simp;omega
   have b:Hid (res=((L.length:Int),0)):=by show _=_;rw[<-E.out,t_ aA];rfl
   obtain⟨Y,Z,rfl,_⟩:=K3 d;go_wp2;go_ret2;exact⟨by cases b.out;rfl,c⟩
def gV(k a nn mm:Int)(s t:aZ)(lv:aF):aF:=.agg #[Iv k,Iv a,Iv nn,Iv mm,.string s,.string t,lv]
theorem Lh(r a nn mm s t lv w)(n:dW w)(d:dG w)(c:14<=w.heap.size)(p:s.size<=2000000):
  Calls prog 54 #[Pt r,gV 1 a nn mm s t lv] w λe b=>e=.returned (.bool true)/\Bl w b:=by
 unfold gV;obtain⟨x,m,i⟩:∃x m,tL s=.tuple #[.string x,Iv m]:=by
  unfold tL;cases(cV s).1 with
  |some y=>exact⟨_,_,rfl⟩
  |none=>exact⟨_,_,rfl⟩
 let o:Hid (∀W,Bl w W->Calls prog 14 #[.string s] W λe b=>e=.returned (.tuple #[.string x,Iv m])/\Bl W b):=λW h=>by
  have:=GK s W eP (n.below h) (d.keep h.block) (gC c h.size)
  rwa[i]at this
 let l:Hid (∀W:aC,Calls prog 101 #[.string s] W λe b=>e=.returned (.tuple #[.string x,Iv m])/\Bl W b):=λW=>by
  have:=NZ s W p
  rwa[i]at this
 let g:=(cC w.heap.size w).al (.cells #[Iv 1,Iv a,Iv nn,Iv mm,.string s,.string t,lv] 73 (0,0));let q:=aP w (.cells #[Iv 1,Iv a,Iv nn,Iv mm,.string s,.string t,lv] 73 (0,0)) _ rfl;go_enter func54,ntmps54;go_wp2_with fail;refine(o.out _ g).m λj f=>?_;let u:j.cell? (Ad w.heap.size 4)=some (.string s):=aD (f.aS q) rfl;go_wp2_with fail;refine(l.out _).m λv k=>?_;go_wp2_with fail;apply(wC m _).m0;go_wp2;go_ret;exact⟨rfl,(g.tr f).tr k⟩
theorem Li(r a nn mm s t lv w)(n:dW w)(d:dG w)(c:14<=w.heap.size)(p:s.size<=2000000):
  Calls prog 54 #[Pt r,gV 2 a nn mm s t lv] w λe b=>e=.returned (.bool true)/\Bl w b:=by
 unfold gV;obtain⟨x,m,i⟩:∃x m,tM s=.tuple #[Iv x,Iv m]:=by
  unfold tM;cases(cV s).1 with
  |some y=>exact⟨_,_,rfl⟩
  |none=>exact⟨_,_,rfl⟩
 let o:Hid (∀W,Bl w W->Calls prog 15 #[.string s] W λe b=>e=.returned (.tuple #[Iv x,Iv m])/\Bl W b):=λW h=>by
  have:=zC s W eP (n.below h) (d.keep h.block) (gC c h.size)
  rwa[i]at this
 let l:Hid (∀W:aC,Calls prog 102 #[.string s] W λe b=>e=.returned (.tuple #[Iv x,Iv m])/\Bl W b):=λW=>by
  have:=FZ s W p
  rwa[i]at this
 let g:=(cC w.heap.size w).al (.cells #[Iv 2,Iv a,Iv nn,Iv mm,.string s,.string t,lv] 73 (0,0));let q:=aP w (.cells #[Iv 2,Iv a,Iv nn,Iv mm,.string s,.string t,lv] 73 (0,0)) _ rfl;go_enter func54,ntmps54;go_wp2_with fail;refine(o.out _ g).m λj f=>?_;let u:j.cell? (Ad w.heap.size 4)=some (.string s):=aD (f.aS q) rfl;go_wp2_with fail;refine(l.out _).m λv k=>?_;go_wp2_with fail;apply(wC m _).m0;go_wp2;go_ret;exact⟨rfl,(g.tr f).tr k⟩
theorem NY(p c w):Calls prog 103 #[.slice p 0 c] w λe a=>e=.returned (.tuple #[Iv 0,Iv 0])/\Bl w a:=by
 go_enter func103,ntmps103;go_wp2_with fail;apply wp_loop_rounds 1;rw[Fa];go_wp2;go_ret2;exact⟨rfl,aT⟩
def j_(B:Nat)(w:aC)(L:aB aZ)(lv:aF):Prop:=
 ((∃p c,lv=.slice p 0 c/\(p=none->c=0))/\L=[])\/∃a b cap,lv=.slice (some (Ad a b)) L.length cap/\a<B/\∀j,j<L.length->w.cell? (Ad a (b+j))=some (.string (L.getD j ByteArray.empty))
theorem j_.below{B w e L lv}(h:j_ B w L lv)(g:Below B w e):j_ B e L lv:=by
 obtain h|⟨b,d,cap,i,c,f⟩:=h
 .exact .inl h
 .exact .inr ⟨b,d,cap,i,c,λj k=>(fT (a:=(Ad b (d+j))) (g.block b c)).trans (f j k)⟩
theorem Gu(B L lv w)(hL:j_ B w L lv)(j:B<=w.heap.size)(k:L.length<=1100000):
  Calls prog 61 #[lv] w λe b=>Bl w b/\∃v,e=.returned v/\b.ownsRow w.heap.size 9 1 v (L.length+2) (cI (L++[dE,dE])):=by
 obtain⟨⟨p,c,rfl,d⟩,rfl⟩|⟨g,h,cap,rfl,i,f⟩:=hL
 .cases p with
  |none=>rw[d rfl];exact Tv w
  |some a=>exact Qs a c w
 .exact Tu L g h cap w aA aA f
theorem Lp(B L lv w)(hL:j_ B w L lv)(k:B<=w.heap.size)(i:L.length<=1100000)(a:∀j,j<L.length->(L.getD j ByteArray.empty).size<=2000000):
  Calls prog 103 #[lv] w λe g=>e=.returned (.tuple #[Iv (jJ [] L).1,Iv (jJ [] L).2])/\Bl w g:=by
 obtain⟨⟨p,c,rfl,_⟩,rfl⟩|⟨f,d,cap,rfl,h,b⟩:=hL
 .exact NY p c w
 .exact NW L f d cap w aA aA b a
structure rp where
 k:Int
 a:Int
 nn:Int
 mm:Int
 s:aZ
 t:aZ
 L:aB aZ
 lv:aF
def nO(x:rp):aB aF:=[Iv x.k,Iv x.a,Iv x.nn,Iv x.mm,.string x.s,.string x.t,x.lv]
structure Xp(B:Nat)(w:aC)(x:rp):Prop where
 s:x.s.size<=2000000
 L:j_ B w x.L x.lv
 l:x.L.length<=1100000
 m:∀j,j<x.L.length->(x.L.getD j ByteArray.empty).size<=2000000
section
variable{H:Type}{enc:TypeId×aF->H}{w:aC}
theorem B7{w a}(h:aI (λ_=>False) w a):Bl w (Lf.re a w.tape a.drawn):=⟨h.os,rfl,h.output,h.size,λk b=>h.block k b id⟩
theorem LH{w b}(h:aI (λ_=>False) w b)(a):w.keptBut b a:=(B7 h).frame a
theorem Og{w a}(h:aI (λ_=>False) w a){p}(b:p.block<w.heap.size):w.sameAt a p:=(B7 h).same b
theorem Oh{P t}(g:laidOutB P=true)(i:P.readableRec t=true)(a:t<P.types.size){W f v d ps}
  (h:DataW.Trod enc P W 0 (λ_=>true) true t v d ps) (j:aI (λ_=>False) W f) (c:∀x∈ps,x.block<W.heap.size):
  DataW.Trod enc P f 0 (λb=>decide (b<W.heap.size)) true t v d ps:=
 WideElems.Trod_stays g i a h (λx e=>Og j (c x e)) (λx e=>by simpa using c x e)
theorem Qj{n}(h:(Lit.int .i64 n).wf=true):I64 n:=by
 simp[Lit.wf,IntKind.min,IntKind.max,IntKind.signed,IntKind.bits]at h;unfold I64;omega
end
theorem WQ:prog.globalNamed "vigil/past.ErrTime"=some 5:=aM
theorem SQ:prog.globalNamed "vigil/past.ErrAtoms"=some 6:=aM
theorem OS:prog.globalNamed "vigil/watch.ErrNoName"=some 1:=aM
theorem SS:prog.globalNamed "vigil/watch.ErrTwice"=some 2:=aM
theorem SR:prog.globalNamed "vigil/watch.ErrNone"=some 3:=aM
theorem WO:prog.globalNamed "vigil/watch.ErrFull"=some 4:=aM
theorem ZJ:(prog.globals[5]?).map (·.type)=some 89:=aM
theorem Ym:(prog.globals[6]?).map (·.type)=some 89:=aM
theorem Wv:(prog.globals[1]?).map (·.type)=some 89:=aM
theorem Yn:(prog.globals[2]?).map (·.type)=some 89:=aM
theorem Xg:(prog.globals[3]?).map (·.type)=some 89:=aM
theorem ZI:(prog.globals[4]?).map (·.type)=some 89:=aM
theorem qj{W n g b a s c t}(d:prog.globalNamed n=some g)(e:W.var? prog n=some #[.iface 357 (.pointer (some a))])(f:W.cell? a=some (.string s))(h:s.data.toList=b)(i:W.heap[a.block]?=some (.cells c t (0,0))):ik W g b a:=
 ⟨by simpa using World.var?_cell d e 0,⟨s,f,h⟩,c,t,i⟩
theorem FU{W}(h:laidMetH prog Rows.printedRow.laid W):dG W:=by
 let⟨hd,_⟩:=h;let a:=hd.tail.tail.tail.tail.tail;let⟨a0,a1,s0,s1,c0,c1,t0,t1,v0,v1,p0,q0,_,p1,q1,_,_,h0,h1⟩:=laid_sentinels2 a ZU yNs WQ ZJ underlying89 tP underlying357 underlying359 rfl rfl underlying9 Dv BJ;let⟨a2,a3,s2,s3,c2,c3,t2,t3,v2,v3,p2,q2,_,p3,q3,_,_,h2,h3⟩:=laid_sentinels2 a.tail.tail SQ Ym OS Wv underlying89 tP underlying357 underlying359 rfl rfl underlying9 Dv BJ;let⟨a4,a5,s4,s5,c4,c5,t4,t5,v4,v5,p4,q4,_,p5,q5,_,_,h4,h5⟩:=laid_sentinels2 a.tail.tail.tail.tail SS Yn SR Xg underlying89 tP underlying357 underlying359 rfl rfl underlying9 Dv BJ;let⟨a6,a7,s6,s7,c6,c7,t6,t7,v6,v7,p6,q6,_,p7,q7,_,_,h6,h7⟩:=laid_sentinels2 a.tail.tail.tail.tail.tail SR Xg WO ZI underlying89 tP underlying357 underlying359 rfl rfl underlying9 Dv BJ;exact⟨⟨a0,qj ZU v0 p0 q0 h0⟩,⟨a1,qj WQ v1 p1 q1 h1⟩,⟨a2,qj SQ v2 p2 q2 h2⟩,⟨a3,qj OS v3 p3 q3 h3⟩,⟨a4,qj SS v4 p4 q4 h4⟩,⟨a5,qj SR v5 p5 q5 h5⟩,⟨a7,qj WO v7 p7 q7 h7⟩⟩
end Go.Proofs.YtpbbmagjhkakgaaGreatDoor
