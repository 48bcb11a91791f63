import Derived.Test.YtpbbmagjhkakgaaGreatDoorA1
import Derived.WalkSpells
import Derived.WalkLawsBesides
import Derived.Deep.Trees
import Derived.Lib.AtoiAll
import Derived.Test.YtpbbmagjhkakgaaGreatDoorProg
import Derived.Shelf.Strings.BuilderRune
namespace Go.Proofs.YtpbbmagjhkakgaaGreatDoor
set_option maxHeartbeats 2000000
set_option maxRecDepth 100000
section
open Go.RowKit Go.Deep
theorem cD:type_of% @Below.refl:=@Below.refl
theorem cK:type_of% @Lib.frozen_of_heap:=@Lib.frozen_of_heap
theorem fP:type_of% @World.cell?_of_block:=@World.cell?_of_block
theorem fI:type_of% @World.ownsRow_nil:=@World.ownsRow_nil
theorem ij:type_of% @Below.heap_alloc:=@Below.heap_alloc
theorem eB:type_of% @info_parts:=@info_parts
theorem jz:type_of% @wpList_append_own:=@wpList_append_own
theorem mE:type_of% @Below.heap_setCell:=@Below.heap_setCell
theorem qz:type_of% @run_callFunc_extern:=@run_callFunc_extern
theorem sJ:type_of% @World.cell?_alloc_lt:=@World.cell?_alloc_lt
theorem ku:type_of% @Calls.mono:=@Calls.mono
theorem uI:type_of% @Lib.cell_of_heap:=@Lib.cell_of_heap
theorem oZ:type_of% @Addr.add_lit:=@Addr.add_lit
theorem Vs:type_of% @Frame.finish_at:=@Frame.finish_at
theorem CN:type_of% @Lib.run_eql_slice_nil:=@Lib.run_eql_slice_nil
theorem wI:type_of% @bodyPost_ret:=@bodyPost_ret
theorem CO:type_of% @World.size_setCell:=@World.size_setCell
theorem CQ:type_of% @World.ownsRow_lit:=@World.ownsRow_lit
theorem FG:type_of% @World.cell?_alloc_at:=@World.cell?_alloc_at
theorem Au:type_of% @setRow_other:=@setRow_other
theorem Iz:type_of% @ByteArray.toList_eq:=@ByteArray.toList_eq
theorem Av:type_of% @iterPos_of:=@iterPos_of
theorem CR:type_of% @setRow_heap:=@setRow_heap
theorem FH:type_of% @rounds_succ:=@rounds_succ
theorem MJ:type_of% @WalkArith.wf_i64:=@WalkArith.wf_i64
theorem Vt:type_of% @run_convert_bytes_back:=@run_convert_bytes_back
theorem MK:type_of% @Below.drew:=@Below.drew
theorem aL{T:Prop}(h:T:=by kernel_rfl):T:=h
theorem dV{T:Prop}(h:T:=by go_num):T:=h
theorem aV{s w}:Below s w w:=Below.refl _ _
end
section
open Go.Deep (BT)
def aM(r:Int):Int:=
 if r=33 then 172 else if r=38 then 8743 else if r=124 then 8744
 else if r=172\/r=8743\/r=8744\/r=89\/r=79\/r=72\/r=83\/r=40\/r=41\/r=91\/r=93\/r=44\/r=32 then r
 else if 97<=r/\r<=122 then 97 else if 48<=r/\r<=57 then 48 else-2
def cT(s:Int):Bool:=s==97||s==48
def mi(o:Int):Bool:=o==89||o==79||o==72||o==83
structure Tok where
 sign:Int
 place:Int
 word:a_
theorem my{a b:a_}(h:a.data.toList=b.data.toList):a=b:=by
 let⟨⟨la⟩⟩:=a;let⟨⟨lb⟩⟩:=b;simp at h;subst h;rfl
structure dD where
 op:Int
 name:a_
 lo:Int
 hi:Int
def mk(op:Int)(name:a_)(lo hi:Int)(l r:BT dD):BT dD:=.node 0 0 ⟨op,name,lo,hi⟩ l r
def bL:aB Tok->Tok×aB Tok
 |[]=>(⟨-1,0,ByteArray.empty⟩,[])
 |t::a=>if t.sign=-1 then(t,t::a)else(t,a)
def cU(s:Int)(a:aB Tok):aR (aB Tok):=if(bL a).1.sign=s then some (bL a).2 else none
def Cc:Lib.NumEnd Int->aR Int
 |.ok v=>if 1000000<v then none else some v
 |_=>none
theorem N3{x}(h:∀v,x≠.ok v):Cc x=none:=by
 cases x with
 |ok v=>exact absurd rfl (h v)
 |_=>rfl
def xr(w:a_):aR Int:=
 if 1<w.size/\w.data.toList.headD 0=48 then none
 else Cc (Lib.atoiAll w.data.toList)
def qE(a:aB Tok):aR (Int×aB Tok):=
 if(bL a).1.sign=48 then(xr (bL a).1.word).map λv=>(v,(bL a).2)else none
def dZ(op:Int)(c:aB Tok):aR ((Int×Int)×aB Tok):=
 if mi op then
  match cU 91 c with
  |none=>none
  |some e=>match qE e with
   |none=>none
   |some (a,g)=>match cU 44 g with
    |none=>none
    |some d=>match qE d with
     |none=>none
     |some (b,h)=>match cU 93 h with
      |none=>none
      |some f=>if b<a then none else some ((a,b),f)
 else some ((0,0),c)
def Fh:a_:=⟨#[116,114,117,101]⟩
def lF(t:Tok):aR (BT dD):=
 if t.word=Fh then some (mk 116 ByteArray.empty 0 0 .nil .nil)
 else if 8<t.word.size then none
 else some (mk 97 t.word 0 0 .nil .nil)
def kt(f:aB Tok->aR (BT dD×aB Tok))(op:Int)(e:aB Tok):aR (BT dD×aB Tok):=
 match dZ op e with
 |none=>none
 |some ((a,b),c)=>match f c with
  |none=>none
  |some (p,d)=>some (mk op ByteArray.empty a b p .nil,d)
def qT(f:aB Tok->aR (BT dD×aB Tok))(g:aB Tok):aR (BT dD×aB Tok):=
 match f g with
 |none=>none
 |some (p,c)=>
  if(bL c).1.sign=8743\/(bL c).1.sign=8744\/(bL c).1.sign=83 then
   match dZ (bL c).1.sign (bL c).2 with
   |none=>none
   |some ((a,b),e)=>match f e with
    |none=>none
    |some (q,d)=>match cU 41 d with
     |none=>none
     |some h=>some (mk (bL c).1.sign ByteArray.empty a b p q,h)
  else none
def oV(f:aB Tok->aR (BT dD×aB Tok))(a:aB Tok):aR (BT dD×aB Tok):=
 if(bL a).1.sign=97 then(lF (bL a).1).map λx=>(x,(bL a).2)
 else if(bL a).1.sign=40 then qT f (bL a).2
 else if(bL a).1.sign=172\/(bL a).1.sign=89\/(bL a).1.sign=79\/(bL a).1.sign=72 then kt f (bL a).1.sign (bL a).2
 else none
def l_:Nat->aB Tok->aR (BT dD×aB Tok)
 |0=>λ_=>none
 |n+1=>oV (l_ n)
def Ends(b:aB Tok):Prop:=∃a e,b=a++[e]/\e.sign=-1/\e.word.size<=300/\∀t,t∈a->t.sign≠-1/\t.word.size<=300
theorem Ends.take{a}(h:Ends a):Ends (bL a).2/\(bL a).2.length<=a.length/\((bL a).1.sign≠-1->(bL a).2.length+1=a.length):=by
 obtain⟨b,e,rfl,d,g,c⟩:=h
 match b,c with
 |[],_=>simp[bL,d];exact⟨[],e,rfl,d,g,aF⟩
 |t::f,c=>
  simp[bL,((c t aF).1)];exact⟨f,e,rfl,d,g,λx i=>c x (by simp[i])⟩
theorem Ends.word{c}(h:Ends c):(bL c).1.word.size<=300:=by
 obtain⟨a,e,rfl,g,i,b⟩:=h
 match a,b with
 |[],_=>simp[bL,g];exact i
 |t::f,b=>
  let d:=b t aF;simp[bL,d.1];exact d.2
theorem Ends.cons{c}(h:Ends c):∃t r,c=t::r:=by
 obtain⟨b,e,rfl,_⟩:=h;cases b with
 |nil=>exact⟨_,_,rfl⟩
 |cons a l=>exact⟨_,_,rfl⟩
theorem Ends.expect{b r s}(h:Ends b)(a:cU s b=some r):Ends r/\r.length<=b.length:=by
 unfold cU at a;split at a
 .injection a with a;subst a;exact⟨h.take.1,h.take.2.1⟩
 .cases a
theorem Ends.num{b r v}(h:Ends b)(a:qE b=some (v,r)):Ends r/\r.length<=b.length:=by
 unfold qE at a;split at a
 .cases c:xr (bL b).1.word with
  |none=>simp[c]at a
  |some x=>simp[c]at a;obtain⟨_,rfl⟩:=a;exact⟨h.take.1,h.take.2.1⟩
 .cases a
theorem Ends.Bz{d r op ab}(h:Ends d)(c:dZ op d=some (ab,r)):Ends r/\r.length<=d.length:=by
 unfold dZ at c;split at c
 .cases e:cU 91 d with
  |none=>simp[e]at c
  |some l=>
   let⟨e1,l1⟩:=h.expect e;simp only[e]at c;cases g:qE l with
   |none=>simp[g]at c
   |some x=>
    let⟨a,t2⟩:=x;let⟨e2,l2⟩:=e1.num g;simp only[g]at c;cases i:cU 44 t2 with
    |none=>simp[i]at c
    |some k=>
     let⟨e3,l3⟩:=e2.expect i;simp only[i]at c;cases j:qE k with
     |none=>simp[j]at c
     |some y=>
      let⟨b,t4⟩:=y;let⟨e4,l4⟩:=e3.num j;simp only[j]at c;cases f:cU 93 t4 with
      |none=>simp[f]at c
      |some m=>
       let⟨e5,l5⟩:=e4.expect f;simp only[f]at c;split at c
       .cases c
       .injection c with c;injection c with _ c;subst c;exact⟨e5,aA⟩
 .injection c with c;injection c with _ c;subst c;exact⟨h,aZ⟩
def xx(f:aB Tok->aR (BT dD×aB Tok)):Prop:=∀a T r,Ends a->f a=some (T,r)->Ends r/\r.length<=a.length
theorem Jh{f}(i:xx f)(op):xx (kt f op):=by
 intro g T r h c;unfold kt at c;cases d:dZ op g with
 |none=>simp[d]at c
 |some x=>
  let⟨⟨a,b⟩,t1⟩:=x;let⟨e1,l1⟩:=h.Bz d;simp only[d]at c;cases e:f t1 with
  |none=>simp[e]at c
  |some y=>
   let⟨p,t2⟩:=y;let⟨e2,l2⟩:=i _ _ _ e1 e;simp only[e]at c;injection c with c;injection c with _ c;subst c;exact⟨e2,aA⟩
theorem NQ{f}(j:xx f):xx (qT f):=by
 intro k T r h c;unfold qT at c;cases d:f k with
 |none=>simp[d]at c
 |some x=>
  let⟨p,t1⟩:=x;let⟨e1,l1⟩:=j _ _ _ h d;simp only[d]at c;split at c
  .cases e:dZ (bL t1).1.sign (bL t1).2 with
   |none=>simp[e]at c
   |some y=>
    let⟨⟨a,b⟩,t2⟩:=y;let⟨e2,l2⟩:=e1.take.1.Bz e;let l1':=e1.take.2.1;simp only[e]at c;cases g:f t2 with
    |none=>simp[g]at c
    |some z=>
     let⟨q,t3⟩:=z;let⟨e3,l3⟩:=j _ _ _ e2 g;simp only[g]at c;cases i:cU 41 t3 with
     |none=>simp[i]at c
     |some l=>
      let⟨e4,l4⟩:=e3.expect i;simp only[i]at c;injection c with c;injection c with _ c;subst c;exact⟨e4,aA⟩
  .cases c
theorem NR{f}(d:xx f):xx (oV f):=by
 intro e T r h a;let b:=h.take;unfold oV at a;split at a
 .cases c:lF (bL e).1 with
  |none=>simp[c]at a
  |some x=>simp[c]at a;obtain⟨_,rfl⟩:=a;exact⟨b.1,b.2.1⟩
 .split at a
  .have:=NQ d _ _ _ b.1 a;exact⟨this.1,aA⟩
  .split at a
   .have:=Jh d _ _ _ _ b.1 a;exact⟨this.1,aA⟩
   .cases a
theorem qO:∀n,xx (l_ n)
 |0=>λ_ _ _ _ a=>by cases a
 |n+1=>NR (qO n)
end
section
open Go.RowKit Go.Deep Tryz
abbrev Bl(w a:aC):Prop:=Below w.heap.size w a
abbrev Pt(b:Nat):aE:=.pointer (some ⟨b,0,none⟩)
abbrev Sl(b n c:Nat):aE:=.slice (some ⟨b,0,none⟩) n c
abbrev Iv(x:Int):aE:=.int .i64 x
abbrev Ad(b k:Nat):bC:=⟨b,k,none⟩
theorem iH{k a b}(h:a=b):Ending.returned (.int k a)=.returned (.int k b):=by rw[h]
structure Only(s:Nat)(w w':aC):Prop where
 os:w'.os=w.os
 tape:w'.tape=w.tape
 output:w'.output=w.output
 size:w.heap.size<=w'.heap.size
 block:∀k,k<w.heap.size->k≠s->w'.heap[k]?=w.heap[k]?
theorem Only.refl(s w):Only s w w:=⟨rfl,rfl,rfl,aZ,λ_ _ _=>rfl⟩
theorem Only.trans{s a b c}(h:Only s a b)(k:Only s b c):Only s a c:=
 ⟨k.os.trans h.os,k.tape.trans h.tape,k.output.trans h.output,gH h.size k.size,λi hi d=>(k.block i (fZ hi h.size) d).trans (h.block i hi d)⟩
theorem Only.aS{s a b}(h:Bl a b):Only s a b:=
 ⟨h.os,h.tape,h.output,h.size,λk c _=>h.block k c⟩
theorem Only.below{s B a b}(h:Only s a b)(d:B<=s)(e:B<=a.heap.size):Below B a b:=
 ⟨h.os,h.tape,h.output,h.size,λk c=>h.block k aA aA⟩
theorem Only.drew{s a w}(h:Only s a w):Only s a w.drew:=⟨h.os,h.tape,h.output,h.size,h.block⟩
theorem Only.alloc{s a w}(h:Only s a w)(o):Only s a (w.alloc o):=
 h.trans ⟨rfl,rfl,rfl,aF,λk b _=>ij _ _ _ b⟩
theorem Only.setCell{s a w}(h:Only s a w){p}(d:p.block=s\/a.heap.size<=p.block)(u):Only s a (w.setCell p u):=
 ⟨h.os,h.tape,h.output,by simpa[World.setCell]using h.size,λk b c=>(mE _ _ _ _ aA).trans (h.block k b c)⟩
theorem Only.heap{s a w}(h:Only s a w){k o}(b:a.heap[k]?=some o)(c:k≠s):w.heap[k]?=some o:=by
 rw[h.block k (jR.1 b).1 c];exact b
theorem _root_.Go.RowKit.Below.aT{a w}(h:Bl a w){k:Nat}{o}(b:a.heap[k]?=some o):w.heap[k]?=some o:=by
 rw[h.block k (jR.1 b).1];exact b
theorem _root_.Go.Calls.m{P f x w v}{R:aC->bQ}{Q}(h:Calls P f x w λe w'=>e=.returned v/\R w')(k:∀w',R w'->Q (.returned v) w'):Calls P f x w Q:=h.mono λ_ w' ⟨a,b⟩=>a▸k w' b
theorem _root_.Go.Calls.m0{P f x w v Q}(h:Calls P f x w λe c=>e=.returned v/\c=w)(k:Q (.returned v) w):Calls P f x w Q:=h.mono λ_ _ ⟨a,b⟩=>by rw[a,b];exact k
theorem zm{T:bQ}(h:T:=by simp only[intOf];omega):T:=h
theorem _root_.Go.RowKit.Below.al{a w}(h:Bl a w)(o):Bl a (w.alloc o):=h.alloc h.size o
theorem _root_.Go.RowKit.Below.tr{a b c}(h:Bl a b)(k:Bl b c):Bl a c:=h.trans (k.mono h.size)
theorem Only.tb{s a b c}(h:Only s a b)(k:Bl b c):Only s a c:=h.trans (Only.aS k)
theorem aN{w:aC}{k o}(h:w.heap[k]?=some o):k<w.heap.size:=(jR.1 h).1
theorem aD{w:aC}{k i c e m v}(h:w.heap[k]?=some (.cells c e m))(a:c[i]?=some v):w.cell? (Ad k i)=some v:=by
 simp[World.cell?,h,a]
theorem hid{p:bQ}(h:p):Hid p:=h
theorem cs4{w:aC}{k c e m v0 v1 v2 v3}(h:w.heap[k]?=some (.cells c e m))(a:c[0]?=some v0:=by rfl)(h1:c[1]?=some v1:=by rfl)(h2:c[2]?=some v2:=by rfl)(h3:c[3]?=some v3:=by rfl):w.cell? (Ad k 0)=some v0/\w.cell? (Ad k 1)=some v1/\w.cell? (Ad k 2)=some v2/\w.cell? (Ad k 3)=some v3:=⟨aD h a,aD h h1,aD h h2,aD h h3⟩
theorem cs5{w:aC}{k c e m v0 v1 v2 v3 v4}(h:w.heap[k]?=some (.cells c e m))(a:c[0]?=some v0:=by rfl)(h1:c[1]?=some v1:=by rfl)(h2:c[2]?=some v2:=by rfl)(h3:c[3]?=some v3:=by rfl)(h4:c[4]?=some v4:=by rfl):w.cell? (Ad k 0)=some v0/\w.cell? (Ad k 1)=some v1/\w.cell? (Ad k 2)=some v2/\w.cell? (Ad k 3)=some v3/\w.cell? (Ad k 4)=some v4:=⟨aD h a,aD h h1,aD h h2,aD h h3,aD h h4⟩
theorem eS{w:aC}{p v}(h:w.cell? p=some v):p.block<w.heap.size:=by
 rcases BI p.block w.heap.size with a|a
 .exact a
 .simp[World.cell?,ML a]at h
def fC(t:Tok):aB aE:=[.int .i32 t.sign,Iv t.place,.string t.word]
def uX(B:Nat)(w:aC)(v:aE)(a:aB Tok):Prop:=
 ∃tb off cap b e m tail,v=.slice (some (Ad tb off)) a.length cap/\tb<B/\w.heap[tb]?=some (.cells b e m)/\a.length<=cap/\cap<=maxLen/\b.toList.drop off=(a.map fC).flatten++tail
theorem uX.only{B s w w' v b}(h:uX B w v b)(f:Only s w w')(g:B<=s):uX B w' v b:=by
 obtain⟨tb,off,cap,c,e,m,tail,rfl,a,d,r⟩:=h;exact⟨tb,off,cap,c,e,m,tail,rfl,a,f.heap d aA,r⟩
def kB(T:TypeId)(a:Nat)(w:aC)(b:aB Tok):Prop:=∃v,w.heap[a]?=some (.cells #[v] T (0,0))/\uX a w v b
theorem kB.lt{T a w c}(h:kB T a w c):a<w.heap.size:=by
 obtain⟨v,b,_⟩:=h;exact aN b
theorem kB.below{T a w d c}(h:kB T a w c)(b:Bl w d):kB T a d c:=by
 obtain⟨v,e,f⟩:=h;exact⟨v,Below.aT b e,f.only (s:=a) (Only.aS b) aZ⟩
theorem kB.alloc{T a w b}(h:kB T a w b)(o):kB T a (w.alloc o) b:=
 h.below (aV.alloc aZ o)
theorem kB.setCell{T a w b}(h:kB T a w b){p}(e:a<p.block)(u):kB T a (w.setCell p u) b:=by
 obtain⟨v,c,d⟩:=h;exact⟨v,by rw[mE _ _ _ _ aA];exact c,d.only (s:=p.block) ((Only.refl _ _).setCell (.inl rfl) _) aA⟩
def bG(S:TypeId)(B:Nat)(w:aC):BT dD->aE->Prop
 |.nil,v=>v=.pointer none
 |.node _ _ a l r,v=>∃b vl vr,v=(Pt b)/\B<=b/\w.heap[b]?=some (.cells #[.int .i32 a.op,.string a.name,Iv a.lo,Iv a.hi,vl,vr] S (0,0))/\bG S B w l vl/\bG S B w r vr
theorem bG.heap{S:TypeId}{B:Nat}{w w':aC}(a:∀k o,B<=k->w.heap[k]?=some o->w'.heap[k]?=some o):∀{x:BT dD}{v:aE},bG S B w x v->bG S B w' x v
 |.nil,_,h=>h
 |.node _ _ _ l r,_,⟨b,g,i,e,c,f,d,j⟩=>⟨b,g,i,e,c,a b _ c f,bG.heap a (x:=l) d,bG.heap a (x:=r) j⟩
theorem bG.only{S B s w w' x v}(h:bG S B w x v)(b:Only s w w')(d:s<B):bG S B w' x v:=
 bG.heap (λk o c a=>b.heap a aA) h
theorem bG.below{S B w a x v}(h:bG S B w x v)(c:Bl w a):bG S B a x v:=
 bG.heap (λ_ _ _ b=>Below.aT c b) h
theorem bG.low{S:TypeId}{B B':Nat}{w:aC}(a:B'<=B):∀{x:BT dD}{v:aE},bG S B w x v->bG S B' w x v
 |.nil,_,h=>h
 |.node _ _ _ l r,_,⟨b,f,i,e,g,d,c,j⟩=>⟨b,f,i,e,gH a g,d,bG.low a (x:=l) c,bG.low a (x:=r) j⟩
theorem aQ(w:aC)(o k)(h:k=w.heap.size):(w.alloc o).heap[k]?=some o:=by
 subst h;show(w.heap.push o)[w.heap.size]?=some o;simp
theorem pn{S B b w op lo hi name l r a c}(f:B<=b)(e:w.heap[b]?=some (.cells #[.int .i32 op,.string name,Iv lo,Iv hi,a,c] S (0,0)))
  (d:bG S B w l a) (g:bG S B w r c):bG S B w (mk op name lo hi l r) (Pt b):=⟨b,a,c,rfl,f,e,d,g⟩
theorem gZ{S B w x v}(h:bG S B w x v):∃c,v=Value.pointer c:=by
 cases x with
 |nil=>exact⟨_,h⟩
 |node _ _ _ _ _=>obtain⟨b,_,_,a,_⟩:=h;exact⟨_,a⟩
theorem TG(s:a_)(h:0<s.size):s.data.toList.headD 0=s[0]:=by
 obtain⟨⟨l⟩⟩:=s;cases l with
 |nil=>simp[ByteArray.size]at h
 |cons a l=>rfl
theorem Ic{B w v t b}(h:uX B w v (t::b)):
  ∃tb off cap,v=.slice (some (Ad tb off)) (b.length+1) cap/\tb<B/\b.length+1<=cap/\cap<=maxLen/\w.cell? (Ad tb off)=some (.int .i32 t.sign)/\w.cell? (Ad tb (off+1))=some (Iv t.place)/\w.cell? (Ad tb (off+2))=some (.string t.word)/\
   ∀s f,Only s w f->B<=s->uX B f (.slice (some (Ad tb (off+3))) b.length (cap-1)) b:=by
 obtain⟨tb,off,cap,d,e,m,tail,rfl,a,c,k,n,l⟩:=h;let g:∀i v,i<3->(fC t)[i]?=some v->d[off+i]?=some v:=by
  intro i v hi o;let j:(d.toList.drop off)[i]?=some v:=by
   rw[l];simp only[hY,CG,nC];rw[uw (by simp[fC];omega)];exact o
  rw[uN]at j;simpa using j
 refine⟨tb,off,cap,aF,a,by simpa using k,n,aD c (g 0 _ aA rfl),aD c (g 1 _ aA rfl),aD c (g 2 _ aA rfl),?_⟩;intro s f p q;refine⟨tb,off+3,cap-1,d,e,m,tail,rfl,a,p.heap c aA,by simp at k;omega,aA,?_⟩;rw[<-List.drop_drop,l];simp[fC]
theorem XK:(prog.info? 137).map (·.size)=some 2:=aL
theorem aam:liesAt prog prog.depth 137 (2/prog.cellsOf 137) 0 137 1=true:=aL
theorem tU:(prog.info? 5).map (λi=>(i.zero,i.size,i.bytes))=some (some (.int .u8 0),1,1):=aL
def yG(B b:Nat)(a:aB aE)(w:aC):Prop:=Lib.IsBuilderF 137 5 B b a w
def IC(B b:Nat)(c:aB aE)(w a:aC):Prop:=yG B b c a/\Below B w a/\Lib.OthersKept 5 (some b) w a
theorem DZ(b w)(d:w.cell? (Ad b 0)=some (Pt b)):
  Calls prog 162 #[Pt b] w λe a=>e=.returned (.tuple #[])/\a=w:=by
 let⟨j,hj,_⟩:=nA.1 XK;let c:=λ(w:aC)=>Lib.run_neq_ptr_same (P:=prog) w (Ad b 0) underlying135 hj;go_enter func162,ntmps162;go_wp2
 go_end0
 exact⟨rfl,rfl⟩
theorem CX(b w)(h:w.cell? (Ad b 0)=some (.pointer none))(a:w.shape? b=some (137,2))(c:w.frozen? (Ad b 0)=false):
  Calls prog 162 #[Pt b] w λe d=>e=.returned (.tuple #[])/\d=w.setCell (Ad b 0) (Pt b):=by
 let⟨j,hj,hjs⟩:=nA.1 XK;let f:=λ(w:aC)=>Lib.run_neq_ptr_same (P:=prog) w (Ad b 0) underlying135 hj;let x1:=Lib.run_to_unsafe w (Ad b 0) underlying135 underlying275 hj (by rw[hjs];decide) a (Nat.zero_lt_succ 1);let x2:=@qz prog 189 _ Extern.AbiNoEscape.same func189 aL aL aL aL;let x3:=Lib.run_from_unsafe w (Ad b 0) underlying275 underlying135 hj a aam;let g:=@Lib.run_noEscape prog;go_enter func162,ntmps162;go_wp2
 go_end0
 exact⟨rfl,rfl⟩
theorem ri(B b c w)(h:yG B b c w):
  Calls prog 162 #[Pt b] w λe a=>e=.returned (.tuple #[])/\(Lib.BuilderAtF 137 5 B b (Pt b) c a/\Below B w a/\Lib.OthersKept 5 (some b) w a):=by
 obtain h|h:=h
 .refine(CX b w h.cell0 h.shape h.frozen0).mono ?_;rintro e a ⟨rfl,rfl⟩;exact⟨rfl,h.used _,(cD B w).setCell (p:=(Ad b 0)) h.1 _,(Lib.OthersKept.refl _ _ w).setCell (Ad b 0) rfl _⟩
 .refine(DZ b w h.cell0).m0 ?_;exact⟨rfl,h,cD B _,Lib.OthersKept.refl _ _ _⟩
theorem Gy(B b l c w)(h:yG B b l w)(t:l.length+1<=140737488355328)(D:B<=w.heap.size):
  Calls prog 163 #[Pt b,.int .u8 c] w λe E=>e=.returned .nilIface/\IC B b (l++[.int .u8 c]) w E:=by
 let⟨i0,hi,nI,nJ,nS⟩:=eB tU;go_enter func163,ntmps163;go_wp2_with fail;refine(ri B b l _ h).m λm ⟨C,f,q⟩=>?_;let⟨hB,v,Pw,qi,hne⟩:=C;let J:m.cell? (Ad b 0)=some (Pt b):=by rw[uI Pw];rfl
 let c1:m.cell? (Ad b 1)=some v:=by rw[uI Pw];rfl
 let o:=aN Pw;go_wp2_with (at_builtin;refine wpList_append_ownF _ rfl _ _ 99 rfl B 5 i0 (.int .u8 0) 1 1 underlying99 hi nI nJ nS rfl aG _ _ _ rfl (qi.alloc _) (Ad m.heap.size 0) 1 1 [.int .u8 c] rfl rfl ?c1 ?c2 ?c3 ?c4 ?c5 ?_)
 case c1=>
  intro j u n
  match j,n with
  |0,n=>simp at n;subst n;simp[Addr.add]
 case c2=>intro u s;simp at s;subst s;rfl
 case c3=>unfold maxLen;omega
 case c4=>omega
 case c5=>have:=f.size;simp;omega
 intro A r d a _;let i:r.heap[b]?=some (.cells #[Pt b,v] 137 (0,0)):=by
  rw[a.block b bI λe=>hne e.symm,Lib.alloc_old m _ b o];exact Pw
 let d0:r.cell? (Ad b 0)=some (Pt b):=by rw[uI i];rfl
 let G:r.cell? (Ad b 1)=some v:=by rw[uI i];rfl
 let F:=cK i 1;obtain⟨g,cap,rfl⟩:∃g cap,A=Sl g (l.length+1) cap:=by
  obtain⟨_,H⟩|⟨g,cap,x,I,z,_⟩:=d.2
  .omega
  .exact⟨g,cap,z⟩
 go_wp2;go_ret;refine⟨rfl,.inr (Lib.BuilderAtF.put (T:=137) (e:=5) hB i (bs':=l++[.int .u8 c]) (by simpa using d) aG),?_,((q.alloc _).grown a (Lib.ownsRowF_kind (qi.alloc _))).setCell (Ad b 1) rfl _⟩
 .exact((f.alloc (by have:=f.size;omega) _).grown a (by have:=f.size;simp;omega) λk y=>(qi.lt k y).1).setCell (p:=(Ad b 1)) hB _
theorem Df(B b i s w)(h:yG B b i w)(o:i.length+s.size<=140737488355328)(y:B<=w.heap.size):
  Calls prog 120 #[Pt b,.string s] w λe z=>e=.returned (.tuple #[Iv s.size,.nilIface])/\IC B b (i++Lib.strCells s) w z:=by
 let⟨i0,hi,nI,nJ,nS⟩:=eB tU;go_enter func120,ntmps120;go_wp2_with fail;refine(ri B b i _ h).m λn ⟨x,f,l⟩=>?_;let⟨hB,v,Pw,qi,hne⟩:=x;let F:n.cell? (Ad b 0)=some (Pt b):=by rw[uI Pw];rfl
 let A:n.cell? (Ad b 1)=some v:=by rw[uI Pw];rfl
 go_wp2_with (at_builtin;refine Lib.wpList_append_own_stringF _ rfl _ _ 99 9 rfl B 5 i0 underlying99 underlying9 hi nI nJ nS _ _ _ rfl qi s rfl ?c3 ?c4 ?c5 ?_)
 case c3=>unfold maxLen;omega
 case c4=>omega
 case c5=>have:=f.size;omega
 intro u m c a _;let d:m.heap[b]?=some (.cells #[Pt b,v] 137 (0,0)):=by
  rw[a.block b (aN Pw) λe=>hne e.symm];exact Pw
 let d0:m.cell? (Ad b 0)=some (Pt b):=by rw[uI d];rfl
 let D:m.cell? (Ad b 1)=some v:=by rw[uI d];rfl
 let C:=cK d 1;obtain⟨ao,q,cap,rfl⟩:∃ao q cap,u=.slice ao q cap:=by
  obtain⟨j,_⟩|⟨g,cap,r,E,j,_⟩:=c.2
  .exact⟨_,_,_,j⟩
  .exact⟨_,_,_,j⟩
 go_wp2;go_ret2;refine⟨rfl,.inr (Lib.BuilderAtF.put (T:=137) (e:=5) hB d (bs':=i++Lib.strCells s) (by simpa[Lib.strCells_length]using c) aG),?_,(l.grown a (Lib.ownsRowF_kind qi)).setCell (Ad b 1) rfl _⟩
 .exact(f.grown a (by have:=f.size;omega) λk t=>(qi.lt k t).1).setCell (p:=(Ad b 1)) hB _
theorem Bg(s w):
  Calls prog 153 #[.int .i32 s] w λe a=>e=.returned (.bool (cT s))/\a=w:=by
 go_enter func153,ntmps153;go_wp2
 all_goals go_ret
 all_goals exact⟨by simp_all[cT],rfl⟩
theorem rv(s w):
  Calls prog 165 #[.int .i32 s] w λe a=>e=.returned (.bool (mi s))/\a=w:=by
 go_enter func165,ntmps165;go_wp2
 all_goals go_ret
 all_goals exact⟨by simp_all[mi],rfl⟩
theorem OT(r w):
  Calls prog 151 #[.int .i32 r] w λe a=>e=.returned (.int .i32 (aM r))/\a=w:=by
 go_enter func151,ntmps151;go_wp2
 all_goals go_ret
 all_goals refine⟨iH ?_,rfl⟩
 all_goals(try simp_all[aM])
 all_goals((repeat' split)<;>intros<;>omega)
theorem R4(b tb off n cap a c w)(d:w.heap[b]?=some (.cells #[.slice (some (Ad tb off)) (n+1) cap] 208 (0,0)))
  (f:w.cell? (Ad tb off)=some (.int .i32 (-1))) (k:w.cell? (Ad tb (off+1))=some (Iv a)) (j:w.cell? (Ad tb (off+2))=some (.string c)):
  Calls prog 154 #[Pt b] w λe i=>e=.returned (.agg #[.int .i32 (-1),Iv a,.string c])/\Bl w i:=by
 let l:w.cell? (Ad b 0)=some (.slice (some (Ad tb off)) (n+1) cap):=aD d rfl;let g:=aN d;let h:=eS f;go_enter func154,ntmps154;go_wp2;refine wI (v:=.agg #[.int .i32 (-1),Iv a,.string c]) (by simp[results,results154,go_sem]) rfl ⟨rfl,?_⟩;exact(aV.alloc aZ _).alloc aF _
theorem Xa(a tb off n cap c d f w)(b:w.heap[a]?=some (.cells #[.slice (some (Ad tb off)) (n+1) cap] 208 (0,0)))
  (l:w.cell? (Ad tb off)=some (.int .i32 c)) (r:w.cell? (Ad tb (off+1))=some (Iv d)) (o:w.cell? (Ad tb (off+2))=some (.string f)) (k:(c !=-1)=true) (h:n+1<=cap) (_hmax:cap<=maxLen) (q:1<=n):
  Calls prog 154 #[Pt a] w λe g=>e=.returned (.agg #[.int .i32 c,Iv d,.string f])/\Only a w g/\g.heap[a]?=some (.cells #[.slice (some (Ad tb (off+3))) n (cap-1)] 208 (0,0)):=by
 let s:w.cell? (Ad a 0)=some (.slice (some (Ad tb off)) (n+1) cap):=aD b rfl;let m:=aN b;let j:=eS l;let i:=cK b 0;unfold maxLen at _hmax;go_enter func154,ntmps154;go_wp2;refine wI (v:=.agg #[.int .i32 c,Iv d,.string f]) (by simp[results,results154,go_sem]) rfl ⟨rfl,(((Only.refl a w).setCell (p:=(Ad a 0)) (.inl rfl) _).alloc _).alloc _,?_⟩
 .rw[Lib.alloc_old _ _ _ (by simp[World.setCell];omega),Lib.alloc_old _ _ _ (by simp[World.setCell];omega)];simp[World.setCell,uy,b]
theorem sG(g:Nat)(d:aB Tok)(w:aC)(h:kB 208 g w d)(m:Ends d):
  Calls prog 154 #[Pt g] w λe j=>e=.returned (.agg #[.int .i32 (bL d).1.sign,Iv (bL d).1.place,.string (bL d).1.word])/\Only g w j/\kB 208 g j (bL d).2:=by
 let x:=m.take;let⟨v,hv,n⟩:=h
 match d,m,x,n with
 |[],⟨f,e,b,_⟩,_,_=>exact absurd b aF
 |t::r,m,x,n=>
  obtain⟨tb,off,cap,rfl,B,l,k,p,y,u,c⟩:=Ic n;by_cases i:t.sign=-1
  .rw[i]at p;refine(R4 g tb off r.length cap t.place t.word w hv p y u).m λj s=>?_;let q:bL (t::r)=(t,t::r):=by simp[bL,i]
   rw[q,i];exact⟨rfl,Only.aS s,_,Below.aT s hv,n.only (Only.aS s) aZ⟩
  .let q:bL (t::r)=(t,r):=by simp[bL,i]
   let A:1<=r.length:=by
    let⟨f,e,b,hes,_⟩:=m;cases f with
    |nil=>simp at b;exact absurd (b.1▸hes) i
    |cons a f=>simp at b;rw[b.2];simp
   refine(Xa g tb off r.length cap t.sign t.place t.word w hv p y u (by simp[i]) l k A).m λj ⟨z,o⟩=>?_;rw[q];exact⟨rfl,z,_,o,c g j z aZ⟩
end
end Go.Proofs.YtpbbmagjhkakgaaGreatDoor
