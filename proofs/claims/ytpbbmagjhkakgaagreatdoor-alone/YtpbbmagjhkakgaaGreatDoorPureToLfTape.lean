import Derived.Deep.Trees
import Derived.Lib.AtoiAll
import Derived.WalkKit
import Derived.WalkSpells
import Derived.WalkLawsBesides
import Derived.Lib.OthersKept
import Derived.Laws.RangeAny
import Derived.Lib.Strings
import Derived.Lib.ItoaNum
import Derived.OrdersHeld
import Derived.Conc.CompanyMem
import Derived.Conc.Beside
namespace Go.Proofs.YtpbbmagjhkakgaaGreatDoor
section
open Go.Deep (BT)
def bM (r:Int):Int :=
 if r=33 then 172 else if r=38 then 8743 else if r=124 then 8744
 else if r=172\/r=8743\/r=8744\/r=89\/r=79\/r=72\/r=83\/r=40\/r=41\/r=91\/r=93\/r=44\/r=32 then r
 else if 97<=r/\r<=122 then 97 else if 48<=r/\r<=57 then 48 else -2
def gR (s:Int):Bool:=s==97||s==48
def lC (o:Int):Bool:=o==89||o==79||o==72||o==83
structure Tok where
 sign:Int
 place:Int
 word:ByteArray
theorem rX {a b:ByteArray} (h:a.data.toList=b.data.toList):a=b:=by
 obtain ⟨⟨la⟩⟩:=a
 obtain ⟨⟨lb⟩⟩:=b
 simp at h
 subst h
 rfl
structure aO where
 op:Int
 name:ByteArray
 lo:Int
 hi:Int
def mk (op:Int) (name:ByteArray) (lo hi:Int) (l r:BT aO):BT aO:=.node 0 0 ⟨op,name,lo,hi⟩ l r
def aH:List Tok->Tok×List Tok
 | []=>(⟨-1,0,ByteArray.empty⟩,[])
 | t::ts=>if t.sign = -1 then (t,t::ts) else (t,ts)
def bm (s:Int) (ts:List Tok):Option (List Tok):=if (aH ts).1.sign=s then some (aH ts).2 else none
def okNum:Lib.NumEnd Int->Option Int
 | .ok v=>if 1000000<v then none else some v
 | _=>none
theorem okNum_none {x:Lib.NumEnd Int} (h:∀ v,x≠.ok v):okNum x=none:=by
 cases x with
 | ok v=>exact absurd rfl (h v)
 | _=>rfl
def vq (w:ByteArray):Option Int :=
 if 1<w.size/\w.data.toList.headD 0=48 then none
 else okNum (Lib.atoiAll w.data.toList)
def p8 (ts:List Tok):Option (Int×List Tok) :=
 if (aH ts).1.sign=48 then (vq (aH ts).1.word).map fun v=>(v,(aH ts).2) else none
def bX (op:Int) (ts:List Tok):Option ((Int×Int)×List Tok) :=
 if lC op then
  match bm 91 ts with
  | none=>none
  | some t1=>match p8 t1 with
   | none=>none
   | some (a,t2)=>match bm 44 t2 with
    | none=>none
    | some t3=>match p8 t3 with
     | none=>none
     | some (b,t4)=>match bm 93 t4 with
      | none=>none
      | some t5=>if b<a then none else some ((a,b),t5)
 else some ((0,0),ts)
def vU:ByteArray:=⟨#[116,114,117,101]⟩
def jr (t:Tok):Option (BT aO) :=
 if t.word=vU then some (mk 116 ByteArray.empty 0 0 .nil .nil)
 else if 8<t.word.size then none
 else some (mk 97 t.word 0 0 .nil .nil)
def gO (f:List Tok->Option (BT aO×List Tok)) (op:Int) (ts:List Tok):Option (BT aO×List Tok) :=
 match bX op ts with
 | none=>none
 | some ((a,b),t1)=>match f t1 with
  | none=>none
  | some (p,t2)=>some (mk op ByteArray.empty a b p .nil,t2)
def oW (f:List Tok->Option (BT aO×List Tok)) (ts:List Tok):Option (BT aO×List Tok) :=
 match f ts with
 | none=>none
 | some (p,t1) =>
  if (aH t1).1.sign=8743\/(aH t1).1.sign=8744\/(aH t1).1.sign=83 then
   match bX (aH t1).1.sign (aH t1).2 with
   | none=>none
   | some ((a,b),t2)=>match f t2 with
    | none=>none
    | some (q,t3)=>match bm 41 t3 with
     | none=>none
     | some t4=>some (mk (aH t1).1.sign ByteArray.empty a b p q,t4)
  else none
def jG (f:List Tok->Option (BT aO×List Tok)) (ts:List Tok):Option (BT aO×List Tok) :=
 if (aH ts).1.sign=97 then (jr (aH ts).1).map fun x=>(x,(aH ts).2)
 else if (aH ts).1.sign=40 then oW f (aH ts).2
 else if (aH ts).1.sign=172\/(aH ts).1.sign=89\/(aH ts).1.sign=79\/(aH ts).1.sign=72 then gO f (aH ts).1.sign (aH ts).2
 else none
def gT:Nat->List Tok->Option (BT aO×List Tok)
 | 0=>fun _=>none
 | n+1=>jG (gT n)
def Ends (ts:List Tok):Prop:=∃ front e,ts=front++[e]/\e.sign = -1/\e.word.size<=300/\∀ t,t∈front->t.sign≠-1/\t.word.size<=300
theorem Ends.take {ts:List Tok} (h:Ends ts):Ends (aH ts).2/\(aH ts).2.length<=ts.length/\((aH ts).1.sign≠-1->(aH ts).2.length+1=ts.length):=by
 obtain ⟨front,e,rfl,he,hs,hf⟩:=h
 match front,hf with
 | [],_=>simp [aH,he];exact ⟨[],e,rfl,he,hs,by simp⟩
 | t::f,hf =>
  have ht:=(hf t (by simp)).1
  simp [aH,ht]
  exact ⟨f,e,rfl,he,hs,fun x hx=>hf x (by simp [hx])⟩
theorem Ends.word {ts:List Tok} (h:Ends ts):(aH ts).1.word.size<=300:=by
 obtain ⟨front,e,rfl,he,hs,hf⟩:=h
 match front,hf with
 | [],_=>simp [aH,he];exact hs
 | t::f,hf =>
  have ht:=hf t (by simp)
  simp [aH,ht.1];exact ht.2
theorem Ends.cons {ts:List Tok} (h:Ends ts):∃ t r,ts=t::r:=by
 obtain ⟨front,e,rfl,_⟩:=h
 cases front with
 | nil=>exact ⟨_,_,rfl⟩
 | cons a l=>exact ⟨_,_,rfl⟩
theorem Ends.expect {ts r:List Tok} {s:Int} (h:Ends ts) (he:bm s ts=some r):Ends r/\r.length<=ts.length:=by
 unfold bm at he
 split at he
 ·injection he with he;subst he;exact ⟨h.take.1,h.take.2.1⟩
 ·cases he
theorem Ends.num {ts r:List Tok} {v:Int} (h:Ends ts) (he:p8 ts=some (v,r)):Ends r/\r.length<=ts.length:=by
 unfold p8 at he
 split at he
 ·cases hb:vq (aH ts).1.word with
  | none=>simp [hb] at he
  | some x=>simp [hb] at he;obtain ⟨_,rfl⟩:=he;exact ⟨h.take.1,h.take.2.1⟩
 ·cases he
theorem Ends.window {ts r:List Tok} {op:Int} {ab:Int×Int} (h:Ends ts) (he:bX op ts=some (ab,r)):Ends r/\r.length<=ts.length:=by
 unfold bX at he
 split at he
 ·cases h1:bm 91 ts with
  | none=>simp [h1] at he
  | some t1 =>
   obtain ⟨e1,l1⟩:=h.expect h1
   simp only [h1] at he
   cases h2:p8 t1 with
   | none=>simp [h2] at he
   | some x =>
    obtain ⟨a,t2⟩:=x
    obtain ⟨e2,l2⟩:=e1.num h2
    simp only [h2] at he
    cases h3:bm 44 t2 with
    | none=>simp [h3] at he
    | some t3 =>
     obtain ⟨e3,l3⟩:=e2.expect h3
     simp only [h3] at he
     cases h4:p8 t3 with
     | none=>simp [h4] at he
     | some y =>
      obtain ⟨b,t4⟩:=y
      obtain ⟨e4,l4⟩:=e3.num h4
      simp only [h4] at he
      cases h5:bm 93 t4 with
      | none=>simp [h5] at he
      | some t5 =>
       obtain ⟨e5,l5⟩:=e4.expect h5
       simp only [h5] at he
       split at he
       ·cases he
       ·injection he with he;injection he with _ he;subst he;exact ⟨e5,by omega⟩
 ·injection he with he;injection he with _ he;subst he;exact ⟨h,Nat.le_refl _⟩
def sU (f:List Tok->Option (BT aO×List Tok)):Prop:=∀ ts T r,Ends ts->f ts=some (T,r)->Ends r/\r.length<=ts.length
theorem keeps_single {f:List Tok->Option (BT aO×List Tok)} (hf:sU f) (op:Int):sU (gO f op):=by
 intro ts T r h he
 unfold gO at he
 cases h1:bX op ts with
 | none=>simp [h1] at he
 | some x =>
  obtain ⟨⟨a,b⟩,t1⟩:=x
  obtain ⟨e1,l1⟩:=h.window h1
  simp only [h1] at he
  cases h2:f t1 with
  | none=>simp [h2] at he
  | some y =>
   obtain ⟨p,t2⟩:=y
   obtain ⟨e2,l2⟩:=hf _ _ _ e1 h2
   simp only [h2] at he
   injection he with he;injection he with _ he;subst he;exact ⟨e2,by omega⟩
theorem keeps_pair {f:List Tok->Option (BT aO×List Tok)} (hf:sU f):sU (oW f):=by
 intro ts T r h he
 unfold oW at he
 cases h1:f ts with
 | none=>simp [h1] at he
 | some x =>
  obtain ⟨p,t1⟩:=x
  obtain ⟨e1,l1⟩:=hf _ _ _ h h1
  simp only [h1] at he
  split at he
  ·cases h2:bX (aH t1).1.sign (aH t1).2 with
   | none=>simp [h2] at he
   | some y =>
    obtain ⟨⟨a,b⟩,t2⟩:=y
    obtain ⟨e2,l2⟩:=e1.take.1.window h2
    have l1':=e1.take.2.1
    simp only [h2] at he
    cases h3:f t2 with
    | none=>simp [h3] at he
    | some z =>
     obtain ⟨q,t3⟩:=z
     obtain ⟨e3,l3⟩:=hf _ _ _ e2 h3
     simp only [h3] at he
     cases h4:bm 41 t3 with
     | none=>simp [h4] at he
     | some t4 =>
      obtain ⟨e4,l4⟩:=e3.expect h4
      simp only [h4] at he
      injection he with he;injection he with _ he;subst he;exact ⟨e4,by omega⟩
  ·cases he
theorem keeps_step {f:List Tok->Option (BT aO×List Tok)} (hf:sU f):sU (jG f):=by
 intro ts T r h he
 have ht:=h.take
 unfold jG at he
 split at he
 ·cases hb:jr (aH ts).1 with
  | none=>simp [hb] at he
  | some x=>simp [hb] at he;obtain ⟨_,rfl⟩:=he;exact ⟨ht.1,ht.2.1⟩
 ·split at he
  ·have:=keeps_pair hf _ _ _ ht.1 he;exact ⟨this.1,by omega⟩
  ·split at he
   ·have:=keeps_single hf _ _ _ _ ht.1 he;exact ⟨this.1,by omega⟩
   ·cases he
theorem nG:∀ n,sU (gT n)
 | 0=>fun _ _ _ _ he=>by cases he
 | n+1=>keeps_step (nG n)
end
section
open Go.RowKit Go.Deep
theorem ret_int {k:IntKind} {a b:Int} (h:a=b):Ending.returned (.int k a)=.returned (.int k b):=by rw [h]
structure Only (s:Nat) (w w':World):Prop where
 os:w'.os=w.os
 tape:w'.tape=w.tape
 output:w'.output=w.output
 size:w.heap.size<=w'.heap.size
 block:∀ k,k<w.heap.size->k≠s->w'.heap[k]? = w.heap[k]?
theorem Only.refl (s:Nat) (w:World):Only s w w:=⟨rfl,rfl,rfl,Nat.le_refl _,fun _ _ _=>rfl⟩
theorem Only.trans {s:Nat} {a b c:World} (h:Only s a b) (k:Only s b c):Only s a c :=
 ⟨k.os.trans h.os,k.tape.trans h.tape,k.output.trans h.output,Nat.le_trans h.size k.size,fun i hi hs=>(k.block i (Nat.lt_of_lt_of_le hi h.size) hs).trans (h.block i hi hs)⟩
theorem Only.aL {s:Nat} {a b:World} (h:Below a.heap.size a b):Only s a b :=
 ⟨h.os,h.tape,h.output,h.size,fun k hk _=>h.block k hk⟩
theorem Only.below {s B:Nat} {a b:World} (h:Only s a b) (hB:B<=s) (hs:B<=a.heap.size):Below B a b :=
 ⟨h.os,h.tape,h.output,h.size,fun k hk=>h.block k (by omega) (by omega)⟩
theorem Only.drew {s:Nat} {a w:World} (h:Only s a w):Only s a w.drew:=⟨h.os,h.tape,h.output,h.size,h.block⟩
theorem Only.alloc {s:Nat} {a w:World} (h:Only s a w) (o:Obj):Only s a (w.alloc o) :=
 h.trans ⟨rfl,rfl,rfl,by simp,fun k hk _=>Below.heap_alloc _ _ _ hk⟩
theorem Only.setCell {s:Nat} {a w:World} (h:Only s a w) {p:Addr} (hp:p.block=s\/a.heap.size<=p.block) (u:Value):Only s a (w.setCell p u) :=
 ⟨h.os,h.tape,h.output,by simpa [World.setCell] using h.size,fun k hk hs=>(Below.heap_setCell _ _ _ _ (by omega)).trans (h.block k hk hs)⟩
theorem Only.heap {s:Nat} {a w:World} (h:Only s a w) {k:Nat} {o:Obj} (hk:a.heap[k]? = some o) (hs:k≠s):w.heap[k]? = some o:=by
 rw [h.block k (Array.getElem?_eq_some_iff.1 hk).1 hs];exact hk
theorem _root_.Go.RowKit.Below.aE {a w:World} (h:Below a.heap.size a w) {k:Nat} {o:Obj} (hk:a.heap[k]? = some o):w.heap[k]? = some o:=by
 rw [h.block k (Array.getElem?_eq_some_iff.1 hk).1];exact hk
theorem _root_.Go.RowKit.Below.al {a w:World} (h:Below a.heap.size a w) (o:Obj):Below a.heap.size a (w.alloc o):=h.alloc h.size o
theorem _root_.Go.RowKit.Below.tr {a b c:World} (h:Below a.heap.size a b) (k:Below b.heap.size b c):Below a.heap.size a c:=h.trans (k.mono h.size)
theorem Only.tb {s:Nat} {a b c:World} (h:Only s a b) (k:Below b.heap.size b c):Only s a c:=h.trans (Only.aL k)
theorem aw {w:World} {k:Nat} {o:Obj} (h:w.heap[k]? = some o):k<w.heap.size:=(Array.getElem?_eq_some_iff.1 h).1
theorem ae {w:World} {k i:Nat} {c:Array Value} {e:TypeId} {m:Nat×Nat} {v:Value} (h:w.heap[k]? = some (.cells c e m)) (hc:c[i]? = some v):w.cell? ⟨k,i,none⟩=some v:=by
 simp [World.cell?,h,hc]
theorem i_ {w:World} {p:Addr} {v:Value} (h:w.cell? p=some v):p.block<w.heap.size:=by
 rcases Nat.lt_or_ge p.block w.heap.size with h' | h'
 ·exact h'
 ·simp [World.cell?,Array.getElem?_eq_none h'] at h
def cq (t:Tok):List Value:=[.int .i32 t.sign,.int .i64 t.place,.string t.word]
def qK (B:Nat) (w:World) (v:Value) (ts:List Tok):Prop :=
 ∃ tb off cap cs e m tail,v=.slice (some ⟨tb,off,none⟩) ts.length cap/\tb<B/\w.heap[tb]? = some (.cells cs e m)/\ts.length<=cap/\cap<=maxLen/\cs.toList.drop off=(ts.map cq).flatten++tail
theorem qK.only {B s:Nat} {w w':World} {v:Value} {ts:List Tok} (h:qK B w v ts) (ho:Only s w w') (hs:B<=s):qK B w' v ts:=by
 obtain ⟨tb,off,cap,cs,e,m,tail,rfl,htb,hh,r⟩:=h
 exact ⟨tb,off,cap,cs,e,m,tail,rfl,htb,ho.heap hh (by omega),r⟩
def gj (T:TypeId) (rb:Nat) (w:World) (ts:List Tok):Prop:=∃ v,w.heap[rb]? = some (.cells #[v] T (0,0))/\qK rb w v ts
theorem gj.lt {T:TypeId} {rb:Nat} {w:World} {ts:List Tok} (h:gj T rb w ts):rb<w.heap.size:=by
 obtain ⟨v,hv,_⟩:=h;exact aw hv
theorem gj.below {T:TypeId} {rb:Nat} {w w':World} {ts:List Tok} (h:gj T rb w ts) (hb:Below w.heap.size w w'):gj T rb w' ts:=by
 obtain ⟨v,hv,ht⟩:=h
 exact ⟨v,Below.aE hb hv,ht.only (s:=rb) (Only.aL hb) (Nat.le_refl _)⟩
theorem gj.alloc {T:TypeId} {rb:Nat} {w:World} {ts:List Tok} (h:gj T rb w ts) (o:Obj):gj T rb (w.alloc o) ts :=
 h.below ((Below.refl _ _).alloc (Nat.le_refl _) o)
theorem gj.setCell {T:TypeId} {rb:Nat} {w:World} {ts:List Tok} (h:gj T rb w ts) {p:Addr} (hp:rb<p.block) (u:Value):gj T rb (w.setCell p u) ts:=by
 obtain ⟨v,hv,ht⟩:=h
 exact ⟨v,by rw [Below.heap_setCell _ _ _ _ (by omega)];exact hv,ht.only (s:=p.block) ((Only.refl _ _).setCell (.inl rfl) _) (by omega)⟩
def aC (S:TypeId) (B:Nat) (w:World):BT aO->Value->Prop
 | .nil,v=>v=.pointer none
 | .node _ _ a l r,v=>∃ b vl vr,v=.pointer (some ⟨b,0,none⟩)/\B<=b/\w.heap[b]? = some (.cells #[.int .i32 a.op,.string a.name,.int .i64 a.lo,.int .i64 a.hi,vl,vr] S (0,0))/\aC S B w l vl/\aC S B w r vr
theorem aC.heap {S:TypeId} {B:Nat} {w w':World} (hh:∀ k o,B<=k->w.heap[k]? = some o->w'.heap[k]? = some o):∀ {x:BT aO} {v:Value},aC S B w x v->aC S B w' x v
 | .nil,_,h=>h
 | .node _ _ _ l r,_,⟨b,vl,vr,e,hb,hc,hl,hr⟩=>⟨b,vl,vr,e,hb,hh b _ hb hc,aC.heap hh (x:=l) hl,aC.heap hh (x:=r) hr⟩
theorem aC.only {S:TypeId} {B s:Nat} {w w':World} {x:BT aO} {v:Value} (h:aC S B w x v) (ho:Only s w w') (hs:s<B):aC S B w' x v :=
 aC.heap (fun k o hk hc=>ho.heap hc (by omega)) h
theorem aC.below {S:TypeId} {B:Nat} {w w':World} {x:BT aO} {v:Value} (h:aC S B w x v) (hb:Below w.heap.size w w'):aC S B w' x v :=
 aC.heap (fun _ _ _ hc=>Below.aE hb hc) h
theorem aC.low {S:TypeId} {B B':Nat} {w:World} (hB:B'<=B):∀ {x:BT aO} {v:Value},aC S B w x v->aC S B' w x v
 | .nil,_,h=>h
 | .node _ _ _ l r,_,⟨b,vl,vr,e,hb,hc,hl,hr⟩=>⟨b,vl,vr,e,Nat.le_trans hB hb,hc,aC.low hB (x:=l) hl,aC.low hB (x:=r) hr⟩
theorem aB (w:World) (o:Obj) (k:Nat) (h:k=w.heap.size):(w.alloc o).heap[k]? = some o:=by
 subst h;show (w.heap.push o)[w.heap.size]? = some o;simp
theorem lA {S:TypeId} {B b:Nat} {w:World} {op lo hi:Int} {name:ByteArray} {l r:BT aO} {vl vr:Value} (hB:B<=b) (hh:w.heap[b]? = some (.cells #[.int .i32 op,.string name,.int .i64 lo,.int .i64 hi,vl,vr] S (0,0)))
  (hl:aC S B w l vl) (hr:aC S B w r vr):aC S B w (mk op name lo hi l r) (.pointer (some ⟨b,0,none⟩)):=⟨b,vl,vr,rfl,hB,hh,hl,hr⟩
theorem gZ {S:TypeId} {B:Nat} {w:World} {x:BT aO} {v:Value} (h:aC S B w x v):∃ vv,v=Value.pointer vv:=by
 cases x with
 | nil=>exact ⟨_,h⟩
 | node _ _ _ _ _=>obtain ⟨b,_,_,hb,_⟩:=h;exact ⟨_,hb⟩
theorem head_get (s:ByteArray) (h:0<s.size):s.data.toList.headD 0=s[0]:=by
 obtain ⟨⟨l⟩⟩:=s
 cases l with
 | nil=>simp [ByteArray.size] at h
 | cons a l=>rfl
theorem toks_head {B:Nat} {w:World} {v:Value} {t:Tok} {ts:List Tok} (h:qK B w v (t::ts)) :
  ∃ tb off cap,v=.slice (some ⟨tb,off,none⟩) (ts.length+1) cap/\tb<B/\ts.length+1<=cap/\cap<=maxLen/\w.cell? ⟨tb,off,none⟩=some (.int .i32 t.sign)/\w.cell? ⟨tb,off+1,none⟩=some (.int .i64 t.place)/\w.cell? ⟨tb,off+2,none⟩=some (.string t.word)/\
   ∀ s w',Only s w w'->B<=s->qK B w' (.slice (some ⟨tb,off+3,none⟩) ts.length (cap-1)) ts:=by
 obtain ⟨tb,off,cap,cs,e,m,tail,rfl,htb,hh,hc,hm,hd⟩:=h
 have g:∀ i v,i<3->(cq t)[i]? = some v->cs[off+i]? = some v:=by
  intro i v hi hv
  have h1:(cs.toList.drop off)[i]? = some v:=by
   rw [hd]
   simp only [List.map_cons,List.flatten_cons,List.append_assoc]
   rw [List.getElem?_append_left (by simp [cq];omega)]
   exact hv
  rw [List.getElem?_drop] at h1
  simpa using h1
 refine ⟨tb,off,cap,by simp,htb,by simpa using hc,hm,ae hh (g 0 _ (by omega) rfl),ae hh (g 1 _ (by omega) rfl),ae hh (g 2 _ (by omega) rfl),?_⟩
 intro s w' ho hs
 refine ⟨tb,off+3,cap-1,cs,e,m,tail,rfl,htb,ho.heap hh (by omega),by simp at hc;omega,by omega,?_⟩
 rw [<- List.drop_drop,hd]
 simp [cq]
end
def growF (s:ByteArray) (pos:Nat) (bp:List Tok):List Tok :=
 match bp.getLast? with
 | some t=>bp.dropLast++[⟨t.sign,t.place,s.extract t.place.toNat (pos+1)⟩]
 | none=>bp
theorem pT (s:ByteArray) (pos:Nat) (ts:List Tok) (t:Tok):growF s pos (ts++[t])=ts++[⟨t.sign,t.place,s.extract t.place.toNat (pos+1)⟩]:=by
 simp [growF]
def eS (s:ByteArray):Tok:=⟨-1,s.size,ByteArray.empty⟩
def cJ (s:ByteArray):Nat->Nat->Int->List Tok->Option (List Tok)
 | 0,_,_,bp=>some (bp++[eS s])
 | b+1,pos,last,bp =>
  if pos<s.size then
   if bM (Utf8.decode s pos).1 = -2 then none
   else if bM (Utf8.decode s pos).1=last/\gR (bM (Utf8.decode s pos).1)=true then
    cJ s b (pos+(Utf8.decode s pos).2) (bM (Utf8.decode s pos).1) (growF s pos bp)
   else if bM (Utf8.decode s pos).1=32 then cJ s b (pos+(Utf8.decode s pos).2) (bM (Utf8.decode s pos).1) bp
   else cJ s b (pos+(Utf8.decode s pos).2) (bM (Utf8.decode s pos).1) (bp++[⟨bM (Utf8.decode s pos).1,pos,Utf8.encode (Utf8.decode s pos).1⟩])
  else some (bp++[eS s])
theorem mg (s:ByteArray) (b pos:Nat) (last:Int) (bp:List Tok) (h:¬ pos<s.size):cJ s b pos last bp=some (bp++[eS s]):=by
 cases b with
 | zero=>rfl
 | succ b=>simp [cJ,h]
structure Mid (pos:Nat) (last:Int) (bp:List Tok):Prop where
 each:∀ t,t∈bp->t.sign≠-1/\t.word.size<=300/\0<=t.place/\t.place<=pos
 len:bp.length<=pos
 join:gR last=true->bp≠[]
theorem Mid.start:Mid 0 32 []:=⟨by simp,by simp,by intro h;exact absurd h (by decide)⟩
theorem Mid.ends {pos:Nat} {last:Int} {bp:List Tok} (h:Mid pos last bp) (s:ByteArray):Ends (bp++[eS s]) :=
 ⟨bp,eS s,rfl,rfl,by show ByteArray.empty.size<=300;decide,fun t ht=>⟨(h.each t ht).1,(h.each t ht).2.1⟩⟩
theorem encode_le (r:Int):(Utf8.encode r).size<=4:=by
 unfold Utf8.encode
 simp only
 repeat' split
 all_goals simp [ByteArray.size]
theorem Mid.blank {pos p2:Nat} {last:Int} {bp:List Tok} (h:Mid pos last bp) (hp:pos<=p2):Mid p2 32 bp :=
 ⟨fun t ht=>by have:=h.each t ht;exact ⟨this.1,this.2.1,this.2.2.1,by omega⟩,by have:=h.len;omega,by intro h;exact absurd h (by decide)⟩
theorem Mid.more {pos p2:Nat} {last sg r:Int} {bp:List Tok} (h:Mid pos last bp) (hp:pos<p2) (hs:sg≠-1):Mid p2 sg (bp++[⟨sg,pos,Utf8.encode r⟩]):=by
 refine ⟨?_,by have:=h.len;simp;omega,by simp⟩
 intro t ht
 rcases List.mem_append.1 ht with ht | ht
 ·have:=h.each t ht;exact ⟨this.1,this.2.1,this.2.2.1,by omega⟩
 ·simp at ht;subst ht
  have:=encode_le r
  exact ⟨hs,by show (Utf8.encode r).size<=300;omega,by show (0:Int)<=pos;omega,by show (pos:Int)<=p2;omega⟩
theorem Mid.grow {pos p2:Nat} {last sg:Int} {ts:List Tok} {t:Tok} {s:ByteArray} (h:Mid pos last (ts++[t])) (hp:pos<p2) (oK:s.size<=300) :
  Mid p2 sg (ts++[⟨t.sign,t.place,s.extract t.place.toNat (pos+1)⟩]):=by
 refine ⟨?_,by have:=h.len;simp at this ⊢;omega,by simp⟩
 intro x hx
 rcases List.mem_append.1 hx with hx | hx
 ·have:=h.each x (by simp [hx]);exact ⟨this.1,this.2.1,this.2.2.1,by omega⟩
 ·simp at hx;subst hx
  have:=h.each t (by simp)
  refine ⟨this.1,?_,this.2.2.1,by have:=this.2.2.2;show t.place<=(p2:Int);omega⟩
  show (s.extract t.place.toNat (pos+1)).size<=300
  rw [ByteArray.size_extract];omega
theorem signF_ne (r:Int):bM r≠-1\/bM r = -2:=by
 unfold bM
 repeat' split
 all_goals omega
theorem width_pos (s:ByteArray) (pos:Nat) (h:pos<s.size):1<=(Utf8.decode s pos).2:=by
 by_cases ha:(s[pos]'h).toNat<128
 ·rw [decode_ascii s pos h ha]
  exact Nat.le_refl _
 ·exact (decode_high s pos h (by omega)).2
theorem width_le (s:ByteArray) (pos:Nat):(Utf8.decode s pos).2<=4:=by
 unfold Utf8.decode
 simp only
 repeat' split
 all_goals simp
section
open Go.Deep (BT)
def aK:BT aO->Nat
 | .nil=>0
 | .node _ _ _ l r=>1+max (aK l) (aK r)
def ax:BT aO->Int
 | .nil=>0
 | .node _ _ a l r=>a.hi+max (ax l) (ax r)
def WinOK:BT aO->Prop
 | .nil=>True
 | .node _ _ a l r=>(0<=a.lo/\a.lo<=a.hi/\a.hi<=1000000)/\WinOK l/\WinOK r
theorem ly:∀ {x:BT aO},WinOK x->0<=ax x/\ax x<=1000000*aK x
 | .nil,_=>by simp [ax,aK]
 | .node _ _ a l r,⟨h,hl,hr⟩=>by
  have h1:=ly hl
  have h2:=ly hr
  simp only [ax,aK]
  omega
def Shallow (n:Nat) (f:List Tok->Option (BT aO×List Tok)):Prop:=∀ ts x r,f ts=some (x,r)->aK x<=n
theorem shallow_step {n:Nat} {f:List Tok->Option (BT aO×List Tok)} (hf:Shallow n f):Shallow (n+1) (jG f):=by
 intro ts x r h
 unfold jG at h
 split at h
 ·cases hw:jr (aH ts).1 with
  | none=>simp [hw] at h
  | some y =>
   simp [hw] at h
   obtain ⟨rfl,_⟩:=h
   unfold jr at hw
   split at hw
   ·injection hw with hw;subst hw;simp [mk,aK]
   ·split at hw
    ·cases hw
    ·injection hw with hw;subst hw;simp [mk,aK]
 ·split at h
  ·unfold oW at h
   cases h1:f (aH ts).2 with
   | none=>simp [h1] at h
   | some y =>
    obtain ⟨p,t1⟩:=y
    have d1:=hf _ _ _ h1
    simp only [h1] at h
    split at h
    ·cases h2:bX (aH t1).1.sign (aH t1).2 with
     | none=>simp [h2] at h
     | some y =>
      obtain ⟨⟨a,b⟩,t2⟩:=y
      simp only [h2] at h
      cases h3:f t2 with
      | none=>simp [h3] at h
      | some z =>
       obtain ⟨q,t3⟩:=z
       have d2:=hf _ _ _ h3
       simp only [h3] at h
       cases h4:bm 41 t3 with
       | none=>simp [h4] at h
       | some t4 =>
        simp only [h4] at h
        injection h with h;injection h with h _;subst h
        simp only [mk,aK];omega
    ·cases h
  ·split at h
   ·unfold gO at h
    cases h1:bX (aH ts).1.sign (aH ts).2 with
    | none=>simp [h1] at h
    | some y =>
     obtain ⟨⟨a,b⟩,t1⟩:=y
     simp only [h1] at h
     cases h2:f t1 with
     | none=>simp [h2] at h
     | some z =>
      obtain ⟨p,t2⟩:=z
      have d1:=hf _ _ _ h2
      simp only [h2] at h
      injection h with h;injection h with h _;subst h
      simp only [mk,aK];omega
   ·cases h
theorem tj:∀ n,Shallow n (gT n)
 | 0=>fun _ _ _ h=>by cases h
 | n+1=>shallow_step (tj n)
def cI (s:ByteArray):Option (BT aO)×Int :=
 if 300<s.size then (none,1)
 else match cJ s s.size 0 32 [] with
  | none=>(none,1)
  | some ts=>match gT ts.length ts with
   | none=>(none,1)
   | some (x,r)=>match bm (-1) r with
    | none=>(none,1)
    | some _=>if 12<aK x then (none,2) else (some x,0)
def cP (r:Int):List UInt8:=if r=172 then [194,172] else if r=8743 then [226,136,167] else if r=8744 then [226,136,168] else if r=89 then [89] else if r=79 then [79] else if r=72 then [72] else [83]
def oa (r:Int):Prop:=r=172\/r=8743\/r=8744\/r=89\/r=79\/r=72\/r=83
def opW (a:aO):List UInt8:=if lC a.op then cP a.op++[91]++Lib.itoa a.lo++[44]++Lib.itoa a.hi++[93] else cP a.op
def aS:BT aO->List UInt8
 | .nil=>[]
 | .node _ _ a l r =>
  if a.op=116 then [116,114,117,101]
  else if a.op=97 then a.name.data.toList
  else if a.op=8743\/a.op=8744\/a.op=83 then [40]++aS l++[32]++opW a++[32]++aS r++[41]
  else opW a++aS l
def Good:BT aO->Prop
 | .nil=>False
 | .node _ _ a l r =>
  (a.op=116/\a.name=ByteArray.empty/\a.lo=0/\a.hi=0/\l=.nil/\r=.nil)
  \/(a.op=97/\(1<=a.name.size/\a.name.size<=8/\a.name≠vU/\∀ c,c∈a.name.data.toList->97<=c.toNat/\c.toNat<=122)/\a.lo=0/\a.hi=0/\l=.nil/\r=.nil)
  \/((a.op=8743\/a.op=8744\/a.op=83)/\a.name=ByteArray.empty/\(0<=a.lo/\a.lo<=a.hi/\a.hi<=1000000)/\(lC a.op=false->a.lo=0/\a.hi=0)/\Good l/\Good r)
  \/((a.op=172\/a.op=89\/a.op=79\/a.op=72)/\a.name=ByteArray.empty/\(0<=a.lo/\a.lo<=a.hi/\a.hi<=1000000)/\(lC a.op=false->a.lo=0/\a.hi=0)/\Good l/\r=.nil)
theorem Good.win:∀ {x:BT aO},Good x->WinOK x
 | .node _ _ a l r,h=>by
  rcases h with ⟨_,_,h1,h2,rfl,rfl⟩ | ⟨_,_,h1,h2,rfl,rfl⟩ | ⟨_,_,h1,_,hl,hr⟩ | ⟨_,_,h1,_,hl,rfl⟩
  ·exact ⟨by omega,trivial,trivial⟩
  ·exact ⟨by omega,trivial,trivial⟩
  ·exact ⟨h1,hl.win,hr.win⟩
  ·exact ⟨h1,hl.win,trivial⟩
def bQ:BT aO->BT aO
 | .nil=>.nil
 | .node b o a l r=>if a.op=172 then l else mk 172 ByteArray.empty 0 0 (.node b o a l r) .nil
def ak:BT aO->BT aO
 | .nil=>.nil
 | .node b o a l r =>
  if a.op=116\/a.op=97 then .node b o a l r
  else if a.op=172 then bQ (ak l)
  else if a.op=8744 then bQ (mk 8743 ByteArray.empty 0 0 (bQ (ak l)) (bQ (ak r)))
  else if a.op=72 then bQ (mk 79 ByteArray.empty a.lo a.hi (bQ (ak l)) .nil)
  else if a.op=89\/a.op=79 then mk a.op ByteArray.empty a.lo a.hi (ak l) .nil
  else mk a.op ByteArray.empty a.lo a.hi (ak l) (ak r)
theorem Good.ne:∀ {x:BT aO},Good x->x≠.nil
 | .nil,h=>h.elim
 | .node _ _ _ _ _,_=>by intro h;cases h
theorem fY {x:BT aO} (h:Good x):Good (bQ x):=by
 cases x with
 | nil=>exact h
 | node b o a l r =>
  show Good (if a.op=172 then l else mk 172 ByteArray.empty 0 0 (BT.node b o a l r) .nil)
  by_cases ho:a.op=172
  ·rw [if_pos ho]
   rcases h with ⟨h1,_⟩ | ⟨h1,_⟩ | ⟨h1,_⟩ | ⟨_,_,_,_,gl,_⟩
   ·omega
   ·omega
   ·omega
   ·exact gl
  ·rw [if_neg ho]
   exact .inr (.inr (.inr ⟨.inl rfl,rfl,by simp,fun _=>⟨rfl,rfl⟩,h,rfl⟩))
theorem cA:∀ {x:BT aO},Good x->Good (ak x)
 | .nil,h=>h
 | .node b o a l r,h=>by
  have h':=h
  unfold ak
  rcases h with ⟨h1,_⟩ | ⟨h1,_⟩ | ⟨h1,h2,h3,h4,gl,gr⟩ | ⟨h1,h2,h3,h4,gl,hr⟩
  ·rw [if_pos (.inl h1)];exact h'
  ·rw [if_pos (.inr h1)];exact h'
  ·have cl:=cA gl
   have cr:=cA gr
   rw [if_neg (by omega),if_neg (by omega)]
   by_cases h8:a.op=8744
   ·rw [if_pos h8]
    exact fY (.inr (.inr (.inl ⟨.inl rfl,rfl,by simp,fun _=>⟨rfl,rfl⟩,fY cl,fY cr⟩)))
   ·rw [if_neg h8,if_neg (by omega),if_neg (by omega)]
    exact .inr (.inr (.inl ⟨h1,rfl,h3,h4,cl,cr⟩))
  ·have cl:=cA gl
   rw [if_neg (by omega)]
   by_cases h8:a.op=172
   ·rw [if_pos h8];exact fY cl
   ·rw [if_neg h8,if_neg (by omega)]
    by_cases h9:a.op=72
    ·rw [if_pos h9]
     exact fY (.inr (.inr (.inr ⟨.inr (.inr (.inl rfl)),rfl,h3,fun h=>absurd (show lC 79=false from h) (by decide),fY cl,rfl⟩)))
    ·rw [if_neg h9,if_pos (by omega)]
     exact .inr (.inr (.inr ⟨h1,rfl,h3,h4,cl,rfl⟩))
end
namespace Ev
open Go
section
variable {P : Program} {ops : Array Oper} {Q : Exit → Act → World → Prop} {md : Region.Mode} {S : World → Prop} {fin : Nat}
def bh (P:Program) (md:Region.Mode) (ops:Array Oper) (Q:Exit->Act->World->Prop) (S:World->Prop) (fin:Nat):Nat->Array Bool->Act->World->Prop
 | 0,listed,a,w=>Region.ready md ops listed=[]/\Q .normal a w
 | fuel+1,listed,a,w=>(Region.ready md ops listed=[]->Q .normal a w)/\
  ∀ i∈Region.ready md ops listed,wpOp P ops Q i (fun a' w'=>(i≠fin->S w')/\bh P md ops Q S fin fuel (listed.setIfInBounds i true) a' w') a w
theorem bh.any:∀ (fuel:Nat) (listed:Array Bool) (a:Act) (w:World),bh P md ops Q S fin fuel listed a w->wpAny P md ops Q fuel listed a w
 | 0,_,_,_,h=>h
 | fuel+1,_,_,_,h=>⟨h.1,fun i hi=>wpOp_mono (fun a' w' k=>bh.any fuel _ a' w' k.2) (h.2 i hi)⟩
theorem bh.first {i:Nat} {oi:Oper} {v:Value} (hi:ops[i]? = some oi) (hsel:∀ (j:Nat) (o:Oper) cs b,ops[j]? = some o->o.op≠.select cs b) (bH:∀ o,ops[fin]? = some o->∃ e∈o.after,Region.binds md e=true/\e.on=i)
  (hQ:∀ c a w,Q (.panic c) (a.put oi.dst v) w->Q (.panic c) a w):∀ (fuel:Nat) (listed:Array Bool) (a:Act) (w:World),
   (∀ j oj,ops[j]? = some oj->j≠i->listed.getD j true=false->(∀ e∈oj.after,Region.binds md e=true->e.on≠i)->oi.apart ops oj=true)->
   i∈Region.ready md ops listed->YieldsIf P ops S oi v a->S w->bh P md ops Q S fin fuel (listed.setIfInBounds i true) (a.put oi.dst v) w->bh P md ops Q S fin (fuel+1) listed a w:=by
 intro fuel
 induction fuel with
 | zero =>
  intro listed a w _ hr hy hS H
  refine ⟨fun h=>(by rw [h] at hr;cases hr),fun j hj=>?_⟩
  by_cases mO:j=i
  ·subst mO;exact hy.wpOp hi hS ⟨fun _=>hS,H⟩
  ·have:=ready_mono hj mO
   rw [H.1] at this
   cases this
 | succ fuel ih =>
  intro listed a w hfree hr hy hS H
  refine ⟨fun h=>(by rw [h] at hr;cases hr),fun j hj=>?_⟩
  by_cases mO:j=i
  ·subst mO;exact hy.wpOp hi hS ⟨fun _=>hS,H⟩
  ·obtain ⟨hjun,oj,hoj,nc⟩:=mem_ready.1 hj
   have hnot:∀ e∈oj.after,Region.binds md e=true->e.on≠i:=fun e he hb heq=>by
    have h1:=nc e he hb
    have h0:=(mem_ready.1 hr).1
    rw [heq] at h1
    rcases Nat.lt_or_ge i listed.size with h' | h'
    ·simp [h'] at h0 h1;rw [h0] at h1;cases h1
    ·simp [Array.getElem?_eq_none h'] at h1
   have hjf:j≠fin:=by
    rintro rfl
    obtain ⟨e,he,hb,heq⟩:=bH oj hoj
    exact hnot e he hb heq
   have h2:=wpOp_putIf hoj (hfree j oj hoj mO hjun hnot) (fun cs b=>hsel i oi cs b hi) (fun cs b=>hsel j oj cs b hoj) hQ hy (H.2 j (ready_mono hj mO))
   refine wpOp_mono (fun a' w' h3=>⟨h3.2.1,ih (listed.setIfInBounds j true) a' w' (fun k ok hk hki hun hno=>hfree k ok hk hki ?_ hno) (ready_mono hr (Ne.symm mO)) h3.1 (h3.2.1 hjf) ?_⟩) h2
   ·by_cases n9:j=k
    ·subst n9;exact hjun
    ·rw [getD_set_ne true n9] at hun;exact hun
   ·rw [Array.setIfInBounds_comm _ _ mO]
    exact h3.2.2
theorem bh.take (i:Nat) {oi:Oper} {v:Value} {fuel:Nat} {listed:Array Bool} {a:Act} {w:World} (hi:ops[i]? = some oi) (hs:Region.noSelect ops=true) (hf:Region.free md ops listed i=true) (hr:(Region.ready md ops listed).contains i=true)
  (bH:((ops[fin]?).map fun o=>o.after.any fun e=>Region.binds md e&&e.on==i).getD true=true) (hQ:∀ c a w,Q (.panic c) (a.put oi.dst v) w->Q (.panic c) a w)
  (hw:Region.wanted oi (yielded ops a.tmps)=true) (hy:∀ w,S w->(execOp a.eval oi).run P w=.ok (.value v) w) (hS:S w) (h:bh P md ops Q S fin fuel (listed.setIfInBounds i true) (a.put oi.dst v) w):bh P md ops Q S fin (fuel+1) listed a w :=
 bh.first hi (Region.noSelect_spec hs) (fun o ho=>by
  rw [ho] at bH
  simp only [Option.map_some,Option.getD_some] at bH
  obtain ⟨e,he,hb⟩:=Array.any_eq_true'.1 bH
  simp only [Bool.and_eq_true,beq_iff_eq] at hb
  exact ⟨e,he,hb.1,hb.2⟩) hQ fuel listed a w (Region.free_spec hi hf) (by simpa using hr) (.inl ⟨hw,hy⟩) hS h
theorem bh.one {i:Nat} {o:Oper} {fuel:Nat} {listed:Array Bool} {a:Act} {w:World} (hr:Region.ready md ops listed=[i]) (ho:ops[i]? = some o) (hw:Region.wanted o (yielded ops a.tmps)=true)
  (h:Oper.wp P o a w (fun a' w'=>(i≠fin->S w')/\bh P md ops Q S fin fuel (listed.setIfInBounds i true) a' w') Q):bh P md ops Q S fin (fuel+1) listed a w :=
 ⟨fun h0=>(by rw [hr] at h0;cases h0),fun j hj=>by
  rw [hr] at hj;simp at hj;subst hj
  unfold wpOp
  simp only [ho,hw,if_true]
  exact .inl h⟩
theorem bh.op {i:Nat} {o:Oper} {fuel:Nat} {listed:Array Bool} {a:Act} {w:World} (hr:Region.ready md ops listed=[i]) (ho:ops[i]? = some o) (hw:Region.wanted o (yielded ops a.tmps)=true)
  (h:∀ K:Act->World->Prop,(∀ a' w',((i≠fin->S w')/\bh P md ops Q S fin fuel (listed.setIfInBounds i true) a' w')->K a' w')->Oper.wp P o a w K Q):bh P md ops Q S fin (fuel+1) listed a w :=
 bh.one hr ho hw (h _ fun _ _ x=>x)
theorem bh.two {i j:Nat} {oi oj:Oper} {fuel:Nat} {listed:Array Bool} {a:Act} {w:World} (hr:Region.ready md ops listed=[i,j]) (hoi:ops[i]? = some oi) (hwi:Region.wanted oi (yielded ops a.tmps)=true) (hoj:ops[j]? = some oj) (hwj:Region.wanted oj (yielded ops a.tmps)=true)
  (h1:∀ K:Act->World->Prop,(∀ a' w',((i≠fin->S w')/\bh P md ops Q S fin fuel (listed.setIfInBounds i true) a' w')->K a' w')->Oper.wp P oi a w K Q)
  (h2:∀ K:Act->World->Prop,(∀ a' w',((j≠fin->S w')/\bh P md ops Q S fin fuel (listed.setIfInBounds j true) a' w')->K a' w')->Oper.wp P oj a w K Q):bh P md ops Q S fin (fuel+1) listed a w :=
 ⟨fun h0=>(by rw [hr] at h0;cases h0),fun q hq=>by
  rw [hr] at hq
  simp at hq
  rcases hq with rfl | rfl
  ·unfold wpOp
   simp only [hoi,hwi,if_true]
   exact .inl (h1 _ fun _ _ x=>x)
  ·unfold wpOp
   simp only [hoj,hwj,if_true]
   exact .inl (h2 _ fun _ _ x=>x)⟩
theorem bh.done {listed:Array Bool} {a:Act} {w:World} (hr:Region.ready md ops listed=[]) (h:Q .normal a w):∀ fuel,bh P md ops Q S fin fuel listed a w
 | 0=>⟨hr,h⟩
 | _+1=>⟨fun _=>h,fun i hi=>by rw [hr] at hi;cases hi⟩
theorem bh.begin {id:Nat} {a:Act} {w:World} (hm:P.follows .mixedOrders=true) (h:bh P .any ops Q S fin ops.size (Array.replicate ops.size false) a w.drew):(Code.region id ops true).wp P Q a w :=
 wp_region_any hm (bh.any _ _ _ _ h)
end
end Ev
namespace Lf
open Go Go.Conc
def re (w:World) (τ:Tape) (d:Nat):World:={ w with tape:=τ,drawn:=d }
def Alike (w:World) (m:Nat) (τ:Tape) (d:Nat):Prop:=∀ j,j<m->τ (d+j)=w.tape (w.drawn+j)
theorem re_re (w:World) (τ vX:Tape) (d d':Nat):re (re w τ d) vX d'=re w vX d':=rfl
theorem re_self (w:World):re w w.tape w.drawn=w:=rfl
theorem re_freeze (w:World) (τ:Tape) (d:Nat) (a:Addr) (n:Nat):(re w τ d).freeze a n=re (w.freeze a n) τ d:=by unfold World.freeze;split<;>rfl
def reX (τ:Tape) (d:Nat):Except Halt (World×List Addr)->Except Halt (World×List Addr)
 | .ok (w,l)=>.ok (re w τ d,l)
 | .error h=>.error h
def reE (τ:Tape) (d:Nat):Except String (World×List Addr)->Except String (World×List Addr)
 | .ok (w,l)=>.ok (re w τ d,l)
 | .error h=>.error h
theorem re_viewStore (p:Program) (w:World) (τ:Tape) (d:Nat) (at_:Addr) (u:TypeId) (k:Addr) (v:Value) (b:Bool) :
  (re w τ d).viewStore p at_ u k v b=reE τ d (w.viewStore p at_ u k v b):=by
 unfold World.viewStore
 have hs:World.seen p (re w τ d) at_ u k b=World.seen p w at_ u k b:=rfl
 rw [hs]
 simp only [re,bind,Except.bind,pure,Except.pure,MonadExcept.throw,throwThe,MonadExceptOf.throw]
 split
 ·rfl
 ·cases World.seen p w at_ u k b with
  | error e=>rfl
  | ok x =>
   obtain ⟨c,e,frozen,first,like,cells⟩:=x
   simp only []
   split
   ·split
    ·rfl
    ·split
     ·rfl
     ·rfl
   ·rfl
theorem re_farStore (p:Program) (w:World) (τ:Tape) (d:Nat) (a:Addr) (v:Value) (b:Bool) :
  (re w τ d).farStore p a v b=reX τ d (w.farStore p a v b):=by
 unfold World.farStore
 have hh:(re w τ d).heap=w.heap:=rfl
 have hn:(re w τ d).noCell a "store: no such cell"=w.noCell a "store: no such cell":=rfl
 rw [hh,hn]
 split
 ·rename_i at_ u _
  rw [re_viewStore]
  cases World.viewStore p w at_ u a v b with
  | error e=>rfl
  | ok x=>rfl
 ·rfl
theorem farStore_keeps {p:Program} {w w':World} {a:Addr} {v:Value} {b:Bool} {t:List Addr} (h:w.farStore p a v b=.ok (w',t)):w'.tape=w.tape/\w'.drawn=w.drawn:=by
 have:=re_farStore p w w.tape w.drawn a v b
 rw [re_self,h] at this
 simp only [reX,Except.ok.injEq,Prod.mk.injEq,and_true] at this
 rw [this];exact ⟨rfl,rfl⟩
theorem ask_alike {α:Type} (a:Ask α):∀ w:World,∃ m,(w.ask a).2=re (w.ask a).2 w.tape (w.drawn+m)/\
  ∀ τ d,Alike w m τ d->(re w τ d).ask a=((w.ask a).1,re (w.ask a).2 τ (d+m)):=by
 induction a with
 | done a=>exact fun w=>⟨0,rfl,fun τ d _=>rfl⟩
 | ask what range k ih =>
  intro w
  by_cases hf:(Question.extern what range).forced=true
  ·obtain ⟨m,h1,h2⟩:=ih 0 w
   refine ⟨m,?_,fun τ d h=>?_⟩
   ·simp only [World.ask,hf,if_true];exact h1
   ·simp only [World.ask,hf,if_true];exact h2 τ d h
  ·obtain ⟨m,h1,h2⟩:=ih ((Question.extern what range).cut (w.tape w.drawn (.extern what range))) { w with drawn:=w.drawn+1 }
   refine ⟨m+1,?_,fun τ d h=>?_⟩
   ·simp only [World.ask,hf,if_false,Bool.false_eq_true]
    rw [h1]
    simp only [re]
    congr 1;omega
   ·simp only [World.ask,hf,if_false,Bool.false_eq_true]
    have h0:τ d=w.tape w.drawn:=by have:=h 0 (by omega);simpa using this
    have:=h2 τ (d+1) (fun j hj=>by have:=h (j+1) (by omega);simp only;rw [show d+1+j=d+(j+1) by omega,this];congr 1;omega)
    rw [show d+(m+1)=d+1+m by omega,<- this]
    show World.ask _ (k ((Question.extern what range).cut (τ d (.extern what range))))=_
    rw [h0];rfl
def Ends:Halt->Bool
 | .panic _ | .goexit | .unsupported (.initOrder _)=>false
 | _=>true
def Fit (P:Program) {α:Type} (L:α->Prop):Nat->Sem α->Prop
 | d,.pure a=>d=0/\L a
 | d,.load _ _ k=>∀ v,Fit P L d (k v)
 | d,.store _ _ _ k=>Fit P L d k
 | d,.new _ k=>∀ n,Fit P L d (k n)
 | d,.shape _ k=>∀ s,Fit P L d (k s)
 | d,.freeze _ _ k=>Fit P L d k
 | d,.frozen _ k=>∀ b,Fit P L d (k b)
 | d,.getObj _ k=>∀ o,Fit P L d (k o)
 | d,.setObj _ _ k=>Fit P L d k
 | d,.choose _ k=>∀ n,Fit P L d (k n)
 | d,.sys _ k=>(∃ h,k .wouldBlock=.halt h/\Ends h=true)/\∀ r,Fit P L d (k r)
 | d,.program k=>Fit P L d (k P)
 | d,.mark m k=>Fit P L (match m with | .disable=>d+1 | .enable=>d-1 | _=>d) k
 | d,.halt h=>d=0\/Ends h=true
theorem fit_bind {P:Program} {α β:Type} {L:α->Prop} {M:β->Prop} {f:α->Sem β} (hf:∀ a,L a->Fit P M 0 (f a)):∀ {s:Sem α} {d:Nat},Fit P L d s->Fit P M d (s.bind f):=by
 intro s
 induction s with
 | pure a=>intro d h;obtain ⟨rfl,h⟩:=h;exact hf a h
 | load m a k ih=>exact fun h v=>ih v (h v)
 | store m a v k ih=>exact fun h=>ih h
 | new o k ih=>exact fun h v=>ih v (h v)
 | shape o k ih=>exact fun h v=>ih v (h v)
 | freeze a n k ih=>exact fun h=>ih h
 | frozen o k ih=>exact fun h v=>ih v (h v)
 | getObj o k ih=>exact fun h v=>ih v (h v)
 | setObj a n k ih=>exact fun h=>ih h
 | choose o k ih=>exact fun h v=>ih v (h v)
 | sys c k ih =>
  intro d h
  obtain ⟨⟨x,hx,he⟩,h⟩:=h
  exact ⟨⟨x,by show (k .wouldBlock).bind f=_;rw [hx];rfl,he⟩,fun r=>ih r (h r)⟩
 | program k ih=>exact fun h=>ih P h
 | mark m k ih=>exact fun h=>ih h
 | halt x=>exact fun h=>h
def reR {α:Type} (τ:Tape) (d:Nat):Result α->Result α
 | .ok a w=>.ok a (re w τ d)
 | .halt h w=>.halt h (re w τ d)
def resOn {α:Type}:Result α->Bool
 | .ok _ _=>true
 | .halt h _=>!Ends h
theorem sys_alike {w:World} {c:Sys} (h:(w.sys c).1≠.wouldBlock):∃ m,(w.sys c).2=re (w.sys c).2 w.tape (w.drawn+m)/\
  ∀ τ d,Alike w m τ d->(re w τ d).sys c=((w.sys c).1,re (w.sys c).2 τ (d+m)):=by
 obtain ⟨m,h1,h2⟩:=ask_alike (Kernel.perform c w.os) w
 unfold World.sys at h ⊢
 have ho:∀ τ d,(re w τ d).os=w.os:=fun _ _=>rfl
 simp only [ho]
 generalize hx:w.ask (Kernel.perform c w.os)=x at h h1 h2 ⊢
 obtain ⟨⟨r,os⟩,w'⟩:=x
 refine ⟨m,?_,fun τ d ha=>?_⟩
 ·cases r<;>first | exact absurd rfl h | (simp only at h1 ⊢;rw [h1];rfl)
 ·rw [h2 τ d ha]
  cases r<;>first | exact absurd rfl h | rfl
theorem mV (P:Program) {α:Type} {L:α->Prop} (s:Sem α):∀ (n:Nat) (w:World) (es:Array Event),Fit P L n s->resOn (s.runT P w es).1=true->
  ∃ m,(s.runT P w es).1=reR w.tape (w.drawn+m) (s.runT P w es).1/\∀ τ d,Alike w m τ d->s.runT P (re w τ d) es=(reR τ (d+m) (s.runT P w es).1,(s.runT P w es).2):=by
 induction s with
 | pure a=>exact fun n w es _ _=>⟨0,rfl,fun τ d _=>rfl⟩
 | load m a k ih =>
  intro n w es hf ho
  have hc:∀ τ d,(re w τ d).cell? a=w.cell? a:=fun _ _=>rfl
  have hl:∀ τ d b,(re w τ d).farLoad P a b=w.farLoad P a b:=fun _ _ _=>rfl
  simp only [Sem.runT,hc,hl] at ho ⊢
  cases hw:w.cell? a with
  | some v=>simp only [hw] at ho ⊢;exact ih v n w _ (hf v) ho
  | none =>
   simp only [hw] at ho ⊢
   cases hx:w.farLoad P a (m==.atomic) with
   | ok x=>obtain ⟨v,t⟩:=x;simp only [hx] at ho ⊢;exact ih v n w _ (hf v) ho
   | error e=>simp only [hx] at ho ⊢;exact ⟨0,rfl,fun τ d _=>rfl⟩
 | store m a v k ih =>
  intro n w es hf ho
  cases v with
  | agg x=>exact ⟨0,rfl,fun τ d _=>rfl⟩
  | tuple x=>exact ⟨0,rfl,fun τ d _=>rfl⟩
  | _ =>
   have hc:∀ τ d,(re w τ d).cell? a=w.cell? a:=fun _ _=>rfl
   have hz:∀ τ d,(re w τ d).frozen? a=w.frozen? a:=fun _ _=>rfl
   simp only [Sem.runT,hc,hz,re_farStore] at ho ⊢
   cases hw:w.cell? a with
   | some u =>
    simp only [hw] at ho ⊢
    split at ho
    ·rename_i iU;simp only [iU,if_true];exact ⟨0,rfl,fun τ d _=>rfl⟩
    ·rename_i iU
     simp only [iU,if_false,Bool.false_eq_true] at ho ⊢
     exact ih n _ _ hf ho
   | none =>
    simp only [hw] at ho ⊢
    cases hx:w.farStore P a _ (m==Mode.atomic) with
    | ok x =>
     obtain ⟨w',t⟩:=x
     simp only [hx,reX] at ho ⊢
     obtain ⟨e1,e2⟩:=farStore_keeps hx
     obtain ⟨m',h1,h2⟩:=ih n w' _ hf ho
     rw [e1,e2] at h1
     refine ⟨m',h1,fun τ d ha=>h2 τ d fun j hj=>?_⟩
     rw [e1,e2];exact ha j hj
    | error e=>simp only [hx,reX] at ho ⊢;exact ⟨0,rfl,fun τ d _=>rfl⟩
 | new o k ih=>exact fun n w es hf ho=>ih w.heap.size n _ es (hf _) ho
 | shape r k ih=>exact fun n w es hf ho=>ih (w.shape? r) n w es (hf _) ho
 | freeze a c k ih =>
  intro n w es hf ho
  simp only [Sem.runT,re_freeze] at ho ⊢
  have e1:(w.freeze a c).tape=w.tape:=by unfold World.freeze;split<;>rfl
  have e2:(w.freeze a c).drawn=w.drawn:=by unfold World.freeze;split<;>rfl
  obtain ⟨m',h1,h2⟩:=ih n (w.freeze a c) es hf ho
  rw [e1,e2] at h1
  refine ⟨m',h1,fun τ d ha=>h2 τ d fun j hj=>?_⟩
  rw [e1,e2];exact ha j hj
 | frozen a k ih=>exact fun n w es hf ho=>ih (w.frozen? a) n w es (hf _) ho
 | getObj r k ih =>
  intro n w es hf ho
  have hh:∀ τ d,(re w τ d).heap=w.heap:=fun _ _=>rfl
  simp only [Sem.runT,hh] at ho ⊢
  cases hw:w.heap[r]? with
  | none=>simp only [hw] at ho ⊢;exact ⟨0,rfl,fun τ d _=>rfl⟩
  | some o =>
   cases o with
   | cells c t z=>simp only [hw] at ho ⊢;exact ⟨0,rfl,fun τ d _=>rfl⟩
   | _=>simp only [hw] at ho ⊢;exact ih _ n w _ (hf _) ho
 | setObj r o k ih =>
  intro n w es hf ho
  have hh:∀ τ d,(re w τ d).heap=w.heap:=fun _ _=>rfl
  simp only [Sem.runT,hh] at ho ⊢
  cases hw:w.heap[r]? with
  | none=>simp only [hw] at ho ⊢;exact ⟨0,rfl,fun τ d _=>rfl⟩
  | some x =>
   cases x with
   | cells c t z=>simp only [hw] at ho ⊢;exact ⟨0,rfl,fun τ d _=>rfl⟩
   | _=>simp only [hw] at ho ⊢;exact ih n _ _ hf ho
 | choose q k ih =>
  intro n w es hf ho
  simp only [Sem.runT] at ho ⊢
  by_cases hq:q.forced=true
  ·simp only [hq,if_true] at ho ⊢;exact ih 0 n w es (hf _) ho
  ·simp only [hq,if_false,Bool.false_eq_true] at ho ⊢
   obtain ⟨m',h1,h2⟩:=ih (q.cut (w.tape w.drawn q)) n { w with drawn:=w.drawn+1 } es (hf _) ho
   refine ⟨m'+1,?_,fun τ d ha=>?_⟩
   ·rw [show w.drawn+(m'+1)=w.drawn+1+m' by omega];exact h1
   ·have h0:τ d=w.tape w.drawn:=by have:=ha 0 (by omega);simpa using this
    have:=h2 τ (d+1) (fun j hj=>by have:=ha (j+1) (by omega);simp only;rw [show d+1+j=d+(j+1) by omega,this];congr 1;omega)
    rw [show d+(m'+1)=d+1+m' by omega,<- this]
    show Sem.runT P (k (q.cut (τ d q))) _ es=_
    rw [h0];rfl
 | sys c k ih =>
  intro n w es hf ho
  obtain ⟨⟨x,hx,he⟩,hf⟩:=hf
  simp only [Sem.runT] at ho ⊢
  by_cases hb:(w.sys c).1=.wouldBlock
  ·rw [hb,hx] at ho
   simp [Sem.runT,resOn,he] at ho
  ·obtain ⟨m,h1,h2⟩:=sys_alike hb
   obtain ⟨m',h3,h4⟩:=ih (w.sys c).1 n (w.sys c).2 _ (hf _) ho
   have e1:(w.sys c).2.tape=w.tape:=by rw [h1];rfl
   have e2:(w.sys c).2.drawn=w.drawn+m:=by rw [h1];rfl
   refine ⟨m+m',?_,fun τ d ha=>?_⟩
   ·rw [e1,e2] at h3;rw [<- Nat.add_assoc];exact h3
   ·rw [h2 τ d fun j hj=>ha j (by omega)]
    simp only
    rw [h4 τ (d+m) fun j hj=>?_]
    ·rw [Nat.add_assoc]
    ·rw [e1,e2];have:=ha (m+j) (by omega);rw [<- Nat.add_assoc] at this;rw [this,<- Nat.add_assoc]
 | program k ih=>exact fun n w es hf ho=>ih P n w es hf ho
 | mark m k ih=>exact fun n w es hf ho=>ih _ w _ hf ho
 | halt h=>exact fun n w es hf ho=>⟨0,rfl,fun τ d _=>rfl⟩
end Lf
end Go.Proofs.YtpbbmagjhkakgaaGreatDoor
