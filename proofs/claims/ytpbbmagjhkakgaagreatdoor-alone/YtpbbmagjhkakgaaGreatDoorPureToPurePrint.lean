import Derived.Deep.Trees
import Derived.Lib.AtoiAll
import Derived.WalkKit
import Derived.WalkSpells
import Derived.WalkLawsBesides
import Derived.Lib.OthersKept
import Derived.Laws.RangeAny
import Derived.Lib.Strings
import Derived.Lib.ItoaNum
namespace Go.Proofs.YtpbbmagjhkakgaaGreatDoor
section
open Go.Deep (BT)
def bM (r:Int):Int :=
 if r=33 then 172 else if r=38 then 8743 else if r=124 then 8744
 else if r=172\/r=8743\/r=8744\/r=89\/r=79\/r=72\/r=83\/r=40\/r=41\/r=91\/r=93\/r=44\/r=32 then r
 else if 97<=r/\r<=122 then 97 else if 48<=r/\r<=57 then 48 else -2
def gR (s:Int):Bool:=s==97||s==48
def lC (o:Int):Bool:=o==89||o==79||o==72||o==83
structure Tok where
 sign:Int
 place:Int
 word:ByteArray
theorem rX {a b:ByteArray} (h:a.data.toList=b.data.toList):a=b:=by
 obtain ⟨⟨la⟩⟩:=a
 obtain ⟨⟨lb⟩⟩:=b
 simp at h
 subst h
 rfl
structure aO where
 op:Int
 name:ByteArray
 lo:Int
 hi:Int
def mk (op:Int) (name:ByteArray) (lo hi:Int) (l r:BT aO):BT aO:=.node 0 0 ⟨op,name,lo,hi⟩ l r
def aH:List Tok->Tok×List Tok
 | []=>(⟨-1,0,ByteArray.empty⟩,[])
 | t::ts=>if t.sign = -1 then (t,t::ts) else (t,ts)
def bm (s:Int) (ts:List Tok):Option (List Tok):=if (aH ts).1.sign=s then some (aH ts).2 else none
def okNum:Lib.NumEnd Int->Option Int
 | .ok v=>if 1000000<v then none else some v
 | _=>none
theorem okNum_none {x:Lib.NumEnd Int} (h:∀ v,x≠.ok v):okNum x=none:=by
 cases x with
 | ok v=>exact absurd rfl (h v)
 | _=>rfl
def vq (w:ByteArray):Option Int :=
 if 1<w.size/\w.data.toList.headD 0=48 then none
 else okNum (Lib.atoiAll w.data.toList)
def p8 (ts:List Tok):Option (Int×List Tok) :=
 if (aH ts).1.sign=48 then (vq (aH ts).1.word).map fun v=>(v,(aH ts).2) else none
def bX (op:Int) (ts:List Tok):Option ((Int×Int)×List Tok) :=
 if lC op then
  match bm 91 ts with
  | none=>none
  | some t1=>match p8 t1 with
   | none=>none
   | some (a,t2)=>match bm 44 t2 with
    | none=>none
    | some t3=>match p8 t3 with
     | none=>none
     | some (b,t4)=>match bm 93 t4 with
      | none=>none
      | some t5=>if b<a then none else some ((a,b),t5)
 else some ((0,0),ts)
def vU:ByteArray:=⟨#[116,114,117,101]⟩
def jr (t:Tok):Option (BT aO) :=
 if t.word=vU then some (mk 116 ByteArray.empty 0 0 .nil .nil)
 else if 8<t.word.size then none
 else some (mk 97 t.word 0 0 .nil .nil)
def gO (f:List Tok->Option (BT aO×List Tok)) (op:Int) (ts:List Tok):Option (BT aO×List Tok) :=
 match bX op ts with
 | none=>none
 | some ((a,b),t1)=>match f t1 with
  | none=>none
  | some (p,t2)=>some (mk op ByteArray.empty a b p .nil,t2)
def oW (f:List Tok->Option (BT aO×List Tok)) (ts:List Tok):Option (BT aO×List Tok) :=
 match f ts with
 | none=>none
 | some (p,t1) =>
  if (aH t1).1.sign=8743\/(aH t1).1.sign=8744\/(aH t1).1.sign=83 then
   match bX (aH t1).1.sign (aH t1).2 with
   | none=>none
   | some ((a,b),t2)=>match f t2 with
    | none=>none
    | some (q,t3)=>match bm 41 t3 with
     | none=>none
     | some t4=>some (mk (aH t1).1.sign ByteArray.empty a b p q,t4)
  else none
def jG (f:List Tok->Option (BT aO×List Tok)) (ts:List Tok):Option (BT aO×List Tok) :=
 if (aH ts).1.sign=97 then (jr (aH ts).1).map fun x=>(x,(aH ts).2)
 else if (aH ts).1.sign=40 then oW f (aH ts).2
 else if (aH ts).1.sign=172\/(aH ts).1.sign=89\/(aH ts).1.sign=79\/(aH ts).1.sign=72 then gO f (aH ts).1.sign (aH ts).2
 else none
def gT:Nat->List Tok->Option (BT aO×List Tok)
 | 0=>fun _=>none
 | n+1=>jG (gT n)
def Ends (ts:List Tok):Prop:=∃ front e,ts=front++[e]/\e.sign = -1/\e.word.size<=300/\∀ t,t∈front->t.sign≠-1/\t.word.size<=300
theorem Ends.take {ts:List Tok} (h:Ends ts):Ends (aH ts).2/\(aH ts).2.length<=ts.length/\((aH ts).1.sign≠-1->(aH ts).2.length+1=ts.length):=by
 obtain ⟨front,e,rfl,he,hs,hf⟩:=h
 match front,hf with
 | [],_=>simp [aH,he];exact ⟨[],e,rfl,he,hs,by simp⟩
 | t::f,hf =>
  have ht:=(hf t (by simp)).1
  simp [aH,ht]
  exact ⟨f,e,rfl,he,hs,fun x hx=>hf x (by simp [hx])⟩
theorem Ends.word {ts:List Tok} (h:Ends ts):(aH ts).1.word.size<=300:=by
 obtain ⟨front,e,rfl,he,hs,hf⟩:=h
 match front,hf with
 | [],_=>simp [aH,he];exact hs
 | t::f,hf =>
  have ht:=hf t (by simp)
  simp [aH,ht.1];exact ht.2
theorem Ends.cons {ts:List Tok} (h:Ends ts):∃ t r,ts=t::r:=by
 obtain ⟨front,e,rfl,_⟩:=h
 cases front with
 | nil=>exact ⟨_,_,rfl⟩
 | cons a l=>exact ⟨_,_,rfl⟩
theorem Ends.expect {ts r:List Tok} {s:Int} (h:Ends ts) (he:bm s ts=some r):Ends r/\r.length<=ts.length:=by
 unfold bm at he
 split at he
 ·injection he with he;subst he;exact ⟨h.take.1,h.take.2.1⟩
 ·cases he
theorem Ends.num {ts r:List Tok} {v:Int} (h:Ends ts) (he:p8 ts=some (v,r)):Ends r/\r.length<=ts.length:=by
 unfold p8 at he
 split at he
 ·cases hb:vq (aH ts).1.word with
  | none=>simp [hb] at he
  | some x=>simp [hb] at he;obtain ⟨_,rfl⟩:=he;exact ⟨h.take.1,h.take.2.1⟩
 ·cases he
theorem Ends.window {ts r:List Tok} {op:Int} {ab:Int×Int} (h:Ends ts) (he:bX op ts=some (ab,r)):Ends r/\r.length<=ts.length:=by
 unfold bX at he
 split at he
 ·cases h1:bm 91 ts with
  | none=>simp [h1] at he
  | some t1 =>
   obtain ⟨e1,l1⟩:=h.expect h1
   simp only [h1] at he
   cases h2:p8 t1 with
   | none=>simp [h2] at he
   | some x =>
    obtain ⟨a,t2⟩:=x
    obtain ⟨e2,l2⟩:=e1.num h2
    simp only [h2] at he
    cases h3:bm 44 t2 with
    | none=>simp [h3] at he
    | some t3 =>
     obtain ⟨e3,l3⟩:=e2.expect h3
     simp only [h3] at he
     cases h4:p8 t3 with
     | none=>simp [h4] at he
     | some y =>
      obtain ⟨b,t4⟩:=y
      obtain ⟨e4,l4⟩:=e3.num h4
      simp only [h4] at he
      cases h5:bm 93 t4 with
      | none=>simp [h5] at he
      | some t5 =>
       obtain ⟨e5,l5⟩:=e4.expect h5
       simp only [h5] at he
       split at he
       ·cases he
       ·injection he with he;injection he with _ he;subst he;exact ⟨e5,by omega⟩
 ·injection he with he;injection he with _ he;subst he;exact ⟨h,Nat.le_refl _⟩
def sU (f:List Tok->Option (BT aO×List Tok)):Prop:=∀ ts T r,Ends ts->f ts=some (T,r)->Ends r/\r.length<=ts.length
theorem keeps_single {f:List Tok->Option (BT aO×List Tok)} (hf:sU f) (op:Int):sU (gO f op):=by
 intro ts T r h he
 unfold gO at he
 cases h1:bX op ts with
 | none=>simp [h1] at he
 | some x =>
  obtain ⟨⟨a,b⟩,t1⟩:=x
  obtain ⟨e1,l1⟩:=h.window h1
  simp only [h1] at he
  cases h2:f t1 with
  | none=>simp [h2] at he
  | some y =>
   obtain ⟨p,t2⟩:=y
   obtain ⟨e2,l2⟩:=hf _ _ _ e1 h2
   simp only [h2] at he
   injection he with he;injection he with _ he;subst he;exact ⟨e2,by omega⟩
theorem keeps_pair {f:List Tok->Option (BT aO×List Tok)} (hf:sU f):sU (oW f):=by
 intro ts T r h he
 unfold oW at he
 cases h1:f ts with
 | none=>simp [h1] at he
 | some x =>
  obtain ⟨p,t1⟩:=x
  obtain ⟨e1,l1⟩:=hf _ _ _ h h1
  simp only [h1] at he
  split at he
  ·cases h2:bX (aH t1).1.sign (aH t1).2 with
   | none=>simp [h2] at he
   | some y =>
    obtain ⟨⟨a,b⟩,t2⟩:=y
    obtain ⟨e2,l2⟩:=e1.take.1.window h2
    have l1':=e1.take.2.1
    simp only [h2] at he
    cases h3:f t2 with
    | none=>simp [h3] at he
    | some z =>
     obtain ⟨q,t3⟩:=z
     obtain ⟨e3,l3⟩:=hf _ _ _ e2 h3
     simp only [h3] at he
     cases h4:bm 41 t3 with
     | none=>simp [h4] at he
     | some t4 =>
      obtain ⟨e4,l4⟩:=e3.expect h4
      simp only [h4] at he
      injection he with he;injection he with _ he;subst he;exact ⟨e4,by omega⟩
  ·cases he
theorem keeps_step {f:List Tok->Option (BT aO×List Tok)} (hf:sU f):sU (jG f):=by
 intro ts T r h he
 have ht:=h.take
 unfold jG at he
 split at he
 ·cases hb:jr (aH ts).1 with
  | none=>simp [hb] at he
  | some x=>simp [hb] at he;obtain ⟨_,rfl⟩:=he;exact ⟨ht.1,ht.2.1⟩
 ·split at he
  ·have:=keeps_pair hf _ _ _ ht.1 he;exact ⟨this.1,by omega⟩
  ·split at he
   ·have:=keeps_single hf _ _ _ _ ht.1 he;exact ⟨this.1,by omega⟩
   ·cases he
theorem nG:∀ n,sU (gT n)
 | 0=>fun _ _ _ _ he=>by cases he
 | n+1=>keeps_step (nG n)
end
section
open Go.RowKit Go.Deep
theorem ret_int {k:IntKind} {a b:Int} (h:a=b):Ending.returned (.int k a)=.returned (.int k b):=by rw [h]
structure Only (s:Nat) (w w':World):Prop where
 os:w'.os=w.os
 tape:w'.tape=w.tape
 output:w'.output=w.output
 size:w.heap.size<=w'.heap.size
 block:∀ k,k<w.heap.size->k≠s->w'.heap[k]? = w.heap[k]?
theorem Only.refl (s:Nat) (w:World):Only s w w:=⟨rfl,rfl,rfl,Nat.le_refl _,fun _ _ _=>rfl⟩
theorem Only.trans {s:Nat} {a b c:World} (h:Only s a b) (k:Only s b c):Only s a c :=
 ⟨k.os.trans h.os,k.tape.trans h.tape,k.output.trans h.output,Nat.le_trans h.size k.size,fun i hi hs=>(k.block i (Nat.lt_of_lt_of_le hi h.size) hs).trans (h.block i hi hs)⟩
theorem Only.aL {s:Nat} {a b:World} (h:Below a.heap.size a b):Only s a b :=
 ⟨h.os,h.tape,h.output,h.size,fun k hk _=>h.block k hk⟩
theorem Only.below {s B:Nat} {a b:World} (h:Only s a b) (hB:B<=s) (hs:B<=a.heap.size):Below B a b :=
 ⟨h.os,h.tape,h.output,h.size,fun k hk=>h.block k (by omega) (by omega)⟩
theorem Only.drew {s:Nat} {a w:World} (h:Only s a w):Only s a w.drew:=⟨h.os,h.tape,h.output,h.size,h.block⟩
theorem Only.alloc {s:Nat} {a w:World} (h:Only s a w) (o:Obj):Only s a (w.alloc o) :=
 h.trans ⟨rfl,rfl,rfl,by simp,fun k hk _=>Below.heap_alloc _ _ _ hk⟩
theorem Only.setCell {s:Nat} {a w:World} (h:Only s a w) {p:Addr} (hp:p.block=s\/a.heap.size<=p.block) (u:Value):Only s a (w.setCell p u) :=
 ⟨h.os,h.tape,h.output,by simpa [World.setCell] using h.size,fun k hk hs=>(Below.heap_setCell _ _ _ _ (by omega)).trans (h.block k hk hs)⟩
theorem Only.heap {s:Nat} {a w:World} (h:Only s a w) {k:Nat} {o:Obj} (hk:a.heap[k]? = some o) (hs:k≠s):w.heap[k]? = some o:=by
 rw [h.block k (Array.getElem?_eq_some_iff.1 hk).1 hs];exact hk
theorem _root_.Go.RowKit.Below.aE {a w:World} (h:Below a.heap.size a w) {k:Nat} {o:Obj} (hk:a.heap[k]? = some o):w.heap[k]? = some o:=by
 rw [h.block k (Array.getElem?_eq_some_iff.1 hk).1];exact hk
theorem _root_.Go.RowKit.Below.al {a w:World} (h:Below a.heap.size a w) (o:Obj):Below a.heap.size a (w.alloc o):=h.alloc h.size o
theorem _root_.Go.RowKit.Below.tr {a b c:World} (h:Below a.heap.size a b) (k:Below b.heap.size b c):Below a.heap.size a c:=h.trans (k.mono h.size)
theorem Only.tb {s:Nat} {a b c:World} (h:Only s a b) (k:Below b.heap.size b c):Only s a c:=h.trans (Only.aL k)
theorem aw {w:World} {k:Nat} {o:Obj} (h:w.heap[k]? = some o):k<w.heap.size:=(Array.getElem?_eq_some_iff.1 h).1
theorem ae {w:World} {k i:Nat} {c:Array Value} {e:TypeId} {m:Nat×Nat} {v:Value} (h:w.heap[k]? = some (.cells c e m)) (hc:c[i]? = some v):w.cell? ⟨k,i,none⟩=some v:=by
 simp [World.cell?,h,hc]
theorem i_ {w:World} {p:Addr} {v:Value} (h:w.cell? p=some v):p.block<w.heap.size:=by
 rcases Nat.lt_or_ge p.block w.heap.size with h' | h'
 ·exact h'
 ·simp [World.cell?,Array.getElem?_eq_none h'] at h
def cq (t:Tok):List Value:=[.int .i32 t.sign,.int .i64 t.place,.string t.word]
def qK (B:Nat) (w:World) (v:Value) (ts:List Tok):Prop :=
 ∃ tb off cap cs e m tail,v=.slice (some ⟨tb,off,none⟩) ts.length cap/\tb<B/\w.heap[tb]? = some (.cells cs e m)/\ts.length<=cap/\cap<=maxLen/\cs.toList.drop off=(ts.map cq).flatten++tail
theorem qK.only {B s:Nat} {w w':World} {v:Value} {ts:List Tok} (h:qK B w v ts) (ho:Only s w w') (hs:B<=s):qK B w' v ts:=by
 obtain ⟨tb,off,cap,cs,e,m,tail,rfl,htb,hh,r⟩:=h
 exact ⟨tb,off,cap,cs,e,m,tail,rfl,htb,ho.heap hh (by omega),r⟩
def gj (T:TypeId) (rb:Nat) (w:World) (ts:List Tok):Prop:=∃ v,w.heap[rb]? = some (.cells #[v] T (0,0))/\qK rb w v ts
theorem gj.lt {T:TypeId} {rb:Nat} {w:World} {ts:List Tok} (h:gj T rb w ts):rb<w.heap.size:=by
 obtain ⟨v,hv,_⟩:=h;exact aw hv
theorem gj.below {T:TypeId} {rb:Nat} {w w':World} {ts:List Tok} (h:gj T rb w ts) (hb:Below w.heap.size w w'):gj T rb w' ts:=by
 obtain ⟨v,hv,ht⟩:=h
 exact ⟨v,Below.aE hb hv,ht.only (s:=rb) (Only.aL hb) (Nat.le_refl _)⟩
theorem gj.alloc {T:TypeId} {rb:Nat} {w:World} {ts:List Tok} (h:gj T rb w ts) (o:Obj):gj T rb (w.alloc o) ts :=
 h.below ((Below.refl _ _).alloc (Nat.le_refl _) o)
theorem gj.setCell {T:TypeId} {rb:Nat} {w:World} {ts:List Tok} (h:gj T rb w ts) {p:Addr} (hp:rb<p.block) (u:Value):gj T rb (w.setCell p u) ts:=by
 obtain ⟨v,hv,ht⟩:=h
 exact ⟨v,by rw [Below.heap_setCell _ _ _ _ (by omega)];exact hv,ht.only (s:=p.block) ((Only.refl _ _).setCell (.inl rfl) _) (by omega)⟩
def aC (S:TypeId) (B:Nat) (w:World):BT aO->Value->Prop
 | .nil,v=>v=.pointer none
 | .node _ _ a l r,v=>∃ b vl vr,v=.pointer (some ⟨b,0,none⟩)/\B<=b/\w.heap[b]? = some (.cells #[.int .i32 a.op,.string a.name,.int .i64 a.lo,.int .i64 a.hi,vl,vr] S (0,0))/\aC S B w l vl/\aC S B w r vr
theorem aC.heap {S:TypeId} {B:Nat} {w w':World} (hh:∀ k o,B<=k->w.heap[k]? = some o->w'.heap[k]? = some o):∀ {x:BT aO} {v:Value},aC S B w x v->aC S B w' x v
 | .nil,_,h=>h
 | .node _ _ _ l r,_,⟨b,vl,vr,e,hb,hc,hl,hr⟩=>⟨b,vl,vr,e,hb,hh b _ hb hc,aC.heap hh (x:=l) hl,aC.heap hh (x:=r) hr⟩
theorem aC.only {S:TypeId} {B s:Nat} {w w':World} {x:BT aO} {v:Value} (h:aC S B w x v) (ho:Only s w w') (hs:s<B):aC S B w' x v :=
 aC.heap (fun k o hk hc=>ho.heap hc (by omega)) h
theorem aC.below {S:TypeId} {B:Nat} {w w':World} {x:BT aO} {v:Value} (h:aC S B w x v) (hb:Below w.heap.size w w'):aC S B w' x v :=
 aC.heap (fun _ _ _ hc=>Below.aE hb hc) h
theorem aC.low {S:TypeId} {B B':Nat} {w:World} (hB:B'<=B):∀ {x:BT aO} {v:Value},aC S B w x v->aC S B' w x v
 | .nil,_,h=>h
 | .node _ _ _ l r,_,⟨b,vl,vr,e,hb,hc,hl,hr⟩=>⟨b,vl,vr,e,Nat.le_trans hB hb,hc,aC.low hB (x:=l) hl,aC.low hB (x:=r) hr⟩
theorem aB (w:World) (o:Obj) (k:Nat) (h:k=w.heap.size):(w.alloc o).heap[k]? = some o:=by
 subst h;show (w.heap.push o)[w.heap.size]? = some o;simp
theorem lA {S:TypeId} {B b:Nat} {w:World} {op lo hi:Int} {name:ByteArray} {l r:BT aO} {vl vr:Value} (hB:B<=b) (hh:w.heap[b]? = some (.cells #[.int .i32 op,.string name,.int .i64 lo,.int .i64 hi,vl,vr] S (0,0)))
  (hl:aC S B w l vl) (hr:aC S B w r vr):aC S B w (mk op name lo hi l r) (.pointer (some ⟨b,0,none⟩)):=⟨b,vl,vr,rfl,hB,hh,hl,hr⟩
theorem gZ {S:TypeId} {B:Nat} {w:World} {x:BT aO} {v:Value} (h:aC S B w x v):∃ vv,v=Value.pointer vv:=by
 cases x with
 | nil=>exact ⟨_,h⟩
 | node _ _ _ _ _=>obtain ⟨b,_,_,hb,_⟩:=h;exact ⟨_,hb⟩
theorem head_get (s:ByteArray) (h:0<s.size):s.data.toList.headD 0=s[0]:=by
 obtain ⟨⟨l⟩⟩:=s
 cases l with
 | nil=>simp [ByteArray.size] at h
 | cons a l=>rfl
theorem toks_head {B:Nat} {w:World} {v:Value} {t:Tok} {ts:List Tok} (h:qK B w v (t::ts)) :
  ∃ tb off cap,v=.slice (some ⟨tb,off,none⟩) (ts.length+1) cap/\tb<B/\ts.length+1<=cap/\cap<=maxLen/\w.cell? ⟨tb,off,none⟩=some (.int .i32 t.sign)/\w.cell? ⟨tb,off+1,none⟩=some (.int .i64 t.place)/\w.cell? ⟨tb,off+2,none⟩=some (.string t.word)/\
   ∀ s w',Only s w w'->B<=s->qK B w' (.slice (some ⟨tb,off+3,none⟩) ts.length (cap-1)) ts:=by
 obtain ⟨tb,off,cap,cs,e,m,tail,rfl,htb,hh,hc,hm,hd⟩:=h
 have g:∀ i v,i<3->(cq t)[i]? = some v->cs[off+i]? = some v:=by
  intro i v hi hv
  have h1:(cs.toList.drop off)[i]? = some v:=by
   rw [hd]
   simp only [List.map_cons,List.flatten_cons,List.append_assoc]
   rw [List.getElem?_append_left (by simp [cq];omega)]
   exact hv
  rw [List.getElem?_drop] at h1
  simpa using h1
 refine ⟨tb,off,cap,by simp,htb,by simpa using hc,hm,ae hh (g 0 _ (by omega) rfl),ae hh (g 1 _ (by omega) rfl),ae hh (g 2 _ (by omega) rfl),?_⟩
 intro s w' ho hs
 refine ⟨tb,off+3,cap-1,cs,e,m,tail,rfl,htb,ho.heap hh (by omega),by simp at hc;omega,by omega,?_⟩
 rw [<- List.drop_drop,hd]
 simp [cq]
end
def growF (s:ByteArray) (pos:Nat) (bp:List Tok):List Tok :=
 match bp.getLast? with
 | some t=>bp.dropLast++[⟨t.sign,t.place,s.extract t.place.toNat (pos+1)⟩]
 | none=>bp
theorem pT (s:ByteArray) (pos:Nat) (ts:List Tok) (t:Tok):growF s pos (ts++[t])=ts++[⟨t.sign,t.place,s.extract t.place.toNat (pos+1)⟩]:=by
 simp [growF]
def eS (s:ByteArray):Tok:=⟨-1,s.size,ByteArray.empty⟩
def cJ (s:ByteArray):Nat->Nat->Int->List Tok->Option (List Tok)
 | 0,_,_,bp=>some (bp++[eS s])
 | b+1,pos,last,bp =>
  if pos<s.size then
   if bM (Utf8.decode s pos).1 = -2 then none
   else if bM (Utf8.decode s pos).1=last/\gR (bM (Utf8.decode s pos).1)=true then
    cJ s b (pos+(Utf8.decode s pos).2) (bM (Utf8.decode s pos).1) (growF s pos bp)
   else if bM (Utf8.decode s pos).1=32 then cJ s b (pos+(Utf8.decode s pos).2) (bM (Utf8.decode s pos).1) bp
   else cJ s b (pos+(Utf8.decode s pos).2) (bM (Utf8.decode s pos).1) (bp++[⟨bM (Utf8.decode s pos).1,pos,Utf8.encode (Utf8.decode s pos).1⟩])
  else some (bp++[eS s])
theorem mg (s:ByteArray) (b pos:Nat) (last:Int) (bp:List Tok) (h:¬ pos<s.size):cJ s b pos last bp=some (bp++[eS s]):=by
 cases b with
 | zero=>rfl
 | succ b=>simp [cJ,h]
structure Mid (pos:Nat) (last:Int) (bp:List Tok):Prop where
 each:∀ t,t∈bp->t.sign≠-1/\t.word.size<=300/\0<=t.place/\t.place<=pos
 len:bp.length<=pos
 join:gR last=true->bp≠[]
theorem Mid.start:Mid 0 32 []:=⟨by simp,by simp,by intro h;exact absurd h (by decide)⟩
theorem Mid.ends {pos:Nat} {last:Int} {bp:List Tok} (h:Mid pos last bp) (s:ByteArray):Ends (bp++[eS s]) :=
 ⟨bp,eS s,rfl,rfl,by show ByteArray.empty.size<=300;decide,fun t ht=>⟨(h.each t ht).1,(h.each t ht).2.1⟩⟩
theorem encode_le (r:Int):(Utf8.encode r).size<=4:=by
 unfold Utf8.encode
 simp only
 repeat' split
 all_goals simp [ByteArray.size]
theorem Mid.blank {pos p2:Nat} {last:Int} {bp:List Tok} (h:Mid pos last bp) (hp:pos<=p2):Mid p2 32 bp :=
 ⟨fun t ht=>by have:=h.each t ht;exact ⟨this.1,this.2.1,this.2.2.1,by omega⟩,by have:=h.len;omega,by intro h;exact absurd h (by decide)⟩
theorem Mid.more {pos p2:Nat} {last sg r:Int} {bp:List Tok} (h:Mid pos last bp) (hp:pos<p2) (hs:sg≠-1):Mid p2 sg (bp++[⟨sg,pos,Utf8.encode r⟩]):=by
 refine ⟨?_,by have:=h.len;simp;omega,by simp⟩
 intro t ht
 rcases List.mem_append.1 ht with ht | ht
 ·have:=h.each t ht;exact ⟨this.1,this.2.1,this.2.2.1,by omega⟩
 ·simp at ht;subst ht
  have:=encode_le r
  exact ⟨hs,by show (Utf8.encode r).size<=300;omega,by show (0:Int)<=pos;omega,by show (pos:Int)<=p2;omega⟩
theorem Mid.grow {pos p2:Nat} {last sg:Int} {ts:List Tok} {t:Tok} {s:ByteArray} (h:Mid pos last (ts++[t])) (hp:pos<p2) (oK:s.size<=300) :
  Mid p2 sg (ts++[⟨t.sign,t.place,s.extract t.place.toNat (pos+1)⟩]):=by
 refine ⟨?_,by have:=h.len;simp at this ⊢;omega,by simp⟩
 intro x hx
 rcases List.mem_append.1 hx with hx | hx
 ·have:=h.each x (by simp [hx]);exact ⟨this.1,this.2.1,this.2.2.1,by omega⟩
 ·simp at hx;subst hx
  have:=h.each t (by simp)
  refine ⟨this.1,?_,this.2.2.1,by have:=this.2.2.2;show t.place<=(p2:Int);omega⟩
  show (s.extract t.place.toNat (pos+1)).size<=300
  rw [ByteArray.size_extract];omega
theorem signF_ne (r:Int):bM r≠-1\/bM r = -2:=by
 unfold bM
 repeat' split
 all_goals omega
theorem width_pos (s:ByteArray) (pos:Nat) (h:pos<s.size):1<=(Utf8.decode s pos).2:=by
 by_cases ha:(s[pos]'h).toNat<128
 ·rw [decode_ascii s pos h ha]
  exact Nat.le_refl _
 ·exact (decode_high s pos h (by omega)).2
theorem width_le (s:ByteArray) (pos:Nat):(Utf8.decode s pos).2<=4:=by
 unfold Utf8.decode
 simp only
 repeat' split
 all_goals simp
section
open Go.Deep (BT)
def aK:BT aO->Nat
 | .nil=>0
 | .node _ _ _ l r=>1+max (aK l) (aK r)
def ax:BT aO->Int
 | .nil=>0
 | .node _ _ a l r=>a.hi+max (ax l) (ax r)
def WinOK:BT aO->Prop
 | .nil=>True
 | .node _ _ a l r=>(0<=a.lo/\a.lo<=a.hi/\a.hi<=1000000)/\WinOK l/\WinOK r
theorem ly:∀ {x:BT aO},WinOK x->0<=ax x/\ax x<=1000000*aK x
 | .nil,_=>by simp [ax,aK]
 | .node _ _ a l r,⟨h,hl,hr⟩=>by
  have h1:=ly hl
  have h2:=ly hr
  simp only [ax,aK]
  omega
def Shallow (n:Nat) (f:List Tok->Option (BT aO×List Tok)):Prop:=∀ ts x r,f ts=some (x,r)->aK x<=n
theorem shallow_step {n:Nat} {f:List Tok->Option (BT aO×List Tok)} (hf:Shallow n f):Shallow (n+1) (jG f):=by
 intro ts x r h
 unfold jG at h
 split at h
 ·cases hw:jr (aH ts).1 with
  | none=>simp [hw] at h
  | some y =>
   simp [hw] at h
   obtain ⟨rfl,_⟩:=h
   unfold jr at hw
   split at hw
   ·injection hw with hw;subst hw;simp [mk,aK]
   ·split at hw
    ·cases hw
    ·injection hw with hw;subst hw;simp [mk,aK]
 ·split at h
  ·unfold oW at h
   cases h1:f (aH ts).2 with
   | none=>simp [h1] at h
   | some y =>
    obtain ⟨p,t1⟩:=y
    have d1:=hf _ _ _ h1
    simp only [h1] at h
    split at h
    ·cases h2:bX (aH t1).1.sign (aH t1).2 with
     | none=>simp [h2] at h
     | some y =>
      obtain ⟨⟨a,b⟩,t2⟩:=y
      simp only [h2] at h
      cases h3:f t2 with
      | none=>simp [h3] at h
      | some z =>
       obtain ⟨q,t3⟩:=z
       have d2:=hf _ _ _ h3
       simp only [h3] at h
       cases h4:bm 41 t3 with
       | none=>simp [h4] at h
       | some t4 =>
        simp only [h4] at h
        injection h with h;injection h with h _;subst h
        simp only [mk,aK];omega
    ·cases h
  ·split at h
   ·unfold gO at h
    cases h1:bX (aH ts).1.sign (aH ts).2 with
    | none=>simp [h1] at h
    | some y =>
     obtain ⟨⟨a,b⟩,t1⟩:=y
     simp only [h1] at h
     cases h2:f t1 with
     | none=>simp [h2] at h
     | some z =>
      obtain ⟨p,t2⟩:=z
      have d1:=hf _ _ _ h2
      simp only [h2] at h
      injection h with h;injection h with h _;subst h
      simp only [mk,aK];omega
   ·cases h
theorem tj:∀ n,Shallow n (gT n)
 | 0=>fun _ _ _ h=>by cases h
 | n+1=>shallow_step (tj n)
def cI (s:ByteArray):Option (BT aO)×Int :=
 if 300<s.size then (none,1)
 else match cJ s s.size 0 32 [] with
  | none=>(none,1)
  | some ts=>match gT ts.length ts with
   | none=>(none,1)
   | some (x,r)=>match bm (-1) r with
    | none=>(none,1)
    | some _=>if 12<aK x then (none,2) else (some x,0)
def cP (r:Int):List UInt8:=if r=172 then [194,172] else if r=8743 then [226,136,167] else if r=8744 then [226,136,168] else if r=89 then [89] else if r=79 then [79] else if r=72 then [72] else [83]
def oa (r:Int):Prop:=r=172\/r=8743\/r=8744\/r=89\/r=79\/r=72\/r=83
def opW (a:aO):List UInt8:=if lC a.op then cP a.op++[91]++Lib.itoa a.lo++[44]++Lib.itoa a.hi++[93] else cP a.op
def aS:BT aO->List UInt8
 | .nil=>[]
 | .node _ _ a l r =>
  if a.op=116 then [116,114,117,101]
  else if a.op=97 then a.name.data.toList
  else if a.op=8743\/a.op=8744\/a.op=83 then [40]++aS l++[32]++opW a++[32]++aS r++[41]
  else opW a++aS l
def Good:BT aO->Prop
 | .nil=>False
 | .node _ _ a l r =>
  (a.op=116/\a.name=ByteArray.empty/\a.lo=0/\a.hi=0/\l=.nil/\r=.nil)
  \/(a.op=97/\(1<=a.name.size/\a.name.size<=8/\a.name≠vU/\∀ c,c∈a.name.data.toList->97<=c.toNat/\c.toNat<=122)/\a.lo=0/\a.hi=0/\l=.nil/\r=.nil)
  \/((a.op=8743\/a.op=8744\/a.op=83)/\a.name=ByteArray.empty/\(0<=a.lo/\a.lo<=a.hi/\a.hi<=1000000)/\(lC a.op=false->a.lo=0/\a.hi=0)/\Good l/\Good r)
  \/((a.op=172\/a.op=89\/a.op=79\/a.op=72)/\a.name=ByteArray.empty/\(0<=a.lo/\a.lo<=a.hi/\a.hi<=1000000)/\(lC a.op=false->a.lo=0/\a.hi=0)/\Good l/\r=.nil)
theorem Good.win:∀ {x:BT aO},Good x->WinOK x
 | .node _ _ a l r,h=>by
  rcases h with ⟨_,_,h1,h2,rfl,rfl⟩ | ⟨_,_,h1,h2,rfl,rfl⟩ | ⟨_,_,h1,_,hl,hr⟩ | ⟨_,_,h1,_,hl,rfl⟩
  ·exact ⟨by omega,trivial,trivial⟩
  ·exact ⟨by omega,trivial,trivial⟩
  ·exact ⟨h1,hl.win,hr.win⟩
  ·exact ⟨h1,hl.win,trivial⟩
end
end Go.Proofs.YtpbbmagjhkakgaaGreatDoor
