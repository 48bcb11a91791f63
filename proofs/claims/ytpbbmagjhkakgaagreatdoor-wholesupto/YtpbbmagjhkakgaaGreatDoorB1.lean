import Derived.Test.YtpbbmagjhkakgaaGreatDoorA6
import Derived.DeepKeys4
namespace Go.Proofs.YtpbbmagjhkakgaaGreatDoor
open Tryz Go.RowKit Go.Deep Go.Maps
def Eu(k:Key):aE:=.agg #[.int .i32 k.op,.string k.name,.int .i64 k.lo,.int .i64 k.hi,.int .i64 k.l,.int .i64 k.r]
structure Key.OK(k:Key):Prop where
 op:(Lit.int .i32 k.op).wf=true
 name:k.name.size<=maxLen
 lo:(Lit.int .i64 k.lo).wf=true
 hi:(Lit.int .i64 k.hi).wf=true
 l:(Lit.int .i64 k.l).wf=true
 r:(Lit.int .i64 k.r).wf=true
theorem aai:prog.keyType 226=true:=aL
theorem Wr(k):(Eu k).formed prog 226=true:=aL
theorem aah:prog.types.size=386:=aL
theorem YH:prog.cellsOf 226=6:=aL
theorem aa5:prog.cellsOf 141=1:=aL
theorem B6:prog.cellsOf 9=1:=aL
theorem aak:prog.cellsOf 140=2:=aL
theorem aaj:prog.cellsOf 3=1:=aL
def T9(k:Key):aB Lit:=[.int .i32 k.op,.string k.name.data.toList,.int .i64 k.lo,.int .i64 k.hi,.int .i64 k.l,.int .i64 k.r]
def NT(k:Key):Lit:=.string (keyBytes (T9 k))
theorem Uf(d k)(h:k.OK):prog.keyLits (d+1+1+1) 226 [.int .i32 k.op,.string k.name,Iv k.lo,Iv k.hi,Iv k.l,Iv k.r]=some (T9 k):=by
 simp[Program.keyLits,underlying226,underlying141,underlying9,underlying140,underlying3,YH,aa5,B6,aak,aaj,h.op,h.name,h.lo,h.hi,h.l,h.r,T9];rw[bY (by intro i hi;match i,hi with|0,_=>simp|1,_=>simp)];rfl
theorem wQ(k)(h:k.OK):keyOf prog 226 (Eu k)=some (NT k):=by
 unfold keyOf;rw[underlying226];simp only[aai,Wr,Bool.and_self,fB];rw[aah];exact oB (Option.map λls=>Lit.string (keyBytes ls)) (Uf 384 k h)
theorem laidOut:laidOutB prog=true:=aL
theorem law:Keyed prog 226:=Keyed.of_law (deep_law_laid laidOut (m:=3) aA (yC aL) aL aL)
theorem Xi(w):(zeroValue 3).run prog w=.ok (Iv 0) w:=aL
theorem T8{k q}(b:k.OK)(a:q.OK)(h:NT k=NT q):k=q:=by
 let e:=law.inj (wQ k b) (h▸wQ q a);cases k;cases q;simp[Eu]at e;let⟨h1,h2,h3,h4,h5,h6⟩:=e;subst h1;subst h2;subst h3;subst h4;subst h5;subst h6;rfl
def mL(mb:Nat)(w:aC)(K:aB Key):Prop:=
 ∃(n:Nat)(D:DataW Unit),w.ownsMap prog 226 (plainElem prog 3) mb n D/\n<=K.length/\Maps.size D=K.length/\(∀k,k∈K->k.OK)/\
  ∀k:Key,k.OK->Maps.has D (NT k)=(rz K k).isSome/\D.atKey (NT k) (.lit (.int .i64 0))=.lit (.int .i64 (N1 K k))
theorem mL.lt{mb w K}(h:mL mb w K):mb<w.heap.size:=by obtain⟨n,D,a,_⟩:=h;exact a.lt
theorem mL.made(w:aC):mL w.heap.size (w.alloc (.map #[] 0)) []:=
 ⟨0,.map [],World.ownsMap_made w _ _ _,aZ,rfl,aF,λk _=>⟨rfl,rfl⟩⟩
theorem mL.heap{mb w w' K}(h:mL mb w K)(a:w'.heap[mb]?=w.heap[mb]?):mL mb w' K:=by
 let⟨n,D,⟨es,clock,h1,h2⟩,r⟩:=h;exact⟨n,D,⟨es,clock,by rw[a];exact h1,h2⟩,r⟩
theorem mL.look{mb w K}(h:mL mb w K)(k)(d:k.OK):
  (Instr.lookup 94 (.map (some mb)) (Eu k) true).run prog w=.ok (.tuple #[Iv (N1 K k),.bool (rz K k).isSome]) w:=by
 let⟨n,D,ho,hn,hs,hK,Gj⟩:=h;let⟨h1,h2⟩:=Gj k d;let⟨v,ps,Eo,hv⟩:=ho.look_ok law underlying94 (Xi w) (plainElem_int underlying3 aG) (wQ k d);obtain⟨c,rfl,e,_⟩:=plainElem_int_inv underlying3 hv;let a:N1 K k=c:=by
  let b:=h2.symm.trans (oB Prod.fst e);simp only[DataW.lit.injEq,Lit.int.injEq,wH]at b;exact b
 rw[h1]at Eo;rw[a];exact Eo
theorem mL.store{mb w K}(h:mL mb w K)(k)(f:k.OK)(a:rz K k=none)(r:K.length<=1000000000000000000):
  ∃w',(Instr.mapUpdate 94 (.map (some mb)) (Eu k) (Iv ((K.length:Int)+1))).run prog w=.ok () w'/\mL mb w' (K++[k])/\Only mb w w':=by
 obtain⟨n,D,m,u,s,t,b⟩:=h;let o:(Lit.int .i64 ((K.length:Int)+1)).wf=true:=MJ aA;obtain⟨w',j,l,g⟩:=m.update law underlying94 eP (wQ k f) (plainElem_int underlying3 o);let p:=(m.tidy law).isMap;refine⟨w',j,⟨n+1,_,l,bI,?_,?_,?_⟩,⟨g.os,g.tape,g.output,g.size,λi hi d=>g.block i hi bI⟩⟩
 .rw[size_put (m.tidy law),(b k f).1,a,s];simp
 .intro q c;obtain c|c:=jc.1 c
  .exact t q c
  .simp at c;subst c;exact f
 .intro q c;by_cases e:q=k
  .subst e;refine⟨?_,?_⟩
   .rw[has_put_same p (law.key (wQ q f)),vZ K q a];rfl
   .rw[atKey_put_same p (law.key (wQ q f))];unfold N1;rw[vZ K q a]
  .let d:NT q≠NT k:=λh=>e (T8 c f h);refine⟨?_,?_⟩
   .rw[has_put_other d,uG K k q e];exact(b q c).1
   .rw[atKey_put_other d];unfold N1;rw[uG K k q e];exact(b q c).2
end Go.Proofs.YtpbbmagjhkakgaaGreatDoor
