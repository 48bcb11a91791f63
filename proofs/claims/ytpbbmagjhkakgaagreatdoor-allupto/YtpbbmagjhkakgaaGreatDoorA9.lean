import Derived.Test.YtpbbmagjhkakgaaGreatDoorA5
import Derived.DeepKeys4
namespace Go.Proofs.YtpbbmagjhkakgaaGreatDoor
open Tryz Go.RowKit Go.Deep Go.Maps
def D8(k:Key):aF:=.agg #[.int .i32 k.op,.string k.name,.int .i64 k.lo,.int .i64 k.hi,.int .i64 k.l,.int .i64 k.r]
structure Key.OK(k:Key):Prop where
 op:(Lit.int .i32 k.op).wf=true
 name:k.name.size<=maxLen
 lo:(Lit.int .i64 k.lo).wf=true
 hi:(Lit.int .i64 k.hi).wf=true
 l:(Lit.int .i64 k.l).wf=true
 r:(Lit.int .i64 k.r).wf=true
theorem Zk:prog.keyType 226=true:=aM
theorem VH(k):(D8 k).formed prog 226=true:=aM
theorem Zj:prog.types.size=386:=aM
theorem XT:prog.cellsOf 226=6:=aM
theorem aaF:prog.cellsOf 141=1:=aM
theorem BJ:prog.cellsOf 9=1:=aM
theorem Zm:prog.cellsOf 140=2:=aM
theorem Zl:prog.cellsOf 3=1:=aM
def Tn(k:Key):aB Lit:=[.int .i32 k.op,.string k.name.data.toList,.int .i64 k.lo,.int .i64 k.hi,.int .i64 k.l,.int .i64 k.r]
def Ng(k:Key):Lit:=.string (keyBytes (Tn k))
theorem Tw(d k)(h:k.OK):prog.keyLits (d+1+1+1) 226 [.int .i32 k.op,.string k.name,Iv k.lo,Iv k.hi,Iv k.l,Iv k.r]=some (Tn k):=by
 simp[Program.keyLits,underlying226,underlying141,underlying9,underlying140,underlying3,XT,aaF,BJ,Zm,Zl,h.op,h.name,h.lo,h.hi,h.l,h.r,Tn];rw[bY (by intro i hi;match i,hi with|0,_=>simp|1,_=>simp)];rfl
theorem wm(k)(h:k.OK):keyOf prog 226 (D8 k)=some (Ng k):=by
 unfold keyOf;rw[underlying226];simp only[Zk,VH,Bool.and_self,fA];rw[Zj];exact og (Option.map λls=>Lit.string (keyBytes ls)) (Tw 384 k h)
theorem laidOut:laidOutB prog=true:=aM
theorem law:Keyed prog 226:=Keyed.of_law (deep_law_laid laidOut (m:=3) aA (Fe aM) aM aM)
theorem Ww(w):(zeroValue 3).run prog w=.ok (Iv 0) w:=aM
theorem Tm{k q}(b:k.OK)(a:q.OK)(h:Ng k=Ng q):k=q:=by
 let e:=law.inj (wm k b) (h▸wm q a);cases k;cases q;simp[D8]at e;let⟨h1,h2,h3,h4,h5,h6⟩:=e;subst h1;subst h2;subst h3;subst h4;subst h5;subst h6;rfl
def mC(mb:Nat)(w:aC)(K:aB Key):Prop:=
 ∃(n:Nat)(D:DataW Unit),w.ownsMap prog 226 (plainElem prog 3) mb n D/\n<=K.length/\Maps.size D=K.length/\(∀k,k∈K->k.OK)/\
  ∀k:Key,k.OK->Maps.has D (Ng k)=(q9 K k).isSome/\D.atKey (Ng k) (.lit (.int .i64 0))=.lit (.int .i64 (Nq K k))
theorem mC.lt{mb w K}(h:mC mb w K):mb<w.heap.size:=by obtain⟨n,D,a,_⟩:=h;exact a.lt
theorem mC.made(w:aC):mC w.heap.size (w.alloc (.map #[] 0)) []:=
 ⟨0,.map [],World.ownsMap_made w _ _ _,aX,rfl,aE,λk _=>⟨rfl,rfl⟩⟩
theorem mC.heap{mb w w' K}(h:mC mb w K)(a:w'.heap[mb]?=w.heap[mb]?):mC mb w' K:=by
 let⟨n,D,⟨es,clock,h1,h2⟩,r⟩:=h;exact⟨n,D,⟨es,clock,by rw[a];exact h1,h2⟩,r⟩
theorem mC.look{mb w K}(h:mC mb w K)(k)(d:k.OK):
  (Instr.lookup 94 (.map (some mb)) (D8 k) true).run prog w=.ok (.tuple #[Iv (Nq K k),.bool (q9 K k).isSome]) w:=by
 let⟨n,D,ho,hn,hs,hK,FV⟩:=h;let⟨h1,h2⟩:=FV k d;let⟨v,ps,D3,hv⟩:=ho.look_ok law underlying94 (Ww w) (plainElem_int underlying3 aG) (wm k d);obtain⟨c,rfl,e,_⟩:=plainElem_int_inv underlying3 hv;let a:Nq K k=c:=by
  let b:=h2.symm.trans (og Prod.fst e);simp only[DataW.lit.injEq,Lit.int.injEq,vW]at b;exact b
 rw[h1]at D3;rw[a];exact D3
theorem mC.store{mb w K}(h:mC mb w K)(k)(f:k.OK)(a:q9 K k=none)(r:K.length<=1000000000000000000):
  ∃w',(Instr.mapUpdate 94 (.map (some mb)) (D8 k) (Iv ((K.length:Int)+1))).run prog w=.ok () w'/\mC mb w' (K++[k])/\Only mb w w':=by
 obtain⟨n,D,m,u,s,t,b⟩:=h;let o:(Lit.int .i64 ((K.length:Int)+1)).wf=true:=L9 aA;obtain⟨w',j,l,g⟩:=m.update law underlying94 eP (wm k f) (plainElem_int underlying3 o);let p:=(m.tidy law).isMap;refine⟨w',j,⟨n+1,_,l,bI,?_,?_,?_⟩,⟨g.os,g.tape,g.output,g.size,λi hi d=>g.block i hi bI⟩⟩
 .rw[size_put (m.tidy law),(b k f).1,a,s];simp
 .intro q c;obtain c|c:=i_.1 c
  .exact t q c
  .simp at c;subst c;exact f
 .intro q c;by_cases e:q=k
  .subst e;refine⟨?_,?_⟩
   .rw[has_put_same p (law.key (wm q f)),vG K q a];rfl
   .rw[atKey_put_same p (law.key (wm q f))];unfold Nq;rw[vG K q a]
  .let d:Ng q≠Ng k:=λh=>e (Tm c f h);refine⟨?_,?_⟩
   .rw[has_put_other d,uk K k q e];exact(b q c).1
   .rw[atKey_put_other d];unfold Nq;rw[uk K k q e];exact(b q c).2
end Go.Proofs.YtpbbmagjhkakgaaGreatDoor
