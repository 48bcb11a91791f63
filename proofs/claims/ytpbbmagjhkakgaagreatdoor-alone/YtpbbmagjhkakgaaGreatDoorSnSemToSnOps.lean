import Derived.Test.YtpbbmagjhkakgaaGreatDoorSnAtomsToEdEvent
import Derived.Test.YtpbbmagjhkakgaaGreatDoorSnWatchToEaStep
import Derived.Test.YtpbbmagjhkakgaaGreatDoorEdInvToSnRound
import Derived.Test.YtpbbmagjhkakgaaGreatDoorEaActsToEaEnds
namespace Go.Proofs.YtpbbmagjhkakgaaGreatDoor
namespace Ev
open Go.Deep (BT)
def atomT (c:UInt8):BT aO:=mk 97 ⟨#[c]⟩ 0 0 .nil .nil
theorem good_atom (c:UInt8) (h:97<=c.toNat/\c.toNat<=122):Good (atomT c):=by
 refine .inr (.inl ⟨rfl,⟨by show 1<=1;omega,by show 1<=8;omega,?_,?_⟩,rfl,rfl,rfl,rfl⟩)
 ·intro e
  have:=congrArg ByteArray.size e
  exact absurd this (show (1:Nat)≠4 by decide)
 ·intro d hd
  have:d=c:=by simpa using hd
  subst this
  exact h
theorem read_atom:cI ⟨#[97]⟩=(some (atomT 97),0) :=
 read_print (atomT 97) (good_atom 97 (by decide)) ⟨rfl,rfl,trivial,trivial⟩ (by decide) (by decide)
theorem few_nodes {x:BT aO} {n:Nat} (h:aV (ak x)<=n):(dN (fun _=>x) 1).length<=n:=by
 have:=(kt (ak x) []).2.1
 simp at this
 exact Nat.le_trans this h
theorem nodes_atom:aV (ak (atomT 97))<=4:=tU _
section
variable (L : List (Int × Int)) (i : Nat) (a b : Int)
end
section
variable {L : List (Int × Int)} {i : Nat} {a b : Int}
end
end Ev
namespace Ev
open Go.RowKit Go.Deep Go.Maps Lf Go.Conc
def dz (w0:World) (e:Ending) (w':World):Prop:=e=.returned (.bool true)/\au (fun _=>False) w0 w'
theorem dz.aU {w0:World}:∀ e w τ d,dz w0 e w->dz w0 e (re w τ d):=fun _ _ τ d h=>⟨h.1,h.2.aU τ d⟩
theorem dz.out {w0:World}:∀ w,¬ dz w0 .outgrown w:=fun _ h=>by cases h.1
theorem au.untape {P:Nat->Prop} {w w':World} {τ:Tape} {d:Nat} (h:au P (re w τ d) w'):au P w w':=⟨h.os,h.output,h.size,h.block⟩
theorem start_H {x:BT aO} {L:List (Int×Int)} {B0 mb aj:Nat} {w:World} (s:ByteArray) (hm:w.heap[mb]? = some (.cells #[.pointer (some ⟨aj,0,none⟩)] 104 (0,0))) (hc:w.heap[aj]? = some (.cells #[.int .i64 1000,.int .i64 60,.slice none 0 0,.slice none 0 0,.slice none 0 0] 153 (0,0))) (hB:B0<=aj) (hz:s.size<=maxLen) (hg:eF w) (l9:14<=w.heap.size) (hr:cI s=(some x,0)) (hX:aV (ak x)<=1000000) (hR:0<=ax x/\ax x<=1000) (hK:(dN (fun _=>x) 1).length<=40) :
  bZ Tryz.prog 27 #[.pointer (some ⟨mb,0,none⟩),.string nP,.string s] w fun e w'=>∃ r m,e=.returned (.tuple #[r,.int .i64 0])/\dM 1000 x L B0 mb aj 0 1 m w'/\au (fun b=>B0<=b) w w':=by
 refine lift ?_ ?_ fun τ d=>(dM.start (by decide) (L:=L) (w:=re w τ d) s hm hc hB hz (glob_tape hg τ d) l9 hr hX hR hK).mono ?_
 ·rintro e w' τ d ⟨r,m,h1,h2,h3⟩
  exact ⟨r,m,h1,h2.aU τ d,h3.aU τ d⟩
 ·rintro w' ⟨r,m,h1,_⟩
  cases h1
 ·rintro e w' ⟨r,m,h1,h2,h3⟩
  exact ⟨r,m,h1,h2,h3.untape⟩
def kY (ops:Array Oper) (i d:Nat) (op:Op):Prop:=∃ o,ops[i]? = some o/\o.dst=some d/\o.op=op/\o.guard=none
section
variable {P : Program} {K : Goroutine → World → Prop} {b : Frame} {k : List Item} {cs : List Frame} {A : Act} {w : World} {ops : Array Oper} {i d : Nat} {rest : List Nat} {v : Value}
theorem jX (A:Act) (d:Nat) (v:Value) (hd:d<A.tmps.size):(A.put (some d) v).tmps.size=A.tmps.size/\(A.put (some d) v).defers=A.defers/\(A.put (some d) v).tmps[d]? = some v/\∀ j,j≠d->(A.put (some d) v).tmps[j]? = A.tmps[j]?:=by
 refine ⟨by simp [Act.put],rfl,by simp [Act.put,hd],fun j hj=>?_⟩
 simp only [Act.put,Array.getElem?_setIfInBounds]
 rw [if_neg (fun e=>hj e.symm)]
theorem ox {j:Nat} (h:A.tmps[j]? = some v):A.eval (.tmp j)=v:=by
 show A.tmps.getD j undef=v
 rw [Array.getD_eq_getD_getElem?,h]
 rfl
theorem rG {o:Oper} {y:Nat->Option Bool} (h:o.guard=none):Region.wanted o y=true:=by
 unfold Region.wanted
 rw [h]
theorem af.isVal (hP:Plain P) {op:Op} (h:kY ops i d op) (hr:∀ o:Oper,o.op=op->∀ w,(execOp A.eval o).run P w=.ok (.value v) w) (hi:∀ it∈k,aR it) (hc:∀ fr∈cs,aA fr)
  (hk:af P K (G (b.at (A.put (some d) v) (.inRegion ops rest::k)) cs) w):af P K (G (b.at A (.inRegion ops (i::rest)::k)) cs) w:=by
 obtain ⟨o,h1,h2,h3,h4⟩:=h
 refine af.val hP (w':=w) (v:=v) h1 (rG h4) (fun τ d=>hr o h3 _) hi hc ?_
 rw [h2]
 exact hk
theorem af.mv (hP:Plain P) {x:Operand} (h:kY ops i d (.move x)) (hx:A.eval x=v) (hi:∀ it∈k,aR it) (hc:∀ fr∈cs,aA fr)
  (hk:af P K (G (b.at (A.put (some d) v) (.inRegion ops rest::k)) cs) w):af P K (G (b.at A (.inRegion ops (i::rest)::k)) cs) w :=
 af.isVal hP h (fun o ho w=>by unfold execOp;rw [ho,<- hx];rfl) hi hc hk
theorem af.asg (hP:Plain P) {x:Operand} (h:kY ops i d (.assign x)) (hx:A.eval x=v) (hi:∀ it∈k,aR it) (hc:∀ fr∈cs,aA fr)
  (hk:af P K (G (b.at (A.put (some d) v) (.inRegion ops rest::k)) cs) w):af P K (G (b.at A (.inRegion ops (i::rest)::k)) cs) w :=
 af.isVal hP h (fun o ho w=>by unfold execOp;rw [ho,<- hx];rfl) hi hc hk
theorem af.ext (hP:Plain P) {x:Operand} {n:Nat} {vs:Array Value} (h:kY ops i d (.extract x n)) (hx:A.eval x=.tuple vs) (hv:vs[n]? = some v) (hi:∀ it∈k,aR it) (hc:∀ fr∈cs,aA fr)
  (hk:af P K (G (b.at (A.put (some d) v) (.inRegion ops rest::k)) cs) w):af P K (G (b.at A (.inRegion ops (i::rest)::k)) cs) w :=
 af.isVal hP h (fun o ho w=>by unfold execOp;rw [ho];simp [hx,Instr.extract,hv]) hi hc hk
theorem af.callF (hP:Plain P) {f:FuncId} {fn:Func} {args:Array Operand} {ats:Array TypeId} {vs:Array Value} {R:Ending->World->Prop} (h:kY ops i d (.call { callee:=.value (.func f),args,argTypes:=ats }))
  (hf:P.funcs[f]? = some fn) (u0:(fn.name== "runtime.NumGoroutine")=false) (hb:fn.body.isNone=false) (hargs:args.map A.eval=vs) (hi:∀ it∈k,aR it) (hc:∀ fr∈cs,aA fr) (hC:bZ P f vs w R) (hR:∀ e w',R e w'->∃ v,e=.returned v)
  (hk:∀ v w',R (.returned v) w'->af P K (G (b.at (A.put (some d) v) (.inRegion ops rest::k)) cs) w'):af P K (G (b.at A (.inRegion ops (i::rest)::k)) cs) w:=by
 obtain ⟨o,h1,h2,h3,h4⟩:=h
 refine af.call hP h1 (rG h4) (fun τ d=>by rw [run_call_body h3 hf u0 hb,hargs]) hi hc hC hR ?_
 rw [h2]
 exact hk
end
section
variable {K : Goroutine → World → Prop} {b : Frame} {k : List Item} {cs : List Frame} {A : Act} {w : World} {ops : Array Oper} {i d : Nat} {rest : List Nat} {v : Value}
theorem watch_tail {x y z:Operand} {text:ByteArray} {ai:Int} {eo:Option Addr} {L:List (Int×Int)} {cap:Nat} {X:BT aO} {i0 i1 i2 i3 i4 i5 d0 d1 d2 d3 dA dB:Nat}
  (c0:kY ops i0 d0 (.call { callee:=.value (.func 21),args:=#[x,y,z],argTypes:=#[9,3,34] })) (c1:kY ops i1 d1 (.move (.tmp d0))) (c2:kY ops i2 d2 (.extract (.tmp d1) 0)) (c3:kY ops i3 d3 (.extract (.tmp d1) 1)) (c4:kY ops i4 dA (.assign (.tmp d2))) (c5:kY ops i5 dB (.assign (.tmp d3)))
  (hz:d0<A.tmps.size/\d1<A.tmps.size/\d2<A.tmps.size/\d3<A.tmps.size/\dA<A.tmps.size/\dB<A.tmps.size) (hne:d1≠d2/\d2≠d3/\dA≠d3/\dA≠dB)
  (hx:A.eval x=.string text) (hy:A.eval y=.int .i64 ai) (hzz:A.eval z=.slice eo L.length cap) (hi:∀ it∈k,aR it) (hc:∀ fr∈cs,aA fr)
  (hC:bZ Tryz.prog 21 #[.string text,.int .i64 ai,.slice eo L.length cap] w (iE X L w))
  (hk:∀ A' w',A'.tmps.size=A.tmps.size->A'.defers=A.defers->A'.tmps[dA]? = some (.string (eL X L (min L.length 25)))->A'.tmps[dB]? = some (.bool true)->(∀ j,j≠d0->j≠d1->j≠d2->j≠d3->j≠dA->j≠dB->A'.tmps[j]? = A.tmps[j]?)->au (fun _=>False) w w'->af Tryz.prog K (G (b.at A' k) cs) w') :
  af Tryz.prog K (G (b.at A (.inRegion ops [i0,i1,i2,i3,i4,i5]::k)) cs) w:=by
 have hP:=bk
 obtain ⟨z0,z1,z2,z3,zA,zB⟩:=hz
 obtain ⟨n1,n2,n3,n4⟩:=hne
 refine af.callF hP c0 Tryz.func21 (by decide) rfl (by simp only [List.map_toArray,List.map_cons,List.map_nil,hx,hy,hzz]) hi hc hC (fun e w' x=>⟨_,x.1⟩) ?_
 rintro v w1 ⟨hv,hs⟩
 cases hv
 generalize eL X L (min L.length 25)=s at *
 have p0:=jX A d0 (.tuple #[.string s,.bool true]) z0
 generalize A.put (some d0) (.tuple #[.string s,.bool true])=A0 at *
 refine af.mv hP c1 (ox p0.2.2.1) hi hc ?_
 have p1:=jX A0 d1 (.tuple #[.string s,.bool true]) (by omega)
 generalize A0.put (some d1) (.tuple #[.string s,.bool true])=A1 at *
 refine af.ext hP c2 (ox p1.2.2.1) (v:=.string s) rfl hi hc ?_
 have p2:=jX A1 d2 (.string s) (by omega)
 generalize A1.put (some d2) (.string s)=A2 at *
 refine af.ext hP c3 (ox ((p2.2.2.2 d1 n1).trans p1.2.2.1)) (v:=.bool true) rfl hi hc ?_
 have p3:=jX A2 d3 (.bool true) (by omega)
 generalize A2.put (some d3) (.bool true)=A3 at *
 refine af.asg hP c4 (ox ((p3.2.2.2 d2 n2).trans p2.2.2.1)) hi hc ?_
 have p4:=jX A3 dA (.string s) (by omega)
 generalize A3.put (some dA) (.string s)=A4 at *
 refine af.asg hP c5 (ox ((p4.2.2.2 d3 (fun e=>n3 e.symm)).trans p3.2.2.1)) hi hc ?_
 have p5:=jX A4 dB (.bool true) (by omega)
 generalize A4.put (some dB) (.bool true)=A5 at *
 refine af.nil hP hi hc (hk A5 w1 (by omega) (by rw [p5.2.1,p4.2.1,p3.2.1,p2.2.1,p1.2.1,p0.2.1]) ((p5.2.2.2 dA n4).trans p4.2.2.1) p5.2.2.1 ?_ hs)
 intro j j0 j1 j2 j3 jA jB
 rw [p5.2.2.2 j jB,p4.2.2.2 j jA,p3.2.2.2 j j3,p2.2.2.2 j j2,p1.2.2.2 j j1,p0.2.2.2 j j0]
end
end Ev
end Go.Proofs.YtpbbmagjhkakgaaGreatDoor
