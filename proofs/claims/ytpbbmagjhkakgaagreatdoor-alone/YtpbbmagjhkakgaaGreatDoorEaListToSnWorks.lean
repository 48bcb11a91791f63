import Derived.Test.YtpbbmagjhkakgaaGreatDoorElAdd3ToEaStream
import Derived.Test.YtpbbmagjhkakgaaGreatDoorElSemToElInv
import Derived.Test.YtpbbmagjhkakgaaGreatDoorSnSeen0
import Derived.Test.YtpbbmagjhkakgaaGreatDoorEaPolToSnReach
import Derived.Test.YtpbbmagjhkakgaaGreatDoorEdInvToSmSent
namespace Go.Proofs.YtpbbmagjhkakgaaGreatDoor
namespace Ev
open Go.RowKit Go.Deep Go.Maps Lf
def dv (ps:List bC):List ByteArray:=ps.map (·.name)
set_option maxRecDepth 100000 in
set_option maxHeartbeats 4000000 in
theorem watchList {aj:Nat} {ai room:Int} {no:Option Addr} {aI:Nat} {K:List Key} {ea:Option Addr} {az:Nat} {C:List bx} {E:List Pe} {pa:Option Addr} {aM:Nat} {ps:List bC} {ss:List bt} {w:World} (h:bj w aj ai room no aI K ea az C E pa aM ps ss) :
  Calls Tryz.prog 53 #[.pointer (some ⟨aj,0,none⟩)] w fun e w'=>∃ v,e=.returned v/\w'.ownsRow w.heap.size 9 1 v ps.length (fH (dv ps))/\Below w.heap.size w w':=by
 have hpf:=h.tW
 have c4:=ae (i:=4) h.cell rfl
 obtain ⟨i0,hi,lr,iU,lu⟩:=info_parts infoStr
 have Hp:Hid (∀ W (j:Nat) p,Below w.heap.size w W->ps[j]? = some p->∃ pb po,pa=some ⟨pb,po,none⟩/\W.cell? ⟨pb,po+j*5,none⟩=some (.string p.name)/\W.cell? ⟨pb,po+j*5+1,none⟩=some (.pointer p.bV)/\W.cell? ⟨pb,po+j*5+2,none⟩=some (.int .i64 p.node)/\W.cell? ⟨pb,po+j*5+3,none⟩=some (.int .i64 p.cu)/\W.cell? ⟨pb,po+j*5+4,none⟩=some (.pointer p.cG)):=fun W j p hb hj=>by
  obtain ⟨_,e,_⟩ | ⟨pb,po,arr,m,rfl,h2,h3⟩:=h.oX
  ·subst e;simp at hj
  obtain ⟨a0,a1,a2,a3,a4⟩:=h3 j p hj
  have hh:=hb.aE h2
  exact ⟨pb,po,rfl,ae hh a0,ae hh a1,ae hh a2,ae hh a3,ae hh a4⟩
 have Hg:Hid (∀ j,j<ps.length->∃ p,ps[j]? = some p/\dv (ps.take (j+1))=dv (ps.take j)++[p.name]):=fun j hj=>⟨ps[j],List.getElem?_eq_getElem hj,by unfold dv;rw [List.take_add_one,List.getElem?_eq_getElem hj,List.map_append];rfl⟩
 have Hl:Hid (∀ j,j<=ps.length->(dv (ps.take j)).length=j):=fun j hj=>by simp [dv];omega
 have Hf:Hid (dv (ps.take ps.length)=dv ps):=by show _=_;rw [List.take_length]
 clear h
 generalize hfp:dv ps=full at *
 generalize hnp:ps.length=n at *
 have HN:Hid (ps.length=n):=hnp
 clear hfp hnp
 go_enter Tryz.func53,Tryz.ntmps53
 go_wp2_with fail
 go_loopw [3,11] (fun v iv wr=>∃ j:Nat,iv=.int .i64 j/\j<=n/\wr.ownsRow w.heap.size 9 1 v j (fH (dv (ps.take j)))/\Below w.heap.size w wr) (fun _ iv _=>n-(intOf iv).toNat)
 case atStart=>exact ⟨0,rfl,Nat.zero_le _,World.ownsRow_nil _ _ _ _,Below.refl _ _⟩
 case round =>
  obtain ⟨j,rfl,hjn,cE,h_⟩:=hrel
  by_cases hj:j<n
  ·obtain ⟨p,hp,df⟩:=Hg.out j hj
   obtain ⟨pb,po,rfl,y0,y1,y2,y3,y4⟩:=Hp.out wr j p h_ hp
   have hll:Hid ((fH (dv (ps.take j))).length=j):=by show _=_;rw [strsV_len];exact Hl.out j (by omega)
   have df:Hid (dv (ps.take (j+1))=dv (ps.take j)++[p.name]):=df
   have hws:=h_.size
   have Hb:Hid (Below w.heap.size w wr):=h_
   clear h_ hp
   generalize dv (ps.take j)=A at *
   go_wp2_with (at_builtin;refine wpList_append_own _ rfl _ _ 31 rfl w.heap.size 9 i0 _ 1 16 Tryz.underlying31 hi lr iU lu rfl (by decide) _ _ _ rfl ((cE.alloc _).alloc _) ⟨wr.heap.size+1,0,none⟩ 1 1 [.string p.name] rfl rfl ?c1 ?c2 ?c3 ?c4 ?c5 ?_)
   case c1 =>
    intro k u hk
    have:=cell_one_new (wr.alloc (.cells #[.string p.name,.pointer p.bV,.int .i64 p.node,.int .i64 p.cu,.pointer p.cG] 183)) (.string p.name) 9 k u hk
    simpa using this
   case c2=>simp [Value.oneCell']
   case c3=>unfold maxLen;omega
   case c4=>omega
   case c5=>simp;omega
   intro v' w2 dm bz _
   have cB:Below w.heap.size w w2:=((Hb.out.al _).al _).grown bz (Nat.le_trans Hb.out.size (by simp;omega)) (fun k e=>(cE.lt k e).1)
   go_wp2_with fail
   go_roundw
   case rel=>exact ⟨j+1,by go_num,by omega,by rw [df.out];simpa [fH] using dm,cB⟩
   case measure=>simp only [intOf];omega
  ·obtain rfl:j=n:=by omega
   rw [show dv (ps.take j)=full from Hf.out] at cE
   go_wp2_with fail
   go_ret
   exact ⟨_,rfl,cE,h_⟩
theorem monList (mb:Nat) {aj:Nat} {ai room:Int} {no:Option Addr} {aI:Nat} {K:List Key} {ea:Option Addr} {az:Nat} {C:List bx} {E:List Pe} {pa:Option Addr} {aM:Nat} {ps:List bC} {ss:List bt} {w:World} (hm:w.heap[mb]? = some (.cells #[.pointer (some ⟨aj,0,none⟩)] 104 (0,0))) (h:bj w aj ai room no aI K ea az C E pa aM ps ss) :
  Calls Tryz.prog 33 #[.pointer (some ⟨mb,0,none⟩)] w fun e w'=>∃ v,e=.returned v/\w'.ownsRow w.heap.size 9 1 v ps.length (fH (dv ps))/\Below w.heap.size w w':=by
 have hp:=watchList h
 have c0:w.cell? ⟨mb,0,none⟩=some (.pointer (some ⟨aj,0,none⟩)):=ae hm rfl
 clear h
 go_enter Tryz.func33,Tryz.ntmps33
 go_wp2_with fail
 refine hp.mono ?_
 rintro e w1 ⟨v,rfl,h1,h2⟩
 go_wp2_with fail
 go_ret
 exact ⟨v,rfl,h1,h2⟩
end Ev
namespace Ev
open Go.RowKit Go.Deep Go.Maps Lf Go.Conc
theorem au.untape {P:Nat->Prop} {w w':World} {τ:Tape} {d:Nat} (h:au P (re w τ d) w'):au P w w':=⟨h.os,h.output,h.size,h.block⟩
def kY (ops:Array Oper) (i d:Nat) (op:Op):Prop:=∃ o,ops[i]? = some o/\o.dst=some d/\o.op=op/\o.guard=none
section
variable {P : Program} {K : Goroutine → World → Prop} {b : Frame} {k : List Item} {cs : List Frame} {A : Act} {w : World} {ops : Array Oper} {i d : Nat} {rest : List Nat} {v : Value}
theorem jX (A:Act) (d:Nat) (v:Value) (hd:d<A.tmps.size):(A.put (some d) v).tmps.size=A.tmps.size/\(A.put (some d) v).defers=A.defers/\(A.put (some d) v).tmps[d]? = some v/\∀ j,j≠d->(A.put (some d) v).tmps[j]? = A.tmps[j]?:=by
 refine ⟨by simp [Act.put],rfl,by simp [Act.put,hd],fun j hj=>?_⟩
 simp only [Act.put,Array.getElem?_setIfInBounds]
 rw [if_neg (fun e=>hj e.symm)]
theorem ox {j:Nat} (h:A.tmps[j]? = some v):A.eval (.tmp j)=v:=by
 show A.tmps.getD j undef=v
 rw [Array.getD_eq_getD_getElem?,h]
 rfl
theorem rG {o:Oper} {y:Nat->Option Bool} (h:o.guard=none):Region.wanted o y=true:=by
 unfold Region.wanted
 rw [h]
theorem af.isVal (hP:Plain P) {op:Op} (h:kY ops i d op) (hr:∀ o:Oper,o.op=op->∀ w,(execOp A.eval o).run P w=.ok (.value v) w) (hi:∀ it∈k,aR it) (hc:∀ fr∈cs,aA fr)
  (hk:af P K (G (b.at (A.put (some d) v) (.inRegion ops rest::k)) cs) w):af P K (G (b.at A (.inRegion ops (i::rest)::k)) cs) w:=by
 obtain ⟨o,h1,h2,h3,h4⟩:=h
 refine af.val hP (w':=w) (v:=v) h1 (rG h4) (fun τ d=>hr o h3 _) hi hc ?_
 rw [h2]
 exact hk
theorem af.mv (hP:Plain P) {x:Operand} (h:kY ops i d (.move x)) (hx:A.eval x=v) (hi:∀ it∈k,aR it) (hc:∀ fr∈cs,aA fr)
  (hk:af P K (G (b.at (A.put (some d) v) (.inRegion ops rest::k)) cs) w):af P K (G (b.at A (.inRegion ops (i::rest)::k)) cs) w :=
 af.isVal hP h (fun o ho w=>by unfold execOp;rw [ho,<- hx];rfl) hi hc hk
theorem af.asg (hP:Plain P) {x:Operand} (h:kY ops i d (.assign x)) (hx:A.eval x=v) (hi:∀ it∈k,aR it) (hc:∀ fr∈cs,aA fr)
  (hk:af P K (G (b.at (A.put (some d) v) (.inRegion ops rest::k)) cs) w):af P K (G (b.at A (.inRegion ops (i::rest)::k)) cs) w :=
 af.isVal hP h (fun o ho w=>by unfold execOp;rw [ho,<- hx];rfl) hi hc hk
theorem af.ext (hP:Plain P) {x:Operand} {n:Nat} {vs:Array Value} (h:kY ops i d (.extract x n)) (hx:A.eval x=.tuple vs) (hv:vs[n]? = some v) (hi:∀ it∈k,aR it) (hc:∀ fr∈cs,aA fr)
  (hk:af P K (G (b.at (A.put (some d) v) (.inRegion ops rest::k)) cs) w):af P K (G (b.at A (.inRegion ops (i::rest)::k)) cs) w :=
 af.isVal hP h (fun o ho w=>by unfold execOp;rw [ho];simp [hx,Instr.extract,hv]) hi hc hk
theorem af.callF (hP:Plain P) {f:FuncId} {fn:Func} {args:Array Operand} {ats:Array TypeId} {vs:Array Value} {R:Ending->World->Prop} (h:kY ops i d (.call { callee:=.value (.func f),args,argTypes:=ats }))
  (hf:P.funcs[f]? = some fn) (u0:(fn.name== "runtime.NumGoroutine")=false) (hb:fn.body.isNone=false) (hargs:args.map A.eval=vs) (hi:∀ it∈k,aR it) (hc:∀ fr∈cs,aA fr) (hC:bZ P f vs w R) (hR:∀ e w',R e w'->∃ v,e=.returned v)
  (hk:∀ v w',R (.returned v) w'->af P K (G (b.at (A.put (some d) v) (.inRegion ops rest::k)) cs) w'):af P K (G (b.at A (.inRegion ops (i::rest)::k)) cs) w:=by
 obtain ⟨o,h1,h2,h3,h4⟩:=h
 refine af.call hP h1 (rG h4) (fun τ d=>by rw [run_call_body h3 hf u0 hb,hargs]) hi hc hC hR ?_
 rw [h2]
 exact hk
end
section
variable {K : Goroutine → World → Prop} {b : Frame} {k : List Item} {cs : List Frame} {A : Act} {w : World} {ops : Array Oper} {i d : Nat} {rest : List Nat} {v : Value}
theorem watch_tail {x y z:Operand} {text:ByteArray} {ai:Int} {eo:Option Addr} {L:List (Int×Int)} {cap:Nat} {X:BT aO} {i0 i1 i2 i3 i4 i5 d0 d1 d2 d3 dA dB:Nat}
  (c0:kY ops i0 d0 (.call { callee:=.value (.func 21),args:=#[x,y,z],argTypes:=#[9,3,34] })) (c1:kY ops i1 d1 (.move (.tmp d0))) (c2:kY ops i2 d2 (.extract (.tmp d1) 0)) (c3:kY ops i3 d3 (.extract (.tmp d1) 1)) (c4:kY ops i4 dA (.assign (.tmp d2))) (c5:kY ops i5 dB (.assign (.tmp d3)))
  (hz:d0<A.tmps.size/\d1<A.tmps.size/\d2<A.tmps.size/\d3<A.tmps.size/\dA<A.tmps.size/\dB<A.tmps.size) (hne:d1≠d2/\d2≠d3/\dA≠d3/\dA≠dB)
  (hx:A.eval x=.string text) (hy:A.eval y=.int .i64 ai) (hzz:A.eval z=.slice eo L.length cap) (hi:∀ it∈k,aR it) (hc:∀ fr∈cs,aA fr)
  (hC:bZ Tryz.prog 21 #[.string text,.int .i64 ai,.slice eo L.length cap] w (iE X L w))
  (hk:∀ A' w',A'.tmps.size=A.tmps.size->A'.defers=A.defers->A'.tmps[dA]? = some (.string (eL X L (min L.length 25)))->A'.tmps[dB]? = some (.bool true)->(∀ j,j≠d0->j≠d1->j≠d2->j≠d3->j≠dA->j≠dB->A'.tmps[j]? = A.tmps[j]?)->au (fun _=>False) w w'->af Tryz.prog K (G (b.at A' k) cs) w') :
  af Tryz.prog K (G (b.at A (.inRegion ops [i0,i1,i2,i3,i4,i5]::k)) cs) w:=by
 have hP:=bk
 obtain ⟨z0,z1,z2,z3,zA,zB⟩:=hz
 obtain ⟨n1,n2,n3,n4⟩:=hne
 refine af.callF hP c0 Tryz.func21 (by decide) rfl (by simp only [List.map_toArray,List.map_cons,List.map_nil,hx,hy,hzz]) hi hc hC (fun e w' x=>⟨_,x.1⟩) ?_
 rintro v w1 ⟨hv,hs⟩
 cases hv
 generalize eL X L (min L.length 25)=s at *
 have p0:=jX A d0 (.tuple #[.string s,.bool true]) z0
 generalize A.put (some d0) (.tuple #[.string s,.bool true])=A0 at *
 refine af.mv hP c1 (ox p0.2.2.1) hi hc ?_
 have p1:=jX A0 d1 (.tuple #[.string s,.bool true]) (by omega)
 generalize A0.put (some d1) (.tuple #[.string s,.bool true])=A1 at *
 refine af.ext hP c2 (ox p1.2.2.1) (v:=.string s) rfl hi hc ?_
 have p2:=jX A1 d2 (.string s) (by omega)
 generalize A1.put (some d2) (.string s)=A2 at *
 refine af.ext hP c3 (ox ((p2.2.2.2 d1 n1).trans p1.2.2.1)) (v:=.bool true) rfl hi hc ?_
 have p3:=jX A2 d3 (.bool true) (by omega)
 generalize A2.put (some d3) (.bool true)=A3 at *
 refine af.asg hP c4 (ox ((p3.2.2.2 d2 n2).trans p2.2.2.1)) hi hc ?_
 have p4:=jX A3 dA (.string s) (by omega)
 generalize A3.put (some dA) (.string s)=A4 at *
 refine af.asg hP c5 (ox ((p4.2.2.2 d3 (fun e=>n3 e.symm)).trans p3.2.2.1)) hi hc ?_
 have p5:=jX A4 dB (.bool true) (by omega)
 generalize A4.put (some dB) (.bool true)=A5 at *
 refine af.nil hP hi hc (hk A5 w1 (by omega) (by rw [p5.2.1,p4.2.1,p3.2.1,p2.2.1,p1.2.1,p0.2.1]) ((p5.2.2.2 dA n4).trans p4.2.2.1) p5.2.2.1 ?_ hs)
 intro j j0 j1 j2 j3 jA jB
 rw [p5.2.2.2 j jB,p4.2.2.2 j jA,p3.2.2.2 j j3,p2.2.2.2 j j2,p1.2.2.2 j j1,p0.2.2.2 j j0]
end
end Ev
namespace Ev
open Go.RowKit Go.Deep Go.Maps Lf Go.Conc
def look:List (Nat×Value)->Nat->Option Value
 | [],_=>none
 | p::l,j=>if j=p.1 then some p.2 else look l j
structure Fx (N:Nat) (l:List (Nat×Value)) (A:Act):Prop where
 size:A.tmps.size=N
 defers:A.defers=[]
 get:∀ j v,look l j=some v->A.tmps[j]? = some v
def evl (l:List (Nat×Value)):Operand->Option Value
 | .tmp j=>look l j
 | .const v=>some v
 | _=>none
def evls (l:List (Nat×Value)):List Operand->Option (List Value)
 | []=>some []
 | x::xs=>match evl l x,evls l xs with
  | some v,some vs=>some (v::vs)
  | _,_=>none
theorem Fx.put {N:Nat} {l:List (Nat×Value)} {A:Act} (h:Fx N l A) {d:Nat} (hd:d<N) (v:Value):Fx N ((d,v)::l) (A.put (some d) v):=by
 have p:=jX A d v (by rw [h.size];exact hd)
 refine ⟨p.1.trans h.size,p.2.1.trans h.defers,fun j u hj=>?_⟩
 unfold look at hj
 by_cases e:j=d
 ·subst e
  rw [if_pos rfl] at hj
  cases hj
  exact p.2.2.1
 ·rw [if_neg e] at hj
  rw [p.2.2.2 j e]
  exact h.get j u hj
theorem Fx.ev {N:Nat} {l:List (Nat×Value)} {A:Act} (h:Fx N l A) {x:Operand} {v:Value} (hx:evl l x=some v):A.eval x=v:=by
 cases x with
 | tmp j=>exact ox (h.get j v hx)
 | const u=>cases hx;rfl
 | global g=>cases hx
 | func f=>cases hx
theorem Fx.uC {N:Nat} {l:List (Nat×Value)} {A:Act} (h:Fx N l A):∀ {xs:List Operand} {vs:List Value},evls l xs=some vs->xs.map A.eval=vs
 | [],_,e=>by cases e;rfl
 | x::xs,vs,e=>by
  unfold evls at e
  cases hx:evl l x with
  | none=>rw [hx] at e;cases e
  | some v =>
   rw [hx] at e
   cases hxs:evls l xs with
   | none=>rw [hxs] at e;cases e
   | some us =>
    rw [hxs] at e
    cases e
    rw [List.map_cons,h.ev hx,h.uC hxs]
theorem vg {j:Nat} {v:Value}:∀ {m:List (Nat×Value)},look m j=some v->∃ p∈m,p=(j,v)
 | [],h=>by cases h
 | p::m,h=>by
  unfold look at h
  by_cases e:j=p.1
  ·rw [if_pos e] at h
   cases h
   exact ⟨p,List.mem_cons_self ..,by rw [e]⟩
  ·rw [if_neg e] at h
   obtain ⟨q,h1,h2⟩:=vg h
   exact ⟨q,List.mem_cons_of_mem _ h1,h2⟩
theorem Fx.less {N:Nat} {l m:List (Nat×Value)} {A:Act} (h:Fx N l A) (hm:∀ p∈m,look l p.1=some p.2):Fx N m A:=by
 refine ⟨h.size,h.defers,fun j v hj=>?_⟩
 obtain ⟨p,h1,rfl⟩:=vg hj
 exact h.get j v (hm _ h1)
theorem Fx.adds {N:Nat} {l m:List (Nat×Value)} {A:Act} (h:Fx N l A) (hm:∀ p∈m,A.tmps[p.1]? = some p.2):Fx N m A :=
 ⟨h.size,h.defers,fun j v hj=>by
  obtain ⟨p,h1,rfl⟩:=vg hj
  exact hm _ h1⟩
section
variable {K : Goroutine → World → Prop} {b : Frame} {k : List Item} {cs : List Frame} {A : Act} {w : World} {ops : Array Oper} {i d N : Nat} {rest : List Nat} {v : Value} {l : List (Nat × Value)}
theorem mvF {x:Operand} (h:kY ops i d (.move x)) (hA:Fx N l A) (hx:evl l x=some v) (hd:d<N) (hi:∀ it∈k,aR it) (hc:∀ fr∈cs,aA fr)
  (hk:∀ A',Fx N ((d,v)::l) A'->af Tryz.prog K (G (b.at A' (.inRegion ops rest::k)) cs) w):af Tryz.prog K (G (b.at A (.inRegion ops (i::rest)::k)) cs) w :=
 af.mv bk h (hA.ev hx) hi hc (hk _ (hA.put hd v))
theorem asgF {x:Operand} (h:kY ops i d (.assign x)) (hA:Fx N l A) (hx:evl l x=some v) (hd:d<N) (hi:∀ it∈k,aR it) (hc:∀ fr∈cs,aA fr)
  (hk:∀ A',Fx N ((d,v)::l) A'->af Tryz.prog K (G (b.at A' (.inRegion ops rest::k)) cs) w):af Tryz.prog K (G (b.at A (.inRegion ops (i::rest)::k)) cs) w :=
 af.asg bk h (hA.ev hx) hi hc (hk _ (hA.put hd v))
theorem extF {x:Operand} {n:Nat} {vs:Array Value} (h:kY ops i d (.extract x n)) (hA:Fx N l A) (hx:evl l x=some (.tuple vs)) (hv:vs[n]? = some v) (hd:d<N) (hi:∀ it∈k,aR it) (hc:∀ fr∈cs,aA fr)
  (hk:∀ A',Fx N ((d,v)::l) A'->af Tryz.prog K (G (b.at A' (.inRegion ops rest::k)) cs) w):af Tryz.prog K (G (b.at A (.inRegion ops (i::rest)::k)) cs) w :=
 af.ext bk h (hA.ev hx) hv hi hc (hk _ (hA.put hd v))
theorem qQ {f:FuncId} {fn:Func} {args:Array Operand} {ats:Array TypeId} {vs:List Value} {R:Ending->World->Prop} (h:kY ops i d (.call { callee:=.value (.func f),args,argTypes:=ats }))
  (hf:Tryz.prog.funcs[f]? = some fn) (u0:(fn.name== "runtime.NumGoroutine")=false) (hb:fn.body.isNone=false) (hA:Fx N l A) (hargs:evls l args.toList=some vs) (hd:d<N) (hi:∀ it∈k,aR it) (hc:∀ fr∈cs,aA fr) (hC:bZ Tryz.prog f vs.toArray w R) (hR:∀ e w',R e w'->∃ v,e=.returned v)
  (hk:∀ v w' A',R (.returned v) w'->Fx N ((d,v)::l) A'->af Tryz.prog K (G (b.at A' (.inRegion ops rest::k)) cs) w'):af Tryz.prog K (G (b.at A (.inRegion ops (i::rest)::k)) cs) w :=
 af.callF bk h hf u0 hb (by rw [<- hA.uC hargs,<- Array.toList_map,Array.toArray_toList]) hi hc hC hR fun v w' hv=>hk v w' _ hv (hA.put hd v)
theorem watchF {x y z:Operand} {text:ByteArray} {ai:Int} {eo:Option Addr} {L:List (Int×Int)} {cap:Nat} {X:BT aO} {i0 i1 i2 i3 i4 i5 d0 d1 d2 d3 dA dB:Nat}
  (c0:kY ops i0 d0 (.call { callee:=.value (.func 21),args:=#[x,y,z],argTypes:=#[9,3,34] })) (c1:kY ops i1 d1 (.move (.tmp d0))) (c2:kY ops i2 d2 (.extract (.tmp d1) 0)) (c3:kY ops i3 d3 (.extract (.tmp d1) 1)) (c4:kY ops i4 dA (.assign (.tmp d2))) (c5:kY ops i5 dB (.assign (.tmp d3)))
  (hz:d0<N/\d1<N/\d2<N/\d3<N/\dA<N/\dB<N) (hne:d1≠d2/\d2≠d3/\dA≠d3/\dA≠dB) (hA:Fx N l A)
  (hx:evl l x=some (.string text)) (hy:evl l y=some (.int .i64 ai)) (hzz:evl l z=some (.slice eo L.length cap)) (hi:∀ it∈k,aR it) (hc:∀ fr∈cs,aA fr)
  (hC:bZ Tryz.prog 21 #[.string text,.int .i64 ai,.slice eo L.length cap] w (iE X L w)) (m:List (Nat×Value)) (hm:∀ p∈m,look l p.1=some p.2/\p.1≠d0/\p.1≠d1/\p.1≠d2/\p.1≠d3/\p.1≠dA/\p.1≠dB)
  (hk:∀ A' w',Fx N ((dB,.bool true)::(dA,.string (eL X L (min L.length 25)))::m) A'->au (fun _=>False) w w'->af Tryz.prog K (G (b.at A' k) cs) w') :
  af Tryz.prog K (G (b.at A (.inRegion ops [i0,i1,i2,i3,i4,i5]::k)) cs) w:=by
 have hs:=hA.size
 refine watch_tail c0 c1 c2 c3 c4 c5 (by omega) hne (hA.ev hx) (hA.ev hy) (hA.ev hzz) hi hc hC fun A' w' z d gA gB go kT=>hk A' w' ?_ kT
 have hbase:Fx N m A':=by
  have h1:=hA.less (m:=m) (fun p hp=>(hm p hp).1)
  refine ⟨z.trans hs,d.trans hA.defers,fun j v hj=>?_⟩
  have hold:=h1.get j v hj
  obtain ⟨p,hp,e⟩:=vg hj
  have hj1:j=p.1:=by rw [e]
  subst hj1
  obtain ⟨_,q0,q1,q2,q3,qA,qB⟩:=hm p hp
  exact (go p.1 q0 q1 q2 q3 qA qB).trans hold
 refine ⟨hbase.size,hbase.defers,fun j v hj=>?_⟩
 unfold look at hj
 by_cases e:j=dB
 ·subst e
  rw [if_pos rfl] at hj
  cases hj
  exact gB
 ·rw [if_neg e] at hj
  unfold look at hj
  by_cases e2:j=dA
  ·subst e2
   rw [if_pos rfl] at hj
   cases hj
   exact gA
  ·rw [if_neg e2] at hj
   exact hbase.get j v hj
end
end Ev
namespace Ev
open Go.RowKit Go.Deep Go.Maps Lf Go.Conc
theorem mM {w w':World} (hg:eF w) (hs:au (fun _=>False) w w'):eF w' :=
 glob_tape (hg.below (⟨hs.os,rfl,hs.output,hs.size,fun k hk=>hs.block k hk id⟩:Below w.heap.size w (re w' w.tape w'.drawn))) w'.tape w'.drawn
noncomputable def qP:Code:=Tryz.f17.body.getD .skip
noncomputable def rest17:Code:=match qP with
 | .seq _ (.seq _ x)=>x
 | _=>.skip
noncomputable def one17:Code:=match qP with
 | .seq _ (.seq x _)=>x
 | _=>.skip
noncomputable def zero17:Code:=match qP with
 | .seq x _=>x
 | _=>.skip
def L17:List (Int×Int):=[(0,1),(0,2),(0,3)]
theorem ver17:eL (atomT 97) L17 (min L17.length 25)=⟨#[49,48,49]⟩:=by decide +kernel
theorem i64_17:∀ p∈L17,mj p.1/\mj p.2:=by
 intro p hp
 simp [L17] at hp
 rcases hp with rfl | rfl | rfl<;>exact ⟨⟨by decide,by decide⟩,by decide,by decide⟩
end Ev
end Go.Proofs.YtpbbmagjhkakgaaGreatDoor
