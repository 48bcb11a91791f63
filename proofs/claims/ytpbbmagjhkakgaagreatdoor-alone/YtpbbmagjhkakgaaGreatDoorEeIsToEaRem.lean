import Derived.Test.YtpbbmagjhkakgaaGreatDoorErrs2
import Derived.Test.YtpbbmagjhkakgaaGreatDoorFaceToEvClone
import Derived.Test.YtpbbmagjhkakgaaGreatDoorEaSettleToEaCount
import Derived.Deep.LoopGhost
import Derived.Shelf.Abstract
namespace Go.Proofs.YtpbbmagjhkakgaaGreatDoor
section
open Go.RowKit Go.Extern.Stop Go.Stop Go.Extern
structure LeafT (T:TypeId):Prop where
 noIs:∀ v xT w,(Instr.typeAssert (.iface T v) xT 268 true).run Tryz.prog w=.ok (.tuple #[.nilIface,.bool false]) w
 noAs:∀ v xT w,(Instr.typeAssert (.iface T v) xT 312 true).run Tryz.prog w=.ok (.tuple #[.nilIface,.bool false]) w
 noUn:∀ v xT w,(Instr.typeAssert (.iface T v) xT 270 true).run Tryz.prog w=.ok (.tuple #[.nilIface,.bool false]) w
 noUns:∀ v xT w,(Instr.typeAssert (.iface T v) xT 272 true).run Tryz.prog w=.ok (.tuple #[.nilIface,.bool false]) w
structure WrapT (T:TypeId) (f:FuncId):Prop where
 noIs:∀ v xT w,(Instr.typeAssert (.iface T v) xT 268 true).run Tryz.prog w=.ok (.tuple #[.nilIface,.bool false]) w
 noAs:∀ v xT w,(Instr.typeAssert (.iface T v) xT 312 true).run Tryz.prog w=.ok (.tuple #[.nilIface,.bool false]) w
 has:∀ v xT w,(Instr.typeAssert (.iface T v) xT 270 true).run Tryz.prog w=.ok (.tuple #[.iface T v,.bool true]) w
 meth:∀ v w,(Go.method 486 T v "Unwrap").run Tryz.prog w=.ok (f,v) w
 ent:∀ args w,(callFunc f args).run Tryz.prog w=.ok (.enter f args) w
 ne:T≠357
inductive iV (ok:TypeId->Prop) (w:World):Nat->Value->TypeId->Addr->Prop
 | leaf {T:TypeId} {a:Addr}:LeafT T->iV ok w 0 (.iface T (.pointer (some a))) T a
 | wrap {T:TypeId} {f:FuncId} {b n:Nat} {v:Value} {L:TypeId} {a:Addr}:ok T->WrapT T f->(∀ W,Below w.heap.size w W->Calls Tryz.prog f #[.pointer (some ⟨b,0,none⟩)] W fun e w'=>e=.returned v/\w'=W)->iV ok w n v L a->iV ok w (n+1) (.iface T (.pointer (some ⟨b,0,none⟩))) L a
theorem iV.iface {ok:TypeId->Prop} {w:World} {n:Nat} {v:Value} {L:TypeId} {a:Addr} (h:iV ok w n v L a):∃ T p,v=.iface T p:=by
 cases h<;>exact ⟨_,_,rfl⟩
set_option maxHeartbeats 1000000 in
set_option maxRecDepth 100000 in
theorem is_chain (ok:TypeId->Prop) (w:World) (n:Nat) (v:Value) (L:TypeId) (a t:Addr) (r:Bool) (hc:iV ok w n v L a) (hr:(L=357/\(binOp .eql 89 (.iface 357 (.pointer (some a))) (.iface 357 (.pointer (some t)))).run Tryz.prog w=.ok (.bool r) w)\/(L≠357/\r=false)) :
  Calls Tryz.prog 118 #[v,.iface 357 (.pointer (some t)),.bool true] w fun e w'=>e=.returned (.bool r)/\w'=w:=by
 have hty:=fun (T:TypeId) (p:Value) (hne:T≠357)=>run_eql_iface_types (P:=Tryz.prog) T 357 p (.pointer (some t)) Tryz.underlying89 hne w
 replace hty:Hid _:=hty
 replace hr:Hid _:=hr
 have Hc:Hid (iV ok w n v L a):=hc
 obtain ⟨T0,p0,rfl⟩:=hc.iface
 clear hc
 go_enter Tryz.func118,Tryz.ntmps118
 go_wp2_with fail
 go_loopg [0] n (fun kx ev wr=>Hid (iV ok w kx ev L a)/\wr=w)
 case atStart=>exact ⟨Hc,rfl⟩
 case round =>
  obtain ⟨hC,hw0⟩:=hrel
  obtain rfl:=hw0.symm
  have hC:=hC.out
  cases hC with
  | leaf hl =>
   have l1:=hl.noIs
   have l3:=hl.noUn
   have l4:=hl.noUns
   rcases hr.out with ⟨rfl,he⟩ | ⟨hne,rfl⟩
   ·cases r with
    | true =>
     go_wp2_with fail
     go_ret
     exact ⟨rfl,rfl⟩
    | false =>
     go_wp2_with fail
     go_ret
     exact ⟨rfl,rfl⟩
   ·have he:=hty.out L (.pointer (some a)) hne
    go_wp2_with fail
    go_ret
    exact ⟨rfl,rfl⟩
  | @wrap T f b n' v' _ _ _ hw hun uY =>
   have l1:=hw.noIs
   have l2:=hw.has
   have l3:=hw.meth
   have l4:=hw.ent
   have hu:=hun _ (Below.refl _ _)
   have he:=hty.out T (.pointer (some ⟨b,0,none⟩)) hw.ne
   have Hc':Hid (iV ok w n' v' L a):=uY
   obtain ⟨T1,p1,rfl⟩:=uY.iface
   clear uY hw hun
   go_wp2_with (go_at_fn f;refine hu.mono ?_;rintro e w1 ⟨rfl,rfl⟩)
   go_roundg n'
   case measure=>omega
   case rel=>exact ⟨Hc',rfl⟩
set_option maxHeartbeats 1000000 in
set_option maxRecDepth 100000 in
theorem rH (ok:TypeId->Prop) (w:World) (n:Nat) (v:Value) (L:TypeId) (a t:Addr) (r:Bool) (hc:iV ok w n v L a) (hr:(L=357/\(binOp .eql 89 (.iface 357 (.pointer (some a))) (.iface 357 (.pointer (some t)))).run Tryz.prog w=.ok (.bool r) w)\/(L≠357/\r=false)) :
  Calls Tryz.prog 75 #[v,.iface 357 (.pointer (some t))] w fun e w'=>e=.returned (.bool r)/\w'=w:=by
 have x1:=@run_callFunc_extern Tryz.prog 117 _ Extern.ReflectliteType.typeOf Tryz.func117 (by kernel_rfl) (by kernel_rfl) (by kernel_rfl) (by kernel_rfl)
 have x2:=@run_callFunc_extern Tryz.prog 267 _ cmpE Tryz.func267 (by kernel_rfl) (by kernel_rfl) (by kernel_rfl) (by kernel_rfl)
 have y1:=eIsTypeOf
 have y2:=eComparable
 have y3:=uy
 have hi:=is_chain ok w n v L a t r hc hr
 obtain ⟨T0,p0,rfl⟩:=hc.iface
 clear hr hc
 go_enter Tryz.func75,Tryz.ntmps75
 go_wp2_with fail
 refine hi.mono ?_
 rintro e w1 ⟨rfl,rfl⟩
 go_wp2_with fail
 go_ret
 exact ⟨rfl,rfl⟩
structure iW (T X:TypeId):Prop where
 typeOf:∀ v w,(ReflectliteType.typeOf #[.iface X v]).run Tryz.prog w=.ok (.iface 266 (.agg #[.pointer (some ⟨14,X,none⟩)])) w
 assign:∀ w,(ReflectliteType.relation "AssignableTo" ReflectliteType.assignableTo #[.agg #[.pointer (some ⟨14,X,none⟩)],.iface 266 (.agg #[.pointer (some ⟨14,T,none⟩)])]).run Tryz.prog w=.ok (.bool false) w
structure TargT (T PT:TypeId):Prop where
 valueOf:∀ t w,(ReflectliteValue.unpack (.iface PT (.pointer (some t)))).run Tryz.prog w=.ok (.agg #[.pointer (some ⟨14,PT,none⟩),.pointer (some ⟨w.heap.size,0,none⟩),.int .u64 150]) (w.alloc (.cells #[.pointer (some t)] PT))
 type:∀ a w,(ReflectliteValue.methodAny (ReflectliteValue.valueError "reflectlite.Value.Type" 0) (fun t _ _ _=>ReflectliteType.toType t) #[.agg #[.pointer (some ⟨14,PT,none⟩),.pointer (some a),.int .u64 150]]).run Tryz.prog w=.ok (.iface 266 (.agg #[.pointer (some ⟨14,PT,none⟩)])) w
 kindP:∀ w,(kindE #[.pointer (some ⟨14,PT,none⟩)]).run Tryz.prog w=.ok (.int .u8 22) w
 kindE:∀ w,(kindE #[.pointer (some ⟨14,T,none⟩)]).run Tryz.prog w=.ok (.int .u8 22) w
 isNil:∀ a p W,W.cell? a=some (.pointer (some p))->(ReflectliteValue.method (ReflectliteValue.valueError "reflectlite.Value.IsNil" 0) ReflectliteValue.isNil #[.agg #[.pointer (some ⟨14,PT,none⟩),.pointer (some a),.int .u64 150]]).run Tryz.prog W=.ok (.bool false) W
 elem:∀ w,(ReflectliteType.method ReflectliteType.elem #[.agg #[.pointer (some ⟨14,PT,none⟩)]]).run Tryz.prog w=.ok (.iface 266 (.agg #[.pointer (some ⟨14,T,none⟩)])) w
 impl:∀ w,(ReflectliteType.relation "Implements" ReflectliteType.implements_ #[.agg #[.pointer (some ⟨14,T,none⟩)],.iface 266 (.agg #[.pointer (some ⟨14,89,none⟩)])]).run Tryz.prog w=.ok (.bool true) w
 typeOf:∀ v w,(ReflectliteType.typeOf #[.iface T v]).run Tryz.prog w=.ok (.iface 266 (.agg #[.pointer (some ⟨14,T,none⟩)])) w
 assign:∀ w,(ReflectliteType.relation "AssignableTo" ReflectliteType.assignableTo #[.agg #[.pointer (some ⟨14,T,none⟩)],.iface 266 (.agg #[.pointer (some ⟨14,T,none⟩)])]).run Tryz.prog w=.ok (.bool true) w
 vV:∀ e w,(ReflectliteValue.unpack (.iface T (.pointer (some e)))).run Tryz.prog w=.ok (.agg #[.pointer (some ⟨14,T,none⟩),.pointer (some ⟨w.heap.size,0,none⟩),.int .u64 150]) (w.alloc (.cells #[.pointer (some e)] T))
 elemV:∀ a p W,W.cell? a=some (.pointer (some p))->(ReflectliteValue.method (ReflectliteValue.valueError "reflectlite.Value.Elem" 0) ReflectliteValue.elem #[.agg #[.pointer (some ⟨14,PT,none⟩),.pointer (some a),.int .u64 150]]).run Tryz.prog W=.ok (.agg #[.pointer (some ⟨14,T,none⟩),.pointer (some p),.int .u64 406]) W
 set:∀ ta b e old W,W.cell? b=some (.pointer (some e))->W.cell? ta=some old->W.frozen? ta=false->(ReflectliteValue.set #[.agg #[.pointer (some ⟨14,T,none⟩),.pointer (some ta),.int .u64 406],.agg #[.pointer (some ⟨14,T,none⟩),.pointer (some b),.int .u64 150]]).run Tryz.prog W=.ok (.tuple #[]) (W.setCell ta (.pointer (some e)))
set_option maxHeartbeats 4000000 in
set_option maxRecDepth 100000 in
theorem as_chain (T PT:TypeId) (hT:TargT T PT) (w:World) (n:Nat) (v:Value) (L:TypeId) (a:Addr) (r:Bool) (k q:Nat) (hc:iV (iW T) w n v L a) (hr:(L=T/\r=true)\/(iW T L/\r=false)) (hk:w.heap[k]? = some (.cells #[.pointer none] T (0,0))) (hq:w.cell? ⟨q,0,none⟩=some (.pointer (some ⟨k,0,none⟩))) :
  Calls Tryz.prog 161 #[v,.iface PT (.pointer (some ⟨k,0,none⟩)),.agg #[.pointer (some ⟨14,PT,none⟩),.pointer (some ⟨q,0,none⟩),.int .u64 150],.iface 266 (.agg #[.pointer (some ⟨14,T,none⟩)])] w fun e w'=>e=.returned (.bool r)/\Only k w w':=by
 have x1:=@run_callFunc_extern Tryz.prog 158 _ (fun args=>ReflectliteValue.unpack (args.getD 0 (.tuple #[]))) Tryz.func158 (by kernel_rfl) (by kernel_rfl) (by kernel_rfl) (by kernel_rfl)
 have x7:=@run_callFunc_extern Tryz.prog 117 _ ReflectliteType.typeOf Tryz.func117 (by kernel_rfl) (by kernel_rfl) (by kernel_rfl) (by kernel_rfl)
 have x8:=@run_callFunc_extern Tryz.prog 266 _ (ReflectliteType.relation "AssignableTo" ReflectliteType.assignableTo) Tryz.func266 (by kernel_rfl) (by kernel_rfl) (by kernel_rfl) (by kernel_rfl)
 have x9:=@run_callFunc_extern Tryz.prog 187 _ (ReflectliteValue.method (ReflectliteValue.valueError "reflectlite.Value.Elem" 0) ReflectliteValue.elem) Tryz.func187 (by kernel_rfl) (by kernel_rfl) (by kernel_rfl) (by kernel_rfl)
 have kX:=@run_callFunc_extern Tryz.prog 188 _ ReflectliteValue.set Tryz.func188 (by kernel_rfl) (by kernel_rfl) (by kernel_rfl) (by kernel_rfl)
 have y8:=ur
 have hkl:=aw hk
 have hql:q<w.heap.size:=i_ hq
 have hbx:Below w.heap.size w (w.alloc (.cells #[.pointer (some ⟨14,PT,none⟩),.pointer (some ⟨q,0,none⟩),.int .u64 150] 278)):=(Below.refl _ w).al _
 have hq1:(w.alloc (.cells #[.pointer (some ⟨14,PT,none⟩),.pointer (some ⟨q,0,none⟩),.int .u64 150] 278)).cell? ⟨q,0,none⟩=some (.pointer (some ⟨k,0,none⟩)):=by
  rw [World.cell?_alloc_lt _ _ ⟨q,0,none⟩ hql];exact hq
 have el:=hT.elemV ⟨q,0,none⟩ ⟨k,0,none⟩ _ hq1
 have st:=hT.set ⟨k,0,none⟩ ⟨w.heap.size+1,0,none⟩ a (.pointer none) ((w.alloc (.cells #[.pointer (some ⟨14,PT,none⟩),.pointer (some ⟨q,0,none⟩),.int .u64 150] 278)).alloc (.cells #[.pointer (some a)] T))
  (by rw [World.cell?_alloc_at _ _ _ _ (by simp)];rfl)
  (by rw [World.cell?_alloc_lt _ _ ⟨k,0,none⟩ (by simp;omega),World.cell?_alloc_lt _ _ ⟨k,0,none⟩ hkl];exact ae (i:=0) hk rfl)
  (by rw [World.frozen?_alloc_old _ _ ⟨k,0,none⟩ (by simp;omega),World.frozen?_alloc_old _ _ ⟨k,0,none⟩ (Nat.ne_of_lt hkl)];exact Lib.frozen_of_heap hk 0)
 have t1:=hT.typeOf
 have t2:=hT.assign
 have t3:=hT.vV
 have HB:Hid (Below w.heap.size w (w.alloc (.cells #[.pointer (some ⟨14,PT,none⟩),.pointer (some ⟨q,0,none⟩),.int .u64 150] 278))):=hbx
 replace hr:Hid _:=hr
 have Hc:Hid (iV (iW T) w n v L a):=hc
 obtain ⟨T0,p0,rfl⟩:=hc.iface
 clear hc hbx hk hq hT
 go_enter Tryz.func161,Tryz.ntmps161
 go_wp2_with fail
 go_loopg [0] n (fun kx ev wr=>Hid (iV (iW T) w kx ev L a)/\wr=w.alloc (.cells #[.pointer (some ⟨14,PT,none⟩),.pointer (some ⟨q,0,none⟩),.int .u64 150] 278))
 case atStart=>exact ⟨Hc,rfl⟩
 case round =>
  obtain ⟨hC,rfl⟩:=hrel
  have hC:=hC.out
  cases hC with
  | leaf hl =>
   have l1:=hl.noAs
   have l3:=hl.noUn
   have l4:=hl.noUns
   rcases hr.out with ⟨rfl,rfl⟩ | ⟨hoff,rfl⟩
   ·go_wp2_with fail
    go_ret
    exact ⟨rfl,(((Only.refl k w).setCell (p:=⟨k,0,none⟩) (.inl rfl) _).alloc _).alloc _⟩
   ·have o1:=hoff.typeOf
    have o2:=hoff.assign
    go_wp2_with fail
    go_ret
    exact ⟨rfl,(Only.refl _ _).alloc _⟩
  | @wrap X f b n' v' _ _ se hw hun uY =>
   have l1:=hw.noAs
   have l2:=hw.has
   have l3:=hw.meth
   have l4:=hw.ent
   have o1:=se.typeOf
   have o2:=se.assign
   have hu:=hun _ HB.out
   have Hc':Hid (iV (iW T) w n' v' L a):=uY
   obtain ⟨T1,p1,rfl⟩:=uY.iface
   clear uY hw hun
   go_wp2_with (go_at_fn f;refine hu.mono ?_;rintro e w1 ⟨rfl,rfl⟩)
   go_roundg n'
   case measure=>omega
   case rel=>exact ⟨Hc',rfl⟩
theorem iV.down {ok:TypeId->Prop} {w W:World} (hb:Below w.heap.size w W) {n:Nat} {v:Value} {L:TypeId} {a:Addr} (h:iV ok w n v L a):iV ok W n v L a:=by
 induction h with
 | leaf hl=>exact .leaf hl
 | wrap se hw hu _ ih=>exact .wrap se hw (fun W' h'=>hu W' (hb.tr h')) ih
set_option maxHeartbeats 4000000 in
set_option maxRecDepth 100000 in
theorem qM (T PT:TypeId) (hT:TargT T PT) (w:World) (n:Nat) (v:Value) (L:TypeId) (a:Addr) (r:Bool) (k:Nat) (hc:iV (iW T) w n v L a) (hr:(L=T/\r=true)\/(iW T L/\r=false)) (hk:w.heap[k]? = some (.cells #[.pointer none] T (0,0))) (hg:w.cell? ⟨7,0,none⟩=some (.iface 266 (.agg #[.pointer (some ⟨14,89,none⟩)]))) :
  Calls Tryz.prog 119 #[v,.iface PT (.pointer (some ⟨k,0,none⟩))] w fun e w'=>e=.returned (.bool r)/\Only k w w':=by
 have x1:=@run_callFunc_extern Tryz.prog 158 _ (fun args=>ReflectliteValue.unpack (args.getD 0 (.tuple #[]))) Tryz.func158 (by kernel_rfl) (by kernel_rfl) (by kernel_rfl) (by kernel_rfl)
 have x2:=@run_callFunc_extern Tryz.prog 159 _ (ReflectliteValue.methodAny (ReflectliteValue.valueError "reflectlite.Value.Type" 0) (fun t _ _ _=>ReflectliteType.toType t)) Tryz.func159 (by kernel_rfl) (by kernel_rfl) (by kernel_rfl) (by kernel_rfl)
 have x3:=@run_callFunc_extern Tryz.prog 160 _ (ReflectliteValue.method (ReflectliteValue.valueError "reflectlite.Value.IsNil" 0) ReflectliteValue.isNil) Tryz.func160 (by kernel_rfl) (by kernel_rfl) (by kernel_rfl) (by kernel_rfl)
 have x4:=@run_callFunc_extern Tryz.prog 248 _ kindE Tryz.func248 (by kernel_rfl) (by kernel_rfl) (by kernel_rfl) (by kernel_rfl)
 have x5:=@run_callFunc_extern Tryz.prog 268 _ (ReflectliteType.method ReflectliteType.elem) Tryz.func268 (by kernel_rfl) (by kernel_rfl) (by kernel_rfl) (by kernel_rfl)
 have x6:=@run_callFunc_extern Tryz.prog 269 _ (ReflectliteType.relation "Implements" ReflectliteType.implements_) Tryz.func269 (by kernel_rfl) (by kernel_rfl) (by kernel_rfl) (by kernel_rfl)
 have y3:=aMethodKind
 have y6:=aMethodElem
 have y7:=uu
 have t1:=hT.valueOf
 have t2:=hT.type
 have t3:=hT.kindP
 have t4:=hT.kindE
 have t6:=hT.elem
 have t7:=hT.impl
 have hkl:=aw hk
 have hgl:7<w.heap.size:=i_ hg
 have cB:Below w.heap.size w ((w.alloc (.cells #[.pointer (some ⟨k,0,none⟩)] PT)).alloc (.cells #[.pointer (some ⟨14,PT,none⟩),.pointer (some ⟨w.heap.size,0,none⟩),.int .u64 150] 278)):=((Below.refl _ w).al _).al _
 have hq2:((w.alloc (.cells #[.pointer (some ⟨k,0,none⟩)] PT)).alloc (.cells #[.pointer (some ⟨14,PT,none⟩),.pointer (some ⟨w.heap.size,0,none⟩),.int .u64 150] 278)).cell? ⟨w.heap.size,0,none⟩=some (.pointer (some ⟨k,0,none⟩)):=by
  rw [World.cell?_alloc_lt _ _ ⟨w.heap.size,0,none⟩ (by simp)];simp
 have n8:=hT.isNil ⟨w.heap.size,0,none⟩ ⟨k,0,none⟩ _ hq2
 have hg2:((w.alloc (.cells #[.pointer (some ⟨k,0,none⟩)] PT)).alloc (.cells #[.pointer (some ⟨14,PT,none⟩),.pointer (some ⟨w.heap.size,0,none⟩),.int .u64 150] 278)).cell? ⟨7,0,none⟩=some (.iface 266 (.agg #[.pointer (some ⟨14,89,none⟩)])):=by
  rw [World.cell?_alloc_lt _ _ ⟨7,0,none⟩ (by simp;omega),World.cell?_alloc_lt _ _ ⟨7,0,none⟩ hgl];exact hg
 have hA:=as_chain T PT hT _ n v L a r k w.heap.size (hc.down cB) hr (cB.aE hk) hq2
 obtain ⟨T0,p0,rfl⟩:=hc.iface
 clear hc hr hk hg hT cB hq2
 go_enter Tryz.func119,Tryz.ntmps119
 go_wp2_with fail
 refine hA.mono ?_
 rintro e w1 ⟨rfl,ho⟩
 go_wp2_with fail
 go_ret
 exact ⟨rfl,(((Only.refl k w).alloc _).alloc _).trans ho⟩
theorem tS:LeafT 357:=⟨fun v xT w=>run_typeAssert_lacksB Tryz.underlying268 (by kernel_rfl) (by kernel_rfl) v xT w,fun v xT w=>run_typeAssert_lacksB Tryz.underlying312 (by kernel_rfl) (by kernel_rfl) v xT w,fun v xT w=>run_typeAssert_lacksB Tryz.underlying270 (by kernel_rfl) (by kernel_rfl) v xT w,fun v xT w=>run_typeAssert_lacksB Tryz.underlying272 (by kernel_rfl) (by kernel_rfl) v xT w⟩
theorem leafMany:LeafT 132:=⟨fun v xT w=>run_typeAssert_lacksB Tryz.underlying268 (by kernel_rfl) (by kernel_rfl) v xT w,fun v xT w=>run_typeAssert_lacksB Tryz.underlying312 (by kernel_rfl) (by kernel_rfl) v xT w,fun v xT w=>run_typeAssert_lacksB Tryz.underlying270 (by kernel_rfl) (by kernel_rfl) v xT w,fun v xT w=>run_typeAssert_lacksB Tryz.underlying272 (by kernel_rfl) (by kernel_rfl) v xT w⟩
theorem wrapPol:WrapT 169 262:=⟨fun v xT w=>run_typeAssert_lacksB Tryz.underlying268 (by kernel_rfl) (by kernel_rfl) v xT w,fun v xT w=>run_typeAssert_lacksB Tryz.underlying312 (by kernel_rfl) (by kernel_rfl) v xT w,fun v xT w=>run_typeAssert_hasB Tryz.underlying270 (by kernel_rfl) v xT w,fun v w=>by kernel_rfl,fun args w=>by go_simp,by decide⟩
theorem s_:iW 130 357:=⟨fun v w=>by kernel_rfl,fun w=>by kernel_rfl⟩
theorem offDeepMany:iW 130 132:=⟨fun v w=>by kernel_rfl,fun w=>by kernel_rfl⟩
theorem offDeepPol:iW 130 169:=⟨fun v w=>by kernel_rfl,fun w=>by kernel_rfl⟩
theorem offDeepEvt:iW 130 154:=⟨fun v w=>by kernel_rfl,fun w=>by kernel_rfl⟩
theorem offDeepTxt:iW 130 125:=⟨fun v w=>by kernel_rfl,fun w=>by kernel_rfl⟩
theorem offDeepFlt:iW 130 201:=⟨fun v w=>by kernel_rfl,fun w=>by kernel_rfl⟩
theorem vu:iW 131 357:=⟨fun v w=>by kernel_rfl,fun w=>by kernel_rfl⟩
theorem offFarMany:iW 131 132:=⟨fun v w=>by kernel_rfl,fun w=>by kernel_rfl⟩
theorem offFarPol:iW 131 169:=⟨fun v w=>by kernel_rfl,fun w=>by kernel_rfl⟩
theorem offFarEvt:iW 131 154:=⟨fun v w=>by kernel_rfl,fun w=>by kernel_rfl⟩
theorem offFarTxt:iW 131 125:=⟨fun v w=>by kernel_rfl,fun w=>by kernel_rfl⟩
theorem offFarFlt:iW 131 201:=⟨fun v w=>by kernel_rfl,fun w=>by kernel_rfl⟩
theorem offManyPol:iW 132 169:=⟨fun v w=>by kernel_rfl,fun w=>by kernel_rfl⟩
theorem offManyEvt:iW 132 154:=⟨fun v w=>by kernel_rfl,fun w=>by kernel_rfl⟩
theorem offManyTxt:iW 132 125:=⟨fun v w=>by kernel_rfl,fun w=>by kernel_rfl⟩
theorem offManyFlt:iW 132 201:=⟨fun v w=>by kernel_rfl,fun w=>by kernel_rfl⟩
theorem nilDeep (a:Addr) (W:World):(ReflectliteValue.method (ReflectliteValue.valueError "reflectlite.Value.IsNil" 0) ReflectliteValue.isNil #[.agg #[.pointer (some ⟨14,218,none⟩),.pointer (some a),.int .u64 150]]).run Tryz.prog W=(ReflectliteValue.isNil 218 a 150 22).run Tryz.prog W:=by kernel_rfl
theorem elDeep (w:World):(Rtype.elem? 218).run Tryz.prog w=.ok (some 130) w:=by kernel_rfl
theorem mkDeep (p:Addr) (w:World):(ReflectliteValue.mk 130 p ReflectliteValue.flagAddr).run Tryz.prog w=.ok (.agg #[.pointer (some ⟨14,130,none⟩),.pointer (some p),.int .u64 406]) w:=by kernel_rfl
theorem elvDeep (a:Addr) (W:World):(ReflectliteValue.method (ReflectliteValue.valueError "reflectlite.Value.Elem" 0) ReflectliteValue.elem #[.agg #[.pointer (some ⟨14,218,none⟩),.pointer (some a),.int .u64 150]]).run Tryz.prog W=(ReflectliteValue.elem 218 a 150 22).run Tryz.prog W:=by kernel_rfl
theorem setDeep (ta b:Addr) (W:World):(ReflectliteValue.set #[.agg #[.pointer (some ⟨14,130,none⟩),.pointer (some ta),.int .u64 406],.agg #[.pointer (some ⟨14,130,none⟩),.pointer (some b),.int .u64 150]]).run Tryz.prog W=(do let v <- loadVar 130 b;storeVar 130 ta v;pure (Value.tuple #[])).run Tryz.prog W:=by kernel_rfl
theorem targDeep:TargT 130 218 where
 valueOf:=fun t w=>by kernel_rfl
 type:=fun a w=>by kernel_rfl
 kindP:=fun w=>by kernel_rfl
 kindE:=fun w=>by kernel_rfl
 isNil:=fun a p W ha=>by
  rw [nilDeep]
  simp [ReflectliteValue.isNil,loadVar,isAgg,underlying,Tryz.underlying218,ha,Result.andThen]
 elem:=fun w=>by kernel_rfl
 impl:=fun w=>by kernel_rfl
 typeOf:=fun v w=>by kernel_rfl
 assign:=fun w=>by kernel_rfl
 vV:=fun e w=>by kernel_rfl
 elemV:=fun a p W ha=>by
  rw [elvDeep]
  simp [ReflectliteValue.elem,loadVar,isAgg,underlying,Tryz.underlying218,ha,Result.andThen,elDeep,mkDeep]
 set:=fun ta b e old W hb ht hf=>by
  rw [setDeep]
  simp [loadVar,isAgg,underlying,Tryz.underlying130,hb,Result.andThen,storeVar,Value.cells,storeCells,Addr.add]
  rw [run_store Tryz.prog W ta _ _ (by rfl)]
  simp [ht,hf]
theorem nilFar (a:Addr) (W:World):(ReflectliteValue.method (ReflectliteValue.valueError "reflectlite.Value.IsNil" 0) ReflectliteValue.isNil #[.agg #[.pointer (some ⟨14,219,none⟩),.pointer (some a),.int .u64 150]]).run Tryz.prog W=(ReflectliteValue.isNil 219 a 150 22).run Tryz.prog W:=by kernel_rfl
theorem elFar (w:World):(Rtype.elem? 219).run Tryz.prog w=.ok (some 131) w:=by kernel_rfl
theorem mkFar (p:Addr) (w:World):(ReflectliteValue.mk 131 p ReflectliteValue.flagAddr).run Tryz.prog w=.ok (.agg #[.pointer (some ⟨14,131,none⟩),.pointer (some p),.int .u64 406]) w:=by kernel_rfl
theorem elvFar (a:Addr) (W:World):(ReflectliteValue.method (ReflectliteValue.valueError "reflectlite.Value.Elem" 0) ReflectliteValue.elem #[.agg #[.pointer (some ⟨14,219,none⟩),.pointer (some a),.int .u64 150]]).run Tryz.prog W=(ReflectliteValue.elem 219 a 150 22).run Tryz.prog W:=by kernel_rfl
theorem setFar (ta b:Addr) (W:World):(ReflectliteValue.set #[.agg #[.pointer (some ⟨14,131,none⟩),.pointer (some ta),.int .u64 406],.agg #[.pointer (some ⟨14,131,none⟩),.pointer (some b),.int .u64 150]]).run Tryz.prog W=(do let v <- loadVar 131 b;storeVar 131 ta v;pure (Value.tuple #[])).run Tryz.prog W:=by kernel_rfl
theorem targFar:TargT 131 219 where
 valueOf:=fun t w=>by kernel_rfl
 type:=fun a w=>by kernel_rfl
 kindP:=fun w=>by kernel_rfl
 kindE:=fun w=>by kernel_rfl
 isNil:=fun a p W ha=>by
  rw [nilFar]
  simp [ReflectliteValue.isNil,loadVar,isAgg,underlying,Tryz.underlying219,ha,Result.andThen]
 elem:=fun w=>by kernel_rfl
 impl:=fun w=>by kernel_rfl
 typeOf:=fun v w=>by kernel_rfl
 assign:=fun w=>by kernel_rfl
 vV:=fun e w=>by kernel_rfl
 elemV:=fun a p W ha=>by
  rw [elvFar]
  simp [ReflectliteValue.elem,loadVar,isAgg,underlying,Tryz.underlying219,ha,Result.andThen,elFar,mkFar]
 set:=fun ta b e old W hb ht hf=>by
  rw [setFar]
  simp [loadVar,isAgg,underlying,Tryz.underlying131,hb,Result.andThen,storeVar,Value.cells,storeCells,Addr.add]
  rw [run_store Tryz.prog W ta _ _ (by rfl)]
  simp [ht,hf]
theorem nilMany (a:Addr) (W:World):(ReflectliteValue.method (ReflectliteValue.valueError "reflectlite.Value.IsNil" 0) ReflectliteValue.isNil #[.agg #[.pointer (some ⟨14,220,none⟩),.pointer (some a),.int .u64 150]]).run Tryz.prog W=(ReflectliteValue.isNil 220 a 150 22).run Tryz.prog W:=by kernel_rfl
theorem elMany (w:World):(Rtype.elem? 220).run Tryz.prog w=.ok (some 132) w:=by kernel_rfl
theorem mkMany (p:Addr) (w:World):(ReflectliteValue.mk 132 p ReflectliteValue.flagAddr).run Tryz.prog w=.ok (.agg #[.pointer (some ⟨14,132,none⟩),.pointer (some p),.int .u64 406]) w:=by kernel_rfl
theorem elvMany (a:Addr) (W:World):(ReflectliteValue.method (ReflectliteValue.valueError "reflectlite.Value.Elem" 0) ReflectliteValue.elem #[.agg #[.pointer (some ⟨14,220,none⟩),.pointer (some a),.int .u64 150]]).run Tryz.prog W=(ReflectliteValue.elem 220 a 150 22).run Tryz.prog W:=by kernel_rfl
theorem setMany (ta b:Addr) (W:World):(ReflectliteValue.set #[.agg #[.pointer (some ⟨14,132,none⟩),.pointer (some ta),.int .u64 406],.agg #[.pointer (some ⟨14,132,none⟩),.pointer (some b),.int .u64 150]]).run Tryz.prog W=(do let v <- loadVar 132 b;storeVar 132 ta v;pure (Value.tuple #[])).run Tryz.prog W:=by kernel_rfl
theorem targMany:TargT 132 220 where
 valueOf:=fun t w=>by kernel_rfl
 type:=fun a w=>by kernel_rfl
 kindP:=fun w=>by kernel_rfl
 kindE:=fun w=>by kernel_rfl
 isNil:=fun a p W ha=>by
  rw [nilMany]
  simp [ReflectliteValue.isNil,loadVar,isAgg,underlying,Tryz.underlying220,ha,Result.andThen]
 elem:=fun w=>by kernel_rfl
 impl:=fun w=>by kernel_rfl
 typeOf:=fun v w=>by kernel_rfl
 assign:=fun w=>by kernel_rfl
 vV:=fun e w=>by kernel_rfl
 elemV:=fun a p W ha=>by
  rw [elvMany]
  simp [ReflectliteValue.elem,loadVar,isAgg,underlying,Tryz.underlying220,ha,Result.andThen,elMany,mkMany]
 set:=fun ta b e old W hb ht hf=>by
  rw [setMany]
  simp [loadVar,isAgg,underlying,Tryz.underlying132,hb,Result.andThen,storeVar,Value.cells,storeCells,Addr.add]
  rw [run_store Tryz.prog W ta _ _ (by rfl)]
  simp [ht,hf]
structure fb (w:World) (g:Nat) (text:List UInt8) (a:Addr):Prop where
 cell:w.cell? ⟨g,0,none⟩=some (.iface 357 (.pointer (some a)))
 str:∃ s:ByteArray,w.cell? a=some (.string s)/\s.data.toList=text
 heap:∃ c t,w.heap[a.block]? = some (.cells c t (0,0))
theorem fb.keep {w W:World} {g:Nat} {text:List UInt8} {a:Addr} (h:fb w g text a) (hb:∀ k,k<w.heap.size->W.heap[k]? = w.heap[k]?):fb W g text a:=by
 obtain ⟨h1,⟨s,h2,h3⟩,c,t,h4⟩:=h
 exact ⟨by rw [World.cell?_of_block (w:=w) (a:=⟨g,0,none⟩) (hb g (i_ h1))];exact h1,⟨s,by rw [World.cell?_of_block (w:=w) (a:=a) (hb a.block (aw h4))];exact h2,h3⟩,c,t,by rw [hb a.block (aw h4)];exact h4⟩
theorem fb.down {w W:World} {g:Nat} {text:List UInt8} {a:Addr} (h:fb w g text a) (hb:Below w.heap.size w W):fb W g text a:=h.keep hb.block
theorem fb.ne {w:World} {g1 g2:Nat} {t1 t2:List UInt8} {a1 a2:Addr} (h1:fb w g1 t1 a1) (h2:fb w g2 t2 a2) (hne:t1≠t2):a1≠a2:=by
 rintro rfl
 obtain ⟨s1,c1,e1⟩:=h1.str
 obtain ⟨s2,c2,e2⟩:=h2.str
 rw [c1] at c2
 cases c2
 exact hne (e1.symm.trans e2)
def wraps:List TypeId:=[169,154,125,201]
def sB (w:World) (v:Value) (L:TypeId) (a:Addr):Prop:=∃ n,∀ ok:TypeId->Prop,(∀ X∈wraps,ok X)->iV ok w n v L a
theorem sB.down {w W:World} (hb:Below w.heap.size w W) {v:Value} {L:TypeId} {a:Addr} (h:sB w v L a):sB W v L a:=by
 obtain ⟨n,h⟩:=h
 exact ⟨n,fun ok ho=>(h ok ho).down hb⟩
theorem isNo {w:World} {v:Value} {a1 a2:Addr} {g1 g2:Nat} {t1 t2:List UInt8} (hE:sB w v 357 a1) (h1:fb w g1 t1 a1) (h2:fb w g2 t2 a2) (hne:t1≠t2) :
  Calls Tryz.prog 75 #[v,.iface 357 (.pointer (some a2))] w fun e w'=>e=.returned (.bool false)/\w'=w:=by
 obtain ⟨n,hc⟩:=hE
 obtain ⟨i,hi,hcmp⟩:=Option.map_eq_some_iff.1 eComp
 obtain ⟨j,hj,hjs⟩:=Option.map_eq_some_iff.1 eSize
 obtain ⟨c1,x1,e1⟩:=h1.heap
 obtain ⟨c2,x2,e2⟩:=h2.heap
 exact rH (fun _=>True) w n v _ a1 a2 false (hc _ fun _ _=>trivial) (.inl ⟨rfl,run_eql_iface_ptr_other w Tryz.underlying89 Tryz.underlying357 hi hcmp hj (by rw [hjs];decide) (h1.ne h2 hne) e1 e2⟩)
theorem isYes {w:World} {v:Value} {a1:Addr} (hE:sB w v 357 a1) :
  Calls Tryz.prog 75 #[v,.iface 357 (.pointer (some a1))] w fun e w'=>e=.returned (.bool true)/\w'=w:=by
 obtain ⟨n,hc⟩:=hE
 obtain ⟨i,hi,hcmp⟩:=Option.map_eq_some_iff.1 eComp
 obtain ⟨j,hj,hjs⟩:=Option.map_eq_some_iff.1 eSize
 exact rH (fun _=>True) w n v _ a1 a1 true (hc _ fun _ _=>trivial) (.inl ⟨rfl,run_eql_iface_ptr_same (P:=Tryz.prog) w a1 Tryz.underlying89 Tryz.underlying357 hi hcmp hj⟩)
theorem isTyp {w:World} {v:Value} {L:TypeId} {a1 a2:Addr} (hE:sB w v L a1) (hL:L≠357) :
  Calls Tryz.prog 75 #[v,.iface 357 (.pointer (some a2))] w fun e w'=>e=.returned (.bool false)/\w'=w:=by
 obtain ⟨n,hc⟩:=hE
 exact rH (fun _=>True) w n v L a1 a2 false (hc _ fun _ _=>trivial) (.inr ⟨hL,rfl⟩)
theorem sB.iface {w:World} {v:Value} {L:TypeId} {a:Addr} (h:sB w v L a):∃ T p,v=.iface T p:=by
 obtain ⟨n,hc⟩:=h
 exact (hc (fun _=>True) fun _ _=>trivial).iface
theorem offWDeep:∀ X∈wraps,iW 130 X:=by
 intro X hX
 simp only [wraps,List.mem_cons,List.not_mem_nil,or_false] at hX
 rcases hX with rfl | rfl | rfl | rfl
 ·exact offDeepPol
 ·exact offDeepEvt
 ·exact offDeepTxt
 ·exact offDeepFlt
set_option maxHeartbeats 400000 in
theorem isADeep {w:World} {v:Value} {L:TypeId} {a:Addr} {r:Bool} (hE:sB w v L a) (hr:(L=130/\r=true)\/(iW 130 L/\r=false)) (hg:eF w) :
  Calls Tryz.prog 76 #[v] w fun e w'=>e=.returned (.bool r)/\Below w.heap.size w w':=by
 have hb:Below w.heap.size w (w.alloc (.cells #[.pointer none] 130)):=(Below.refl _ _).al _
 obtain ⟨n,hc⟩:=hE.down hb
 have hk:=aB w (.cells #[.pointer none] 130 (0,0)) _ rfl
 have hA:=qM 130 218 targDeep _ n v L a r w.heap.size (hc _ offWDeep) hr hk (hg.below hb).et
 obtain ⟨T0,p0,rfl⟩:=hE.iface
 clear hr hg hE hc
 go_enter Tryz.func76,Tryz.ntmps76
 go_wp2_with fail
 refine hA.mono ?_
 rintro e w2 ⟨rfl,ho⟩
 go_wp2_with fail
 go_ret
 exact ⟨rfl,((Below.refl _ _).al _).trans (ho.below (Nat.le_refl _) (by simp))⟩
theorem offWFar:∀ X∈wraps,iW 131 X:=by
 intro X hX
 simp only [wraps,List.mem_cons,List.not_mem_nil,or_false] at hX
 rcases hX with rfl | rfl | rfl | rfl
 ·exact offFarPol
 ·exact offFarEvt
 ·exact offFarTxt
 ·exact offFarFlt
set_option maxHeartbeats 400000 in
theorem isAFar {w:World} {v:Value} {L:TypeId} {a:Addr} {r:Bool} (hE:sB w v L a) (hr:(L=131/\r=true)\/(iW 131 L/\r=false)) (hg:eF w) :
  Calls Tryz.prog 77 #[v] w fun e w'=>e=.returned (.bool r)/\Below w.heap.size w w':=by
 have hb:Below w.heap.size w (w.alloc (.cells #[.pointer none] 131)):=(Below.refl _ _).al _
 obtain ⟨n,hc⟩:=hE.down hb
 have hk:=aB w (.cells #[.pointer none] 131 (0,0)) _ rfl
 have hA:=qM 131 219 targFar _ n v L a r w.heap.size (hc _ offWFar) hr hk (hg.below hb).et
 obtain ⟨T0,p0,rfl⟩:=hE.iface
 clear hr hg hE hc
 go_enter Tryz.func77,Tryz.ntmps77
 go_wp2_with fail
 refine hA.mono ?_
 rintro e w2 ⟨rfl,ho⟩
 go_wp2_with fail
 go_ret
 exact ⟨rfl,((Below.refl _ _).al _).trans (ho.below (Nat.le_refl _) (by simp))⟩
theorem offWMany:∀ X∈wraps,iW 132 X:=by
 intro X hX
 simp only [wraps,List.mem_cons,List.not_mem_nil,or_false] at hX
 rcases hX with rfl | rfl | rfl | rfl
 ·exact offManyPol
 ·exact offManyEvt
 ·exact offManyTxt
 ·exact offManyFlt
set_option maxHeartbeats 400000 in
theorem isAMany {w:World} {v:Value} {L:TypeId} {a:Addr} {r:Bool} (hE:sB w v L a) (hr:(L=132/\r=true)\/(iW 132 L/\r=false)) (hg:eF w) :
  Calls Tryz.prog 78 #[v] w fun e w'=>e=.returned (.bool r)/\Below w.heap.size w w':=by
 have hb:Below w.heap.size w (w.alloc (.cells #[.pointer none] 132)):=(Below.refl _ _).al _
 obtain ⟨n,hc⟩:=hE.down hb
 have hk:=aB w (.cells #[.pointer none] 132 (0,0)) _ rfl
 have hA:=qM 132 220 targMany _ n v L a r w.heap.size (hc _ offWMany) hr hk (hg.below hb).et
 obtain ⟨T0,p0,rfl⟩:=hE.iface
 clear hr hg hE hc
 go_enter Tryz.func78,Tryz.ntmps78
 go_wp2_with fail
 refine hA.mono ?_
 rintro e w2 ⟨rfl,ho⟩
 go_wp2_with fail
 go_ret
 exact ⟨rfl,((Below.refl _ _).al _).trans (ho.below (Nat.le_refl _) (by simp))⟩
def tNs:List UInt8:=[110,111,32,115,101,110,116,101,110,99,101]
def tTime:List UInt8:=[97,32,116,105,109,101,32,116,104,97,116,32,109,97,121,32,110,111,116,32,98,101]
def tAtoms:List UInt8:=[97,116,111,109,115,32,116,104,97,116,32,109,97,121,32,110,111,116,32,98,101]
def tName:List UInt8:=[110,111,32,110,97,109,101]
def tTwice:List UInt8:=[116,104,101,114,101,32,105,115,32,115,117,99,104,32,97,32,112,111,108,105,99,121]
def tNone:List UInt8:=[116,104,101,114,101,32,105,115,32,110,111,32,115,117,99,104,32,112,111,108,105,99,121]
def tFull:List UInt8:=[116,104,101,114,101,32,97,114,101,32,97,115,32,109,97,110,121,32,112,111,108,105,99,105,101,115,32,97,115,32,109,97,121,32,98,101]
structure jz (w:World):Prop where
 eNs:∃ a,fb w 0 tNs a
 eTime:∃ a,fb w 5 tTime a
 eAtoms:∃ a,fb w 6 tAtoms a
 eName:∃ a,fb w 1 tName a
 eTwice:∃ a,fb w 2 tTwice a
 eNone:∃ a,fb w 3 tNone a
 eFull:∃ a,fb w 4 tFull a
theorem jz.keep {w W:World} (h:jz w) (hb:∀ k,k<w.heap.size->W.heap[k]? = w.heap[k]?):jz W:=by
 obtain ⟨⟨a1,h1⟩,⟨a2,h2⟩,⟨a3,h3⟩,⟨a4,h4⟩,⟨a5,h5⟩,⟨a6,h6⟩,⟨a7,h7⟩⟩:=h
 exact ⟨⟨a1,h1.keep hb⟩,⟨a2,h2.keep hb⟩,⟨a3,h3.keep hb⟩,⟨a4,h4.keep hb⟩,⟨a5,h5.keep hb⟩,⟨a6,h6.keep hb⟩,⟨a7,h7.keep hb⟩⟩
theorem err_pol {w:World} {b:Nat} {name:ByteArray} {v:Value} {L:TypeId} {a:Addr} (hb:w.heap[b]? = some (.cells #[.string name,v] 171 (0,0))) (h:sB w v L a):sB w (.iface 169 (.pointer (some ⟨b,0,none⟩))) L a:=by
 obtain ⟨n,h⟩:=h
 refine ⟨n+1,fun ok ho=>.wrap (ho _ (by simp [wraps])) wrapPol (fun W hW=>?_) (h ok ho)⟩
 have c1:=ae (i:=1) (hW.aE hb) rfl
 obtain ⟨T0,p0,rfl⟩:=(h (fun _=>True) fun _ _=>trivial).iface
 go_enter Tryz.func262,Tryz.ntmps262
 go_wp2_with fail
 go_ret
 exact ⟨rfl,rfl⟩
theorem uB {w:World} {T:TypeId} {a:Addr} (h:LeafT T):sB w (.iface T (.pointer (some a))) T a:=⟨0,fun _ _=>.leaf h⟩
set_option maxHeartbeats 1000000 in
theorem errno_twice (v:Value) (a:Addr) (w:World) (hg:eF w) (pg:jz w) (hE:sB w v 357 a) (hs:fb w 2 tTwice a) :
  Calls Tryz.prog 40 #[v] w fun e w'=>e=.returned (.int .i64 5)/\Below w.heap.size w w':=by
 obtain ⟨⟨a0,h0⟩,_,_,⟨a1,h1⟩,⟨a2,h2⟩,⟨a3,h3⟩,⟨a4,h4⟩⟩:=pg
 obtain ⟨T0,p0,rfl⟩:=hE.iface
 obtain rfl:a=a2:=by have:=hs.cell.symm.trans h2.cell;simpa using this
 have E0:Hid (sB w (.iface T0 p0) 357 a):=hE
 have G0:Hid (eF w):=hg
 have S0:Hid _:=h0
 have S1:Hid _:=h1
 have S2:Hid _:=h2
 have S3:Hid _:=h3
 have S4:Hid _:=h4
 have SS:Hid _:=hs
 clear hE hg hs
 have c:=h0.cell
 go_enter Tryz.func40,Tryz.ntmps40
 go_wp2_with fail
 refine (isNo (E0.out.down (Below.refl _ w)) (SS.out.down (Below.refl _ w)) (S0.out.down (Below.refl _ w)) (by decide)).mono ?_
 rintro e v1 ⟨rfl,ev⟩
 obtain rfl:=ev.symm
 go_wp2_with fail
 refine (isADeep (r:=false) (E0.out.down (Below.refl _ w)) (.inr ⟨s_,rfl⟩) (G0.out.below (Below.refl _ w))).mono ?_
 rintro e w1 ⟨rfl,a_⟩
 have HB1:=a_
 have c2:=(S1.out.down HB1).cell
 go_wp2_with fail
 refine (isNo (E0.out.down HB1) (SS.out.down HB1) (S1.out.down HB1) (by decide)).mono ?_
 rintro e v1 ⟨rfl,ev⟩
 obtain rfl:=ev.symm
 go_wp2_with fail
 refine (isAFar (r:=false) (E0.out.down HB1) (.inr ⟨vu,rfl⟩) (G0.out.below HB1)).mono ?_
 rintro e w2 ⟨rfl,cB⟩
 have HB2:=HB1.tr cB
 have c4:=(S2.out.down HB2).cell
 go_wp2_with fail
 refine (isYes (E0.out.down HB2)).mono ?_
 rintro e v1 ⟨rfl,ev⟩
 obtain rfl:=ev.symm
 go_wp2_with fail
 go_ret
 exact ⟨rfl,HB2⟩
set_option maxHeartbeats 1000000 in
theorem errno_none (v:Value) (a:Addr) (w:World) (hg:eF w) (pg:jz w) (hE:sB w v 357 a) (hs:fb w 3 tNone a) :
  Calls Tryz.prog 40 #[v] w fun e w'=>e=.returned (.int .i64 6)/\Below w.heap.size w w':=by
 obtain ⟨⟨a0,h0⟩,_,_,⟨a1,h1⟩,⟨a2,h2⟩,⟨a3,h3⟩,⟨a4,h4⟩⟩:=pg
 obtain ⟨T0,p0,rfl⟩:=hE.iface
 obtain rfl:a=a3:=by have:=hs.cell.symm.trans h3.cell;simpa using this
 have E0:Hid (sB w (.iface T0 p0) 357 a):=hE
 have G0:Hid (eF w):=hg
 have S0:Hid _:=h0
 have S1:Hid _:=h1
 have S2:Hid _:=h2
 have S3:Hid _:=h3
 have S4:Hid _:=h4
 have SS:Hid _:=hs
 clear hE hg hs
 have c:=h0.cell
 go_enter Tryz.func40,Tryz.ntmps40
 go_wp2_with fail
 refine (isNo (E0.out.down (Below.refl _ w)) (SS.out.down (Below.refl _ w)) (S0.out.down (Below.refl _ w)) (by decide)).mono ?_
 rintro e v1 ⟨rfl,ev⟩
 obtain rfl:=ev.symm
 go_wp2_with fail
 refine (isADeep (r:=false) (E0.out.down (Below.refl _ w)) (.inr ⟨s_,rfl⟩) (G0.out.below (Below.refl _ w))).mono ?_
 rintro e w1 ⟨rfl,a_⟩
 have HB1:=a_
 have c2:=(S1.out.down HB1).cell
 go_wp2_with fail
 refine (isNo (E0.out.down HB1) (SS.out.down HB1) (S1.out.down HB1) (by decide)).mono ?_
 rintro e v1 ⟨rfl,ev⟩
 obtain rfl:=ev.symm
 go_wp2_with fail
 refine (isAFar (r:=false) (E0.out.down HB1) (.inr ⟨vu,rfl⟩) (G0.out.below HB1)).mono ?_
 rintro e w2 ⟨rfl,cB⟩
 have HB2:=HB1.tr cB
 have c4:=(S2.out.down HB2).cell
 go_wp2_with fail
 refine (isNo (E0.out.down HB2) (SS.out.down HB2) (S2.out.down HB2) (by decide)).mono ?_
 rintro e v1 ⟨rfl,ev⟩
 obtain rfl:=ev.symm
 have c5:=(S3.out.down HB2).cell
 go_wp2_with fail
 refine (isYes (E0.out.down HB2)).mono ?_
 rintro e v1 ⟨rfl,ev⟩
 obtain rfl:=ev.symm
 go_wp2_with fail
 go_ret
 exact ⟨rfl,HB2⟩
set_option maxHeartbeats 1000000 in
theorem errno_many (v:Value) (a:Addr) (w:World) (hg:eF w) (pg:jz w) (hE:sB w v 132 a) :
  Calls Tryz.prog 40 #[v] w fun e w'=>e=.returned (.int .i64 8)/\Below w.heap.size w w':=by
 obtain ⟨⟨a0,h0⟩,_,_,⟨a1,h1⟩,⟨a2,h2⟩,⟨a3,h3⟩,⟨a4,h4⟩⟩:=pg
 obtain ⟨T0,p0,rfl⟩:=hE.iface
 have E0:Hid (sB w (.iface T0 p0) 132 a):=hE
 have G0:Hid (eF w):=hg
 have S0:Hid _:=h0
 have S1:Hid _:=h1
 have S2:Hid _:=h2
 have S3:Hid _:=h3
 have S4:Hid _:=h4
 clear hE hg
 have c:=h0.cell
 go_enter Tryz.func40,Tryz.ntmps40
 go_wp2_with fail
 refine (isTyp (E0.out.down (Below.refl _ w)) (by decide)).mono ?_
 rintro e v1 ⟨rfl,ev⟩
 obtain rfl:=ev.symm
 go_wp2_with fail
 refine (isADeep (r:=false) (E0.out.down (Below.refl _ w)) (.inr ⟨offDeepMany,rfl⟩) (G0.out.below (Below.refl _ w))).mono ?_
 rintro e w1 ⟨rfl,a_⟩
 have HB1:=a_
 have c2:=(S1.out.down HB1).cell
 go_wp2_with fail
 refine (isTyp (E0.out.down HB1) (by decide)).mono ?_
 rintro e v1 ⟨rfl,ev⟩
 obtain rfl:=ev.symm
 go_wp2_with fail
 refine (isAFar (r:=false) (E0.out.down HB1) (.inr ⟨offFarMany,rfl⟩) (G0.out.below HB1)).mono ?_
 rintro e w2 ⟨rfl,cB⟩
 have HB2:=HB1.tr cB
 have c4:=(S2.out.down HB2).cell
 go_wp2_with fail
 refine (isTyp (E0.out.down HB2) (by decide)).mono ?_
 rintro e v1 ⟨rfl,ev⟩
 obtain rfl:=ev.symm
 have c5:=(S3.out.down HB2).cell
 go_wp2_with fail
 refine (isTyp (E0.out.down HB2) (by decide)).mono ?_
 rintro e v1 ⟨rfl,ev⟩
 obtain rfl:=ev.symm
 have c6:=(S4.out.down HB2).cell
 go_wp2_with fail
 refine (isTyp (E0.out.down HB2) (by decide)).mono ?_
 rintro e v1 ⟨rfl,ev⟩
 obtain rfl:=ev.symm
 go_wp2_with fail
 refine (isAMany (r:=true) (E0.out.down HB2) (.inl ⟨rfl,rfl⟩) (G0.out.below HB2)).mono ?_
 rintro e w3 ⟨rfl,pU⟩
 have HB3:=HB2.tr pU
 go_wp2_with fail
 go_ret
 exact ⟨rfl,HB3⟩
end
namespace Ev
open Go.RowKit Go.Deep Go.Maps Lf
def ef (xs:List (BT aO)) (j:Nat):BT aO:=xs.getD j .nil
structure bP (w:World) (ps:List bC) (xs:List (BT aO)):Prop where
 len:xs.length=ps.length
 each:∀ (j:Nat) (p:bC) (x:BT aO),ps[j]? = some p->xs[j]? = some x->aC 143 0 w x (.pointer p.bV)
 fine:∀ x∈xs,dx x/\aV (ak x)<=1000000/\aK x<=12
theorem bP.down {w W:World} {ps:List bC} {xs:List (BT aO)} (h:bP w ps xs) (hb:Below w.heap.size w W):bP W ps xs:=⟨h.len,fun j p x h1 h2=>aC.below (h.each j p x h1 h2) hb,h.fine⟩
theorem bP.at {w:World} {ps:List bC} {xs:List (BT aO)} (h:bP w ps xs) (j:Nat) (p:bC) (hj:ps[j]? = some p):aC 143 0 w (ef xs j) (.pointer p.bV)/\Good (ef xs j)/\aV (ak (ef xs j))<=1000000:=by
 have hl:j<xs.length:=by rw [h.len];exact (List.getElem?_eq_some_iff.1 hj).1
 have hx:xs[j]? = some xs[j]:=List.getElem?_eq_getElem hl
 have e:ef xs j=xs[j]:=by unfold ef;rw [List.getD_eq_getElem?_getD,hx];rfl
 rw [e]
 obtain ⟨h1,h2,_⟩:=h.fine _ (List.mem_of_getElem? hx)
 exact ⟨h.each j p _ hj hx,h1.1,h2⟩
theorem bP.fineAt {w:World} {ps:List bC} {xs:List (BT aO)} (h:bP w ps xs) (j:Nat) (hj:j<xs.length):dx (ef xs j):=by
 have hx:xs[j]? = some xs[j]:=List.getElem?_eq_getElem hj
 have e:ef xs j=xs[j]:=by unfold ef;rw [List.getD_eq_getElem?_getD,hx];rfl
 rw [e]
 exact (h.fine _ (List.mem_of_getElem? hx)).1
def After (aj:Nat) (ai room:Int) (ea:Option Addr) (az:Nat) (C:List bx) (E:List Pe) (xs:List (BT aO)) (qs:List bC) (ss:List bt) (w w':World):Prop :=
 ∃ (no:Option Addr) (aI:Nat) (Cs:List bx) (pb aM:Nat),bj w' aj ai room no aI (dN (ef xs) qs.length) ea az Cs (gS (dN (ef xs) qs.length) E C.length) (some ⟨pb,0,none⟩) aM (dR (ef xs) qs) ss/\w.heap.size<=pb/\bP w' (dR (ef xs) qs) xs/\Cs.length=C.length/\(∀ (i:Nat) c c0,Cs[i]? = some c->C[i]? = some c0->c.number=c0.number/\c.time=c0.time)/\aY (fun b=>b=aj\/∃ a,ea=some a/\a.block=b) w w'
theorem ma {X:Nat->BT aO} {qs:List bC} {i:Nat} {p:bC} (hp:(dR X qs)[i]? = some p):∃ q,qs[i]? = some q/\p={ q with node:=(nAt X i).toNat }:=by
 unfold dR at hp
 rw [List.getElem?_mapIdx] at hp
 obtain ⟨q,hq,rfl⟩:=Option.map_eq_some_iff.1 hp
 exact ⟨q,hq,rfl⟩
theorem qd {aj pb aM:Nat} {ai room:Int} {no0:Option Addr} {vp:Nat} {K0:List Key} {ea:Option Addr} {az:Nat} {C:List bx} {E:List Pe} {pa:Option Addr} {pcap0:Nat} {ps:List bC} {ss0:List bt} {xs:List (BT aO)} {qs:List bC} {ss:List bt} {arr:Array Value} {w w1:World} (h:bj w aj ai room no0 vp K0 ea az C E pa pcap0 ps ss0) (hb:Below w.heap.size w w1)
  (um:w1.heap[pb]? = some (.cells arr 183 (0,0))) (hpn:w.heap.size<=pb) (hP:b5 arr 0 qs) (hq:qs.length<=1000) (cW:qs.length<=aM) (hS:bP w1 qs xs) (hK:(dN (ef xs) qs.length).length<=40)
  (hsl:ss.length=qs.length) (df:∀ (i:Nat) (s:bt) (p:bC),ss[i]? = some s->qs[i]? = some p->p.cG=some ⟨s.cj,0,none⟩) (hsk:∀ s∈ss,eG w1 s) (jD:Apart ss) :
  Calls Tryz.prog 98 #[.pointer (some ⟨aj,0,none⟩),.slice (some ⟨pb,0,none⟩) qs.length aM] w1 fun e w'=>e=.returned .nilIface/\After aj ai room ea az C E xs qs ss w w':=by
 have h1:=h.move (au.aL (P:=fun _=>False) hb) (dn.none _ _)
 refine (settleW aj pb aM ai room ea az C E (ef xs) qs ss arr w1 h1 um hP hq cW (fun j p hj=>hS.at j p hj) hK hsl df hsk jD).mono ?_
 rintro e w' ⟨rfl,no,aI,Cs,gV,a1,a2,a3,a4,a5,a6⟩
 have heal:∀ a,ea=some a->a.block<w.heap.size:=fun a ha=>by
  subst ha
  exact (h.uC.lt a.block rfl).2
 refine ⟨rfl,no,aI,Cs,pb,aM,a1,hpn,⟨by rw [hS.len];simp [dR],fun j p x hj hx=>?_,hS.fine⟩,a4,a5,?_⟩
 ·obtain ⟨q,hq,rfl⟩:=ma hj
  refine cU (fun k cs hk=>?_) (hS.each j q x hq hx)
  refine (a6.block k (aw hk) ?_).trans hk
  rintro (e | e | ⟨a,ha,e⟩)
  ·subst e;rw [h1.cell] at hk;cases hk
  ·subst e;rw [um] at hk;cases hk
  ·subst ha
   obtain ⟨cg,hcg⟩:=dG h1.uC (g:=a.block) rfl
   rw [e,hk] at hcg
   cases hcg
 ·refine ⟨a6.os.trans hb.os,a6.tape.trans hb.tape,a6.output.trans hb.output,Nat.le_trans hb.size a6.size,fun b hb0 hne=>?_⟩
  refine (a6.block b (Nat.lt_of_lt_of_le hb0 hb.size) ?_).trans (hb.block b hb0)
  rintro (e | e | e)
  ·exact hne (.inl e)
  ·omega
  ·exact hne (.inr e)
theorem row_pols {w:World} {B g n cap:Nat} {qs:List bC} (h:w.ownsRow B 183 5 (.slice (some ⟨g,0,none⟩) n cap) n (du qs)):∃ cur:Array Value,B<=g/\w.heap[g]? = some (.cells cur 183 (0,0))/\n<=cap/\b5 cur 0 qs/\n=qs.length:=by
 obtain ⟨h0,⟨h1,_⟩ | ⟨g',mq,cur,e1,hB,hg,hn,_,hc,rE⟩⟩:=h
 ·cases h1
 ·cases e1
  have hl:=oD qs
  refine ⟨cur,hB,hg,hn,polsAt_flat fun j u hj=>?_,by omega⟩
  have hjl:=(List.getElem?_eq_some_iff.1 hj).1
  rw [<- rE,List.getElem?_take,if_pos (by omega)] at hj
  simpa using hj
theorem dZ {α:Type} {l:List α} {i j:Nat} {a:α} (h:(l.take i++l.drop (i+1))[j]? = some a):l[if j<i then j else j+1]? = some a:=by
 rw [<- List.eraseIdx_eq_take_drop_succ,List.getElem?_eraseIdx] at h
 split at h
 ·rename_i hj;rw [if_pos hj];exact h
 ·rename_i hj;rw [if_neg hj];exact h
theorem apart_sub {ss:List bt} (h:Apart ss) (i:Nat):Apart (ss.take i++ss.drop (i+1)):=by
 intro a b s t hs ht hab
 refine h _ _ s t (dZ hs) (dZ ht) ?_
 split<;>split<;>omega
set_option maxRecDepth 100000 in
set_option maxHeartbeats 4000000 in
theorem remove_ok (name:ByteArray) {aj:Nat} {ai room:Int} {no:Option Addr} {aI:Nat} {ea:Option Addr} {az:Nat} {C:List bx} {E:List Pe} {pa:Option Addr} {aM:Nat} {ps:List bC} {ss:List bt} {xs:List (BT aO)} {w:World} (h:bj w aj ai room no aI (dN (ef xs) ps.length) ea az C E pa aM ps ss) (jh:bL ps) (hS:bP w ps xs) (hK:(dN (ef xs) ps.length).length<=40) (i:Nat) (hi:bq name ps=i) (gQ:b8 name ps=true) :
  Calls Tryz.prog 52 #[.pointer (some ⟨aj,0,none⟩),.string name] w fun e w'=>e=.returned .nilIface/\After aj ai room ea az C E (xs.take i++xs.drop (i+1)) (ps.take i++ps.drop (i+1)) (ss.take i++ss.drop (i+1)) w w':=by
 have hpf:=h.tW
 have hf:=mC aj (.int .i64 ai) (.int .i64 room) _ _ pa aM ps name w h.cell h.oX jh (by omega)
 rw [hi,gQ] at hf
 have qo:i<ps.length:=by
  obtain ⟨p,hp,_⟩:=(jY name ps).1 gQ
  rw [hi] at hp
  exact (List.getElem?_eq_some_iff.1 hp).1
 have om:Hid (∀ W,Below w.heap.size w W->Calls Tryz.prog 100 #[.slice pa ps.length aM] W fun e w'=>∃ v',e=.returned v'/\w'.ownsRow W.heap.size 183 5 v' ps.length (du ps)/\Below W.heap.size W w'):=fun W hb=>nS W pa aM ps (fg.move h.oX (au.aL (P:=fun _=>False) hb) (dn.none _ _)) (by omega)
 have HS:Hid (bP w ps xs):=hS
 have Hc:Hid (∀ W,Below w.heap.size w W->W.cell? ⟨aj,4,none⟩=some (.slice pa ps.length aM)):=fun W hb=>ae (hb.aE h.cell) rfl
 have hql:(ps.take i++ps.drop (i+1)).length=ps.length-1:=by simp;omega
 have HE:Hid (∀ (g gc:Nat) (W:World),Below w.heap.size w W->W.ownsRow w.heap.size 183 5 (.slice (some ⟨g,0,none⟩) (ps.length-1) gc) (ps.length-1) ((du ps).take (i*5)++(du ps).drop ((i+1)*5))->Calls Tryz.prog 98 #[.pointer (some ⟨aj,0,none⟩),.slice (some ⟨g,0,none⟩) (ps.length-1) gc] W fun e w'=>e=.returned .nilIface/\After aj ai room ea az C E (xs.take i++xs.drop (i+1)) (ps.take i++ps.drop (i+1)) (ss.take i++ss.drop (i+1)) w w'):=fun g gc W hb bT=>by
  rw [flatP_take ps i (by omega),flatP_drop ps (i+1) (by omega),<- rY] at bT
  obtain ⟨cur,q1,q2,q3,q4,q5⟩:=row_pols bT
  have hS1:=hS.down hb
  have hxl:=hS.len
  have hSq:bP W (ps.take i++ps.drop (i+1)) (xs.take i++xs.drop (i+1)):=by
   refine ⟨by simp;omega,fun j p x hj hx=>hS1.each _ p x (dZ hj) (dZ hx),fun x hx=>hS.fine x ?_⟩
   rcases List.mem_append.1 hx with hx | hx
   ·exact List.mem_of_mem_take hx
   ·exact List.mem_of_mem_drop hx
  have hKq:(dN (ef (xs.take i++xs.drop (i+1))) (ps.take i++ps.drop (i+1)).length).length<=40:=by
   refine Nat.le_trans (KAt_sub _ (ef xs) _ ps.length (fun j hj=>hSq.fineAt j (by rw [hSq.len];exact hj)) (fun j hj=>hS.fineAt j (by omega)) fun j hj=>?_) hK
   rw [hql] at hj
   refine ⟨if j<i then j else j+1,by split<;>omega,?_⟩
   obtain ⟨y,hx⟩:∃ y,(xs.take i++xs.drop (i+1))[j]? = some y:=⟨_,List.getElem?_eq_getElem (by rw [hSq.len,hql];exact hj)⟩
   unfold ef
   rw [List.getD_eq_getElem?_getD,List.getD_eq_getElem?_getD,hx,dZ hx]
  have hss:=h.vz
  rw [<- hql]
  refine qd h hb q2 q1 q4 (by omega) (by omega) hSq hKq (by simp;omega) (fun j s p hs hp=>h.pstr _ s p (dZ hs) (dZ hp)) (fun s hs=>?_) (apart_sub h.apart i)
  have hm:s∈ss:=by
   rcases List.mem_append.1 hs with hx | hx
   ·exact List.mem_of_mem_take hx
   ·exact List.mem_of_mem_drop hx
  exact eG.move (h.sok s hm) (au.aL (P:=fun _=>False) hb) (dn.none _ _)
 have hone:=flatP_one ps
 replace hone:Hid _:=hone
 generalize (du ps)=fp at *
 have hwf:ps.length<=1000:=hpf
 clear h jh hS hK hi gQ hql hpf
 generalize ps.length=n at *
 go_enter Tryz.func52,Tryz.ntmps52
 go_wp2_with fail
 refine hf.mono ?_
 rintro e w1 ⟨rfl,a_⟩
 have c4:=Hc.out w1 a_
 go_wp2_with fail
 refine (om.out w1 a_).mono ?_
 rintro e w2 ⟨v',rfl,bT,cB⟩
 have qv:=a_.tr cB
 obtain ⟨r1,⟨_,r2⟩ | ⟨g,gc,cur,rfl,r3,_⟩⟩:=id bT
 ·omega
 have hd:=deletePol_any w1.heap.size g gc i n fp w2 bT hone.out qo hwf
 go_wp2_with fail
 refine hd.mono ?_
 rintro e w3 ⟨rfl,hrow3,ho⟩
 have kS:=a_.size
 have pU:Below w.heap.size w w3:=qv.trans ⟨ho.os,ho.tape,ho.output,ho.size,fun k hk=>ho.block k (by have:=cB.size;omega) (by omega)⟩
 have df:=HE.out g gc w3 pU (oY hrow3 kS)
 go_wp2_with fail
 refine df.mono ?_
 rintro e w4 ⟨rfl,hA⟩
 go_wp2_with fail
 go_ret
 exact ⟨rfl,hA⟩
end Ev
end Go.Proofs.YtpbbmagjhkakgaaGreatDoor
