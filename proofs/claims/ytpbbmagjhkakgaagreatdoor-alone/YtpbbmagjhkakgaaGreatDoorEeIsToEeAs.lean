import Derived.Test.YtpbbmagjhkakgaaGreatDoorErrs2
import Derived.Deep.LoopGhost
import Derived.Shelf.Abstract
namespace Go.Proofs.YtpbbmagjhkakgaaGreatDoor
open Go.RowKit Go.Extern.Stop Go.Stop Go.Extern
structure LeafT (T:TypeId):Prop where
 noIs:∀ v xT w,(Instr.typeAssert (.iface T v) xT 268 true).run Tryz.prog w=.ok (.tuple #[.nilIface,.bool false]) w
 noAs:∀ v xT w,(Instr.typeAssert (.iface T v) xT 312 true).run Tryz.prog w=.ok (.tuple #[.nilIface,.bool false]) w
 noUn:∀ v xT w,(Instr.typeAssert (.iface T v) xT 270 true).run Tryz.prog w=.ok (.tuple #[.nilIface,.bool false]) w
 noUns:∀ v xT w,(Instr.typeAssert (.iface T v) xT 272 true).run Tryz.prog w=.ok (.tuple #[.nilIface,.bool false]) w
structure WrapT (T:TypeId) (f:FuncId):Prop where
 noIs:∀ v xT w,(Instr.typeAssert (.iface T v) xT 268 true).run Tryz.prog w=.ok (.tuple #[.nilIface,.bool false]) w
 noAs:∀ v xT w,(Instr.typeAssert (.iface T v) xT 312 true).run Tryz.prog w=.ok (.tuple #[.nilIface,.bool false]) w
 has:∀ v xT w,(Instr.typeAssert (.iface T v) xT 270 true).run Tryz.prog w=.ok (.tuple #[.iface T v,.bool true]) w
 meth:∀ v w,(Go.method 486 T v "Unwrap").run Tryz.prog w=.ok (f,v) w
 ent:∀ args w,(callFunc f args).run Tryz.prog w=.ok (.enter f args) w
 ne:T≠357
inductive iV (ok:TypeId->Prop) (w:World):Nat->Value->TypeId->Addr->Prop
 | leaf {T:TypeId} {a:Addr}:LeafT T->iV ok w 0 (.iface T (.pointer (some a))) T a
 | wrap {T:TypeId} {f:FuncId} {b n:Nat} {v:Value} {L:TypeId} {a:Addr}:ok T->WrapT T f->(∀ W,Below w.heap.size w W->Calls Tryz.prog f #[.pointer (some ⟨b,0,none⟩)] W fun e w'=>e=.returned v/\w'=W)->iV ok w n v L a->iV ok w (n+1) (.iface T (.pointer (some ⟨b,0,none⟩))) L a
theorem iV.iface {ok:TypeId->Prop} {w:World} {n:Nat} {v:Value} {L:TypeId} {a:Addr} (h:iV ok w n v L a):∃ T p,v=.iface T p:=by
 cases h<;>exact ⟨_,_,rfl⟩
set_option maxHeartbeats 1000000 in
set_option maxRecDepth 100000 in
theorem is_chain (ok:TypeId->Prop) (w:World) (n:Nat) (v:Value) (L:TypeId) (a t:Addr) (r:Bool) (hc:iV ok w n v L a) (hr:(L=357/\(binOp .eql 89 (.iface 357 (.pointer (some a))) (.iface 357 (.pointer (some t)))).run Tryz.prog w=.ok (.bool r) w)\/(L≠357/\r=false)) :
  Calls Tryz.prog 118 #[v,.iface 357 (.pointer (some t)),.bool true] w fun e w'=>e=.returned (.bool r)/\w'=w:=by
 have hty:=fun (T:TypeId) (p:Value) (hne:T≠357)=>run_eql_iface_types (P:=Tryz.prog) T 357 p (.pointer (some t)) Tryz.underlying89 hne w
 replace hty:Hid _:=hty
 replace hr:Hid _:=hr
 have Hc:Hid (iV ok w n v L a):=hc
 obtain ⟨T0,p0,rfl⟩:=hc.iface
 clear hc
 go_enter Tryz.func118,Tryz.ntmps118
 go_wp2_with fail
 go_loopg [0] n (fun kx ev wr=>Hid (iV ok w kx ev L a)/\wr=w)
 case atStart=>exact ⟨Hc,rfl⟩
 case round =>
  obtain ⟨hC,hw0⟩:=hrel
  obtain rfl:=hw0.symm
  have hC:=hC.out
  cases hC with
  | leaf hl =>
   have l1:=hl.noIs
   have l3:=hl.noUn
   have l4:=hl.noUns
   rcases hr.out with ⟨rfl,he⟩ | ⟨hne,rfl⟩
   ·cases r with
    | true =>
     go_wp2_with fail
     go_ret
     exact ⟨rfl,rfl⟩
    | false =>
     go_wp2_with fail
     go_ret
     exact ⟨rfl,rfl⟩
   ·have he:=hty.out L (.pointer (some a)) hne
    go_wp2_with fail
    go_ret
    exact ⟨rfl,rfl⟩
  | @wrap T f b n' v' _ _ _ hw hun uY =>
   have l1:=hw.noIs
   have l2:=hw.has
   have l3:=hw.meth
   have l4:=hw.ent
   have hu:=hun _ (Below.refl _ _)
   have he:=hty.out T (.pointer (some ⟨b,0,none⟩)) hw.ne
   have Hc':Hid (iV ok w n' v' L a):=uY
   obtain ⟨T1,p1,rfl⟩:=uY.iface
   clear uY hw hun
   go_wp2_with (go_at_fn f;refine hu.mono ?_;rintro e w1 ⟨rfl,rfl⟩)
   go_roundg n'
   case measure=>omega
   case rel=>exact ⟨Hc',rfl⟩
set_option maxHeartbeats 1000000 in
set_option maxRecDepth 100000 in
theorem rH (ok:TypeId->Prop) (w:World) (n:Nat) (v:Value) (L:TypeId) (a t:Addr) (r:Bool) (hc:iV ok w n v L a) (hr:(L=357/\(binOp .eql 89 (.iface 357 (.pointer (some a))) (.iface 357 (.pointer (some t)))).run Tryz.prog w=.ok (.bool r) w)\/(L≠357/\r=false)) :
  Calls Tryz.prog 75 #[v,.iface 357 (.pointer (some t))] w fun e w'=>e=.returned (.bool r)/\w'=w:=by
 have x1:=@run_callFunc_extern Tryz.prog 117 _ Extern.ReflectliteType.typeOf Tryz.func117 (by kernel_rfl) (by kernel_rfl) (by kernel_rfl) (by kernel_rfl)
 have x2:=@run_callFunc_extern Tryz.prog 267 _ cmpE Tryz.func267 (by kernel_rfl) (by kernel_rfl) (by kernel_rfl) (by kernel_rfl)
 have y1:=eIsTypeOf
 have y2:=eComparable
 have y3:=uy
 have hi:=is_chain ok w n v L a t r hc hr
 obtain ⟨T0,p0,rfl⟩:=hc.iface
 clear hr hc
 go_enter Tryz.func75,Tryz.ntmps75
 go_wp2_with fail
 refine hi.mono ?_
 rintro e w1 ⟨rfl,rfl⟩
 go_wp2_with fail
 go_ret
 exact ⟨rfl,rfl⟩
structure iW (T X:TypeId):Prop where
 typeOf:∀ v w,(ReflectliteType.typeOf #[.iface X v]).run Tryz.prog w=.ok (.iface 266 (.agg #[.pointer (some ⟨14,X,none⟩)])) w
 assign:∀ w,(ReflectliteType.relation "AssignableTo" ReflectliteType.assignableTo #[.agg #[.pointer (some ⟨14,X,none⟩)],.iface 266 (.agg #[.pointer (some ⟨14,T,none⟩)])]).run Tryz.prog w=.ok (.bool false) w
structure TargT (T PT:TypeId):Prop where
 valueOf:∀ t w,(ReflectliteValue.unpack (.iface PT (.pointer (some t)))).run Tryz.prog w=.ok (.agg #[.pointer (some ⟨14,PT,none⟩),.pointer (some ⟨w.heap.size,0,none⟩),.int .u64 150]) (w.alloc (.cells #[.pointer (some t)] PT))
 type:∀ a w,(ReflectliteValue.methodAny (ReflectliteValue.valueError "reflectlite.Value.Type" 0) (fun t _ _ _=>ReflectliteType.toType t) #[.agg #[.pointer (some ⟨14,PT,none⟩),.pointer (some a),.int .u64 150]]).run Tryz.prog w=.ok (.iface 266 (.agg #[.pointer (some ⟨14,PT,none⟩)])) w
 kindP:∀ w,(kindE #[.pointer (some ⟨14,PT,none⟩)]).run Tryz.prog w=.ok (.int .u8 22) w
 kindE:∀ w,(kindE #[.pointer (some ⟨14,T,none⟩)]).run Tryz.prog w=.ok (.int .u8 22) w
 isNil:∀ a p W,W.cell? a=some (.pointer (some p))->(ReflectliteValue.method (ReflectliteValue.valueError "reflectlite.Value.IsNil" 0) ReflectliteValue.isNil #[.agg #[.pointer (some ⟨14,PT,none⟩),.pointer (some a),.int .u64 150]]).run Tryz.prog W=.ok (.bool false) W
 elem:∀ w,(ReflectliteType.method ReflectliteType.elem #[.agg #[.pointer (some ⟨14,PT,none⟩)]]).run Tryz.prog w=.ok (.iface 266 (.agg #[.pointer (some ⟨14,T,none⟩)])) w
 impl:∀ w,(ReflectliteType.relation "Implements" ReflectliteType.implements_ #[.agg #[.pointer (some ⟨14,T,none⟩)],.iface 266 (.agg #[.pointer (some ⟨14,89,none⟩)])]).run Tryz.prog w=.ok (.bool true) w
 typeOf:∀ v w,(ReflectliteType.typeOf #[.iface T v]).run Tryz.prog w=.ok (.iface 266 (.agg #[.pointer (some ⟨14,T,none⟩)])) w
 assign:∀ w,(ReflectliteType.relation "AssignableTo" ReflectliteType.assignableTo #[.agg #[.pointer (some ⟨14,T,none⟩)],.iface 266 (.agg #[.pointer (some ⟨14,T,none⟩)])]).run Tryz.prog w=.ok (.bool true) w
 vV:∀ e w,(ReflectliteValue.unpack (.iface T (.pointer (some e)))).run Tryz.prog w=.ok (.agg #[.pointer (some ⟨14,T,none⟩),.pointer (some ⟨w.heap.size,0,none⟩),.int .u64 150]) (w.alloc (.cells #[.pointer (some e)] T))
 elemV:∀ a p W,W.cell? a=some (.pointer (some p))->(ReflectliteValue.method (ReflectliteValue.valueError "reflectlite.Value.Elem" 0) ReflectliteValue.elem #[.agg #[.pointer (some ⟨14,PT,none⟩),.pointer (some a),.int .u64 150]]).run Tryz.prog W=.ok (.agg #[.pointer (some ⟨14,T,none⟩),.pointer (some p),.int .u64 406]) W
 set:∀ ta b e old W,W.cell? b=some (.pointer (some e))->W.cell? ta=some old->W.frozen? ta=false->(ReflectliteValue.set #[.agg #[.pointer (some ⟨14,T,none⟩),.pointer (some ta),.int .u64 406],.agg #[.pointer (some ⟨14,T,none⟩),.pointer (some b),.int .u64 150]]).run Tryz.prog W=.ok (.tuple #[]) (W.setCell ta (.pointer (some e)))
set_option maxHeartbeats 4000000 in
set_option maxRecDepth 100000 in
theorem as_chain (T PT:TypeId) (hT:TargT T PT) (w:World) (n:Nat) (v:Value) (L:TypeId) (a:Addr) (r:Bool) (k q:Nat) (hc:iV (iW T) w n v L a) (hr:(L=T/\r=true)\/(iW T L/\r=false)) (hk:w.heap[k]? = some (.cells #[.pointer none] T (0,0))) (hq:w.cell? ⟨q,0,none⟩=some (.pointer (some ⟨k,0,none⟩))) :
  Calls Tryz.prog 161 #[v,.iface PT (.pointer (some ⟨k,0,none⟩)),.agg #[.pointer (some ⟨14,PT,none⟩),.pointer (some ⟨q,0,none⟩),.int .u64 150],.iface 266 (.agg #[.pointer (some ⟨14,T,none⟩)])] w fun e w'=>e=.returned (.bool r)/\Only k w w':=by
 have x1:=@run_callFunc_extern Tryz.prog 158 _ (fun args=>ReflectliteValue.unpack (args.getD 0 (.tuple #[]))) Tryz.func158 (by kernel_rfl) (by kernel_rfl) (by kernel_rfl) (by kernel_rfl)
 have x7:=@run_callFunc_extern Tryz.prog 117 _ ReflectliteType.typeOf Tryz.func117 (by kernel_rfl) (by kernel_rfl) (by kernel_rfl) (by kernel_rfl)
 have x8:=@run_callFunc_extern Tryz.prog 266 _ (ReflectliteType.relation "AssignableTo" ReflectliteType.assignableTo) Tryz.func266 (by kernel_rfl) (by kernel_rfl) (by kernel_rfl) (by kernel_rfl)
 have x9:=@run_callFunc_extern Tryz.prog 187 _ (ReflectliteValue.method (ReflectliteValue.valueError "reflectlite.Value.Elem" 0) ReflectliteValue.elem) Tryz.func187 (by kernel_rfl) (by kernel_rfl) (by kernel_rfl) (by kernel_rfl)
 have kX:=@run_callFunc_extern Tryz.prog 188 _ ReflectliteValue.set Tryz.func188 (by kernel_rfl) (by kernel_rfl) (by kernel_rfl) (by kernel_rfl)
 have y8:=ur
 have hkl:=aw hk
 have hql:q<w.heap.size:=i_ hq
 have hbx:Below w.heap.size w (w.alloc (.cells #[.pointer (some ⟨14,PT,none⟩),.pointer (some ⟨q,0,none⟩),.int .u64 150] 278)):=(Below.refl _ w).al _
 have hq1:(w.alloc (.cells #[.pointer (some ⟨14,PT,none⟩),.pointer (some ⟨q,0,none⟩),.int .u64 150] 278)).cell? ⟨q,0,none⟩=some (.pointer (some ⟨k,0,none⟩)):=by
  rw [World.cell?_alloc_lt _ _ ⟨q,0,none⟩ hql];exact hq
 have el:=hT.elemV ⟨q,0,none⟩ ⟨k,0,none⟩ _ hq1
 have st:=hT.set ⟨k,0,none⟩ ⟨w.heap.size+1,0,none⟩ a (.pointer none) ((w.alloc (.cells #[.pointer (some ⟨14,PT,none⟩),.pointer (some ⟨q,0,none⟩),.int .u64 150] 278)).alloc (.cells #[.pointer (some a)] T))
  (by rw [World.cell?_alloc_at _ _ _ _ (by simp)];rfl)
  (by rw [World.cell?_alloc_lt _ _ ⟨k,0,none⟩ (by simp;omega),World.cell?_alloc_lt _ _ ⟨k,0,none⟩ hkl];exact ae (i:=0) hk rfl)
  (by rw [World.frozen?_alloc_old _ _ ⟨k,0,none⟩ (by simp;omega),World.frozen?_alloc_old _ _ ⟨k,0,none⟩ (Nat.ne_of_lt hkl)];exact Lib.frozen_of_heap hk 0)
 have t1:=hT.typeOf
 have t2:=hT.assign
 have t3:=hT.vV
 have HB:Hid (Below w.heap.size w (w.alloc (.cells #[.pointer (some ⟨14,PT,none⟩),.pointer (some ⟨q,0,none⟩),.int .u64 150] 278))):=hbx
 replace hr:Hid _:=hr
 have Hc:Hid (iV (iW T) w n v L a):=hc
 obtain ⟨T0,p0,rfl⟩:=hc.iface
 clear hc hbx hk hq hT
 go_enter Tryz.func161,Tryz.ntmps161
 go_wp2_with fail
 go_loopg [0] n (fun kx ev wr=>Hid (iV (iW T) w kx ev L a)/\wr=w.alloc (.cells #[.pointer (some ⟨14,PT,none⟩),.pointer (some ⟨q,0,none⟩),.int .u64 150] 278))
 case atStart=>exact ⟨Hc,rfl⟩
 case round =>
  obtain ⟨hC,rfl⟩:=hrel
  have hC:=hC.out
  cases hC with
  | leaf hl =>
   have l1:=hl.noAs
   have l3:=hl.noUn
   have l4:=hl.noUns
   rcases hr.out with ⟨rfl,rfl⟩ | ⟨hoff,rfl⟩
   ·go_wp2_with fail
    go_ret
    exact ⟨rfl,(((Only.refl k w).setCell (p:=⟨k,0,none⟩) (.inl rfl) _).alloc _).alloc _⟩
   ·have o1:=hoff.typeOf
    have o2:=hoff.assign
    go_wp2_with fail
    go_ret
    exact ⟨rfl,(Only.refl _ _).alloc _⟩
  | @wrap X f b n' v' _ _ se hw hun uY =>
   have l1:=hw.noAs
   have l2:=hw.has
   have l3:=hw.meth
   have l4:=hw.ent
   have o1:=se.typeOf
   have o2:=se.assign
   have hu:=hun _ HB.out
   have Hc':Hid (iV (iW T) w n' v' L a):=uY
   obtain ⟨T1,p1,rfl⟩:=uY.iface
   clear uY hw hun
   go_wp2_with (go_at_fn f;refine hu.mono ?_;rintro e w1 ⟨rfl,rfl⟩)
   go_roundg n'
   case measure=>omega
   case rel=>exact ⟨Hc',rfl⟩
theorem iV.down {ok:TypeId->Prop} {w W:World} (hb:Below w.heap.size w W) {n:Nat} {v:Value} {L:TypeId} {a:Addr} (h:iV ok w n v L a):iV ok W n v L a:=by
 induction h with
 | leaf hl=>exact .leaf hl
 | wrap se hw hu _ ih=>exact .wrap se hw (fun W' h'=>hu W' (hb.tr h')) ih
set_option maxHeartbeats 4000000 in
set_option maxRecDepth 100000 in
theorem qM (T PT:TypeId) (hT:TargT T PT) (w:World) (n:Nat) (v:Value) (L:TypeId) (a:Addr) (r:Bool) (k:Nat) (hc:iV (iW T) w n v L a) (hr:(L=T/\r=true)\/(iW T L/\r=false)) (hk:w.heap[k]? = some (.cells #[.pointer none] T (0,0))) (hg:w.cell? ⟨7,0,none⟩=some (.iface 266 (.agg #[.pointer (some ⟨14,89,none⟩)]))) :
  Calls Tryz.prog 119 #[v,.iface PT (.pointer (some ⟨k,0,none⟩))] w fun e w'=>e=.returned (.bool r)/\Only k w w':=by
 have x1:=@run_callFunc_extern Tryz.prog 158 _ (fun args=>ReflectliteValue.unpack (args.getD 0 (.tuple #[]))) Tryz.func158 (by kernel_rfl) (by kernel_rfl) (by kernel_rfl) (by kernel_rfl)
 have x2:=@run_callFunc_extern Tryz.prog 159 _ (ReflectliteValue.methodAny (ReflectliteValue.valueError "reflectlite.Value.Type" 0) (fun t _ _ _=>ReflectliteType.toType t)) Tryz.func159 (by kernel_rfl) (by kernel_rfl) (by kernel_rfl) (by kernel_rfl)
 have x3:=@run_callFunc_extern Tryz.prog 160 _ (ReflectliteValue.method (ReflectliteValue.valueError "reflectlite.Value.IsNil" 0) ReflectliteValue.isNil) Tryz.func160 (by kernel_rfl) (by kernel_rfl) (by kernel_rfl) (by kernel_rfl)
 have x4:=@run_callFunc_extern Tryz.prog 248 _ kindE Tryz.func248 (by kernel_rfl) (by kernel_rfl) (by kernel_rfl) (by kernel_rfl)
 have x5:=@run_callFunc_extern Tryz.prog 268 _ (ReflectliteType.method ReflectliteType.elem) Tryz.func268 (by kernel_rfl) (by kernel_rfl) (by kernel_rfl) (by kernel_rfl)
 have x6:=@run_callFunc_extern Tryz.prog 269 _ (ReflectliteType.relation "Implements" ReflectliteType.implements_) Tryz.func269 (by kernel_rfl) (by kernel_rfl) (by kernel_rfl) (by kernel_rfl)
 have y3:=aMethodKind
 have y6:=aMethodElem
 have y7:=uu
 have t1:=hT.valueOf
 have t2:=hT.type
 have t3:=hT.kindP
 have t4:=hT.kindE
 have t6:=hT.elem
 have t7:=hT.impl
 have hkl:=aw hk
 have hgl:7<w.heap.size:=i_ hg
 have cB:Below w.heap.size w ((w.alloc (.cells #[.pointer (some ⟨k,0,none⟩)] PT)).alloc (.cells #[.pointer (some ⟨14,PT,none⟩),.pointer (some ⟨w.heap.size,0,none⟩),.int .u64 150] 278)):=((Below.refl _ w).al _).al _
 have hq2:((w.alloc (.cells #[.pointer (some ⟨k,0,none⟩)] PT)).alloc (.cells #[.pointer (some ⟨14,PT,none⟩),.pointer (some ⟨w.heap.size,0,none⟩),.int .u64 150] 278)).cell? ⟨w.heap.size,0,none⟩=some (.pointer (some ⟨k,0,none⟩)):=by
  rw [World.cell?_alloc_lt _ _ ⟨w.heap.size,0,none⟩ (by simp)];simp
 have n8:=hT.isNil ⟨w.heap.size,0,none⟩ ⟨k,0,none⟩ _ hq2
 have hg2:((w.alloc (.cells #[.pointer (some ⟨k,0,none⟩)] PT)).alloc (.cells #[.pointer (some ⟨14,PT,none⟩),.pointer (some ⟨w.heap.size,0,none⟩),.int .u64 150] 278)).cell? ⟨7,0,none⟩=some (.iface 266 (.agg #[.pointer (some ⟨14,89,none⟩)])):=by
  rw [World.cell?_alloc_lt _ _ ⟨7,0,none⟩ (by simp;omega),World.cell?_alloc_lt _ _ ⟨7,0,none⟩ hgl];exact hg
 have hA:=as_chain T PT hT _ n v L a r k w.heap.size (hc.down cB) hr (cB.aE hk) hq2
 obtain ⟨T0,p0,rfl⟩:=hc.iface
 clear hc hr hk hg hT cB hq2
 go_enter Tryz.func119,Tryz.ntmps119
 go_wp2_with fail
 refine hA.mono ?_
 rintro e w1 ⟨rfl,ho⟩
 go_wp2_with fail
 go_ret
 exact ⟨rfl,(((Only.refl k w).alloc _).alloc _).trans ho⟩
end Go.Proofs.YtpbbmagjhkakgaaGreatDoor
