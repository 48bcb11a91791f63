import Derived.Test.YtpbbmagjhkakgaaGreatDoorProg
import Derived.Test.YtpbbmagjhkakgaaGreatDoorErrs
import Derived.LaidEql
import Derived.Stop.Asserts
import Derived.RowKitTokens
namespace Go.Proofs.YtpbbmagjhkakgaaGreatDoor
open Go.RowKit Go.Extern.Stop Go.Stop Go.Extern
theorem aValueOf (t:Addr) (w:World):(ReflectliteValue.unpack (.iface 218 (.pointer (some t)))).run Tryz.prog w
  = .ok (.agg #[.pointer (some ⟨14,218,none⟩),.pointer (some ⟨w.heap.size,0,none⟩),.int .u64 150]) (w.alloc (.cells #[.pointer (some t)] 218)):=by kernel_rfl
theorem aType (a:Addr) (w:World):(ReflectliteValue.methodAny (ReflectliteValue.valueError "reflectlite.Value.Type" 0) (fun t _ _ _=>ReflectliteType.toType t) #[.agg #[.pointer (some ⟨14,218,none⟩),.pointer (some a),.int .u64 150]]).run Tryz.prog w
  = .ok (.iface 266 (.agg #[.pointer (some ⟨14,218,none⟩)])) w:=by kernel_rfl
theorem aMethodKind (h:Value) (w:World):(Go.method 486 266 (.agg #[h]) "Kind").run Tryz.prog w=.ok (248,h) w:=by kernel_rfl
def kindE:Array Value->Sem Value:=ReflectliteType.abiMethod fun t=>do pure (.int .u8 (<- Rtype.kind t))
theorem aKindP (w:World):(kindE #[.pointer (some ⟨14,218,none⟩)]).run Tryz.prog w=.ok (.int .u8 22) w:=by kernel_rfl
theorem aKindE (w:World):(kindE #[.pointer (some ⟨14,130,none⟩)]).run Tryz.prog w=.ok (.int .u8 22) w:=by kernel_rfl
theorem aIsNilAs (a:Addr) (W:World) :
  (ReflectliteValue.method (ReflectliteValue.valueError "reflectlite.Value.IsNil" 0) ReflectliteValue.isNil #[.agg #[.pointer (some ⟨14,218,none⟩),.pointer (some a),.int .u64 150]]).run Tryz.prog W=(ReflectliteValue.isNil 218 a 150 22).run Tryz.prog W:=by kernel_rfl
theorem aIsNil (a p:Addr) (W:World) (ha:W.cell? a=some (.pointer (some p))) :
  (ReflectliteValue.method (ReflectliteValue.valueError "reflectlite.Value.IsNil" 0) ReflectliteValue.isNil #[.agg #[.pointer (some ⟨14,218,none⟩),.pointer (some a),.int .u64 150]]).run Tryz.prog W=.ok (.bool false) W:=by
 rw [aIsNilAs]
 simp [ReflectliteValue.isNil,loadVar,isAgg,underlying,Tryz.underlying218,ha,Result.andThen]
theorem aMethodElem (h:Value) (w:World):(Go.method 486 266 (.agg #[h]) "Elem").run Tryz.prog w=.ok (268,.agg #[h]) w:=by kernel_rfl
theorem aMethodImplements (h:Value) (w:World):(Go.method 486 266 (.agg #[h]) "Implements").run Tryz.prog w=.ok (269,.agg #[h]) w:=by kernel_rfl
theorem aMethodAssignable (h:Value) (w:World):(Go.method 486 266 (.agg #[h]) "AssignableTo").run Tryz.prog w=.ok (266,.agg #[h]) w:=by kernel_rfl
theorem aElem (w:World):(ReflectliteType.method ReflectliteType.elem #[.agg #[.pointer (some ⟨14,218,none⟩)]]).run Tryz.prog w=.ok (.iface 266 (.agg #[.pointer (some ⟨14,130,none⟩)])) w:=by kernel_rfl
theorem aImplements (w:World):(ReflectliteType.relation "Implements" ReflectliteType.implements_ #[.agg #[.pointer (some ⟨14,130,none⟩)],.iface 266 (.agg #[.pointer (some ⟨14,89,none⟩)])]).run Tryz.prog w=.ok (.bool true) w:=by kernel_rfl
theorem aTypeOfT (v:Value) (w:World):(ReflectliteType.typeOf #[.iface 125 v]).run Tryz.prog w=.ok (.iface 266 (.agg #[.pointer (some ⟨14,125,none⟩)])) w:=by kernel_rfl
theorem aTypeOfD (v:Value) (w:World):(ReflectliteType.typeOf #[.iface 130 v]).run Tryz.prog w=.ok (.iface 266 (.agg #[.pointer (some ⟨14,130,none⟩)])) w:=by kernel_rfl
theorem aAssignT (w:World):(ReflectliteType.relation "AssignableTo" ReflectliteType.assignableTo #[.agg #[.pointer (some ⟨14,125,none⟩)],.iface 266 (.agg #[.pointer (some ⟨14,130,none⟩)])]).run Tryz.prog w=.ok (.bool false) w:=by kernel_rfl
theorem aAssignD (w:World):(ReflectliteType.relation "AssignableTo" ReflectliteType.assignableTo #[.agg #[.pointer (some ⟨14,130,none⟩)],.iface 266 (.agg #[.pointer (some ⟨14,130,none⟩)])]).run Tryz.prog w=.ok (.bool true) w:=by kernel_rfl
theorem aValueOfD (e:Addr) (w:World):(ReflectliteValue.unpack (.iface 130 (.pointer (some e)))).run Tryz.prog w
  = .ok (.agg #[.pointer (some ⟨14,130,none⟩),.pointer (some ⟨w.heap.size,0,none⟩),.int .u64 150]) (w.alloc (.cells #[.pointer (some e)] 130)):=by kernel_rfl
theorem aElemOf (w:World):(Rtype.elem? 218).run Tryz.prog w=.ok (some 130) w:=by kernel_rfl
theorem aMk (p:Addr) (w:World):(ReflectliteValue.mk 130 p ReflectliteValue.flagAddr).run Tryz.prog w=.ok (.agg #[.pointer (some ⟨14,130,none⟩),.pointer (some p),.int .u64 406]) w:=by kernel_rfl
theorem aElemVAs (a:Addr) (W:World) :
  (ReflectliteValue.method (ReflectliteValue.valueError "reflectlite.Value.Elem" 0) ReflectliteValue.elem #[.agg #[.pointer (some ⟨14,218,none⟩),.pointer (some a),.int .u64 150]]).run Tryz.prog W=(ReflectliteValue.elem 218 a 150 22).run Tryz.prog W:=by kernel_rfl
theorem aElemV (a p:Addr) (W:World) (ha:W.cell? a=some (.pointer (some p))) :
  (ReflectliteValue.method (ReflectliteValue.valueError "reflectlite.Value.Elem" 0) ReflectliteValue.elem #[.agg #[.pointer (some ⟨14,218,none⟩),.pointer (some a),.int .u64 150]]).run Tryz.prog W
   = .ok (.agg #[.pointer (some ⟨14,130,none⟩),.pointer (some p),.int .u64 406]) W:=by
 rw [aElemVAs]
 simp [ReflectliteValue.elem,loadVar,isAgg,underlying,Tryz.underlying218,ha,Result.andThen,aElemOf,aMk]
theorem aSetAs (ta b:Addr) (W:World):(ReflectliteValue.set #[.agg #[.pointer (some ⟨14,130,none⟩),.pointer (some ta),.int .u64 406],.agg #[.pointer (some ⟨14,130,none⟩),.pointer (some b),.int .u64 150]]).run Tryz.prog W
  = (do let v <- loadVar 130 b;storeVar 130 ta v;pure (Value.tuple #[])).run Tryz.prog W:=by kernel_rfl
theorem aSet (ta b e:Addr) (old:Value) (W:World) (hb:W.cell? b=some (.pointer (some e))) (ht:W.cell? ta=some old) (hf:W.frozen? ta=false) :
  (ReflectliteValue.set #[.agg #[.pointer (some ⟨14,130,none⟩),.pointer (some ta),.int .u64 406],.agg #[.pointer (some ⟨14,130,none⟩),.pointer (some b),.int .u64 150]]).run Tryz.prog W
   = .ok (.tuple #[]) (W.setCell ta (.pointer (some e))):=by
 rw [aSetAs]
 simp [loadVar,isAgg,underlying,Tryz.underlying130,hb,Result.andThen,storeVar,Value.cells,storeCells,Addr.add]
 rw [run_store Tryz.prog W ta _ _ (by rfl)]
 simp [ht,hf]
theorem tNoAs (v:Value) (xT:TypeId) (w:World):(Instr.typeAssert (.iface 125 v) xT 312 true).run Tryz.prog w=.ok (.tuple #[.nilIface,.bool false]) w:=run_typeAssert_lacksB Tryz.underlying312 (by kernel_rfl) (by kernel_rfl) v xT w
set_option maxHeartbeats 4000000 in
set_option maxRecDepth 100000 in
theorem as_deep (tb k:Nat) (fa:Addr) (w:World) (hg:w.cell? ⟨7,0,none⟩=some (.iface 266 (.agg #[.pointer (some ⟨14,89,none⟩)]))) (h1:w.cell? ⟨tb,1,none⟩=some (.iface 130 (.pointer (some fa))))
  (hk:w.heap[k]? = some (.cells #[.pointer none] 130 (0,0))) :
  Calls Tryz.prog 119 #[.iface 125 (.pointer (some ⟨tb,0,none⟩)),.iface 218 (.pointer (some ⟨k,0,none⟩))] w fun e w'=>e=.returned (.bool true)/\Only k w w':=by
 have x1:=@run_callFunc_extern Tryz.prog 158 _ (fun args=>ReflectliteValue.unpack (args.getD 0 (.tuple #[]))) Tryz.func158 (by kernel_rfl) (by kernel_rfl) (by kernel_rfl) (by kernel_rfl)
 have x2:=@run_callFunc_extern Tryz.prog 159 _ (ReflectliteValue.methodAny (ReflectliteValue.valueError "reflectlite.Value.Type" 0) (fun t _ _ _=>ReflectliteType.toType t)) Tryz.func159 (by kernel_rfl) (by kernel_rfl) (by kernel_rfl) (by kernel_rfl)
 have x3:=@run_callFunc_extern Tryz.prog 160 _ (ReflectliteValue.method (ReflectliteValue.valueError "reflectlite.Value.IsNil" 0) ReflectliteValue.isNil) Tryz.func160 (by kernel_rfl) (by kernel_rfl) (by kernel_rfl) (by kernel_rfl)
 have x4:=@run_callFunc_extern Tryz.prog 248 _ kindE Tryz.func248 (by kernel_rfl) (by kernel_rfl) (by kernel_rfl) (by kernel_rfl)
 have x5:=@run_callFunc_extern Tryz.prog 268 _ (ReflectliteType.method ReflectliteType.elem) Tryz.func268 (by kernel_rfl) (by kernel_rfl) (by kernel_rfl) (by kernel_rfl)
 have x6:=@run_callFunc_extern Tryz.prog 269 _ (ReflectliteType.relation "Implements" ReflectliteType.implements_) Tryz.func269 (by kernel_rfl) (by kernel_rfl) (by kernel_rfl) (by kernel_rfl)
 have x7:=@run_callFunc_extern Tryz.prog 117 _ ReflectliteType.typeOf Tryz.func117 (by kernel_rfl) (by kernel_rfl) (by kernel_rfl) (by kernel_rfl)
 have x8:=@run_callFunc_extern Tryz.prog 266 _ (ReflectliteType.relation "AssignableTo" ReflectliteType.assignableTo) Tryz.func266 (by kernel_rfl) (by kernel_rfl) (by kernel_rfl) (by kernel_rfl)
 have x9:=@run_callFunc_extern Tryz.prog 187 _ (ReflectliteValue.method (ReflectliteValue.valueError "reflectlite.Value.Elem" 0) ReflectliteValue.elem) Tryz.func187 (by kernel_rfl) (by kernel_rfl) (by kernel_rfl) (by kernel_rfl)
 have x10:=@run_callFunc_extern Tryz.prog 188 _ ReflectliteValue.set Tryz.func188 (by kernel_rfl) (by kernel_rfl) (by kernel_rfl) (by kernel_rfl)
 have y1:=aValueOf
 have y2:=aType
 have y3:=aMethodKind
 have y4:=aKindP
 have y5:=aKindE
 have y6:=aMethodElem
 have y7:=aMethodImplements
 have y8:=aMethodAssignable
 have y9:=aElem
 have y10:=aImplements
 have y11:=aTypeOfT
 have y12:=aTypeOfD
 have y13:=aAssignT
 have y14:=aAssignD
 have y15:=aValueOfD
 have y16:=tNoAs
 have y17:=tHasUnwrap
 have y18:=tUnwrap
 have hkl:=heap_lt hk
 have htl:tb<w.heap.size:=cell_lt h1
 have hgl:7<w.heap.size:=cell_lt hg
 have n8:=aIsNil ⟨w.heap.size,0,none⟩ ⟨k,0,none⟩ ((w.alloc (.cells #[.pointer (some ⟨k,0,none⟩)] 218)).alloc (.cells #[.pointer (some ⟨14,218,none⟩),.pointer (some ⟨w.heap.size,0,none⟩),.int .u64 150] 278)) (by simp)
 have hg2:((w.alloc (.cells #[.pointer (some ⟨k,0,none⟩)] 218)).alloc (.cells #[.pointer (some ⟨14,218,none⟩),.pointer (some ⟨w.heap.size,0,none⟩),.int .u64 150] 278)).cell? ⟨7,0,none⟩=some (.iface 266 (.agg #[.pointer (some ⟨14,89,none⟩)])):=by
  rw [World.cell?_alloc_lt _ _ ⟨7,0,none⟩ (by simp;omega),World.cell?_alloc_lt _ _ ⟨7,0,none⟩ hgl];exact hg
 have h3:(((w.alloc (.cells #[.pointer (some ⟨k,0,none⟩)] 218)).alloc (.cells #[.pointer (some ⟨14,218,none⟩),.pointer (some ⟨w.heap.size,0,none⟩),.int .u64 150] 278)).alloc (.cells #[.pointer (some ⟨14,218,none⟩),.pointer (some ⟨w.heap.size,0,none⟩),.int .u64 150] 278)).cell? ⟨tb,1,none⟩=some (.iface 130 (.pointer (some fa))):=by
  rw [World.cell?_alloc_lt _ _ ⟨tb,1,none⟩ (by simp;omega),World.cell?_alloc_lt _ _ ⟨tb,1,none⟩ (by simp;omega),World.cell?_alloc_lt _ _ ⟨tb,1,none⟩ htl];exact h1
 have hc:=cell_at (i:=0) hk rfl
 have hf:w.frozen? ⟨k,0,none⟩=false:=Lib.frozen_of_heap hk 0
 have el:=aElemV ⟨w.heap.size,0,none⟩ ⟨k,0,none⟩ (((w.alloc (.cells #[.pointer (some ⟨k,0,none⟩)] 218)).alloc (.cells #[.pointer (some ⟨14,218,none⟩),.pointer (some ⟨w.heap.size,0,none⟩),.int .u64 150] 278)).alloc (.cells #[.pointer (some ⟨14,218,none⟩),.pointer (some ⟨w.heap.size,0,none⟩),.int .u64 150] 278)) (by rw [World.cell?_alloc_lt _ _ ⟨w.heap.size,0,none⟩ (by simp;omega)];simp)
 have st:=aSet ⟨k,0,none⟩ ⟨w.heap.size+1+1+1,0,none⟩ fa (.pointer none) ((((w.alloc (.cells #[.pointer (some ⟨k,0,none⟩)] 218)).alloc (.cells #[.pointer (some ⟨14,218,none⟩),.pointer (some ⟨w.heap.size,0,none⟩),.int .u64 150] 278)).alloc (.cells #[.pointer (some ⟨14,218,none⟩),.pointer (some ⟨w.heap.size,0,none⟩),.int .u64 150] 278)).alloc (.cells #[.pointer (some fa)] 130))
  (by rw [World.cell?_alloc_at _ _ _ _ (by simp)];rfl)
  (by rw [World.cell?_alloc_lt _ _ ⟨k,0,none⟩ (by simp;omega),World.cell?_alloc_lt _ _ ⟨k,0,none⟩ (by simp;omega),World.cell?_alloc_lt _ _ ⟨k,0,none⟩ (by simp;omega),World.cell?_alloc_lt _ _ ⟨k,0,none⟩ hkl];exact hc)
  (by rw [World.frozen?_alloc_old _ _ ⟨k,0,none⟩ (by simp;omega),World.frozen?_alloc_old _ _ ⟨k,0,none⟩ (by simp;omega),World.frozen?_alloc_old _ _ ⟨k,0,none⟩ (by simp;omega),World.frozen?_alloc_old _ _ ⟨k,0,none⟩ (Nat.ne_of_lt hkl)];exact hf)
 go_enter Tryz.func119,Tryz.ntmps119
 go_wp2_with go_in
 refine wp_loop_rounds 2 ?_
 rw [rounds_succ]
 go_wp2_with go_in
 rw [rounds_succ]
 go_wp2_with go_in
 go_ret
 exact ⟨rfl,(((((Only.refl _ _).alloc _).alloc _).alloc _).alloc _).setCell (p:=⟨k,0,none⟩) (.inl rfl) _⟩
end Go.Proofs.YtpbbmagjhkakgaaGreatDoor
