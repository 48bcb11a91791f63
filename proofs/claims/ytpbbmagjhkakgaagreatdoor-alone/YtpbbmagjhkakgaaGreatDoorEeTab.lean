import Derived.Test.YtpbbmagjhkakgaaGreatDoorEeIsToEeAs
namespace Go.Proofs.YtpbbmagjhkakgaaGreatDoor
open Go.RowKit Go.Extern.Stop Go.Stop Go.Extern
theorem tS:LeafT 357:=⟨fun v xT w=>run_typeAssert_lacksB Tryz.underlying268 (by kernel_rfl) (by kernel_rfl) v xT w,fun v xT w=>run_typeAssert_lacksB Tryz.underlying312 (by kernel_rfl) (by kernel_rfl) v xT w,fun v xT w=>run_typeAssert_lacksB Tryz.underlying270 (by kernel_rfl) (by kernel_rfl) v xT w,fun v xT w=>run_typeAssert_lacksB Tryz.underlying272 (by kernel_rfl) (by kernel_rfl) v xT w⟩
theorem leafMany:LeafT 132:=⟨fun v xT w=>run_typeAssert_lacksB Tryz.underlying268 (by kernel_rfl) (by kernel_rfl) v xT w,fun v xT w=>run_typeAssert_lacksB Tryz.underlying312 (by kernel_rfl) (by kernel_rfl) v xT w,fun v xT w=>run_typeAssert_lacksB Tryz.underlying270 (by kernel_rfl) (by kernel_rfl) v xT w,fun v xT w=>run_typeAssert_lacksB Tryz.underlying272 (by kernel_rfl) (by kernel_rfl) v xT w⟩
theorem wrapPol:WrapT 169 262:=⟨fun v xT w=>run_typeAssert_lacksB Tryz.underlying268 (by kernel_rfl) (by kernel_rfl) v xT w,fun v xT w=>run_typeAssert_lacksB Tryz.underlying312 (by kernel_rfl) (by kernel_rfl) v xT w,fun v xT w=>run_typeAssert_hasB Tryz.underlying270 (by kernel_rfl) v xT w,fun v w=>by kernel_rfl,fun args w=>by go_simp,by decide⟩
theorem s_:iW 130 357:=⟨fun v w=>by kernel_rfl,fun w=>by kernel_rfl⟩
theorem offDeepMany:iW 130 132:=⟨fun v w=>by kernel_rfl,fun w=>by kernel_rfl⟩
theorem offDeepPol:iW 130 169:=⟨fun v w=>by kernel_rfl,fun w=>by kernel_rfl⟩
theorem offDeepEvt:iW 130 154:=⟨fun v w=>by kernel_rfl,fun w=>by kernel_rfl⟩
theorem offDeepTxt:iW 130 125:=⟨fun v w=>by kernel_rfl,fun w=>by kernel_rfl⟩
theorem offDeepFlt:iW 130 201:=⟨fun v w=>by kernel_rfl,fun w=>by kernel_rfl⟩
theorem vu:iW 131 357:=⟨fun v w=>by kernel_rfl,fun w=>by kernel_rfl⟩
theorem offFarMany:iW 131 132:=⟨fun v w=>by kernel_rfl,fun w=>by kernel_rfl⟩
theorem offFarPol:iW 131 169:=⟨fun v w=>by kernel_rfl,fun w=>by kernel_rfl⟩
theorem offFarEvt:iW 131 154:=⟨fun v w=>by kernel_rfl,fun w=>by kernel_rfl⟩
theorem offFarTxt:iW 131 125:=⟨fun v w=>by kernel_rfl,fun w=>by kernel_rfl⟩
theorem offFarFlt:iW 131 201:=⟨fun v w=>by kernel_rfl,fun w=>by kernel_rfl⟩
theorem offManyPol:iW 132 169:=⟨fun v w=>by kernel_rfl,fun w=>by kernel_rfl⟩
theorem offManyEvt:iW 132 154:=⟨fun v w=>by kernel_rfl,fun w=>by kernel_rfl⟩
theorem offManyTxt:iW 132 125:=⟨fun v w=>by kernel_rfl,fun w=>by kernel_rfl⟩
theorem offManyFlt:iW 132 201:=⟨fun v w=>by kernel_rfl,fun w=>by kernel_rfl⟩
theorem nilDeep (a:Addr) (W:World):(ReflectliteValue.method (ReflectliteValue.valueError "reflectlite.Value.IsNil" 0) ReflectliteValue.isNil #[.agg #[.pointer (some ⟨14,218,none⟩),.pointer (some a),.int .u64 150]]).run Tryz.prog W=(ReflectliteValue.isNil 218 a 150 22).run Tryz.prog W:=by kernel_rfl
theorem elDeep (w:World):(Rtype.elem? 218).run Tryz.prog w=.ok (some 130) w:=by kernel_rfl
theorem mkDeep (p:Addr) (w:World):(ReflectliteValue.mk 130 p ReflectliteValue.flagAddr).run Tryz.prog w=.ok (.agg #[.pointer (some ⟨14,130,none⟩),.pointer (some p),.int .u64 406]) w:=by kernel_rfl
theorem elvDeep (a:Addr) (W:World):(ReflectliteValue.method (ReflectliteValue.valueError "reflectlite.Value.Elem" 0) ReflectliteValue.elem #[.agg #[.pointer (some ⟨14,218,none⟩),.pointer (some a),.int .u64 150]]).run Tryz.prog W=(ReflectliteValue.elem 218 a 150 22).run Tryz.prog W:=by kernel_rfl
theorem setDeep (ta b:Addr) (W:World):(ReflectliteValue.set #[.agg #[.pointer (some ⟨14,130,none⟩),.pointer (some ta),.int .u64 406],.agg #[.pointer (some ⟨14,130,none⟩),.pointer (some b),.int .u64 150]]).run Tryz.prog W=(do let v <- loadVar 130 b;storeVar 130 ta v;pure (Value.tuple #[])).run Tryz.prog W:=by kernel_rfl
theorem targDeep:TargT 130 218 where
 valueOf:=fun t w=>by kernel_rfl
 type:=fun a w=>by kernel_rfl
 kindP:=fun w=>by kernel_rfl
 kindE:=fun w=>by kernel_rfl
 isNil:=fun a p W ha=>by
  rw [nilDeep]
  simp [ReflectliteValue.isNil,loadVar,isAgg,underlying,Tryz.underlying218,ha,Result.andThen]
 elem:=fun w=>by kernel_rfl
 impl:=fun w=>by kernel_rfl
 typeOf:=fun v w=>by kernel_rfl
 assign:=fun w=>by kernel_rfl
 vV:=fun e w=>by kernel_rfl
 elemV:=fun a p W ha=>by
  rw [elvDeep]
  simp [ReflectliteValue.elem,loadVar,isAgg,underlying,Tryz.underlying218,ha,Result.andThen,elDeep,mkDeep]
 set:=fun ta b e old W hb ht hf=>by
  rw [setDeep]
  simp [loadVar,isAgg,underlying,Tryz.underlying130,hb,Result.andThen,storeVar,Value.cells,storeCells,Addr.add]
  rw [run_store Tryz.prog W ta _ _ (by rfl)]
  simp [ht,hf]
theorem nilFar (a:Addr) (W:World):(ReflectliteValue.method (ReflectliteValue.valueError "reflectlite.Value.IsNil" 0) ReflectliteValue.isNil #[.agg #[.pointer (some ⟨14,219,none⟩),.pointer (some a),.int .u64 150]]).run Tryz.prog W=(ReflectliteValue.isNil 219 a 150 22).run Tryz.prog W:=by kernel_rfl
theorem elFar (w:World):(Rtype.elem? 219).run Tryz.prog w=.ok (some 131) w:=by kernel_rfl
theorem mkFar (p:Addr) (w:World):(ReflectliteValue.mk 131 p ReflectliteValue.flagAddr).run Tryz.prog w=.ok (.agg #[.pointer (some ⟨14,131,none⟩),.pointer (some p),.int .u64 406]) w:=by kernel_rfl
theorem elvFar (a:Addr) (W:World):(ReflectliteValue.method (ReflectliteValue.valueError "reflectlite.Value.Elem" 0) ReflectliteValue.elem #[.agg #[.pointer (some ⟨14,219,none⟩),.pointer (some a),.int .u64 150]]).run Tryz.prog W=(ReflectliteValue.elem 219 a 150 22).run Tryz.prog W:=by kernel_rfl
theorem setFar (ta b:Addr) (W:World):(ReflectliteValue.set #[.agg #[.pointer (some ⟨14,131,none⟩),.pointer (some ta),.int .u64 406],.agg #[.pointer (some ⟨14,131,none⟩),.pointer (some b),.int .u64 150]]).run Tryz.prog W=(do let v <- loadVar 131 b;storeVar 131 ta v;pure (Value.tuple #[])).run Tryz.prog W:=by kernel_rfl
theorem targFar:TargT 131 219 where
 valueOf:=fun t w=>by kernel_rfl
 type:=fun a w=>by kernel_rfl
 kindP:=fun w=>by kernel_rfl
 kindE:=fun w=>by kernel_rfl
 isNil:=fun a p W ha=>by
  rw [nilFar]
  simp [ReflectliteValue.isNil,loadVar,isAgg,underlying,Tryz.underlying219,ha,Result.andThen]
 elem:=fun w=>by kernel_rfl
 impl:=fun w=>by kernel_rfl
 typeOf:=fun v w=>by kernel_rfl
 assign:=fun w=>by kernel_rfl
 vV:=fun e w=>by kernel_rfl
 elemV:=fun a p W ha=>by
  rw [elvFar]
  simp [ReflectliteValue.elem,loadVar,isAgg,underlying,Tryz.underlying219,ha,Result.andThen,elFar,mkFar]
 set:=fun ta b e old W hb ht hf=>by
  rw [setFar]
  simp [loadVar,isAgg,underlying,Tryz.underlying131,hb,Result.andThen,storeVar,Value.cells,storeCells,Addr.add]
  rw [run_store Tryz.prog W ta _ _ (by rfl)]
  simp [ht,hf]
theorem nilMany (a:Addr) (W:World):(ReflectliteValue.method (ReflectliteValue.valueError "reflectlite.Value.IsNil" 0) ReflectliteValue.isNil #[.agg #[.pointer (some ⟨14,220,none⟩),.pointer (some a),.int .u64 150]]).run Tryz.prog W=(ReflectliteValue.isNil 220 a 150 22).run Tryz.prog W:=by kernel_rfl
theorem elMany (w:World):(Rtype.elem? 220).run Tryz.prog w=.ok (some 132) w:=by kernel_rfl
theorem mkMany (p:Addr) (w:World):(ReflectliteValue.mk 132 p ReflectliteValue.flagAddr).run Tryz.prog w=.ok (.agg #[.pointer (some ⟨14,132,none⟩),.pointer (some p),.int .u64 406]) w:=by kernel_rfl
theorem elvMany (a:Addr) (W:World):(ReflectliteValue.method (ReflectliteValue.valueError "reflectlite.Value.Elem" 0) ReflectliteValue.elem #[.agg #[.pointer (some ⟨14,220,none⟩),.pointer (some a),.int .u64 150]]).run Tryz.prog W=(ReflectliteValue.elem 220 a 150 22).run Tryz.prog W:=by kernel_rfl
theorem setMany (ta b:Addr) (W:World):(ReflectliteValue.set #[.agg #[.pointer (some ⟨14,132,none⟩),.pointer (some ta),.int .u64 406],.agg #[.pointer (some ⟨14,132,none⟩),.pointer (some b),.int .u64 150]]).run Tryz.prog W=(do let v <- loadVar 132 b;storeVar 132 ta v;pure (Value.tuple #[])).run Tryz.prog W:=by kernel_rfl
theorem targMany:TargT 132 220 where
 valueOf:=fun t w=>by kernel_rfl
 type:=fun a w=>by kernel_rfl
 kindP:=fun w=>by kernel_rfl
 kindE:=fun w=>by kernel_rfl
 isNil:=fun a p W ha=>by
  rw [nilMany]
  simp [ReflectliteValue.isNil,loadVar,isAgg,underlying,Tryz.underlying220,ha,Result.andThen]
 elem:=fun w=>by kernel_rfl
 impl:=fun w=>by kernel_rfl
 typeOf:=fun v w=>by kernel_rfl
 assign:=fun w=>by kernel_rfl
 vV:=fun e w=>by kernel_rfl
 elemV:=fun a p W ha=>by
  rw [elvMany]
  simp [ReflectliteValue.elem,loadVar,isAgg,underlying,Tryz.underlying220,ha,Result.andThen,elMany,mkMany]
 set:=fun ta b e old W hb ht hf=>by
  rw [setMany]
  simp [loadVar,isAgg,underlying,Tryz.underlying132,hb,Result.andThen,storeVar,Value.cells,storeCells,Addr.add]
  rw [run_store Tryz.prog W ta _ _ (by rfl)]
  simp [ht,hf]
end Go.Proofs.YtpbbmagjhkakgaaGreatDoor
