
import Derived.Test.YtpbbmagjhkakgaaGreatDoorLfFitX
import Derived.Test.YtpbbmagjhkakgaaGreatDoorLfRelyToEvWait
import Derived.Test.YtpbbmagjhkakgaaGreatDoorProg
import Derived.KernelRfl
namespace Go.Proofs.YtpbbmagjhkakgaaGreatDoor.Lf
open Go Go.Conc Go.Extern
theorem find_of {fn:Func} {e:Array Value->Sem Value} (h1:allGenericRows.lookup fn.name=none) (h2:allTypedRows.lookup fn.name=none) (h3:allRows.lookup fn.name=some e):Extern.find fn=some e:=by
 unfold Extern.find
 simp only [h1,h2,h3]
 rfl
def tY:List String:=["internal/reflectlite.TypeOf","(internal/reflectlite.rtype).Elem","(internal/reflectlite.rtype).Comparable","(internal/reflectlite.rtype).String","(internal/reflectlite.rtype).Name","(internal/reflectlite.rtype).PkgPath","(internal/reflectlite.rtype).Implements","(internal/reflectlite.rtype).AssignableTo","(internal/reflectlite.rtype).common","(*internal/abi.Type).Kind","(*internal/abi.Type).Size","(internal/abi.Kind).String","internal/reflectlite.ValueOf","(internal/reflectlite.Value).Kind","(internal/reflectlite.Value).Type","(internal/reflectlite.Value).IsNil","(internal/reflectlite.Value).Elem","(internal/reflectlite.Value).Set","(*internal/reflectlite.ValueError).Error","(runtime.errorString).Error","(runtime.plainError).Error","(runtime.errorAddressString).Error","(runtime.boundsError).Error","(*runtime.TypeAssertionError).Error","(*runtime.PanicNilError).Error","(internal/runtime/maps.unhashableTypeError).Error","(runtime.errorString).RuntimeError","(runtime.plainError).RuntimeError","(runtime.errorAddressString).RuntimeError","(runtime.boundsError).RuntimeError","(*runtime.TypeAssertionError).RuntimeError","(*runtime.PanicNilError).RuntimeError","(internal/runtime/maps.unhashableTypeError).RuntimeError","internal/abi.NoEscape","internal/bytealg.abigen_runtime_cmpstring"]
def plainFunc (fn:Func):Bool:=fn.name != "runtime.NumGoroutine"&&(fn.body.isSome||((Extern.findNext fn).isNone&&(tY.contains fn.name||(fn.name== "slices.overlaps[vigil/watch.policy]"&&fn.origin== "slices.overlaps")||(Extern.find fn).isNone)))
theorem find_origin {fn:Func} {t:Array TypeId->Array TypeId->Array Value->Sem Value} (h1:allGenericRows.lookup fn.name=none) (h2:allTypedRows.lookup fn.name=none) (h3:allRows.lookup fn.name=none)
  (h4:allGenericRows.lookup fn.origin=none) (h5:allTypedRows.lookup fn.origin=some t):Extern.find fn=some (t fn.params fn.resultTypes):=by
 unfold Extern.find
 simp only [h1,h2,h3,h4,h5]
 rfl
theorem plain_all:Tryz.prog.funcs.all plainFunc=true:=by kernel_rfl
theorem plain_rows:∀ n∈tY,∃ e,allGenericRows.lookup n=none/\allTypedRows.lookup n=none/\allRows.lookup n=some e/\∀ args,Fit Tryz.prog (fun _=>True) 0 (e args):=by
 intro n hn
 simp only [tY,List.mem_cons,List.not_mem_nil,or_false] at hn
 rcases hn with rfl | rfl | rfl | rfl | rfl | rfl | rfl | rfl | rfl | rfl | rfl | rfl | rfl | rfl | rfl | rfl | rfl | rfl | rfl | rfl | rfl | rfl | rfl | rfl | rfl | rfl | rfl | rfl | rfl | rfl | rfl | rfl | rfl | rfl | rfl
 ·exact ⟨(ReflectliteType.rows.getD 0 default).2,by kernel_rfl,by kernel_rfl,by kernel_rfl,b_ _ _ (List.getElem_mem (show 0<ReflectliteType.rows.length by decide))⟩
 ·exact ⟨(ReflectliteType.rows.getD 1 default).2,by kernel_rfl,by kernel_rfl,by kernel_rfl,b_ _ _ (List.getElem_mem (show 1<ReflectliteType.rows.length by decide))⟩
 ·exact ⟨(ReflectliteType.rows.getD 2 default).2,by kernel_rfl,by kernel_rfl,by kernel_rfl,b_ _ _ (List.getElem_mem (show 2<ReflectliteType.rows.length by decide))⟩
 ·exact ⟨(ReflectliteType.rows.getD 3 default).2,by kernel_rfl,by kernel_rfl,by kernel_rfl,b_ _ _ (List.getElem_mem (show 3<ReflectliteType.rows.length by decide))⟩
 ·exact ⟨(ReflectliteType.rows.getD 4 default).2,by kernel_rfl,by kernel_rfl,by kernel_rfl,b_ _ _ (List.getElem_mem (show 4<ReflectliteType.rows.length by decide))⟩
 ·exact ⟨(ReflectliteType.rows.getD 5 default).2,by kernel_rfl,by kernel_rfl,by kernel_rfl,b_ _ _ (List.getElem_mem (show 5<ReflectliteType.rows.length by decide))⟩
 ·exact ⟨(ReflectliteType.rows.getD 6 default).2,by kernel_rfl,by kernel_rfl,by kernel_rfl,b_ _ _ (List.getElem_mem (show 6<ReflectliteType.rows.length by decide))⟩
 ·exact ⟨(ReflectliteType.rows.getD 7 default).2,by kernel_rfl,by kernel_rfl,by kernel_rfl,b_ _ _ (List.getElem_mem (show 7<ReflectliteType.rows.length by decide))⟩
 ·exact ⟨(ReflectliteType.rows.getD 8 default).2,by kernel_rfl,by kernel_rfl,by kernel_rfl,b_ _ _ (List.getElem_mem (show 8<ReflectliteType.rows.length by decide))⟩
 ·exact ⟨(ReflectliteType.rows.getD 9 default).2,by kernel_rfl,by kernel_rfl,by kernel_rfl,b_ _ _ (List.getElem_mem (show 9<ReflectliteType.rows.length by decide))⟩
 ·exact ⟨(ReflectliteType.rows.getD 10 default).2,by kernel_rfl,by kernel_rfl,by kernel_rfl,b_ _ _ (List.getElem_mem (show 10<ReflectliteType.rows.length by decide))⟩
 ·exact ⟨(ReflectliteType.rows.getD 11 default).2,by kernel_rfl,by kernel_rfl,by kernel_rfl,b_ _ _ (List.getElem_mem (show 11<ReflectliteType.rows.length by decide))⟩
 ·exact ⟨(ReflectliteValue.rows.getD 0 default).2,by kernel_rfl,by kernel_rfl,by kernel_rfl,eU _ _ (List.getElem_mem (show 0<ReflectliteValue.rows.length by decide))⟩
 ·exact ⟨(ReflectliteValue.rows.getD 2 default).2,by kernel_rfl,by kernel_rfl,by kernel_rfl,eU _ _ (List.getElem_mem (show 2<ReflectliteValue.rows.length by decide))⟩
 ·exact ⟨(ReflectliteValue.rows.getD 3 default).2,by kernel_rfl,by kernel_rfl,by kernel_rfl,eU _ _ (List.getElem_mem (show 3<ReflectliteValue.rows.length by decide))⟩
 ·exact ⟨(ReflectliteValue.rows.getD 5 default).2,by kernel_rfl,by kernel_rfl,by kernel_rfl,eU _ _ (List.getElem_mem (show 5<ReflectliteValue.rows.length by decide))⟩
 ·exact ⟨(ReflectliteValue.rows.getD 7 default).2,by kernel_rfl,by kernel_rfl,by kernel_rfl,eU _ _ (List.getElem_mem (show 7<ReflectliteValue.rows.length by decide))⟩
 ·exact ⟨(ReflectliteValue.rows.getD 8 default).2,by kernel_rfl,by kernel_rfl,by kernel_rfl,eU _ _ (List.getElem_mem (show 8<ReflectliteValue.rows.length by decide))⟩
 ·exact ⟨(ReflectliteValue.rows.getD 9 default).2,by kernel_rfl,by kernel_rfl,by kernel_rfl,eU _ _ (List.getElem_mem (show 9<ReflectliteValue.rows.length by decide))⟩
 ·exact ⟨(RuntimeError.rows.getD 0 default).2,by kernel_rfl,by kernel_rfl,by kernel_rfl,bG _ _ (List.getElem_mem (show 0<RuntimeError.rows.length by decide))⟩
 ·exact ⟨(RuntimeError.rows.getD 1 default).2,by kernel_rfl,by kernel_rfl,by kernel_rfl,bG _ _ (List.getElem_mem (show 1<RuntimeError.rows.length by decide))⟩
 ·exact ⟨(RuntimeError.rows.getD 2 default).2,by kernel_rfl,by kernel_rfl,by kernel_rfl,bG _ _ (List.getElem_mem (show 2<RuntimeError.rows.length by decide))⟩
 ·exact ⟨(RuntimeError.rows.getD 4 default).2,by kernel_rfl,by kernel_rfl,by kernel_rfl,bG _ _ (List.getElem_mem (show 4<RuntimeError.rows.length by decide))⟩
 ·exact ⟨(RuntimeError.rows.getD 5 default).2,by kernel_rfl,by kernel_rfl,by kernel_rfl,bG _ _ (List.getElem_mem (show 5<RuntimeError.rows.length by decide))⟩
 ·exact ⟨(RuntimeError.rows.getD 6 default).2,by kernel_rfl,by kernel_rfl,by kernel_rfl,bG _ _ (List.getElem_mem (show 6<RuntimeError.rows.length by decide))⟩
 ·exact ⟨(RuntimeError.rows.getD 7 default).2,by kernel_rfl,by kernel_rfl,by kernel_rfl,bG _ _ (List.getElem_mem (show 7<RuntimeError.rows.length by decide))⟩
 ·exact ⟨(RuntimeError.rows.getD 8 default).2,by kernel_rfl,by kernel_rfl,by kernel_rfl,bG _ _ (List.getElem_mem (show 8<RuntimeError.rows.length by decide))⟩
 ·exact ⟨(RuntimeError.rows.getD 9 default).2,by kernel_rfl,by kernel_rfl,by kernel_rfl,bG _ _ (List.getElem_mem (show 9<RuntimeError.rows.length by decide))⟩
 ·exact ⟨(RuntimeError.rows.getD 10 default).2,by kernel_rfl,by kernel_rfl,by kernel_rfl,bG _ _ (List.getElem_mem (show 10<RuntimeError.rows.length by decide))⟩
 ·exact ⟨(RuntimeError.rows.getD 11 default).2,by kernel_rfl,by kernel_rfl,by kernel_rfl,bG _ _ (List.getElem_mem (show 11<RuntimeError.rows.length by decide))⟩
 ·exact ⟨(RuntimeError.rows.getD 12 default).2,by kernel_rfl,by kernel_rfl,by kernel_rfl,bG _ _ (List.getElem_mem (show 12<RuntimeError.rows.length by decide))⟩
 ·exact ⟨(RuntimeError.rows.getD 13 default).2,by kernel_rfl,by kernel_rfl,by kernel_rfl,bG _ _ (List.getElem_mem (show 13<RuntimeError.rows.length by decide))⟩
 ·exact ⟨(RuntimeError.rows.getD 14 default).2,by kernel_rfl,by kernel_rfl,by kernel_rfl,bG _ _ (List.getElem_mem (show 14<RuntimeError.rows.length by decide))⟩
 ·exact ⟨AbiNoEscape.same,by kernel_rfl,by kernel_rfl,by kernel_rfl,lg _⟩
 ·exact ⟨BytealgCompare.compare,by kernel_rfl,by kernel_rfl,by kernel_rfl,iO _⟩
theorem bk:Plain Tryz.prog:=by
 intro f fn hf
 have hm:fn∈Tryz.prog.funcs:=Array.mem_of_getElem? hf
 have h:=Array.all_eq_true_iff_forall_mem.1 plain_all fn hm
 simp only [plainFunc,Bool.and_eq_true,bne_iff_ne,ne_eq,Bool.or_eq_true,Option.isNone_iff_eq_none] at h
 refine ⟨h.1,fun hb=>?_⟩
 rcases h.2 with h2 | ⟨h2,h3⟩
 ·cases hx:fn.body with
  | none=>rw [hx] at h2;cases h2
  | some c=>rw [hx] at hb;cases hb
 ·refine ⟨h2,fun e he=>?_⟩
  rcases h3 with (h3 | ⟨h3,h4⟩) | h3
  ·obtain ⟨e',a,b,c,d⟩:=plain_rows fn.name (by simpa using h3)
   rw [find_of a b c] at he
   cases he
   exact d
  ·have h3':fn.name = "slices.overlaps[vigil/watch.policy]":=by simpa using h3
   have h4':fn.origin = "slices.overlaps":=by simpa using h4
   rw [find_origin (t:=SlicesOverlaps.overlaps) (by rw [h3'];kernel_rfl) (by rw [h3'];kernel_rfl) (by rw [h3'];kernel_rfl) (by rw [h4'];kernel_rfl) (by rw [h4'];kernel_rfl)] at he
   cases he
   exact fit_overlaps _ _ _
  ·rw [h3] at he;cases he
end Go.Proofs.YtpbbmagjhkakgaaGreatDoor.Lf
