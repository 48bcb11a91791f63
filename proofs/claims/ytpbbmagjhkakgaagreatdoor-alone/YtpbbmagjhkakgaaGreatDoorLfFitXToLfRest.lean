import Derived.Test.YtpbbmagjhkakgaaGreatDoorLfFitsToLfMade
import Derived.Test.YtpbbmagjhkakgaaGreatDoorLfOpenToLfTerr
import Derived.Test.YtpbbmagjhkakgaaGreatDoorLfRoundToLfLead
import Derived.Test.YtpbbmagjhkakgaaGreatDoorProg
import Derived.KernelRfl
import Derived.Conc.SmallLaws
namespace Go.Proofs.YtpbbmagjhkakgaaGreatDoor
namespace Lf
open Go Go.Extern
variable {P : Program}
theorem cY (P:Program) (x0):Fit P (fun _=>True) 0 (@Go.Extern.Rtype.ofHandle x0):=by
 unfold Go.Extern.Rtype.ofHandle
 exact nQ
theorem dP (P:Program) (x):Fit P (fun _=>True) 0 (ReflectliteValue.partsAny x):=by
 cases x with
 | agg cs =>
  rcases cs with ⟨_ | ⟨a,_ | ⟨b,_ | ⟨c,_ | ⟨d,l⟩⟩⟩⟩⟩
  ·exact ag P _
  ·exact ag P _
  ·exact ag P _
  ·cases c with
   | int k n =>
    cases k with
    | u64 =>
     rcases n with (_ | n) | n
     ·exact aq P _
     ·cases b with
      | pointer r =>
       cases r with
       | none=>exact ag P _
       | some r=>exact aQ (s:=Rtype.ofHandle a) (cY P _) fun _=>aq P _
      | _=>exact ag P _
     ·cases b with
      | pointer r =>
       cases r with
       | none=>exact ag P _
       | some r=>exact aQ (s:=Rtype.ofHandle a) (cY P _) fun _=>aq P _
      | _=>exact ag P _
    | _=>cases b with
     | pointer r=>cases r<;>exact ag P _
     | _=>exact ag P _
   | _=>cases b with
     | pointer r=>cases r<;>exact ag P _
     | _=>exact ag P _
  ·exact ag P _
 | _=>exact ag P _
theorem gL (P:Program) (x):Fit P (fun _=>True) 0 (ReflectliteValue.errorText x):=by
 rcases x with ⟨_ | ⟨a,_ | ⟨b,l⟩⟩⟩
 ·exact ag P _
 ·cases a with
  | pointer r =>
   cases r with
   | none=>exact (fQ (.nilDeref):Fit P (fun _=>True) 0 (runtimePanic .nilDeref:Sem Value))
   | some r=>exact aQ (s:=load r) (mH P _ _) fun _=>aQ (jf P _) fun _=>aQ (mH P _ _) fun _=>aQ (fj P _) fun _=>aq P _
  | _=>exact ag P _
 ·exact ag P _
theorem cM (P:Program) (x0):Fit P (fun _=>True) 0 (@Go.Extern.Rtype.under x0):=by
 unfold Go.Extern.Rtype.under
 exact nQ
theorem jd (P:Program) (x0):Fit P (fun _=>True) 0 (@Go.Extern.Rtype.elem? x0):=by
 unfold Go.Extern.Rtype.elem?
 exact mh (@cM P)
theorem dp (P:Program) {x0} (x1) (x2):Fit P (fun _=>True) 0 (@Go.Extern.ReflectliteValue.valueError x0 x1 x2):=by
 unfold Go.Extern.ReflectliteValue.valueError
 exact zB4 (@iu P) (@fO P) (@ru P) (@iG P)
theorem iQ (P:Program) (x0) (x1) (x2) (x3):Fit P (fun _=>True) 0 (@Go.Extern.ReflectliteValue.isNil x0 x1 x2 x3):=by
 unfold Go.Extern.ReflectliteValue.isNil
 exact zB3 (@dp P) (@fF P) (@ck P)
theorem dD (P:Program) (x0) (x1):Fit P (fun _=>True) 0 (@Go.Extern.Rtype.noPack x0 x1):=by
 unfold Go.Extern.Rtype.noPack
 exact mh (@ck P)
theorem cL (P:Program) (x0):Fit P (fun _=>True) 0 (@Go.Extern.ReflectliteValue.parts x0):=by
 unfold Go.Extern.ReflectliteValue.parts
 exact uo (@dP P) (@dD P)
theorem eH (P:Program) (x0):Fit P (fun _=>True) 0 (@Go.Extern.RuntimeError.described x0):=by
 unfold Go.Extern.RuntimeError.described
 exact mh (@gD P)
theorem fi (P:Program) (x0):Fit P (fun _=>True) 0 (@Go.Extern.Rtype.handle x0):=by
 unfold Go.Extern.Rtype.handle
 exact nQ
theorem eD (P:Program) (x0):Fit P (fun _=>True) 0 (@Go.Extern.Rtype.kind x0):=by
 unfold Go.Extern.Rtype.kind
 exact mh (@cM P)
theorem fh (P:Program) (x0) (x1) (x2):Fit P (fun _=>True) 0 (@Go.Extern.ReflectliteValue.mk x0 x1 x2):=by
 unfold Go.Extern.ReflectliteValue.mk
 exact uo (@fi P) (@eD P)
theorem cF (P:Program) (x):Fit P (fun _=>True) 0 (ReflectliteType.ofRtype x):=by
 cases x with
 | agg cs =>
  rcases cs with ⟨_ | ⟨a,_ | ⟨b,l⟩⟩⟩
  ·exact ag P _
  ·exact aQ (s:=Rtype.ofHandle a) (cY P _) fun t=>aQ (dD P _ _) fun _=>aq P _
  ·exact ag P _
 | _=>exact ag P _
theorem bc (P:Program) (f:TypeId->Sem Value) (hf:∀ t,Fit P (fun _=>True) 0 (f t)) (x):Fit P (fun _=>True) 0 (ReflectliteType.method f x):=by
 rcases x with ⟨_ | ⟨a,_ | ⟨b,l⟩⟩⟩
 ·exact ag P _
 ·exact aQ (s:=ReflectliteType.ofRtype a) (cF P a) fun t=>hf t
 ·exact ag P _
theorem kF (P:Program) (x0):Fit P (fun _=>True) 0 (@Go.Extern.RuntimeError.text x0):=by
 unfold Go.Extern.RuntimeError.text
 exact nQ
theorem ie (P:Program) (x0):Fit P (fun _=>True) 0 (@Go.Extern.ReflectliteType.pkgPath x0):=by
 unfold Go.Extern.ReflectliteType.pkgPath
 exact nQ
theorem di (P:Program) (x0) (x1):Fit P (fun _=>True) 0 (@Go.Extern.Rtype.noPackMethods x0 x1):=by
 unfold Go.Extern.Rtype.noPackMethods
 exact mh (@ck P)
theorem dS (P:Program) (x0) (x1):Fit P (fun _=>True) 0 (@Go.Extern.Rtype.implements x0 x1):=by
 unfold Go.Extern.Rtype.implements
 exact uo (@di P) (@cM P)
theorem gw (P:Program) (x0) (x1):Fit P (fun _=>True) 0 (@Go.Extern.ReflectliteType.implements_ x0 x1):=by
 unfold Go.Extern.ReflectliteType.implements_
 exact zB6 (@eD P) (@di P) (@dD P) (@dS P) (@hU P) (@ck P)
theorem gX (P:Program) (x):Fit P (fun _=>True) 0 (RuntimeError.boundsError x):=by
 rcases x with ⟨_ | ⟨a,_ | ⟨b,l⟩⟩⟩
 ·exact ag P _
 ·cases a with
  | agg cs =>
   rcases cs with ⟨_ | ⟨a,_ | ⟨b,_ | ⟨c,_ | ⟨d,_ | ⟨e,l⟩⟩⟩⟩⟩⟩
   ·exact ag P _
   ·exact ag P _
   ·exact ag P _
   ·exact ag P _
   ·cases a with
    | int k x =>
     cases b with
     | int k y =>
      cases c with
      | bool s =>
       cases d with
       | int k z =>
        have key:∀ (o:Option String) (g:String->String),Fit P (fun _=>True) 0 (match o with | some fmt=>RuntimeError.text (g fmt) | none=>stuck "boundsError: no such code":Sem Value):=by
         intro o g
         cases o with
         | none=>exact ag P _
         | some f=>exact aq P _
        exact key ((if s&&x<0 then RuntimeError.boundsNegErrorFmts else RuntimeError.boundsErrorFmts)[z.toNat]?) (fun fmt=> "runtime error: "++(fmt.replace "%x" (toString (if s then x else IntKind.u64.wrap x))).replace "%y" (toString y))
       | _=>exact ag P _
      | _=>exact ag P _
     | _=>exact ag P _
    | _=>exact ag P _
   ·exact ag P _
  | _=>exact ag P _
 ·exact ag P _
theorem gW (P:Program) (x0):Fit P (fun _=>True) 0 (@Go.Extern.Rtype.hasName x0):=by
 unfold Go.Extern.Rtype.hasName
 exact nQ
theorem dX (P:Program) (x0) (x1):Fit P (fun _=>True) 0 (@Go.Extern.Rtype.directlyAssignable x0 x1):=by
 unfold Go.Extern.Rtype.directlyAssignable
 exact zB3 (@gW P) (@cM P) (@ck P)
theorem cD (P:Program) (x0) (x1):Fit P (fun _=>True) 0 (@Go.Extern.Rtype.noPackNamed x0 x1):=by
 unfold Go.Extern.Rtype.noPackNamed
 exact mh (@ck P)
theorem dT (P:Program) (x0):Fit P (fun _=>True) 0 (@Go.Extern.Rtype.spelt x0):=by
 unfold Go.Extern.Rtype.spelt
 exact uo (@cD P) (@gD P)
theorem jy (P:Program) (x):Fit P (fun _=>True) 0 (ReflectliteValue.set x):=by
 rcases x with ⟨_ | ⟨a,_ | ⟨b,_ | ⟨c,l⟩⟩⟩⟩
 ·exact ag P _
 ·exact ag P _
 ·refine aQ (s:=ReflectliteValue.parts a) (cL P a) fun o=>?_
  repeat' (first | (with_reducible first | exact aq P _ | apply cL | apply dX | apply dS | apply eD | apply dT | apply fF | apply pS | apply aF | apply hU | apply aQ | apply ck) | (intro _) | split | (dsimp only))
 ·exact ag P _
theorem dO (P:Program) (f:TypeId->Sem Value) (hf:∀ t,Fit P (fun _=>True) 0 (f t)) (x):Fit P (fun _=>True) 0 (ReflectliteType.abiMethod f x):=by
 rcases x with ⟨_ | ⟨a,_ | ⟨b,l⟩⟩⟩
 ·exact ag P _
 ·exact aQ (s:=Rtype.ofHandle a) (cY P _) fun t=>aQ (dD P _ _) fun _=>hf t
 ·exact ag P _
theorem fC (P:Program) (x):Fit P (fun _=>True) 0 (RuntimeError.unhashableTypeError x):=by
 rcases x with ⟨_ | ⟨a,_ | ⟨b,l⟩⟩⟩
 ·exact ag P _
 ·cases a with
  | agg cs =>
   rcases cs with ⟨_ | ⟨a,_ | ⟨b,l⟩⟩⟩
   ·exact ag P _
   ·refine aQ (s:=RuntimeError.described a) (eH P a) fun o=>?_
    cases o with
    | none=>exact (fQ (.nilDeref):Fit P (fun _=>True) 0 (runtimePanic .nilDeref:Sem Value))
    | some t=>exact aq P _
   ·exact ag P _
  | _=>exact ag P _
 ·exact ag P _
theorem cK (P:Program) (x0):Fit P (fun _=>True) 0 (@Go.Extern.ReflectliteType.toType x0):=by
 unfold Go.Extern.ReflectliteType.toType
 exact uo (@fi P) (@ru P)
theorem iP (P:Program) (x):Fit P (fun _=>True) 0 (ReflectliteType.typeOf x):=by
 rcases x with ⟨_ | ⟨a,_ | ⟨b,l⟩⟩⟩
 ·exact ag P _
 ·cases a with
  | nilIface=>exact aq P _
  | iface t v=>exact (cK P t:Fit P (fun _=>True) 0 (ReflectliteType.toType t))
  | _=>exact ag P _
 ·exact ag P _
theorem ep (P:Program) (x0):Fit P (fun _=>True) 0 (@Go.Extern.ReflectliteValue.unpack x0):=by
 unfold Go.Extern.ReflectliteValue.unpack
 exact uo (@fh P) (@iu P)
theorem sG (P:Program) (a n out):Fit P (fun _=>True) 0 (Bytes.loadBytes a n out):=by
 induction n generalizing a out with
 | zero=>exact aq P _
 | succ n ih =>
  unfold Bytes.loadBytes
  exact uo ih (@mH P)
theorem fit_bytesOf (P:Program) (v):Fit P (fun _=>True) 0 (Bytes.bytesOf v):=by
 unfold Bytes.bytesOf
 exact mh (@sG P)
theorem iO (P:Program) (x):Fit P (fun _=>True) 0 (BytealgCompare.compare x):=by
 rcases x with ⟨_ | ⟨a,_ | ⟨b,_ | ⟨c,l⟩⟩⟩⟩
 ·exact ag P _
 ·exact ag P _
 ·exact aQ (s:=Bytes.bytesOf a) (fit_bytesOf P a) fun _=>aQ (fit_bytesOf P b) fun _=>aq P _
 ·exact ag P _
theorem lg (P:Program) (x):Fit P (fun _=>True) 0 (AbiNoEscape.same x):=by
 rcases x with ⟨_ | ⟨a,_ | ⟨b,l⟩⟩⟩
 ·exact ag P _
 ·exact aq P _
 ·exact ag P _
theorem jc (P:Program) (x0) (x1) (x2) (x3):Fit P (fun _=>True) 0 (@Go.Extern.ReflectliteValue.elem x0 x1 x2 x3):=by
 unfold Go.Extern.ReflectliteValue.elem
 exact zB6 (@jd P) (@ep P) (@fh P) (@dp P) (@fF P) (@ck P)
theorem iR (P:Program) (x0):Fit P (fun _=>True) 0 (@Go.Extern.RuntimeError.pkgpathOf x0):=by
 unfold Go.Extern.RuntimeError.pkgpathOf
 exact nQ
theorem fM (P:Program) (x0):Fit P (fun _=>True) 0 (@Go.Extern.RuntimeError.typeAssertionError x0):=by
 unfold Go.Extern.RuntimeError.typeAssertionError
 repeat' (first | (with_reducible first | exact aq P _ | apply eH | apply kF | apply iR | apply jf | apply jS | apply mH | apply aF | apply fQ | apply aQ | apply ck) | (intro _) | split | (exact trivial) | (dsimp only))
theorem dW (P:Program) (s:String) (f:TypeId->TypeId->Sem Bool) (hf:∀ t u,Fit P (fun _=>True) 0 (f t u)) (x):Fit P (fun _=>True) 0 (ReflectliteType.relation s f x):=by
 rcases x with ⟨_ | ⟨a,_ | ⟨b,_ | ⟨c,l⟩⟩⟩⟩
 ·exact ag P _
 ·exact ag P _
 ·cases b with
  | nilIface=>exact (hU P ("reflect: nil type passed to Type."++s):Fit P (fun _=>True) 0 (panicString ("reflect: nil type passed to Type."++s):Sem Value))
  | iface t u=>exact aQ (s:=ReflectliteType.ofRtype u) (cF P u) fun _=>aQ (cF P a) fun _=>aQ (hf _ _) fun _=>aq P _
  | _=>exact ag P _
 ·exact ag P _
theorem cm (P:Program) (z:Sem Value) (f) (hz:Fit P (fun _=>True) 0 z) (hf:∀ a b c d,Fit P (fun _=>True) 0 (f a b c d)) (x):Fit P (fun _=>True) 0 (ReflectliteValue.methodAny z f x):=by
 rcases x with ⟨_ | ⟨a,_ | ⟨b,l⟩⟩⟩
 ·exact ag P _
 ·refine aQ (s:=ReflectliteValue.partsAny a) (dP P a) fun o=>?_
  cases o with
  | none=>exact hz
  | some y=>exact hf _ _ _ _
 ·exact ag P _
theorem jx (P:Program) (x0):Fit P (fun _=>True) 0 (@Go.Extern.ReflectliteType.name x0):=by
 unfold Go.Extern.ReflectliteType.name
 exact zB3 (@gW P) (@dT P) (@ck P)
theorem gp (P:Program) (x0) (x1):Fit P (fun _=>True) 0 (@Go.Extern.ReflectliteType.assignableTo x0 x1):=by
 unfold Go.Extern.ReflectliteType.assignableTo
 exact zB4 (@dX P) (@dS P) (@di P) (@ck P)
theorem bK (P:Program) (z:Sem Value) (f) (hz:Fit P (fun _=>True) 0 z) (hf:∀ a b c d,Fit P (fun _=>True) 0 (f a b c d)) (x):Fit P (fun _=>True) 0 (ReflectliteValue.method z f x):=by
 rcases x with ⟨_ | ⟨a,_ | ⟨b,l⟩⟩⟩
 ·exact ag P _
 ·refine aQ (s:=ReflectliteValue.parts a) (cL P a) fun o=>?_
  cases o with
  | none=>exact hz
  | some y=>exact hf _ _ _ _
 ·exact ag P _
theorem jw (P:Program) (x0):Fit P (fun _=>True) 0 (@Go.Extern.ReflectliteType.elem x0):=by
 unfold Go.Extern.ReflectliteType.elem
 exact zB4 (@jd P) (@cK P) (@dT P) (@hU P)
theorem f_ (P:Program) (x0) (x1):Fit P (fun _=>True) 0 (@Go.Extern.Rtype.noPackHeld x0 x1):=by
 unfold Go.Extern.Rtype.noPackHeld
 exact mh (@ck P)
theorem b_ (P:Program):∀ x∈ReflectliteType.rows,∀ args,Fit P (fun _=>True) 0 (x.2 args):=by
 intro x hx args
 simp only [ReflectliteType.rows,List.mem_cons,List.not_mem_nil,or_false] at hx
 rcases hx with rfl | rfl | rfl | rfl | rfl | rfl | rfl | rfl | rfl | rfl | rfl | rfl
 ·exact iP P _
 ·exact bc P _ (jw P) _
 ·exact bc P _ (fun t=>aQ (f_ P _ _) fun _=>aQ (bg P _) fun _=>aq P _) _
 ·exact bc P _ (fun t=>aQ (cD P _ _) fun _=>aQ (dT P _) fun _=>aq P _) _
 ·exact bc P _ (fun t=>aQ (cD P _ _) fun _=>jx P _) _
 ·exact bc P _ (fun t=>aQ (cD P _ _) fun _=>ie P _) _
 ·exact dW P _ _ (gw P) _
 ·exact dW P _ _ (gp P) _
 ·exact bc P _ (fi P) _
 ·exact dO P _ (fun t=>aQ (eD P _) fun _=>aq P _) _
 ·exact dO P _ (fun t=>aQ (f_ P _ _) fun _=>aQ (bg P _) fun _=>aq P _) _
 ·exact aQ (fj P _) fun _=>aq P _
theorem bG (P:Program):∀ x∈RuntimeError.rows,∀ args,Fit P (fun _=>True) 0 (x.2 args):=by
 intro x hx args
 simp only [RuntimeError.rows,List.mem_cons,List.not_mem_nil,or_false] at hx
 rcases hx with rfl | rfl | rfl | rfl | rfl | rfl | rfl | rfl | rfl | rfl | rfl | rfl | rfl | rfl | rfl
 ·exact aQ (jf P _) fun _=>aq P _
 ·exact aQ (jf P _) fun _=>aq P _
 ·exact aQ (fit_asAgg P _) fun _=>aQ (jf P _) fun _=>aq P _
 ·exact aQ (fit_asAgg P _) fun _=>aQ (fj P _) fun _=>aq P _
 ·exact gX P _
 ·exact fM P _
 ·exact aq P _
 ·exact fC P _
 all_goals exact aq P _
theorem gF {α:Type} {L:α->Prop} (s:String) (k:Nat):Fit P L 0 (ReflectliteValue.valueError s k:Sem α):=by
 unfold ReflectliteValue.valueError
 exact aQ (ru P _) fun _=>aQ (fO P _) fun _=>aQ (iu P _ _) fun _=>iG P _
theorem nX (P:Program) (a b c d):Fit P (fun _=>True) 0 (ReflectliteValue.len a b c d):=by
 unfold ReflectliteValue.len
 exact zB5 (@gF P) (@cM P) (@fF P) (@oz P) (@ck P)
theorem eU (P:Program):∀ x∈ReflectliteValue.rows,∀ args,Fit P (fun _=>True) 0 (x.2 args):=by
 intro x hx args
 simp only [ReflectliteValue.rows,List.mem_cons,List.not_mem_nil,or_false] at hx
 rcases hx with rfl | rfl | rfl | rfl | rfl | rfl | rfl | rfl | rfl | rfl
 ·exact ep P _
 ·exact cm P _ _ (aq P _) (fun _ _ _ _=>aq P _) _
 ·exact bK P _ _ (aq P _) (fun _ _ _ _=>aq P _) _
 ·exact cm P _ _ (gF _ _) (fun _ _ _ _=>cK P _) _
 ·exact cm P _ _ (aq P _) (fun _ _ _ _=>aq P _) _
 ·exact bK P _ _ (gF _ _) (iQ P) _
 ·exact bK P _ _ (gF _ _) (nX P) _
 ·exact bK P _ _ (gF _ _) (jc P) _
 ·exact jy P _
 ·exact gL P _
theorem fit_overlaps (P:Program) (x0 x1 x):Fit P (fun _=>True) 0 (SlicesOverlaps.overlaps x0 x1 x):=by
 rcases x with ⟨_ | ⟨u,_ | ⟨v,_ | ⟨c,l⟩⟩⟩⟩
 ·exact ag P _
 ·exact ag P _
 ·cases u with
  | slice a la ca =>
   cases v with
   | slice b lb cb =>
    have m4:∀ (h1:Option Addr->Nat->Nat->Option Addr->Nat->Nat->Sem Value) (h2:Array Value->Sem Value),SlicesOverlaps.overlaps.match_4 (fun _=>Sem Value) ⟨[Value.slice a la ca,Value.slice b lb cb]⟩ h1 h2=h1 a la ca b lb cb:=fun _ _=>rfl
    unfold SlicesOverlaps.overlaps
    rw [m4]
    exact zB4 (@pP P) (@tO P) (@uT P) (@ck P)
   | _=>exact ag P _
  | _=>exact ag P _
 ·exact ag P _
end Lf
namespace Lf
open Go Go.Conc Go.Extern
theorem find_of {fn:Func} {e:Array Value->Sem Value} (h1:allGenericRows.lookup fn.name=none) (h2:allTypedRows.lookup fn.name=none) (h3:allRows.lookup fn.name=some e):Extern.find fn=some e:=by
 unfold Extern.find
 simp only [h1,h2,h3]
 rfl
def tY:List String:=["internal/reflectlite.TypeOf","(internal/reflectlite.rtype).Elem","(internal/reflectlite.rtype).Comparable","(internal/reflectlite.rtype).String","(internal/reflectlite.rtype).Name","(internal/reflectlite.rtype).PkgPath","(internal/reflectlite.rtype).Implements","(internal/reflectlite.rtype).AssignableTo","(internal/reflectlite.rtype).common","(*internal/abi.Type).Kind","(*internal/abi.Type).Size","(internal/abi.Kind).String","internal/reflectlite.ValueOf","(internal/reflectlite.Value).Kind","(internal/reflectlite.Value).Type","(internal/reflectlite.Value).IsNil","(internal/reflectlite.Value).Elem","(internal/reflectlite.Value).Set","(*internal/reflectlite.ValueError).Error","(runtime.errorString).Error","(runtime.plainError).Error","(runtime.errorAddressString).Error","(runtime.boundsError).Error","(*runtime.TypeAssertionError).Error","(*runtime.PanicNilError).Error","(internal/runtime/maps.unhashableTypeError).Error","(runtime.errorString).RuntimeError","(runtime.plainError).RuntimeError","(runtime.errorAddressString).RuntimeError","(runtime.boundsError).RuntimeError","(*runtime.TypeAssertionError).RuntimeError","(*runtime.PanicNilError).RuntimeError","(internal/runtime/maps.unhashableTypeError).RuntimeError","internal/abi.NoEscape","internal/bytealg.abigen_runtime_cmpstring"]
def plainFunc (fn:Func):Bool:=fn.name != "runtime.NumGoroutine"&&(fn.body.isSome||((Extern.findNext fn).isNone&&(tY.contains fn.name||(fn.name== "slices.overlaps[vigil/watch.policy]"&&fn.origin== "slices.overlaps")||(Extern.find fn).isNone)))
theorem find_origin {fn:Func} {t:Array TypeId->Array TypeId->Array Value->Sem Value} (h1:allGenericRows.lookup fn.name=none) (h2:allTypedRows.lookup fn.name=none) (h3:allRows.lookup fn.name=none)
  (h4:allGenericRows.lookup fn.origin=none) (h5:allTypedRows.lookup fn.origin=some t):Extern.find fn=some (t fn.params fn.resultTypes):=by
 unfold Extern.find
 simp only [h1,h2,h3,h4,h5]
 rfl
theorem plain_all:Tryz.prog.funcs.all plainFunc=true:=by kernel_rfl
theorem plain_rows:∀ n∈tY,∃ e,allGenericRows.lookup n=none/\allTypedRows.lookup n=none/\allRows.lookup n=some e/\∀ args,Fit Tryz.prog (fun _=>True) 0 (e args):=by
 intro n hn
 simp only [tY,List.mem_cons,List.not_mem_nil,or_false] at hn
 rcases hn with rfl | rfl | rfl | rfl | rfl | rfl | rfl | rfl | rfl | rfl | rfl | rfl | rfl | rfl | rfl | rfl | rfl | rfl | rfl | rfl | rfl | rfl | rfl | rfl | rfl | rfl | rfl | rfl | rfl | rfl | rfl | rfl | rfl | rfl | rfl
 ·exact ⟨(ReflectliteType.rows.getD 0 default).2,by kernel_rfl,by kernel_rfl,by kernel_rfl,b_ _ _ (List.getElem_mem (show 0<ReflectliteType.rows.length by decide))⟩
 ·exact ⟨(ReflectliteType.rows.getD 1 default).2,by kernel_rfl,by kernel_rfl,by kernel_rfl,b_ _ _ (List.getElem_mem (show 1<ReflectliteType.rows.length by decide))⟩
 ·exact ⟨(ReflectliteType.rows.getD 2 default).2,by kernel_rfl,by kernel_rfl,by kernel_rfl,b_ _ _ (List.getElem_mem (show 2<ReflectliteType.rows.length by decide))⟩
 ·exact ⟨(ReflectliteType.rows.getD 3 default).2,by kernel_rfl,by kernel_rfl,by kernel_rfl,b_ _ _ (List.getElem_mem (show 3<ReflectliteType.rows.length by decide))⟩
 ·exact ⟨(ReflectliteType.rows.getD 4 default).2,by kernel_rfl,by kernel_rfl,by kernel_rfl,b_ _ _ (List.getElem_mem (show 4<ReflectliteType.rows.length by decide))⟩
 ·exact ⟨(ReflectliteType.rows.getD 5 default).2,by kernel_rfl,by kernel_rfl,by kernel_rfl,b_ _ _ (List.getElem_mem (show 5<ReflectliteType.rows.length by decide))⟩
 ·exact ⟨(ReflectliteType.rows.getD 6 default).2,by kernel_rfl,by kernel_rfl,by kernel_rfl,b_ _ _ (List.getElem_mem (show 6<ReflectliteType.rows.length by decide))⟩
 ·exact ⟨(ReflectliteType.rows.getD 7 default).2,by kernel_rfl,by kernel_rfl,by kernel_rfl,b_ _ _ (List.getElem_mem (show 7<ReflectliteType.rows.length by decide))⟩
 ·exact ⟨(ReflectliteType.rows.getD 8 default).2,by kernel_rfl,by kernel_rfl,by kernel_rfl,b_ _ _ (List.getElem_mem (show 8<ReflectliteType.rows.length by decide))⟩
 ·exact ⟨(ReflectliteType.rows.getD 9 default).2,by kernel_rfl,by kernel_rfl,by kernel_rfl,b_ _ _ (List.getElem_mem (show 9<ReflectliteType.rows.length by decide))⟩
 ·exact ⟨(ReflectliteType.rows.getD 10 default).2,by kernel_rfl,by kernel_rfl,by kernel_rfl,b_ _ _ (List.getElem_mem (show 10<ReflectliteType.rows.length by decide))⟩
 ·exact ⟨(ReflectliteType.rows.getD 11 default).2,by kernel_rfl,by kernel_rfl,by kernel_rfl,b_ _ _ (List.getElem_mem (show 11<ReflectliteType.rows.length by decide))⟩
 ·exact ⟨(ReflectliteValue.rows.getD 0 default).2,by kernel_rfl,by kernel_rfl,by kernel_rfl,eU _ _ (List.getElem_mem (show 0<ReflectliteValue.rows.length by decide))⟩
 ·exact ⟨(ReflectliteValue.rows.getD 2 default).2,by kernel_rfl,by kernel_rfl,by kernel_rfl,eU _ _ (List.getElem_mem (show 2<ReflectliteValue.rows.length by decide))⟩
 ·exact ⟨(ReflectliteValue.rows.getD 3 default).2,by kernel_rfl,by kernel_rfl,by kernel_rfl,eU _ _ (List.getElem_mem (show 3<ReflectliteValue.rows.length by decide))⟩
 ·exact ⟨(ReflectliteValue.rows.getD 5 default).2,by kernel_rfl,by kernel_rfl,by kernel_rfl,eU _ _ (List.getElem_mem (show 5<ReflectliteValue.rows.length by decide))⟩
 ·exact ⟨(ReflectliteValue.rows.getD 7 default).2,by kernel_rfl,by kernel_rfl,by kernel_rfl,eU _ _ (List.getElem_mem (show 7<ReflectliteValue.rows.length by decide))⟩
 ·exact ⟨(ReflectliteValue.rows.getD 8 default).2,by kernel_rfl,by kernel_rfl,by kernel_rfl,eU _ _ (List.getElem_mem (show 8<ReflectliteValue.rows.length by decide))⟩
 ·exact ⟨(ReflectliteValue.rows.getD 9 default).2,by kernel_rfl,by kernel_rfl,by kernel_rfl,eU _ _ (List.getElem_mem (show 9<ReflectliteValue.rows.length by decide))⟩
 ·exact ⟨(RuntimeError.rows.getD 0 default).2,by kernel_rfl,by kernel_rfl,by kernel_rfl,bG _ _ (List.getElem_mem (show 0<RuntimeError.rows.length by decide))⟩
 ·exact ⟨(RuntimeError.rows.getD 1 default).2,by kernel_rfl,by kernel_rfl,by kernel_rfl,bG _ _ (List.getElem_mem (show 1<RuntimeError.rows.length by decide))⟩
 ·exact ⟨(RuntimeError.rows.getD 2 default).2,by kernel_rfl,by kernel_rfl,by kernel_rfl,bG _ _ (List.getElem_mem (show 2<RuntimeError.rows.length by decide))⟩
 ·exact ⟨(RuntimeError.rows.getD 4 default).2,by kernel_rfl,by kernel_rfl,by kernel_rfl,bG _ _ (List.getElem_mem (show 4<RuntimeError.rows.length by decide))⟩
 ·exact ⟨(RuntimeError.rows.getD 5 default).2,by kernel_rfl,by kernel_rfl,by kernel_rfl,bG _ _ (List.getElem_mem (show 5<RuntimeError.rows.length by decide))⟩
 ·exact ⟨(RuntimeError.rows.getD 6 default).2,by kernel_rfl,by kernel_rfl,by kernel_rfl,bG _ _ (List.getElem_mem (show 6<RuntimeError.rows.length by decide))⟩
 ·exact ⟨(RuntimeError.rows.getD 7 default).2,by kernel_rfl,by kernel_rfl,by kernel_rfl,bG _ _ (List.getElem_mem (show 7<RuntimeError.rows.length by decide))⟩
 ·exact ⟨(RuntimeError.rows.getD 8 default).2,by kernel_rfl,by kernel_rfl,by kernel_rfl,bG _ _ (List.getElem_mem (show 8<RuntimeError.rows.length by decide))⟩
 ·exact ⟨(RuntimeError.rows.getD 9 default).2,by kernel_rfl,by kernel_rfl,by kernel_rfl,bG _ _ (List.getElem_mem (show 9<RuntimeError.rows.length by decide))⟩
 ·exact ⟨(RuntimeError.rows.getD 10 default).2,by kernel_rfl,by kernel_rfl,by kernel_rfl,bG _ _ (List.getElem_mem (show 10<RuntimeError.rows.length by decide))⟩
 ·exact ⟨(RuntimeError.rows.getD 11 default).2,by kernel_rfl,by kernel_rfl,by kernel_rfl,bG _ _ (List.getElem_mem (show 11<RuntimeError.rows.length by decide))⟩
 ·exact ⟨(RuntimeError.rows.getD 12 default).2,by kernel_rfl,by kernel_rfl,by kernel_rfl,bG _ _ (List.getElem_mem (show 12<RuntimeError.rows.length by decide))⟩
 ·exact ⟨(RuntimeError.rows.getD 13 default).2,by kernel_rfl,by kernel_rfl,by kernel_rfl,bG _ _ (List.getElem_mem (show 13<RuntimeError.rows.length by decide))⟩
 ·exact ⟨(RuntimeError.rows.getD 14 default).2,by kernel_rfl,by kernel_rfl,by kernel_rfl,bG _ _ (List.getElem_mem (show 14<RuntimeError.rows.length by decide))⟩
 ·exact ⟨AbiNoEscape.same,by kernel_rfl,by kernel_rfl,by kernel_rfl,lg _⟩
 ·exact ⟨BytealgCompare.compare,by kernel_rfl,by kernel_rfl,by kernel_rfl,iO _⟩
theorem bk:Plain Tryz.prog:=by
 intro f fn hf
 have hm:fn∈Tryz.prog.funcs:=Array.mem_of_getElem? hf
 have h:=Array.all_eq_true_iff_forall_mem.1 plain_all fn hm
 simp only [plainFunc,Bool.and_eq_true,bne_iff_ne,ne_eq,Bool.or_eq_true,Option.isNone_iff_eq_none] at h
 refine ⟨h.1,fun hb=>?_⟩
 rcases h.2 with h2 | ⟨h2,h3⟩
 ·cases hx:fn.body with
  | none=>rw [hx] at h2;cases h2
  | some c=>rw [hx] at hb;cases hb
 ·refine ⟨h2,fun e he=>?_⟩
  rcases h3 with (h3 | ⟨h3,h4⟩) | h3
  ·obtain ⟨e',a,b,c,d⟩:=plain_rows fn.name (by simpa using h3)
   rw [find_of a b c] at he
   cases he
   exact d
  ·have h3':fn.name = "slices.overlaps[vigil/watch.policy]":=by simpa using h3
   have h4':fn.origin = "slices.overlaps":=by simpa using h4
   rw [find_origin (t:=SlicesOverlaps.overlaps) (by rw [h3'];kernel_rfl) (by rw [h3'];kernel_rfl) (by rw [h3'];kernel_rfl) (by rw [h4'];kernel_rfl) (by rw [h4'];kernel_rfl)] at he
   cases he
   exact fit_overlaps _ _ _
  ·rw [h3] at he;cases he
end Lf
namespace Lf
open Go Go.Conc Go.RowKit
open Go.Proofs (Tryz.f46 Tryz.f88 Tryz.prog Tryz.func46 Tryz.ntmps46 Tryz.func88 Tryz.ntmps88 Tryz.func89)
noncomputable def wGo (w:World) (pv:Value) (num time:Int) (at_ sv:Value) (N:Nat):World :=
 ((((w.alloc (.cells #[pv] 151)).alloc (.cells #[.int .i64 num,.int .i64 time,at_,sv] 159)).alloc (.chan N #[] false 0 0 false)).alloc (.cells #[.chan none] 235)).setCell ⟨w.heap.size+3,0,none⟩ (.chan (some (w.heap.size+2)))
section
variable (w : World) (pv : Value) (num time : Int) (at_ sv : Value) (N : Nat)
theorem vW:(wGo w pv num time at_ sv N).heap.size=w.heap.size+4:=by unfold wGo;rw [cn,aG,aG,aG,aG]
theorem wGo_old {k:Nat} (hk:k<w.heap.size):(wGo w pv num time at_ sv N).heap[k]? = w.heap[k]?:=by
 unfold wGo
 rw [aT _ _ _ (show k≠w.heap.size+3 by omega),bw _ _ (by rw [aG,aG,aG];omega),bw _ _ (by rw [aG,aG];omega),bw _ _ (by rw [aG];omega),bw _ _ hk]
theorem wGo_p2:(wGo w pv num time at_ sv N).heap[w.heap.size]? = some (.cells #[pv] 151):=by
 unfold wGo
 rw [aT _ _ _ (show w.heap.size≠w.heap.size+3 by omega),bw _ _ (by rw [aG,aG,aG];omega),bw _ _ (by rw [aG,aG];omega),bw _ _ (by rw [aG];omega)]
 exact iF w _
theorem wGo_p3:(wGo w pv num time at_ sv N).heap[w.heap.size+1]? = some (.cells #[.int .i64 num,.int .i64 time,at_,sv] 159):=by
 unfold wGo
 rw [aT _ _ _ (show w.heap.size+1≠w.heap.size+3 by omega),bw _ _ (by rw [aG,aG,aG];omega),bw _ _ (by rw [aG,aG];omega)]
 have:=iF (w.alloc (.cells #[pv] 151)) (.cells #[.int .i64 num,.int .i64 time,at_,sv] 159)
 rwa [aG] at this
theorem wGo_c:(wGo w pv num time at_ sv N).heap[w.heap.size+2]? = some (.chan N #[] false 0 0 false):=by
 unfold wGo
 rw [aT _ _ _ (show w.heap.size+2≠w.heap.size+3 by omega),bw _ _ (by rw [aG,aG,aG];omega)]
 have:=iF ((w.alloc (.cells #[pv] 151)).alloc (.cells #[.int .i64 num,.int .i64 time,at_,sv] 159)) (.chan N #[] false 0 0 false)
 rwa [aG,aG] at this
theorem wGo_p5:(wGo w pv num time at_ sv N).heap[w.heap.size+3]? = some (.cells #[.chan (some (w.heap.size+2))] 235):=by
 unfold wGo
 have:=iF (((w.alloc (.cells #[pv] 151)).alloc (.cells #[.int .i64 num,.int .i64 time,at_,sv] 159)).alloc (.chan N #[] false 0 0 false)) (.cells #[.chan none] 235)
 rw [aG,aG,aG] at this
 exact qc (i:=0) (v:=.chan (some (w.heap.size+2))) this
end
noncomputable def body88:Code:=Tryz.f88.body.getD .skip
noncomputable def blockE:Code:=match jR with
 | .seq _ (.seq _ (.seq _ (.seq (.seq _ x) _)))=>x
 | _=>.skip
noncomputable def sR:Array Oper:=match jR with
 | .seq _ (.seq _ (.seq _ (.seq (.seq (.region _ x _) _) _)))=>x
 | _=>#[]
noncomputable def ops2S:Array Oper:=match body88 with
 | .seq _ (.seq _ (.seq (.region _ x _) _))=>x
 | _=>#[]
noncomputable def tailS:Code:=match body88 with
 | .seq _ (.seq _ (.seq _ x))=>x
 | _=>.skip
variable {w : World} {Ro : Nat → Prop}
set_option maxRecDepth 100000 in
set_option maxHeartbeats 2000000 in
theorem behind_go (pa : Option Addr) (cap : Nat) (num time : Int) (at_ sv : Value) (ss : List bt) (ps : List bC) (H : qJ (w.heap.size + 2) (w.heap.size + 4) (Ms ss) Ro) (hn : ∀ s ∈ ss, s.n ≤ 1000000)
  (hlen : ss.length = ps.length) (hps : ∀ (i : Nat) (s : bt) (p : bC), ss[i]? = some s → ps[i]? = some p → p.cG = some ⟨s.cj, 0, none⟩) (se : ∀ s ∈ ss, eG w s) (jD : Apart ss) (x0 x1 x2 x3 x4 x5 x6 x7 x8 kX lD lF lG lH lI lJ lK lM lN lO lQ lR lU lV lW lX nk nt nu nw qE x32 : Value) (cs : List Frame) (u9 ki jH jI jJ jK jL jM jN y6 y7 y9 : Value) (w₁ : World) (hw₁ : w₁.heap = (wGo w (.slice pa ps.length cap) num time at_ sv ps.length).heap)
  (K : Goroutine → World → Prop) (hK : ∀ (u9 ki jH jI jJ jK jL jM jN : Value) (S : Nat → Prop) (w' : World) (now : List bt), H0 (w.heap.size + 2) (w.heap.size + 4) (Ms ss) (fun _ => False) w₁ S w' [] → gP (w.heap.size + 4) ss num time ps ps.length S w' now → K (endE (w.heap.size + 2) x0 x1 x2 x3 x4 x5 x6 x7 x8 kX lD lF lG lH lI lJ lK lM lN lO lQ lR lU lV lW lX nk nt nu nw qE cs u9 ki jH jI jJ jK jL jM jN) w') :
  SA Tryz.prog (w.heap.size + 2) zE (R0w (w.heap.size + 2) (w.heap.size + 4)) (tu (w.heap.size + 4) (Ms ss)) (CA1 (w.heap.size + 4) (Ms ss)) K (ps.map (letter num time)) (fun _ => False)
   (G ((base 88).at ⟨#[.slice pa ps.length cap, .agg #[.int .i64 num, .int .i64 time, at_, sv], .pointer (some ⟨w.heap.size, 0, none⟩), .pointer (some ⟨w.heap.size + 1, 0, none⟩), .chan none, .pointer (some ⟨w.heap.size + 3, 0, none⟩), y6, y7, .chan (some (w.heap.size + 2)), y9, undef], []⟩ [.inRegion ops2S [], .code tailS]) (((base 46).at ⟨#[x0, x1, x2, x3, x4, x5, x6, x7, x8, u9, kX, lD, lF, lG, lH, lI, lJ, lK, lM, lN, lO, lQ, lR, lU, lV, lW, lX, nk, nt, nu, nw, qE, x32, ki, jH, jI, jJ, jK, jL, jM, jN], []⟩ [.inRegion sR [5], .code blockE, .code o6]) :: cs)) w₁ := by
 have oK : w₁.heap.size = w.heap.size + 4 := by rw [hw₁]; exact vW _ _ _ _ _ _ _
 have hold : ∀ k, k < w.heap.size → w₁.heap[k]? = w.heap[k]? := fun k hk => by rw [hw₁]; exact wGo_old _ _ _ _ _ _ _ hk
 have hp5 : w₁.heap[w.heap.size + 3]? = some (.cells #[.chan (some (w.heap.size + 2))] 235) := by rw [hw₁]; exact wGo_p5 _ _ _ _ _ _ _
 have PP := gI _ _ _ _ H
 have TT := PP.t0
 generalize hc : w.heap.size + 2 = c at *
 generalize hB : w.heap.size + 4 = B at *
 generalize hq : w.heap.size + 3 = p5 at *
 have hF : H0 c B (fun _ => False) (fun _ => False) w₁ (fun _ => False) w₁ [(p5, .cells #[.chan (some c)] 235)] := H0.start (fun _ x => x.elim) H.chan (by omega) (by intro p hp; simp at hp; subst hp; exact ⟨.inr (show p5 < B by omega), (show p5 ≠ c by omega), hp5⟩)
 have hT : gP B ss num time ps 0 (fun _ => False) w₁ ss := gP.start (fun s hs => (se s hs).heap fun b hb _ => hold b hb) jD
 have hgo := from_e H x0 x1 x2 x3 x4 x5 x6 x7 x8 kX lD lF lG lH lI lJ lK lM lN lO lQ lR lU lV lW lX nk nt nu nw qE cs K ss num time ps (fun _ x => x) hn hlen hps w₁ hK ps.length 0 (by omega)
 rw [List.drop_zero] at hgo
 refine SA.kh PP ?_
 simp only [headE, vh, o6, ops2S, tailS, body88, Tryz.f88, sR, blockE, jR, Tryz.f46, Option.getD_some] at hgo ⊢
 refine RT.nil TT ?_
 refine RT.seq TT ?_
 refine RT.region TT ?_
 simp only [List.size_toArray, List.length_cons, List.length_nil, Nat.reduceAdd, Nat.zero_add, List.range, List.range.loop]
 refine RT.op rfl (by rfl) (by simp [base]) (fun v1 hR K hK => ?_)
 replace hF := hF.rely hR
 have lj := hF.cell (i := 0) (.head _) rfl
 go_simp
 refine hK _ _ ⟨?_, ?_⟩
 ·refine tu.reads fun e he => ?_
  have hm := mem_listed he
  simp [go_sem, *] at hm
  rcases hm with rfl <;> exact hF.read (.head _) rfl
 clear hK K hR
 rw [aD]
 refine RT.op rfl (by rfl) (by simp [base]) (fun v2 hR K hK => ?_)
 replace hF := hF.rely hR
 go_simp
 refine hK _ _ ⟨by rw [listed_nil (by simp [go_sem])]; exact TT.idle _ _, ?_⟩
 clear hK K hR
 rw [aD]
 refine RT.nil TT ?_
 refine RT.ret TT ?_
 refine RT.leave TT (v := .chan (some c)) rfl rfl Tryz.func88 (fun w₉ hR9 => ⟨by simp [results, go_sem, Tryz.f88], ?_⟩) ?_
 ·rw [show ∀ t, Sem.events Tryz.prog (results Tryz.f88 t) w₉ #[] = #[] from fun t => by simp [results, go_sem, Tryz.f88], seen_none]; exact TT.idle _ _
 rw [Frame.finish_at]
 change RT Tryz.prog true (R0w c B) (tu B (Ms ss)) _ _ (G ((base 46).at ⟨#[x0, x1, x2, x3, x4, x5, x6, x7, x8, u9, kX, lD, lF, lG, lH, lI, lJ, lK, lM, lN, lO, lQ, lR, lU, lV, lW, lX, nk, nt, nu, nw, qE, .chan (some c), ki, jH, jI, jJ, jK, jL, jM, jN], []⟩ _) cs) _
 refine RT.nil TT ?_
 refine RT.block TT ?_
 refine RT.loop TT ?_
 have hG : H0 c B (Ms ss) (fun _ => False) w₁ (fun _ => False) v2 [] := (H0.start (fs := []) (fun _ x => x.elim) H.chan (by omega) (by simp)).step hF (fun _ x => x.elim) (by simp)
 have rZ : gP B ss num time ps 0 (fun _ => False) v2 ss := hT.heap (c := c) (fun _ x => x) (fun b hb => H.m b hb) (fun _ x => x.elim) (fun b hb hl hc => hF.keep b hb hl hc (fun x => x))
 exact SA.walk PP (hgo u9 ki jH jI jJ jK jL jM jN _ _ _ hG rZ)
end Lf
namespace Lf
open Go Go.Conc Go.RowKit
open Go.Proofs (Tryz.f46 Tryz.f88 Tryz.prog Tryz.func46 Tryz.ntmps46 Tryz.func88 Tryz.ntmps88 Tryz.func89)
theorem infoLetter:(Tryz.prog.info? 165).map (fun i=>i.bytes)=some 40:=by kernel_rfl
theorem skip_eq_of {r:Result Next} {w:World} (h:∀ K:Result Next->Prop,K (.ok .skip w)->K r):r=.ok .skip w:=h (·=.ok .skip w) rfl
variable {w : World} {Ro : Nat → Prop}
set_option maxRecDepth 100000 in
set_option maxHeartbeats 2000000 in
theorem send_e (pa:Option Addr) (cap:Nat) (num time:Int) (at_ sv:Value) (ss:List bt) (ps:List bC) (H:qJ (w.heap.size+2) (w.heap.size+4) (Ms ss) Ro) (hn:∀ s∈ss,s.n<=1000000) (hN:ps.length<=1000000)
  (hlen:ss.length=ps.length) (hps:∀ (i:Nat) (s:bt) (p:bC),ss[i]? = some s->ps[i]? = some p->p.cG=some ⟨s.cj,0,none⟩) (se:∀ s∈ss,eG w s) (jD:Apart ss) (x0 x1 x2 x3 x4 x5 x6 x7 x8 kX lD lF lG lH lI lJ lK lM lN lO lQ lR lU lV lW lX nk nt nu nw qE x32:Value) (cs:List Frame) (bn:∀ fr∈cs,aA fr) (u9 ki jH jI jJ jK jL jM jN:Value)
  (hB:∀ w₁:World,w₁.heap=(wGo w (.slice pa ps.length cap) num time at_ sv ps.length).heap->SB Tryz.prog (w.heap.size+2) (RBw (w.heap.size+2) Ro) (mY (w.heap.size+2) Ro) (CB1 (w.heap.size+2) Ro) ps.length (ps.map (letter num time)) (fun _=>False) (born Tryz.prog (call133 (w.heap.size+3) w.heap.size (w.heap.size+1))) w₁) :
  af Tryz.prog (fun g w'=>∃ (u9 ki jH jI jJ jK jL jM jN:Value) (S:Nat->Prop) (now:List bt) (w₁:World),w₁.heap=(wGo w (.slice pa ps.length cap) num time at_ sv ps.length).heap/\w₁.os=w.os/\w₁.output=w.output/\H0 (w.heap.size+2) (w.heap.size+4) (Ms ss) (fun _=>False) w₁ S w' []/\gP (w.heap.size+4) ss num time ps ps.length S w' now/\g=endE (w.heap.size+2) x0 x1 x2 x3 x4 x5 x6 x7 x8 kX lD lF lG lH lI lJ lK lM lN lO lQ lR lU lV lW lX nk nt nu nw qE cs u9 ki jH jI jJ jK jL jM jN)
   (G (Frame.enter Tryz.prog 88 #[.slice pa ps.length cap,.agg #[.int .i64 num,.int .i64 time,at_,sv]] .normal) (((base 46).at ⟨#[x0,x1,x2,x3,x4,x5,x6,x7,x8,u9,kX,lD,lF,lG,lH,lI,lJ,lK,lM,lN,lO,lQ,lR,lU,lV,lW,lX,nk,nt,nu,nw,qE,x32,ki,jH,jI,jJ,jK,jL,jM,jN],[]⟩ [.inRegion sR [5],.code blockE,.code o6])::cs)) w:=by
 have hP:=bk
 have hfr:aA ((base 46).at ⟨#[x0,x1,x2,x3,x4,x5,x6,x7,x8,u9,kX,lD,lF,lG,lH,lI,lJ,lK,lM,lN,lO,lQ,lR,lU,lV,lW,lX,nk,nt,nu,nw,qE,x32,ki,jH,jI,jJ,jK,jL,jM,jN],[]⟩ [.inRegion sR [5],.code blockE,.code o6]):=iz (aJ trivial (aJ trivial (aJ trivial (by simp))))
 have ry:=og hfr bn
 have ix:∀ it∈([]:List Item),aR it:=by simp
 have dY:∀ (c:Code),∀ it∈[Item.code c],aR it:=fun c=>aJ trivial (by simp)
 have rC:∀ (c d:Code),∀ it∈[Item.code c,Item.code d],aR it:=fun c d=>aJ trivial (aJ trivial (by simp))
 obtain ⟨ti,hti,hti2⟩:=Option.map_eq_some_iff.1 infoLetter
 have hmk:∀ w:World,(Instr.makeChan 235 (.int .i64 ps.length)).run Tryz.prog w=.ok (.chan (some w.heap.size)) (w.alloc (.chan ps.length #[] false 0 0 false)):=fun w=>run_makeChan Tryz.underlying235 hti .i64 ps.length (by omega) (by rw [hti2];omega)
 rw [enter_at _ Tryz.func88 rfl]
 simp only [Tryz.ntmps88,List.size_toArray,List.length_cons,List.length_nil,Nat.reduceAdd,Nat.reduceSub,Array.replicate_succ,Array.replicate_zero,List.push_toArray,List.append_toArray,List.nil_append,List.cons_append]
 refine af.seq hP ix ry ?_
 refine af.region hP (dY _) ry ?_
 simp only [List.size_toArray,List.length_cons,List.length_nil,Nat.reduceAdd,Nat.zero_add,List.range,List.range.loop]
 refine af.val hP (w':=w.alloc (.cells #[.slice pa ps.length cap] 151)) (v:=.pointer (some ⟨w.heap.size,0,none⟩)) rfl (by rfl) (fun τ d=>run_eq_of ?r0) (dY _) ry ?_
 case r0 =>
  intro K hK
  go_simp
  exact hK
 try walk_nrm
 have s1:(w.alloc (.cells #[.slice pa ps.length cap] 151)).heap.size=w.heap.size+1:=aG _ _
 refine af.val hP (w':=(w.alloc (.cells #[.slice pa ps.length cap] 151)).alloc (.cells #[.int .i64 num,.int .i64 time,at_,sv] 159)) (v:=.pointer (some ⟨(w.alloc (.cells #[.slice pa ps.length cap] 151)).heap.size,0,none⟩)) rfl (by rfl) (fun τ d=>run_eq_of ?r1) (dY _) ry ?_
 case r1 =>
  intro K hK
  go_simp
  exact hK
 try walk_nrm
 rw [s1]
 have s2:((w.alloc (.cells #[.slice pa ps.length cap] 151)).alloc (.cells #[.int .i64 num,.int .i64 time,at_,sv] 159)).heap.size=w.heap.size+2:=by rw [aG,s1]
 refine af.val hP (w':=(w.alloc (.cells #[.slice pa ps.length cap] 151)).alloc (.cells #[.int .i64 num,.int .i64 time,at_,sv] 159)) (v:=.chan none) rfl (by rfl) (fun τ d=>run_eq_of ?r2) (dY _) ry ?_
 case r2 =>
  intro K hK
  go_simp
  exact hK
 try walk_nrm
 refine af.nil hP (dY _) ry ?_
 refine af.seq hP ix ry ?_
 refine af.region hP (dY _) ry ?_
 simp only [List.size_toArray,List.length_cons,List.length_nil,Nat.reduceAdd,Nat.zero_add,List.range,List.range.loop]
 have hp2:((w.alloc (.cells #[.slice pa ps.length cap] 151)).alloc (.cells #[.int .i64 num,.int .i64 time,at_,sv] 159)).heap[w.heap.size]? = some (.cells #[.slice pa ps.length cap] 151):=by rw [bw _ _ (by rw [s1];omega)];exact iF _ _
 refine af.val hP (w':=(w.alloc (.cells #[.slice pa ps.length cap] 151)).alloc (.cells #[.int .i64 num,.int .i64 time,at_,sv] 159)) (v:=.slice pa ps.length cap) rfl (by rfl) (fun τ d=>run_eq_of ?r3) (dY _) ry ?_
 case r3 =>
  intro K hK
  have lj:(re ((w.alloc (.cells #[.slice pa ps.length cap] 151)).alloc (.cells #[.int .i64 num,.int .i64 time,at_,sv] 159)) τ d).cell? ⟨w.heap.size,0,none⟩=some (.slice pa ps.length cap):=ae (w:=re ((w.alloc (.cells #[.slice pa ps.length cap] 151)).alloc (.cells #[.int .i64 num,.int .i64 time,at_,sv] 159)) τ d) hp2 rfl
  go_simp
  exact hK
 try walk_nrm
 refine af.val hP (w':=(w.alloc (.cells #[.slice pa ps.length cap] 151)).alloc (.cells #[.int .i64 num,.int .i64 time,at_,sv] 159)) (v:=.int .i64 ps.length) rfl (by rfl) (fun τ d=>run_eq_of ?r4) (dY _) ry ?_
 case r4 =>
  intro K hK
  go_simp
  exact hK
 try walk_nrm
 refine af.val hP (w':=((w.alloc (.cells #[.slice pa ps.length cap] 151)).alloc (.cells #[.int .i64 num,.int .i64 time,at_,sv] 159)).alloc (.chan ps.length #[] false 0 0 false)) (v:=.chan (some ((w.alloc (.cells #[.slice pa ps.length cap] 151)).alloc (.cells #[.int .i64 num,.int .i64 time,at_,sv] 159)).heap.size)) rfl (by rfl) (fun τ d=>run_eq_of ?r5) (dY _) ry ?_
 case r5 =>
  intro K hK
  go_simp
  first | exact hK | (rw [hmk];exact hK)
 try walk_nrm
 rw [s2]
 have s3:(((w.alloc (.cells #[.slice pa ps.length cap] 151)).alloc (.cells #[.int .i64 num,.int .i64 time,at_,sv] 159)).alloc (.chan ps.length #[] false 0 0 false)).heap.size=w.heap.size+3:=by rw [aG,s2]
 refine af.val hP (w':=(((w.alloc (.cells #[.slice pa ps.length cap] 151)).alloc (.cells #[.int .i64 num,.int .i64 time,at_,sv] 159)).alloc (.chan ps.length #[] false 0 0 false)).alloc (.cells #[.chan none] 235)) (v:=.pointer (some ⟨(((w.alloc (.cells #[.slice pa ps.length cap] 151)).alloc (.cells #[.int .i64 num,.int .i64 time,at_,sv] 159)).alloc (.chan ps.length #[] false 0 0 false)).heap.size,0,none⟩)) rfl (by rfl) (fun τ d=>run_eq_of ?r6) (dY _) ry ?_
 case r6 =>
  intro K hK
  go_simp
  exact hK
 try walk_nrm
 rw [s3]
 have hp4:((((w.alloc (.cells #[.slice pa ps.length cap] 151)).alloc (.cells #[.int .i64 num,.int .i64 time,at_,sv] 159)).alloc (.chan ps.length #[] false 0 0 false)).alloc (.cells #[.chan none] 235)).heap[w.heap.size+3]? = some (.cells #[.chan none] 235):=by rw [<- s3];exact iF _ _
 refine af.non hP (w':=((((w.alloc (.cells #[.slice pa ps.length cap] 151)).alloc (.cells #[.int .i64 num,.int .i64 time,at_,sv] 159)).alloc (.chan ps.length #[] false 0 0 false)).alloc (.cells #[.chan none] 235)).setCell ⟨w.heap.size+3,0,none⟩ (.chan (some (w.heap.size+2)))) rfl (by rfl) (fun τ d=>skip_eq_of ?r7) (dY _) ry ?_
 case r7 =>
  intro K hK
  have lj:(re ((((w.alloc (.cells #[.slice pa ps.length cap] 151)).alloc (.cells #[.int .i64 num,.int .i64 time,at_,sv] 159)).alloc (.chan ps.length #[] false 0 0 false)).alloc (.cells #[.chan none] 235)) τ d).cell? ⟨w.heap.size+3,0,none⟩=some (.chan none):=ae (w:=re ((((w.alloc (.cells #[.slice pa ps.length cap] 151)).alloc (.cells #[.int .i64 num,.int .i64 time,at_,sv] 159)).alloc (.chan ps.length #[] false 0 0 false)).alloc (.cells #[.chan none] 235)) τ d) hp4 rfl
  have lr:(re ((((w.alloc (.cells #[.slice pa ps.length cap] 151)).alloc (.cells #[.int .i64 num,.int .i64 time,at_,sv] 159)).alloc (.chan ps.length #[] false 0 0 false)).alloc (.cells #[.chan none] 235)) τ d).frozen? ⟨w.heap.size+3,0,none⟩=false:=by simp [World.frozen?,show (re ((((w.alloc (.cells #[.slice pa ps.length cap] 151)).alloc (.cells #[.int .i64 num,.int .i64 time,at_,sv] 159)).alloc (.chan ps.length #[] false 0 0 false)).alloc (.cells #[.chan none] 235)) τ d).heap[w.heap.size+3]? = _ from hp4]
  go_simp
  exact hK
 try walk_nrm
 refine af.nil hP (dY _) ry ?_
 refine af.seq hP ix ry ?_
 refine af.region hP (dY _) ry ?_
 simp only [List.size_toArray,List.length_cons,List.length_nil,Nat.reduceAdd,Nat.zero_add,List.range,List.range.loop]
 have hw5:(((((w.alloc (.cells #[.slice pa ps.length cap] 151)).alloc (.cells #[.int .i64 num,.int .i64 time,at_,sv] 159)).alloc (.chan ps.length #[] false 0 0 false)).alloc (.cells #[.chan none] 235)).setCell ⟨w.heap.size+3,0,none⟩ (.chan (some (w.heap.size+2)))).heap=(wGo w (.slice pa ps.length cap) num time at_ sv ps.length).heap:=rfl
 have ho5:(((((w.alloc (.cells #[.slice pa ps.length cap] 151)).alloc (.cells #[.int .i64 num,.int .i64 time,at_,sv] 159)).alloc (.chan ps.length #[] false 0 0 false)).alloc (.cells #[.chan none] 235)).setCell ⟨w.heap.size+3,0,none⟩ (.chan (some (w.heap.size+2)))).os=w.os:=rfl
 have hu5:(((((w.alloc (.cells #[.slice pa ps.length cap] 151)).alloc (.cells #[.int .i64 num,.int .i64 time,at_,sv] 159)).alloc (.chan ps.length #[] false 0 0 false)).alloc (.cells #[.chan none] 235)).setCell ⟨w.heap.size+3,0,none⟩ (.chan (some (w.heap.size+2)))).output=w.output:=rfl
 generalize (((((w.alloc (.cells #[.slice pa ps.length cap] 151)).alloc (.cells #[.int .i64 num,.int .i64 time,at_,sv] 159)).alloc (.chan ps.length #[] false 0 0 false)).alloc (.cells #[.chan none] 235)).setCell ⟨w.heap.size+3,0,none⟩ (.chan (some (w.heap.size+2))))=w5 at hw5 ho5 hu5 ⊢
 refine af.val hP (w':=w5) (v:=.func (.func 133) #[] #[.pointer (some ⟨w.heap.size+3,0,none⟩),.pointer (some ⟨w.heap.size,0,none⟩),.pointer (some ⟨w.heap.size+1,0,none⟩)]) rfl (by rfl) (fun τ d=>run_eq_of ?r8) (dY _) ry ?_
 case r8 =>
  intro K hK
  go_simp
  exact hK
 try walk_nrm
 refine af.spawn rfl (fun τ d=>⟨_,_,_,_,stepG_spawn (d:=call133 (w.heap.size+3) w.heap.size (w.heap.size+1)) (w':=re w5 τ d) rfl (by rfl) (by simp [base]) ?_ rfl,?_,?_⟩)
 ·simp [execOp,go_sem,call133]
 ·intro e he
  have hm:=mem_listed he
  simp [go_sem] at hm
 refine ⟨w.heap.size+2,zE,R0w (w.heap.size+2) (w.heap.size+4),tu (w.heap.size+4) (Ms ss),RBw (w.heap.size+2) Ro,mY (w.heap.size+2) Ro,CA1 (w.heap.size+4) (Ms ss),CB1 (w.heap.size+2) Ro,ps.length,ps.map (letter num time),?_,hB _ hw5,?_,(show w5.heap[w.heap.size+2]? = _ from hw5▸wGo_c w _ num time at_ sv ps.length),by simp⟩
 ·have e:(re w5 τ d).heap.size=w.heap.size+4:=(congrArg Array.size hw5).trans (vW w (.slice pa ps.length cap) num time at_ sv ps.length)
  rw [e];exact gI _ _ _ _ H
 try walk_nrm
 have:=behind_go (w:=w) pa cap num time at_ sv ss ps H hn hlen hps se jD x0 x1 x2 x3 x4 x5 x6 x7 x8 kX lD lF lG lH lI lJ lK lM lN lO lQ lR lU lV lW lX nk nt nu nw qE x32 cs u9 ki jH jI jJ jK jL jM jN (.slice pa ps.length cap) (.int .i64 ps.length) (.func (.func 133) #[] #[.pointer (some ⟨w.heap.size+3,0,none⟩),.pointer (some ⟨w.heap.size,0,none⟩),.pointer (some ⟨w.heap.size+1,0,none⟩)]) (re w5 τ d) hw5 (fun g w'=>∃ (u9 ki jH jI jJ jK jL jM jN:Value) (S:Nat->Prop) (now:List bt) (w₁:World),w₁.heap=(wGo w (.slice pa ps.length cap) num time at_ sv ps.length).heap/\w₁.os=w.os/\w₁.output=w.output/\H0 (w.heap.size+2) (w.heap.size+4) (Ms ss) (fun _=>False) w₁ S w' []/\gP (w.heap.size+4) ss num time ps ps.length S w' now/\g=endE (w.heap.size+2) x0 x1 x2 x3 x4 x5 x6 x7 x8 kX lD lF lG lH lI lJ lK lM lN lO lQ lR lU lV lW lX nk nt nu nw qE cs u9 ki jH jI jJ jK jL jM jN)
  (fun u9 ki jH jI jJ jK jL jM jN S w' now h1 h2=>⟨u9,ki,jH,jI,jJ,jK,jL,jM,jN,S,now,re w5 τ d,hw5,ho5,hu5,h1,h2,rfl⟩)
 simp only [ops2S,tailS,body88,Tryz.f88,Option.getD_some] at this
 exact this
end Lf
namespace Lf
open Go Go.Conc Go.RowKit
open Go.Proofs (Tryz.f46 Tryz.f88 Tryz.prog Tryz.func46 Tryz.ntmps46 Tryz.func88 Tryz.ntmps88 Tryz.func89)
variable {w : World} {Ro : Nat → Prop}
structure qH (w w':World) (ss:List bt) (num time:Int) (ps:List bC):Prop where
 os:w'.os=w.os
 output:w'.output=w.output
 size:w.heap.size<=w'.heap.size
 keep:∀ b,b<w.heap.size->¬ Ms ss b->w'.heap[b]? = w.heap[b]?
 taken:∃ (S:Nat->Prop) (now:List bt),(∀ b,S b->w.heap.size<=b)/\gP (w.heap.size+4) ss num time ps ps.length S w' now
theorem qH.re {w':World} {ss:List bt} {num time:Int} {ps:List bC} (h:qH w w' ss num time ps) (τ:Tape) (d:Nat):qH w (re w' τ d) ss num time ps:=by
 obtain ⟨h1,h2,h3,h4,S,now,h5,h6⟩:=h
 exact ⟨h1,h2,h3,h4,S,now,h5,h6.len,h6.rest,h6.done,h6.ok,h6.apart,h6.mine⟩
noncomputable def midE:Code:=match jR with
 | .seq _ (.seq _ (.seq _ (.seq x _)))=>x
 | _=>.skip
set_option maxRecDepth 100000 in
set_option maxHeartbeats 2000000 in
theorem end_e (R:Ending->World->Prop) (c:Nat) (x0 x1 x2 x3 x4 x5 x6 x7 x8 kX lD lF lG lH lI lJ lK lM lN lO lQ lR lU lV lW lX nk nt nu nw qE:Value) (cs:List Frame) (bn:∀ fr∈cs,aA fr) (u9 ki jH jI jJ jK jL jM jN:Value) (w:World) (hR:∀ τ d,R (.returned .nilIface) (re w τ d)) :
  af Tryz.prog (fun g w'=>∃ e fr,g=G fr cs/\aA fr/\R e w'/\fr.fn=46/\fr.leaving Tryz.prog w' e) (endE c x0 x1 x2 x3 x4 x5 x6 x7 x8 kX lD lF lG lH lI lJ lK lM lN lO lQ lR lU lV lW lX nk nt nu nw qE cs u9 ki jH jI jJ jK jL jM jN) w:=by
 have hP:=bk
 have hi4:∀ (a b d:Code),∀ it∈[Item.code a,.inLoop b,.inBlock 0,.code d],aR it:=fun a b d=>aJ trivial (aJ trivial (aJ trivial (aJ trivial (by simp))))
 have hi3:∀ (b d:Code),∀ it∈[Item.inLoop b,.inBlock 0,.code d],aR it:=fun b d=>aJ trivial (aJ trivial (aJ trivial (by simp)))
 have dY:∀ (c:Code),∀ it∈[Item.code c],aR it:=fun c=>aJ trivial (by simp)
 have ix:∀ it∈([]:List Item),aR it:=by simp
 simp only [endE,vh,o6,opsE,jR,Tryz.f46,Option.getD_some]
 refine af.val hP (w':=w) (v:=.bool false) rfl (by rfl) (fun τ d=>run_eq_of ?r0) (hi4 _ _ _) bn ?_
 case r0=>intro K hK;go_simp;exact hK
 try walk_nrm
 refine af.nil hP (hi4 _ _ _) bn ?_
 refine af.seq hP (hi3 _ _) bn ?_
 refine af.code (Q:=fun e a' w'=>e=.exit 0/\a'=_/\∃ τ d,w'=re w τ d) (e_.cond hP (t:=false) rfl (e_.exit hP (fun τ d=>⟨rfl,rfl,τ,d,rfl⟩))) ⟨hi4 _ _ _,bn,fun id a w x=>by obtain ⟨x,_⟩:=x;cases x;exact ⟨_,rfl⟩,fun id a w x=>by cases x.1⟩ (fun e a' w' g x y=>?_)
 obtain ⟨rfl,rfl,τ,d,rfl⟩:=x
 obtain ⟨k',hk',rfl⟩:=y
 cases hk'
 refine af.other ?_ τ d
 refine af.seq hP ix bn ?_
 refine af.region hP (dY _) bn ?_
 simp only [List.size_toArray,List.length_cons,List.length_nil,Nat.zero_add,List.range,List.range.loop]
 refine af.val hP (w':=w) (v:=.nilIface) rfl (by rfl) (fun τ d=>run_eq_of ?r1) (dY _) bn ?_
 case r1=>intro K hK;go_simp;exact hK
 try walk_nrm
 refine af.nil hP (dY _) bn ?_
 exact af.ret hP ix bn Tryz.func46 rfl (fun τ d=>by simp [results,go_sem,Tryz.f46]) hR
set_option maxRecDepth 100000 in
set_option maxHeartbeats 4000000 in
theorem rest_e (aj nU:Nat) (pa:Option Addr) (cap:Nat) (num time:Int) (at_ sv:Value) (ss:List bt) (ps:List bC) (H:qJ (w.heap.size+2) (w.heap.size+4) (Ms ss) Ro) (hn:∀ s∈ss,s.n<=1000000) (hN:ps.length<=1000000)
  (hlen:ss.length=ps.length) (hps:∀ (i:Nat) (s:bt) (p:bC),ss[i]? = some s->ps[i]? = some p->p.cG=some ⟨s.cj,0,none⟩) (se:∀ s∈ss,eG w s) (jD:Apart ss) (x1 x2 x3 x4 x5 x6 x7 kX lD lF lG lH lI lJ lK lM lN lO lQ lR lU lV lW lX nk nt nu nw qE x32:Value) (cs:List Frame) (bn:∀ fr∈cs,aA fr) (u9 ki jH jI jJ jK jL jM jN:Value)
  (r1 r2 r3 r4:Value) (hwt:w.heap[aj]? = some (.cells #[r1,r2,r3,r4,.slice pa ps.length cap] 153 (0,0))) (js:w.heap[nU]? = some (.cells #[.int .i64 num,.int .i64 time,at_,sv] 159 (0,0)))
  (hB:∀ w₁:World,w₁.heap=(wGo w (.slice pa ps.length cap) num time at_ sv ps.length).heap->SB Tryz.prog (w.heap.size+2) (RBw (w.heap.size+2) Ro) (mY (w.heap.size+2) Ro) (CB1 (w.heap.size+2) Ro) ps.length (ps.map (letter num time)) (fun _=>False) (born Tryz.prog (call133 (w.heap.size+3) w.heap.size (w.heap.size+1))) w₁) :
  af Tryz.prog (fun g w'=>∃ e fr,g=G fr cs/\aA fr/\(e=.returned .nilIface/\qH w w' ss num time ps)/\fr.fn=46/\fr.leaving Tryz.prog w' e) (G ((base 46).at ⟨#[(.pointer (some ⟨aj,0,none⟩)),x1,x2,x3,x4,x5,x6,x7,(.pointer (some ⟨nU,0,none⟩)),u9,kX,lD,lF,lG,lH,lI,lJ,lK,lM,lN,lO,lQ,lR,lU,lV,lW,lX,nk,nt,nu,nw,qE,x32,ki,jH,jI,jJ,jK,jL,jM,jN],[]⟩ [.code midE,.code o6]) cs) w:=by
 have hP:=bk
 have ix:∀ it∈([]:List Item),aR it:=by simp
 have dY:∀ (c:Code),∀ it∈[Item.code c],aR it:=fun c=>aJ trivial (by simp)
 have rC:∀ (c d:Code),∀ it∈[Item.code c,Item.code d],aR it:=fun c d=>aJ trivial (aJ trivial (by simp))
 have last:af Tryz.prog (fun g w'=>∃ e fr,g=G fr cs/\aA fr/\(e=.returned .nilIface/\qH w w' ss num time ps)/\fr.fn=46/\fr.leaving Tryz.prog w' e) (G ((base 46).at ⟨#[(.pointer (some ⟨aj,0,none⟩)),x1,x2,x3,x4,x5,x6,x7,(.pointer (some ⟨nU,0,none⟩)),u9,kX,lD,lF,lG,lH,lI,lJ,lK,lM,lN,lO,lQ,lR,lU,lV,lW,lX,(.pointer (some ⟨aj,0,none⟩)),(.pointer (some ⟨aj,0,none⟩)),(.pointer (some ⟨aj,4,none⟩)),(.slice pa ps.length cap),(.agg #[.int .i64 num,.int .i64 time,at_,sv]),x32,ki,jH,jI,jJ,jK,jL,jM,jN],[]⟩ [.inRegion sR [5],.code blockE,.code o6]) cs) w:=by
  have hs:=send_e pa cap num time at_ sv ss ps H hn hN hlen hps se jD (.pointer (some ⟨aj,0,none⟩)) x1 x2 x3 x4 x5 x6 x7 (.pointer (some ⟨nU,0,none⟩)) kX lD lF lG lH lI lJ lK lM lN lO lQ lR lU lV lW lX (.pointer (some ⟨aj,0,none⟩)) (.pointer (some ⟨aj,0,none⟩)) (.pointer (some ⟨aj,4,none⟩)) (.slice pa ps.length cap) (.agg #[.int .i64 num,.int .i64 time,at_,sv]) x32 cs bn u9 ki jH jI jJ jK jL jM jN hB
  have hr:∀ τ d,(execOp (Act.eval ⟨#[(.pointer (some ⟨aj,0,none⟩)),x1,x2,x3,x4,x5,x6,x7,(.pointer (some ⟨nU,0,none⟩)),u9,kX,lD,lF,lG,lH,lI,lJ,lK,lM,lN,lO,lQ,lR,lU,lV,lW,lX,(.pointer (some ⟨aj,0,none⟩)),(.pointer (some ⟨aj,0,none⟩)),(.pointer (some ⟨aj,4,none⟩)),(.slice pa ps.length cap),(.agg #[.int .i64 num,.int .i64 time,at_,sv]),x32,ki,jH,jI,jJ,jK,jL,jM,jN],[]⟩) (sR.getD 5 default)).run Tryz.prog (re w τ d)=.ok (.enter 88 #[.slice pa ps.length cap,.agg #[.int .i64 num,.int .i64 time,at_,sv]]) (re w τ d):=fun τ d=>by rw [run_call_body (o:=sR.getD 5 default) (args:=#[.tmp 30,.tmp 31]) (ats:=#[151,159]) rfl Tryz.func88 (by decide) rfl];simp only [List.map_toArray,List.map_cons,List.map_nil];rfl
  refine af.enter hP (o:=sR.getD 5 default) (by simp [sR,jR,Tryz.f46]) (by simp [sR,jR,Tryz.f46,Region.wanted]) hr (rC _ _) bn (hs.trans ?_)
  rintro g w' ⟨u9,ki,jH,jI,jJ,jK,jL,jM,jN,S,now,w₁,e1,e2,e3,h1,h2,rfl⟩
  refine end_e (fun e w'=>e=.returned .nilIface/\qH w w' ss num time ps) _ (.pointer (some ⟨aj,0,none⟩)) x1 x2 x3 x4 x5 x6 x7 (.pointer (some ⟨nU,0,none⟩)) kX lD lF lG lH lI lJ lK lM lN lO lQ lR lU lV lW lX (.pointer (some ⟨aj,0,none⟩)) (.pointer (some ⟨aj,0,none⟩)) (.pointer (some ⟨aj,4,none⟩)) (.slice pa ps.length cap) (.agg #[.int .i64 num,.int .i64 time,at_,sv]) cs bn u9 ki jH jI jJ jK jL jM jN w' (fun τ d=>⟨rfl,qH.re ⟨h1.os.trans e2,h1.output.trans e3,?_,fun b hb hm=>?_,S,now,fun b hb=>?_,h2⟩ τ d⟩)
  ·have:=h1.base;omega
  ·rw [h1.keep b (.inr (by omega)) (by have:=h1.low;omega) (by omega) hm,e1];exact wGo_old _ _ _ _ _ _ _ hb
  ·have:=(h1.own b hb).1;omega
 simp only [midE,o6,blockE,sR,jR,Tryz.f46,Option.getD_some] at last ⊢
 refine af.seq hP (dY _) bn ?_
 refine af.draw hP (rC _ _) bn (fun t=>?_)
 have sP:=schedule_mem (P:=Tryz.prog) (by kernel_rfl) sR t
 rw [show jP .any sR sR.size (Array.replicate sR.size false)=[[0,1,2,3,4,5],[0,1,2,4,3,5],[0,1,4,2,3,5],[0,4,1,2,3,5],[4,0,1,2,3,5]] from by decide +kernel] at sP
 simp only [sR,jR,Tryz.f46,Option.getD_some,List.mem_cons,List.not_mem_nil,or_false] at sP
 rcases sP with hm | hm | hm | hm | hm<;>rw [hm]<;>clear hm
 ·refine af.val hP (w':=w) (v:=.pointer (some ⟨aj,0,none⟩)) rfl (by rfl) (fun τ d=>run_eq_of ?r0) (rC _ _) bn ?_
  case r0 =>
   intro K hK
   go_simp
   exact hK
  try walk_nrm
  refine af.val hP (w':=w) (v:=.pointer (some ⟨aj,0,none⟩)) rfl (by rfl) (fun τ d=>run_eq_of ?r1) (rC _ _) bn ?_
  case r1 =>
   intro K hK
   go_simp
   exact hK
  try walk_nrm
  refine af.val hP (w':=w) (v:=.pointer (some ⟨aj,4,none⟩)) rfl (by rfl) (fun τ d=>run_eq_of ?r2) (rC _ _) bn ?_
  case r2 =>
   intro K hK
   go_simp
   exact hK
  try walk_nrm
  refine af.val hP (w':=w) (v:=.slice pa ps.length cap) rfl (by rfl) (fun τ d=>run_eq_of ?r3) (rC _ _) bn ?_
  case r3 =>
   intro K hK
   have lj:(re w τ d).cell? ⟨aj,4,none⟩=some (.slice pa ps.length cap):=ae (w:=re w τ d) hwt rfl
   go_simp
   exact hK
  try walk_nrm
  refine af.val hP (w':=w) (v:=.agg #[.int .i64 num,.int .i64 time,at_,sv]) rfl (by rfl) (fun τ d=>run_eq_of ?r4) (rC _ _) bn ?_
  case r4 =>
   intro K hK
   have lj:(re w τ d).cell? ⟨nU,0,none⟩=some (.int .i64 num):=ae (w:=re w τ d) js rfl
   have kJ:(re w τ d).cell? ⟨nU,1,none⟩=some (.int .i64 time):=ae (w:=re w τ d) js rfl
   have hc2:(re w τ d).cell? ⟨nU,2,none⟩=some (at_):=ae (w:=re w τ d) js rfl
   have r_:(re w τ d).cell? ⟨nU,3,none⟩=some (sv):=ae (w:=re w τ d) js rfl
   go_simp
   exact hK
  try walk_nrm
  exact last
 ·refine af.val hP (w':=w) (v:=.pointer (some ⟨aj,0,none⟩)) rfl (by rfl) (fun τ d=>run_eq_of ?r0) (rC _ _) bn ?_
  case r0 =>
   intro K hK
   go_simp
   exact hK
  try walk_nrm
  refine af.val hP (w':=w) (v:=.pointer (some ⟨aj,0,none⟩)) rfl (by rfl) (fun τ d=>run_eq_of ?r1) (rC _ _) bn ?_
  case r1 =>
   intro K hK
   go_simp
   exact hK
  try walk_nrm
  refine af.val hP (w':=w) (v:=.pointer (some ⟨aj,4,none⟩)) rfl (by rfl) (fun τ d=>run_eq_of ?r2) (rC _ _) bn ?_
  case r2 =>
   intro K hK
   go_simp
   exact hK
  try walk_nrm
  refine af.val hP (w':=w) (v:=.agg #[.int .i64 num,.int .i64 time,at_,sv]) rfl (by rfl) (fun τ d=>run_eq_of ?r4) (rC _ _) bn ?_
  case r4 =>
   intro K hK
   have lj:(re w τ d).cell? ⟨nU,0,none⟩=some (.int .i64 num):=ae (w:=re w τ d) js rfl
   have kJ:(re w τ d).cell? ⟨nU,1,none⟩=some (.int .i64 time):=ae (w:=re w τ d) js rfl
   have hc2:(re w τ d).cell? ⟨nU,2,none⟩=some (at_):=ae (w:=re w τ d) js rfl
   have r_:(re w τ d).cell? ⟨nU,3,none⟩=some (sv):=ae (w:=re w τ d) js rfl
   go_simp
   exact hK
  try walk_nrm
  refine af.val hP (w':=w) (v:=.slice pa ps.length cap) rfl (by rfl) (fun τ d=>run_eq_of ?r3) (rC _ _) bn ?_
  case r3 =>
   intro K hK
   have lj:(re w τ d).cell? ⟨aj,4,none⟩=some (.slice pa ps.length cap):=ae (w:=re w τ d) hwt rfl
   go_simp
   exact hK
  try walk_nrm
  exact last
 ·refine af.val hP (w':=w) (v:=.pointer (some ⟨aj,0,none⟩)) rfl (by rfl) (fun τ d=>run_eq_of ?r0) (rC _ _) bn ?_
  case r0 =>
   intro K hK
   go_simp
   exact hK
  try walk_nrm
  refine af.val hP (w':=w) (v:=.pointer (some ⟨aj,0,none⟩)) rfl (by rfl) (fun τ d=>run_eq_of ?r1) (rC _ _) bn ?_
  case r1 =>
   intro K hK
   go_simp
   exact hK
  try walk_nrm
  refine af.val hP (w':=w) (v:=.agg #[.int .i64 num,.int .i64 time,at_,sv]) rfl (by rfl) (fun τ d=>run_eq_of ?r4) (rC _ _) bn ?_
  case r4 =>
   intro K hK
   have lj:(re w τ d).cell? ⟨nU,0,none⟩=some (.int .i64 num):=ae (w:=re w τ d) js rfl
   have kJ:(re w τ d).cell? ⟨nU,1,none⟩=some (.int .i64 time):=ae (w:=re w τ d) js rfl
   have hc2:(re w τ d).cell? ⟨nU,2,none⟩=some (at_):=ae (w:=re w τ d) js rfl
   have r_:(re w τ d).cell? ⟨nU,3,none⟩=some (sv):=ae (w:=re w τ d) js rfl
   go_simp
   exact hK
  try walk_nrm
  refine af.val hP (w':=w) (v:=.pointer (some ⟨aj,4,none⟩)) rfl (by rfl) (fun τ d=>run_eq_of ?r2) (rC _ _) bn ?_
  case r2 =>
   intro K hK
   go_simp
   exact hK
  try walk_nrm
  refine af.val hP (w':=w) (v:=.slice pa ps.length cap) rfl (by rfl) (fun τ d=>run_eq_of ?r3) (rC _ _) bn ?_
  case r3 =>
   intro K hK
   have lj:(re w τ d).cell? ⟨aj,4,none⟩=some (.slice pa ps.length cap):=ae (w:=re w τ d) hwt rfl
   go_simp
   exact hK
  try walk_nrm
  exact last
 ·refine af.val hP (w':=w) (v:=.pointer (some ⟨aj,0,none⟩)) rfl (by rfl) (fun τ d=>run_eq_of ?r0) (rC _ _) bn ?_
  case r0 =>
   intro K hK
   go_simp
   exact hK
  try walk_nrm
  refine af.val hP (w':=w) (v:=.agg #[.int .i64 num,.int .i64 time,at_,sv]) rfl (by rfl) (fun τ d=>run_eq_of ?r4) (rC _ _) bn ?_
  case r4 =>
   intro K hK
   have lj:(re w τ d).cell? ⟨nU,0,none⟩=some (.int .i64 num):=ae (w:=re w τ d) js rfl
   have kJ:(re w τ d).cell? ⟨nU,1,none⟩=some (.int .i64 time):=ae (w:=re w τ d) js rfl
   have hc2:(re w τ d).cell? ⟨nU,2,none⟩=some (at_):=ae (w:=re w τ d) js rfl
   have r_:(re w τ d).cell? ⟨nU,3,none⟩=some (sv):=ae (w:=re w τ d) js rfl
   go_simp
   exact hK
  try walk_nrm
  refine af.val hP (w':=w) (v:=.pointer (some ⟨aj,0,none⟩)) rfl (by rfl) (fun τ d=>run_eq_of ?r1) (rC _ _) bn ?_
  case r1 =>
   intro K hK
   go_simp
   exact hK
  try walk_nrm
  refine af.val hP (w':=w) (v:=.pointer (some ⟨aj,4,none⟩)) rfl (by rfl) (fun τ d=>run_eq_of ?r2) (rC _ _) bn ?_
  case r2 =>
   intro K hK
   go_simp
   exact hK
  try walk_nrm
  refine af.val hP (w':=w) (v:=.slice pa ps.length cap) rfl (by rfl) (fun τ d=>run_eq_of ?r3) (rC _ _) bn ?_
  case r3 =>
   intro K hK
   have lj:(re w τ d).cell? ⟨aj,4,none⟩=some (.slice pa ps.length cap):=ae (w:=re w τ d) hwt rfl
   go_simp
   exact hK
  try walk_nrm
  exact last
 ·refine af.val hP (w':=w) (v:=.agg #[.int .i64 num,.int .i64 time,at_,sv]) rfl (by rfl) (fun τ d=>run_eq_of ?r4) (rC _ _) bn ?_
  case r4 =>
   intro K hK
   have lj:(re w τ d).cell? ⟨nU,0,none⟩=some (.int .i64 num):=ae (w:=re w τ d) js rfl
   have kJ:(re w τ d).cell? ⟨nU,1,none⟩=some (.int .i64 time):=ae (w:=re w τ d) js rfl
   have hc2:(re w τ d).cell? ⟨nU,2,none⟩=some (at_):=ae (w:=re w τ d) js rfl
   have r_:(re w τ d).cell? ⟨nU,3,none⟩=some (sv):=ae (w:=re w τ d) js rfl
   go_simp
   exact hK
  try walk_nrm
  refine af.val hP (w':=w) (v:=.pointer (some ⟨aj,0,none⟩)) rfl (by rfl) (fun τ d=>run_eq_of ?r0) (rC _ _) bn ?_
  case r0 =>
   intro K hK
   go_simp
   exact hK
  try walk_nrm
  refine af.val hP (w':=w) (v:=.pointer (some ⟨aj,0,none⟩)) rfl (by rfl) (fun τ d=>run_eq_of ?r1) (rC _ _) bn ?_
  case r1 =>
   intro K hK
   go_simp
   exact hK
  try walk_nrm
  refine af.val hP (w':=w) (v:=.pointer (some ⟨aj,4,none⟩)) rfl (by rfl) (fun τ d=>run_eq_of ?r2) (rC _ _) bn ?_
  case r2 =>
   intro K hK
   go_simp
   exact hK
  try walk_nrm
  refine af.val hP (w':=w) (v:=.slice pa ps.length cap) rfl (by rfl) (fun τ d=>run_eq_of ?r3) (rC _ _) bn ?_
  case r3 =>
   intro K hK
   have lj:(re w τ d).cell? ⟨aj,4,none⟩=some (.slice pa ps.length cap):=ae (w:=re w τ d) hwt rfl
   go_simp
   exact hK
  try walk_nrm
  exact last
end Lf
end Go.Proofs.YtpbbmagjhkakgaaGreatDoor
