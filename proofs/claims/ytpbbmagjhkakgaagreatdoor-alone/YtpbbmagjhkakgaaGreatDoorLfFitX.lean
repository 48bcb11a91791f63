import Derived.Test.YtpbbmagjhkakgaaGreatDoorLfExec
namespace Go.Proofs.YtpbbmagjhkakgaaGreatDoor.Lf
open Go Go.Extern
variable {P : Program}
theorem cY (P:Program) (x0):Fit P (fun _=>True) 0 (@Go.Extern.Rtype.ofHandle x0):=by
 unfold Go.Extern.Rtype.ofHandle
 exact nQ
theorem dP (P:Program) (x):Fit P (fun _=>True) 0 (ReflectliteValue.partsAny x):=by
 cases x with
 | agg cs =>
  rcases cs with ⟨_ | ⟨a,_ | ⟨b,_ | ⟨c,_ | ⟨d,l⟩⟩⟩⟩⟩
  ·exact ag P _
  ·exact ag P _
  ·exact ag P _
  ·cases c with
   | int k n =>
    cases k with
    | u64 =>
     rcases n with (_ | n) | n
     ·exact aq P _
     ·cases b with
      | pointer r =>
       cases r with
       | none=>exact ag P _
       | some r=>exact aQ (s:=Rtype.ofHandle a) (cY P _) fun _=>aq P _
      | _=>exact ag P _
     ·cases b with
      | pointer r =>
       cases r with
       | none=>exact ag P _
       | some r=>exact aQ (s:=Rtype.ofHandle a) (cY P _) fun _=>aq P _
      | _=>exact ag P _
    | _=>cases b with
     | pointer r=>cases r<;>exact ag P _
     | _=>exact ag P _
   | _=>cases b with
     | pointer r=>cases r<;>exact ag P _
     | _=>exact ag P _
  ·exact ag P _
 | _=>exact ag P _
theorem gL (P:Program) (x):Fit P (fun _=>True) 0 (ReflectliteValue.errorText x):=by
 rcases x with ⟨_ | ⟨a,_ | ⟨b,l⟩⟩⟩
 ·exact ag P _
 ·cases a with
  | pointer r =>
   cases r with
   | none=>exact (fQ (.nilDeref):Fit P (fun _=>True) 0 (runtimePanic .nilDeref:Sem Value))
   | some r=>exact aQ (s:=load r) (mH P _ _) fun _=>aQ (jf P _) fun _=>aQ (mH P _ _) fun _=>aQ (fj P _) fun _=>aq P _
  | _=>exact ag P _
 ·exact ag P _
theorem cM (P:Program) (x0):Fit P (fun _=>True) 0 (@Go.Extern.Rtype.under x0):=by
 unfold Go.Extern.Rtype.under
 exact nQ
theorem jd (P:Program) (x0):Fit P (fun _=>True) 0 (@Go.Extern.Rtype.elem? x0):=by
 unfold Go.Extern.Rtype.elem?
 exact mh (@cM P)
theorem dp (P:Program) {x0} (x1) (x2):Fit P (fun _=>True) 0 (@Go.Extern.ReflectliteValue.valueError x0 x1 x2):=by
 unfold Go.Extern.ReflectliteValue.valueError
 exact zB4 (@iu P) (@fO P) (@ru P) (@iG P)
theorem iQ (P:Program) (x0) (x1) (x2) (x3):Fit P (fun _=>True) 0 (@Go.Extern.ReflectliteValue.isNil x0 x1 x2 x3):=by
 unfold Go.Extern.ReflectliteValue.isNil
 exact zB3 (@dp P) (@fF P) (@ck P)
theorem dD (P:Program) (x0) (x1):Fit P (fun _=>True) 0 (@Go.Extern.Rtype.noPack x0 x1):=by
 unfold Go.Extern.Rtype.noPack
 exact mh (@ck P)
theorem cL (P:Program) (x0):Fit P (fun _=>True) 0 (@Go.Extern.ReflectliteValue.parts x0):=by
 unfold Go.Extern.ReflectliteValue.parts
 exact uo (@dP P) (@dD P)
theorem eH (P:Program) (x0):Fit P (fun _=>True) 0 (@Go.Extern.RuntimeError.described x0):=by
 unfold Go.Extern.RuntimeError.described
 exact mh (@gD P)
theorem fi (P:Program) (x0):Fit P (fun _=>True) 0 (@Go.Extern.Rtype.handle x0):=by
 unfold Go.Extern.Rtype.handle
 exact nQ
theorem eD (P:Program) (x0):Fit P (fun _=>True) 0 (@Go.Extern.Rtype.kind x0):=by
 unfold Go.Extern.Rtype.kind
 exact mh (@cM P)
theorem fh (P:Program) (x0) (x1) (x2):Fit P (fun _=>True) 0 (@Go.Extern.ReflectliteValue.mk x0 x1 x2):=by
 unfold Go.Extern.ReflectliteValue.mk
 exact uo (@fi P) (@eD P)
theorem cF (P:Program) (x):Fit P (fun _=>True) 0 (ReflectliteType.ofRtype x):=by
 cases x with
 | agg cs =>
  rcases cs with ⟨_ | ⟨a,_ | ⟨b,l⟩⟩⟩
  ·exact ag P _
  ·exact aQ (s:=Rtype.ofHandle a) (cY P _) fun t=>aQ (dD P _ _) fun _=>aq P _
  ·exact ag P _
 | _=>exact ag P _
theorem bc (P:Program) (f:TypeId->Sem Value) (hf:∀ t,Fit P (fun _=>True) 0 (f t)) (x):Fit P (fun _=>True) 0 (ReflectliteType.method f x):=by
 rcases x with ⟨_ | ⟨a,_ | ⟨b,l⟩⟩⟩
 ·exact ag P _
 ·exact aQ (s:=ReflectliteType.ofRtype a) (cF P a) fun t=>hf t
 ·exact ag P _
theorem kF (P:Program) (x0):Fit P (fun _=>True) 0 (@Go.Extern.RuntimeError.text x0):=by
 unfold Go.Extern.RuntimeError.text
 exact nQ
theorem ie (P:Program) (x0):Fit P (fun _=>True) 0 (@Go.Extern.ReflectliteType.pkgPath x0):=by
 unfold Go.Extern.ReflectliteType.pkgPath
 exact nQ
theorem di (P:Program) (x0) (x1):Fit P (fun _=>True) 0 (@Go.Extern.Rtype.noPackMethods x0 x1):=by
 unfold Go.Extern.Rtype.noPackMethods
 exact mh (@ck P)
theorem dS (P:Program) (x0) (x1):Fit P (fun _=>True) 0 (@Go.Extern.Rtype.implements x0 x1):=by
 unfold Go.Extern.Rtype.implements
 exact uo (@di P) (@cM P)
theorem gw (P:Program) (x0) (x1):Fit P (fun _=>True) 0 (@Go.Extern.ReflectliteType.implements_ x0 x1):=by
 unfold Go.Extern.ReflectliteType.implements_
 exact zB6 (@eD P) (@di P) (@dD P) (@dS P) (@hU P) (@ck P)
theorem gX (P:Program) (x):Fit P (fun _=>True) 0 (RuntimeError.boundsError x):=by
 rcases x with ⟨_ | ⟨a,_ | ⟨b,l⟩⟩⟩
 ·exact ag P _
 ·cases a with
  | agg cs =>
   rcases cs with ⟨_ | ⟨a,_ | ⟨b,_ | ⟨c,_ | ⟨d,_ | ⟨e,l⟩⟩⟩⟩⟩⟩
   ·exact ag P _
   ·exact ag P _
   ·exact ag P _
   ·exact ag P _
   ·cases a with
    | int k x =>
     cases b with
     | int k y =>
      cases c with
      | bool s =>
       cases d with
       | int k z =>
        have key:∀ (o:Option String) (g:String->String),Fit P (fun _=>True) 0 (match o with | some fmt=>RuntimeError.text (g fmt) | none=>stuck "boundsError: no such code":Sem Value):=by
         intro o g
         cases o with
         | none=>exact ag P _
         | some f=>exact aq P _
        exact key ((if s&&x<0 then RuntimeError.boundsNegErrorFmts else RuntimeError.boundsErrorFmts)[z.toNat]?) (fun fmt=> "runtime error: "++(fmt.replace "%x" (toString (if s then x else IntKind.u64.wrap x))).replace "%y" (toString y))
       | _=>exact ag P _
      | _=>exact ag P _
     | _=>exact ag P _
    | _=>exact ag P _
   ·exact ag P _
  | _=>exact ag P _
 ·exact ag P _
theorem gW (P:Program) (x0):Fit P (fun _=>True) 0 (@Go.Extern.Rtype.hasName x0):=by
 unfold Go.Extern.Rtype.hasName
 exact nQ
theorem dX (P:Program) (x0) (x1):Fit P (fun _=>True) 0 (@Go.Extern.Rtype.directlyAssignable x0 x1):=by
 unfold Go.Extern.Rtype.directlyAssignable
 exact zB3 (@gW P) (@cM P) (@ck P)
theorem cD (P:Program) (x0) (x1):Fit P (fun _=>True) 0 (@Go.Extern.Rtype.noPackNamed x0 x1):=by
 unfold Go.Extern.Rtype.noPackNamed
 exact mh (@ck P)
theorem dT (P:Program) (x0):Fit P (fun _=>True) 0 (@Go.Extern.Rtype.spelt x0):=by
 unfold Go.Extern.Rtype.spelt
 exact uo (@cD P) (@gD P)
theorem jy (P:Program) (x):Fit P (fun _=>True) 0 (ReflectliteValue.set x):=by
 rcases x with ⟨_ | ⟨a,_ | ⟨b,_ | ⟨c,l⟩⟩⟩⟩
 ·exact ag P _
 ·exact ag P _
 ·refine aQ (s:=ReflectliteValue.parts a) (cL P a) fun o=>?_
  repeat' (first | (with_reducible first | exact aq P _ | apply cL | apply dX | apply dS | apply eD | apply dT | apply fF | apply pS | apply aF | apply hU | apply aQ | apply ck) | (intro _) | split | (dsimp only))
 ·exact ag P _
theorem dO (P:Program) (f:TypeId->Sem Value) (hf:∀ t,Fit P (fun _=>True) 0 (f t)) (x):Fit P (fun _=>True) 0 (ReflectliteType.abiMethod f x):=by
 rcases x with ⟨_ | ⟨a,_ | ⟨b,l⟩⟩⟩
 ·exact ag P _
 ·exact aQ (s:=Rtype.ofHandle a) (cY P _) fun t=>aQ (dD P _ _) fun _=>hf t
 ·exact ag P _
theorem fC (P:Program) (x):Fit P (fun _=>True) 0 (RuntimeError.unhashableTypeError x):=by
 rcases x with ⟨_ | ⟨a,_ | ⟨b,l⟩⟩⟩
 ·exact ag P _
 ·cases a with
  | agg cs =>
   rcases cs with ⟨_ | ⟨a,_ | ⟨b,l⟩⟩⟩
   ·exact ag P _
   ·refine aQ (s:=RuntimeError.described a) (eH P a) fun o=>?_
    cases o with
    | none=>exact (fQ (.nilDeref):Fit P (fun _=>True) 0 (runtimePanic .nilDeref:Sem Value))
    | some t=>exact aq P _
   ·exact ag P _
  | _=>exact ag P _
 ·exact ag P _
theorem cK (P:Program) (x0):Fit P (fun _=>True) 0 (@Go.Extern.ReflectliteType.toType x0):=by
 unfold Go.Extern.ReflectliteType.toType
 exact uo (@fi P) (@ru P)
theorem iP (P:Program) (x):Fit P (fun _=>True) 0 (ReflectliteType.typeOf x):=by
 rcases x with ⟨_ | ⟨a,_ | ⟨b,l⟩⟩⟩
 ·exact ag P _
 ·cases a with
  | nilIface=>exact aq P _
  | iface t v=>exact (cK P t:Fit P (fun _=>True) 0 (ReflectliteType.toType t))
  | _=>exact ag P _
 ·exact ag P _
theorem ep (P:Program) (x0):Fit P (fun _=>True) 0 (@Go.Extern.ReflectliteValue.unpack x0):=by
 unfold Go.Extern.ReflectliteValue.unpack
 exact uo (@fh P) (@iu P)
theorem sG (P:Program) (a n out):Fit P (fun _=>True) 0 (Bytes.loadBytes a n out):=by
 induction n generalizing a out with
 | zero=>exact aq P _
 | succ n ih =>
  unfold Bytes.loadBytes
  exact uo ih (@mH P)
theorem fit_bytesOf (P:Program) (v):Fit P (fun _=>True) 0 (Bytes.bytesOf v):=by
 unfold Bytes.bytesOf
 exact mh (@sG P)
theorem iO (P:Program) (x):Fit P (fun _=>True) 0 (BytealgCompare.compare x):=by
 rcases x with ⟨_ | ⟨a,_ | ⟨b,_ | ⟨c,l⟩⟩⟩⟩
 ·exact ag P _
 ·exact ag P _
 ·exact aQ (s:=Bytes.bytesOf a) (fit_bytesOf P a) fun _=>aQ (fit_bytesOf P b) fun _=>aq P _
 ·exact ag P _
theorem lg (P:Program) (x):Fit P (fun _=>True) 0 (AbiNoEscape.same x):=by
 rcases x with ⟨_ | ⟨a,_ | ⟨b,l⟩⟩⟩
 ·exact ag P _
 ·exact aq P _
 ·exact ag P _
theorem jc (P:Program) (x0) (x1) (x2) (x3):Fit P (fun _=>True) 0 (@Go.Extern.ReflectliteValue.elem x0 x1 x2 x3):=by
 unfold Go.Extern.ReflectliteValue.elem
 exact zB6 (@jd P) (@ep P) (@fh P) (@dp P) (@fF P) (@ck P)
theorem iR (P:Program) (x0):Fit P (fun _=>True) 0 (@Go.Extern.RuntimeError.pkgpathOf x0):=by
 unfold Go.Extern.RuntimeError.pkgpathOf
 exact nQ
theorem fM (P:Program) (x0):Fit P (fun _=>True) 0 (@Go.Extern.RuntimeError.typeAssertionError x0):=by
 unfold Go.Extern.RuntimeError.typeAssertionError
 repeat' (first | (with_reducible first | exact aq P _ | apply eH | apply kF | apply iR | apply jf | apply jS | apply mH | apply aF | apply fQ | apply aQ | apply ck) | (intro _) | split | (exact trivial) | (dsimp only))
theorem dW (P:Program) (s:String) (f:TypeId->TypeId->Sem Bool) (hf:∀ t u,Fit P (fun _=>True) 0 (f t u)) (x):Fit P (fun _=>True) 0 (ReflectliteType.relation s f x):=by
 rcases x with ⟨_ | ⟨a,_ | ⟨b,_ | ⟨c,l⟩⟩⟩⟩
 ·exact ag P _
 ·exact ag P _
 ·cases b with
  | nilIface=>exact (hU P ("reflect: nil type passed to Type."++s):Fit P (fun _=>True) 0 (panicString ("reflect: nil type passed to Type."++s):Sem Value))
  | iface t u=>exact aQ (s:=ReflectliteType.ofRtype u) (cF P u) fun _=>aQ (cF P a) fun _=>aQ (hf _ _) fun _=>aq P _
  | _=>exact ag P _
 ·exact ag P _
theorem cm (P:Program) (z:Sem Value) (f) (hz:Fit P (fun _=>True) 0 z) (hf:∀ a b c d,Fit P (fun _=>True) 0 (f a b c d)) (x):Fit P (fun _=>True) 0 (ReflectliteValue.methodAny z f x):=by
 rcases x with ⟨_ | ⟨a,_ | ⟨b,l⟩⟩⟩
 ·exact ag P _
 ·refine aQ (s:=ReflectliteValue.partsAny a) (dP P a) fun o=>?_
  cases o with
  | none=>exact hz
  | some y=>exact hf _ _ _ _
 ·exact ag P _
theorem jx (P:Program) (x0):Fit P (fun _=>True) 0 (@Go.Extern.ReflectliteType.name x0):=by
 unfold Go.Extern.ReflectliteType.name
 exact zB3 (@gW P) (@dT P) (@ck P)
theorem gp (P:Program) (x0) (x1):Fit P (fun _=>True) 0 (@Go.Extern.ReflectliteType.assignableTo x0 x1):=by
 unfold Go.Extern.ReflectliteType.assignableTo
 exact zB4 (@dX P) (@dS P) (@di P) (@ck P)
theorem bK (P:Program) (z:Sem Value) (f) (hz:Fit P (fun _=>True) 0 z) (hf:∀ a b c d,Fit P (fun _=>True) 0 (f a b c d)) (x):Fit P (fun _=>True) 0 (ReflectliteValue.method z f x):=by
 rcases x with ⟨_ | ⟨a,_ | ⟨b,l⟩⟩⟩
 ·exact ag P _
 ·refine aQ (s:=ReflectliteValue.parts a) (cL P a) fun o=>?_
  cases o with
  | none=>exact hz
  | some y=>exact hf _ _ _ _
 ·exact ag P _
theorem jw (P:Program) (x0):Fit P (fun _=>True) 0 (@Go.Extern.ReflectliteType.elem x0):=by
 unfold Go.Extern.ReflectliteType.elem
 exact zB4 (@jd P) (@cK P) (@dT P) (@hU P)
theorem f_ (P:Program) (x0) (x1):Fit P (fun _=>True) 0 (@Go.Extern.Rtype.noPackHeld x0 x1):=by
 unfold Go.Extern.Rtype.noPackHeld
 exact mh (@ck P)
theorem b_ (P:Program):∀ x∈ReflectliteType.rows,∀ args,Fit P (fun _=>True) 0 (x.2 args):=by
 intro x hx args
 simp only [ReflectliteType.rows,List.mem_cons,List.not_mem_nil,or_false] at hx
 rcases hx with rfl | rfl | rfl | rfl | rfl | rfl | rfl | rfl | rfl | rfl | rfl | rfl
 ·exact iP P _
 ·exact bc P _ (jw P) _
 ·exact bc P _ (fun t=>aQ (f_ P _ _) fun _=>aQ (bg P _) fun _=>aq P _) _
 ·exact bc P _ (fun t=>aQ (cD P _ _) fun _=>aQ (dT P _) fun _=>aq P _) _
 ·exact bc P _ (fun t=>aQ (cD P _ _) fun _=>jx P _) _
 ·exact bc P _ (fun t=>aQ (cD P _ _) fun _=>ie P _) _
 ·exact dW P _ _ (gw P) _
 ·exact dW P _ _ (gp P) _
 ·exact bc P _ (fi P) _
 ·exact dO P _ (fun t=>aQ (eD P _) fun _=>aq P _) _
 ·exact dO P _ (fun t=>aQ (f_ P _ _) fun _=>aQ (bg P _) fun _=>aq P _) _
 ·exact aQ (fj P _) fun _=>aq P _
theorem bG (P:Program):∀ x∈RuntimeError.rows,∀ args,Fit P (fun _=>True) 0 (x.2 args):=by
 intro x hx args
 simp only [RuntimeError.rows,List.mem_cons,List.not_mem_nil,or_false] at hx
 rcases hx with rfl | rfl | rfl | rfl | rfl | rfl | rfl | rfl | rfl | rfl | rfl | rfl | rfl | rfl | rfl
 ·exact aQ (jf P _) fun _=>aq P _
 ·exact aQ (jf P _) fun _=>aq P _
 ·exact aQ (fit_asAgg P _) fun _=>aQ (jf P _) fun _=>aq P _
 ·exact aQ (fit_asAgg P _) fun _=>aQ (fj P _) fun _=>aq P _
 ·exact gX P _
 ·exact fM P _
 ·exact aq P _
 ·exact fC P _
 all_goals exact aq P _
theorem gF {α:Type} {L:α->Prop} (s:String) (k:Nat):Fit P L 0 (ReflectliteValue.valueError s k:Sem α):=by
 unfold ReflectliteValue.valueError
 exact aQ (ru P _) fun _=>aQ (fO P _) fun _=>aQ (iu P _ _) fun _=>iG P _
theorem nX (P:Program) (a b c d):Fit P (fun _=>True) 0 (ReflectliteValue.len a b c d):=by
 unfold ReflectliteValue.len
 exact zB5 (@gF P) (@cM P) (@fF P) (@oz P) (@ck P)
theorem eU (P:Program):∀ x∈ReflectliteValue.rows,∀ args,Fit P (fun _=>True) 0 (x.2 args):=by
 intro x hx args
 simp only [ReflectliteValue.rows,List.mem_cons,List.not_mem_nil,or_false] at hx
 rcases hx with rfl | rfl | rfl | rfl | rfl | rfl | rfl | rfl | rfl | rfl
 ·exact ep P _
 ·exact cm P _ _ (aq P _) (fun _ _ _ _=>aq P _) _
 ·exact bK P _ _ (aq P _) (fun _ _ _ _=>aq P _) _
 ·exact cm P _ _ (gF _ _) (fun _ _ _ _=>cK P _) _
 ·exact cm P _ _ (aq P _) (fun _ _ _ _=>aq P _) _
 ·exact bK P _ _ (gF _ _) (iQ P) _
 ·exact bK P _ _ (gF _ _) (nX P) _
 ·exact bK P _ _ (gF _ _) (jc P) _
 ·exact jy P _
 ·exact gL P _
theorem fit_overlaps (P:Program) (x0 x1 x):Fit P (fun _=>True) 0 (SlicesOverlaps.overlaps x0 x1 x):=by
 rcases x with ⟨_ | ⟨u,_ | ⟨v,_ | ⟨c,l⟩⟩⟩⟩
 ·exact ag P _
 ·exact ag P _
 ·cases u with
  | slice a la ca =>
   cases v with
   | slice b lb cb =>
    have m4:∀ (h1:Option Addr->Nat->Nat->Option Addr->Nat->Nat->Sem Value) (h2:Array Value->Sem Value),SlicesOverlaps.overlaps.match_4 (fun _=>Sem Value) ⟨[Value.slice a la ca,Value.slice b lb cb]⟩ h1 h2=h1 a la ca b lb cb:=fun _ _=>rfl
    unfold SlicesOverlaps.overlaps
    rw [m4]
    exact zB4 (@pP P) (@tO P) (@uT P) (@ck P)
   | _=>exact ag P _
  | _=>exact ag P _
 ·exact ag P _
end Go.Proofs.YtpbbmagjhkakgaaGreatDoor.Lf
