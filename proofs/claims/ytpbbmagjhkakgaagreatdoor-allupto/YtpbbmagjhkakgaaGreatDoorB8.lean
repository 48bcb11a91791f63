import Derived.Test.YtpbbmagjhkakgaaGreatDoorB7
namespace Go.Proofs.YtpbbmagjhkakgaaGreatDoor
namespace Lf
open Go Go.Extern
variable{P:Program}
theorem fY(P x0):Fit P (λ_=>True) 0 (@Go.Extern.Rtype.ofHandle x0):=by
 unfold Go.Extern.Rtype.ofHandle;exact qO
theorem gR(P x):Fit P (λ_=>True) 0 (ReflectliteValue.partsAny x):=by
 cases x with
 |agg e=>
  obtain⟨_|⟨a,_|⟨b,_|⟨c,_|⟨d,l⟩⟩⟩⟩⟩:=e
  .exact aH P _
  .exact aH P _
  .exact aH P _
  .cases c with
   |int k n=>
    cases k with
    |u64=>
     obtain(_|n)|n:=n
     .exact aO P _
     .cases b with
      |pointer r=>
       cases r with
       |none=>exact aH P _
       |some r=>exact bV (s:=Rtype.ofHandle a) (fY P _) λ_=>aO P _
      |_=>exact aH P _
     .cases b with
      |pointer r=>
       cases r with
       |none=>exact aH P _
       |some r=>exact bV (s:=Rtype.ofHandle a) (fY P _) λ_=>aO P _
      |_=>exact aH P _
    |_=>cases b with
     |pointer r=>cases r<;>exact aH P _
     |_=>exact aH P _
   |_=>cases b with
     |pointer r=>cases r<;>exact aH P _
     |_=>exact aH P _
  .exact aH P _
 |_=>exact aH P _
theorem kM(P x):Fit P (λ_=>True) 0 (ReflectliteValue.errorText x):=by
 obtain⟨_|⟨a,_|⟨b,l⟩⟩⟩:=x
 .exact aH P _
 .cases a with
  |pointer r=>
   cases r with
   |none=>exact(jF (.nilDeref):Fit P (λ_=>True) 0 (runtimePanic .nilDeref:Sem aF))
   |some r=>exact bV (s:=load r) (pT P _ _) λ_=>bV (mN P _) λ_=>bV (pT P _ _) λ_=>bV (jf P _) λ_=>aO P _
  |_=>exact aH P _
 .exact aH P _
theorem fK(P x0):Fit P (λ_=>True) 0 (@Go.Extern.Rtype.under x0):=by
 unfold Go.Extern.Rtype.under;exact qO
theorem mL(P x0):Fit P (λ_=>True) 0 (@Go.Extern.Rtype.elem? x0):=by
 unfold Go.Extern.Rtype.elem?;exact pC (@fK P)
theorem gq(P){x0}(x1 x2):Fit P (λ_=>True) 0 (@Go.Extern.ReflectliteValue.valueError x0 x1 x2):=by
 unfold Go.Extern.ReflectliteValue.valueError;exact Pq (@lQ P) (@jD P) (@vg P) (@mh P)
theorem mr(P x0 x1 x2 x3):Fit P (λ_=>True) 0 (@Go.Extern.ReflectliteValue.isNil x0 x1 x2 x3):=by
 unfold Go.Extern.ReflectliteValue.isNil;exact Pp (@gq P) (@jo P) (@eK P)
theorem gG(P x0 x1):Fit P (λ_=>True) 0 (@Go.Extern.Rtype.noPack x0 x1):=by
 unfold Go.Extern.Rtype.noPack;exact pC (@eK P)
theorem fE(P x0):Fit P (λ_=>True) 0 (@Go.Extern.ReflectliteValue.parts x0):=by
 unfold Go.Extern.ReflectliteValue.parts;exact yo (@gR P) (@gG P)
theorem iG(P x0):Fit P (λ_=>True) 0 (@Go.Extern.RuntimeError.described x0):=by
 unfold Go.Extern.RuntimeError.described;exact pC (@kC P)
theorem je(P x0):Fit P (λ_=>True) 0 (@Go.Extern.Rtype.handle x0):=by
 unfold Go.Extern.Rtype.handle;exact qO
theorem iB(P x0):Fit P (λ_=>True) 0 (@Go.Extern.Rtype.kind x0):=by
 unfold Go.Extern.Rtype.kind;exact pC (@fK P)
theorem jd(P x0 x1 x2):Fit P (λ_=>True) 0 (@Go.Extern.ReflectliteValue.mk x0 x1 x2):=by
 unfold Go.Extern.ReflectliteValue.mk;exact yo (@je P) (@iB P)
theorem fu(P x):Fit P (λ_=>True) 0 (ReflectliteType.ofRtype x):=by
 cases x with
 |agg c=>
  obtain⟨_|⟨a,_|⟨b,l⟩⟩⟩:=c
  .exact aH P _
  .exact bV (s:=Rtype.ofHandle a) (fY P _) λt=>bV (gG P _ _) λ_=>aO P _
  .exact aH P _
 |_=>exact aH P _
theorem cP(P f)(c:∀t,Fit P (λ_=>True) 0 (f t))(x):Fit P (λ_=>True) 0 (ReflectliteType.method f x):=by
 obtain⟨_|⟨a,_|⟨b,l⟩⟩⟩:=x
 .exact aH P _
 .exact bV (s:=ReflectliteType.ofRtype a) (fu P a) λt=>c t
 .exact aH P _
theorem ou(P x0):Fit P (λ_=>True) 0 (@Go.Extern.RuntimeError.text x0):=by
 unfold Go.Extern.RuntimeError.text;exact qO
theorem lK(P x0):Fit P (λ_=>True) 0 (@Go.Extern.ReflectliteType.pkgPath x0):=by
 unfold Go.Extern.ReflectliteType.pkgPath;exact qO
theorem gg(P x0 x1):Fit P (λ_=>True) 0 (@Go.Extern.Rtype.noPackMethods x0 x1):=by
 unfold Go.Extern.Rtype.noPackMethods;exact pC (@eK P)
theorem gY(P x0 x1):Fit P (λ_=>True) 0 (@Go.Extern.Rtype.implements x0 x1):=by
 unfold Go.Extern.Rtype.implements;exact yo (@gg P) (@fK P)
theorem kA(P x0 x1):Fit P (λ_=>True) 0 (@Go.Extern.ReflectliteType.implements_ x0 x1):=by
 unfold Go.Extern.ReflectliteType.implements_;exact zB6 (@iB P) (@gg P) (@gG P) (@gY P) (@lB P) (@eK P)
theorem lh(P x):Fit P (λ_=>True) 0 (RuntimeError.boundsError x):=by
 obtain⟨_|⟨a,_|⟨b,l⟩⟩⟩:=x
 .exact aH P _
 .cases a with
  |agg j=>
   obtain⟨_|⟨a,_|⟨b,_|⟨c,_|⟨d,_|⟨e,l⟩⟩⟩⟩⟩⟩:=j
   .exact aH P _
   .exact aH P _
   .exact aH P _
   .exact aH P _
   .cases a with
    |int k x=>
     cases b with
     |int k y=>
      cases c with
      |bool s=>
       cases d with
       |int k z=>
        let i:∀(o:aQ String)(g:String->String),Fit P (λ_=>True) 0 (match o with|some h=>RuntimeError.text (g h)|none=>stuck "boundsError: no such code":Sem aF):=by
         intro o g;cases o with
         |none=>exact aH P _
         |some f=>exact aO P _
        exact i ((if s&&x<0 then RuntimeError.boundsNegErrorFmts else RuntimeError.boundsErrorFmts)[z.toNat]?) λh=> "runtime error: "++(h.replace "%x" (toString (if s then x else IntKind.u64.wrap x))).replace "%y" (toString y)
       |_=>exact aH P _
      |_=>exact aH P _
     |_=>exact aH P _
    |_=>exact aH P _
   .exact aH P _
  |_=>exact aH P _
 .exact aH P _
theorem lg(P x0):Fit P (λ_=>True) 0 (@Go.Extern.Rtype.hasName x0):=by
 unfold Go.Extern.Rtype.hasName;exact qO
theorem ia(P x0 x1):Fit P (λ_=>True) 0 (@Go.Extern.Rtype.directlyAssignable x0 x1):=by
 unfold Go.Extern.Rtype.directlyAssignable;exact Pp (@lg P) (@fK P) (@eK P)
theorem eY(P x0 x1):Fit P (λ_=>True) 0 (@Go.Extern.Rtype.noPackNamed x0 x1):=by
 unfold Go.Extern.Rtype.noPackNamed;exact pC (@eK P)
theorem gZ(P x0):Fit P (λ_=>True) 0 (@Go.Extern.Rtype.spelt x0):=by
 unfold Go.Extern.Rtype.spelt;exact yo (@eY P) (@kC P)
theorem mZ(P x):Fit P (λ_=>True) 0 (ReflectliteValue.set x):=by
 obtain⟨_|⟨a,_|⟨b,_|⟨c,l⟩⟩⟩⟩:=x
 .exact aH P _
 .exact aH P _
 .refine bV (s:=ReflectliteValue.parts a) (fE P a) λo=>?_
  repeat' (first|(with_reducible first|exact aO P _|apply fE|apply ia|apply gY|apply iB|apply gZ|apply jo|apply tA|apply bJ|apply lB|apply bV|apply eK)|(intro _)|split|(dsimp only))
 .exact aH P _
theorem gQ(P f)(c:∀t,Fit P (λ_=>True) 0 (f t))(x):Fit P (λ_=>True) 0 (ReflectliteType.abiMethod f x):=by
 obtain⟨_|⟨a,_|⟨b,l⟩⟩⟩:=x
 .exact aH P _
 .exact bV (s:=Rtype.ofHandle a) (fY P _) λt=>bV (gG P _ _) λ_=>c t
 .exact aH P _
theorem jm(P x):Fit P (λ_=>True) 0 (RuntimeError.unhashableTypeError x):=by
 obtain⟨_|⟨a,_|⟨b,l⟩⟩⟩:=x
 .exact aH P _
 .cases a with
  |agg c=>
   obtain⟨_|⟨a,_|⟨b,l⟩⟩⟩:=c
   .exact aH P _
   .refine bV (s:=RuntimeError.described a) (iG P a) λo=>?_;cases o with
    |none=>exact(jF (.nilDeref):Fit P (λ_=>True) 0 (runtimePanic .nilDeref:Sem aF))
    |some t=>exact aO P _
   .exact aH P _
  |_=>exact aH P _
 .exact aH P _
theorem fD(P x0):Fit P (λ_=>True) 0 (@Go.Extern.ReflectliteType.toType x0):=by
 unfold Go.Extern.ReflectliteType.toType;exact yo (@je P) (@vg P)
theorem mq(P x):Fit P (λ_=>True) 0 (ReflectliteType.typeOf x):=by
 obtain⟨_|⟨a,_|⟨b,l⟩⟩⟩:=x
 .exact aH P _
 .cases a with
  |nilIface=>exact aO P _
  |iface t v=>exact(fD P t:Fit P (λ_=>True) 0 (ReflectliteType.toType t))
  |_=>exact aH P _
 .exact aH P _
theorem im(P x0):Fit P (λ_=>True) 0 (@Go.Extern.ReflectliteValue.unpack x0):=by
 unfold Go.Extern.ReflectliteValue.unpack;exact yo (@jd P) (@lQ P)
theorem wQ(P a n b):Fit P (λ_=>True) 0 (Bytes.loadBytes a n b):=by
 induction n generalizing a b with
 |zero=>exact aO P _
 |succ n c=>
  unfold Bytes.loadBytes;exact yo c (@pT P)
theorem Bz(P v):Fit P (λ_=>True) 0 (Bytes.bytesOf v):=by
 unfold Bytes.bytesOf;exact pC (@wQ P)
theorem mo(P x):Fit P (λ_=>True) 0 (BytealgCompare.compare x):=by
 obtain⟨_|⟨a,_|⟨b,_|⟨c,l⟩⟩⟩⟩:=x
 .exact aH P _
 .exact aH P _
 .exact bV (s:=Bytes.bytesOf a) (Bz P a) λ_=>bV (Bz P b) λ_=>aO P _
 .exact aH P _
theorem oR(P x):Fit P (λ_=>True) 0 (AbiNoEscape.same x):=by
 obtain⟨_|⟨a,_|⟨b,l⟩⟩⟩:=x
 .exact aH P _
 .exact aO P _
 .exact aH P _
theorem mK(P x0 x1 x2 x3):Fit P (λ_=>True) 0 (@Go.Extern.ReflectliteValue.elem x0 x1 x2 x3):=by
 unfold Go.Extern.ReflectliteValue.elem;exact zB6 (@mL P) (@im P) (@jd P) (@gq P) (@jo P) (@eK P)
theorem my(P x0):Fit P (λ_=>True) 0 (@Go.Extern.RuntimeError.pkgpathOf x0):=by
 unfold Go.Extern.RuntimeError.pkgpathOf;exact qO
theorem jB(P x0):Fit P (λ_=>True) 0 (@Go.Extern.RuntimeError.typeAssertionError x0):=by
 unfold Go.Extern.RuntimeError.typeAssertionError
 repeat' (first|(with_reducible first|exact aO P _|apply iG|apply ou|apply my|apply mN|apply nF|apply pT|apply bJ|apply jF|apply bV|apply eK)|(intro _)|split|(exact trivial)|(dsimp only))
theorem h_(P s f)(d:∀t u,Fit P (λ_=>True) 0 (f t u))(x):Fit P (λ_=>True) 0 (ReflectliteType.relation s f x):=by
 obtain⟨_|⟨a,_|⟨b,_|⟨c,l⟩⟩⟩⟩:=x
 .exact aH P _
 .exact aH P _
 .cases b with
  |nilIface=>exact(lB P ("reflect: nil type passed to Type."++s):Fit P (λ_=>True) 0 (panicString ("reflect: nil type passed to Type."++s):Sem aF))
  |iface t u=>exact bV (s:=ReflectliteType.ofRtype u) (fu P u) λ_=>bV (fu P a) λ_=>bV (d _ _) λ_=>aO P _
  |_=>exact aH P _
 .exact aH P _
theorem eL(P z f)(e:Fit P (λ_=>True) 0 z)(g:∀a b c d,Fit P (λ_=>True) 0 (f a b c d))(x):Fit P (λ_=>True) 0 (ReflectliteValue.methodAny z f x):=by
 obtain⟨_|⟨a,_|⟨b,l⟩⟩⟩:=x
 .exact aH P _
 .refine bV (s:=ReflectliteValue.partsAny a) (gR P a) λo=>?_;cases o with
  |none=>exact e
  |some y=>exact g _ _ _ _
 .exact aH P _
theorem mY(P x0):Fit P (λ_=>True) 0 (@Go.Extern.ReflectliteType.name x0):=by
 unfold Go.Extern.ReflectliteType.name;exact Pp (@lg P) (@gZ P) (@eK P)
theorem kr(P x0 x1):Fit P (λ_=>True) 0 (@Go.Extern.ReflectliteType.assignableTo x0 x1):=by
 unfold Go.Extern.ReflectliteType.assignableTo;exact Pq (@ia P) (@gY P) (@gg P) (@eK P)
theorem dY(P z f)(e:Fit P (λ_=>True) 0 z)(g:∀a b c d,Fit P (λ_=>True) 0 (f a b c d))(x):Fit P (λ_=>True) 0 (ReflectliteValue.method z f x):=by
 obtain⟨_|⟨a,_|⟨b,l⟩⟩⟩:=x
 .exact aH P _
 .refine bV (s:=ReflectliteValue.parts a) (fE P a) λo=>?_;cases o with
  |none=>exact e
  |some y=>exact g _ _ _ _
 .exact aH P _
theorem mX(P x0):Fit P (λ_=>True) 0 (@Go.Extern.ReflectliteType.elem x0):=by
 unfold Go.Extern.ReflectliteType.elem;exact Pq (@mL P) (@fD P) (@gZ P) (@lB P)
theorem kj(P x0 x1):Fit P (λ_=>True) 0 (@Go.Extern.Rtype.noPackHeld x0 x1):=by
 unfold Go.Extern.Rtype.noPackHeld;exact pC (@eK P)
theorem FP(P):∀x∈ReflectliteType.rows,∀a,Fit P (λ_=>True) 0 (x.2 a):=by
 intro x b a;simp only[ReflectliteType.rows,gp,iW,oF]at b;obtain rfl|rfl|rfl|rfl|rfl|rfl|rfl|rfl|rfl|rfl|rfl|rfl:=b
 .exact mq P _
 .exact cP P _ (mX P) _
 .exact cP P _ (λt=>bV (kj P _ _) λ_=>bV (cU P _) λ_=>aO P _) _
 .exact cP P _ (λt=>bV (eY P _ _) λ_=>bV (gZ P _) λ_=>aO P _) _
 .exact cP P _ (λt=>bV (eY P _ _) λ_=>mY P _) _
 .exact cP P _ (λt=>bV (eY P _ _) λ_=>lK P _) _
 .exact h_ P _ _ (kA P) _
 .exact h_ P _ _ (kr P) _
 .exact cP P _ (je P) _
 .exact gQ P _ (λt=>bV (iB P _) λ_=>aO P _) _
 .exact gQ P _ (λt=>bV (kj P _ _) λ_=>bV (cU P _) λ_=>aO P _) _
 .exact bV (jf P _) λ_=>aO P _
theorem FM(P):∀x∈RuntimeError.rows,∀a,Fit P (λ_=>True) 0 (x.2 a):=by
 intro x b a;simp only[RuntimeError.rows,gp,iW,oF]at b;obtain rfl|rfl|rfl|rfl|rfl|rfl|rfl|rfl|rfl|rfl|rfl|rfl|rfl|rfl|rfl:=b
 .exact bV (mN P _) λ_=>aO P _
 .exact bV (mN P _) λ_=>aO P _
 .exact bV (AL P _) λ_=>bV (mN P _) λ_=>aO P _
 .exact bV (AL P _) λ_=>bV (jf P _) λ_=>aO P _
 .exact lh P _
 .exact jB P _
 .exact aO P _
 .exact jm P _
 all_goals exact aO P _
theorem kD{a L}(s k):Fit P L 0 (ReflectliteValue.valueError s k:Sem a):=by
 unfold ReflectliteValue.valueError;exact bV (vg P _) λ_=>bV (jD P _) λ_=>bV (lQ P _ _) λ_=>mh P _
theorem qX(P a b c d):Fit P (λ_=>True) 0 (ReflectliteValue.len a b c d):=by
 unfold ReflectliteValue.len;exact zB5 (@kD P) (@fK P) (@jo P) (@rF P) (@eK P)
theorem FR(P):∀x∈ReflectliteValue.rows,∀a,Fit P (λ_=>True) 0 (x.2 a):=by
 intro x b a;simp only[ReflectliteValue.rows,gp,iW,oF]at b;obtain rfl|rfl|rfl|rfl|rfl|rfl|rfl|rfl|rfl|rfl:=b
 .exact im P _
 .exact eL P _ _ (aO P _) (λ_ _ _ _=>aO P _) _
 .exact dY P _ _ (aO P _) (λ_ _ _ _=>aO P _) _
 .exact eL P _ _ (kD _ _) (λ_ _ _ _=>fD P _) _
 .exact eL P _ _ (aO P _) (λ_ _ _ _=>aO P _) _
 .exact dY P _ _ (kD _ _) (mr P) _
 .exact dY P _ _ (kD _ _) (qX P) _
 .exact dY P _ _ (kD _ _) (mK P) _
 .exact mZ P _
 .exact kM P _
theorem IA(P x0 x1 x):Fit P (λ_=>True) 0 (SlicesOverlaps.overlaps x0 x1 x):=by
 obtain⟨_|⟨u,_|⟨v,_|⟨c,l⟩⟩⟩⟩:=x
 .exact aH P _
 .exact aH P _
 .cases u with
  |slice a g f=>
   cases v with
   |slice b h d=>
    let j:∀(e:aQ a_->Nat->Nat->aQ a_->Nat->Nat->Sem aF)(i:aY aF->Sem aF),SlicesOverlaps.overlaps.match_4 (λ_=>Sem aF) ⟨[Value.slice a g f,Value.slice b h d]⟩ e i=e a g f b h d:=λ_ _=>rfl;unfold SlicesOverlaps.overlaps;rw[j];exact Pq (@tq P) (@xH P) (@yX P) (@eK P)
   |_=>exact aH P _
  |_=>exact aH P _
 .exact aH P _
end Lf
namespace Lf
open Tryz Go Go.Conc Go.Extern
theorem Vm{a e}(d:allGenericRows.lookup a.name=none)(b:allTypedRows.lookup a.name=none)(c:allRows.lookup a.name=some e):Extern.find a=some e:=by
 unfold Extern.find;simp only[d,b,c];rfl
def xV:aB String:=["internal/reflectlite.TypeOf","(internal/reflectlite.rtype).Elem","(internal/reflectlite.rtype).Comparable","(internal/reflectlite.rtype).String","(internal/reflectlite.rtype).Name","(internal/reflectlite.rtype).PkgPath","(internal/reflectlite.rtype).Implements","(internal/reflectlite.rtype).AssignableTo","(internal/reflectlite.rtype).common","(*internal/abi.Type).Kind","(*internal/abi.Type).Size","(internal/abi.Kind).String","internal/reflectlite.ValueOf","(internal/reflectlite.Value).Kind","(internal/reflectlite.Value).Type","(internal/reflectlite.Value).IsNil","(internal/reflectlite.Value).Elem","(internal/reflectlite.Value).Set","(*internal/reflectlite.ValueError).Error","(runtime.errorString).Error","(runtime.plainError).Error","(runtime.errorAddressString).Error","(runtime.boundsError).Error","(*runtime.TypeAssertionError).Error","(*runtime.PanicNilError).Error","(internal/runtime/maps.unhashableTypeError).Error","(runtime.errorString).RuntimeError","(runtime.plainError).RuntimeError","(runtime.errorAddressString).RuntimeError","(runtime.boundsError).RuntimeError","(*runtime.TypeAssertionError).RuntimeError","(*runtime.PanicNilError).RuntimeError","(internal/runtime/maps.unhashableTypeError).RuntimeError","internal/abi.NoEscape","internal/bytealg.abigen_runtime_cmpstring"]
def plainFunc(a:Func):Bool:=a.name != "runtime.NumGoroutine"&&(a.body.isSome||((Extern.findNext a).isNone&&(xV.contains a.name||(a.name== "slices.overlaps[vigil/watch.policy]"&&a.origin== "slices.overlaps")||(Extern.find a).isNone)))
theorem Ki{a}{t:aY TypeId->aY TypeId->aY aF->Sem aF}(f:allGenericRows.lookup a.name=none)(b:allTypedRows.lookup a.name=none)(e:allRows.lookup a.name=none)
  (c:allGenericRows.lookup a.origin=none) (d:allTypedRows.lookup a.origin=some t):Extern.find a=some (t a.params a.resultTypes):=by
 unfold Extern.find;simp only[f,b,e,c,d];rfl
theorem QJ:prog.funcs.all plainFunc=true:=by kernel_rfl
theorem rT(i:Nat){n:String}(a:allGenericRows.lookup n=none:=by kernel_rfl)(h2:allTypedRows.lookup n=none:=by kernel_rfl)(h3:allRows.lookup n=some (ReflectliteType.rows.getD i default).2:=by kernel_rfl)(hi:i<ReflectliteType.rows.length:=by decide)(h4:ReflectliteType.rows.getD i default=ReflectliteType.rows[i]:=by rfl):∃e,allGenericRows.lookup n=none/\allTypedRows.lookup n=none/\allRows.lookup n=some e/\∀args,Fit prog (λ_=>True) 0 (e args):=⟨_,a,h2,h3,by rw[h4];exact FP _ _ (w_ hi)⟩
theorem rV(i:Nat){n:String}(a:allGenericRows.lookup n=none:=by kernel_rfl)(h2:allTypedRows.lookup n=none:=by kernel_rfl)(h3:allRows.lookup n=some (ReflectliteValue.rows.getD i default).2:=by kernel_rfl)(hi:i<ReflectliteValue.rows.length:=by decide)(h4:ReflectliteValue.rows.getD i default=ReflectliteValue.rows[i]:=by rfl):∃e,allGenericRows.lookup n=none/\allTypedRows.lookup n=none/\allRows.lookup n=some e/\∀args,Fit prog (λ_=>True) 0 (e args):=⟨_,a,h2,h3,by rw[h4];exact FR _ _ (w_ hi)⟩
theorem rE(i:Nat){n:String}(a:allGenericRows.lookup n=none:=by kernel_rfl)(h2:allTypedRows.lookup n=none:=by kernel_rfl)(h3:allRows.lookup n=some (RuntimeError.rows.getD i default).2:=by kernel_rfl)(hi:i<RuntimeError.rows.length:=by decide)(h4:RuntimeError.rows.getD i default=RuntimeError.rows[i]:=by rfl):∃e,allGenericRows.lookup n=none/\allTypedRows.lookup n=none/\allRows.lookup n=some e/\∀args,Fit prog (λ_=>True) 0 (e args):=⟨_,a,h2,h3,by rw[h4];exact FM _ _ (w_ hi)⟩
theorem ND:∀n∈xV,∃e,allGenericRows.lookup n=none/\allTypedRows.lookup n=none/\allRows.lookup n=some e/\∀args,Fit prog (λ_=>True) 0 (e args):=by
 intro n a;simp only[xV,gp,iW,oF]at a;obtain rfl|rfl|rfl|rfl|rfl|rfl|rfl|rfl|rfl|rfl|rfl|rfl|rfl|rfl|rfl|rfl|rfl|rfl|rfl|rfl|rfl|rfl|rfl|rfl|rfl|rfl|rfl|rfl|rfl|rfl|rfl|rfl|rfl|rfl|rfl:=a
 .exact rT 0
 .exact rT 1
 .exact rT 2
 .exact rT 3
 .exact rT 4
 .exact rT 5
 .exact rT 6
 .exact rT 7
 .exact rT 8
 .exact rT 9
 .exact rT 10
 .exact rT 11
 .exact rV 0
 .exact rV 2
 .exact rV 3
 .exact rV 5
 .exact rV 7
 .exact rV 8
 .exact rV 9
 .exact rE 0
 .exact rE 1
 .exact rE 2
 .exact rE 4
 .exact rE 5
 .exact rE 6
 .exact rE 7
 .exact rE 8
 .exact rE 9
 .exact rE 10
 .exact rE 11
 .exact rE 12
 .exact rE 13
 .exact rE 14
 .exact⟨AbiNoEscape.same,by kernel_rfl,by kernel_rfl,by kernel_rfl,oR _⟩
 .exact⟨BytealgCompare.compare,by kernel_rfl,by kernel_rfl,by kernel_rfl,mo _⟩
theorem bE:Plain prog:=by
 intro f j o;let h:=Array.all_eq_true_iff_forall_mem.1 QJ j (Array.mem_of_getElem? o);simp only[plainFunc,sB,bne_iff_ne,ne_eq,Bool.or_eq_true,Option.isNone_iff_eq_none]at h;refine⟨h.1,λm=>?_⟩;obtain k|⟨k,g⟩:=h.2
 .cases l:j.body with
  |none=>rw[l]at k;cases k
  |some c=>rw[l]at m;cases m
 .refine⟨k,λe i=>?_⟩;obtain(g|⟨g,n⟩)|g:=g
  .let⟨e',a,b,c,d⟩:=ND j.name (by simpa using g);rw[Vm a b c]at i;cases i;exact d
  .let XH:j.name= "slices.overlaps[vigil/watch.policy]":=by simpa using g
   let h4':j.origin= "slices.overlaps":=by simpa using n
   rw[Ki (t:=SlicesOverlaps.overlaps) (by rw[XH];kernel_rfl) (by rw[XH];kernel_rfl) (by rw[XH];kernel_rfl) (by rw[h4'];kernel_rfl) (by rw[h4'];kernel_rfl)]at i;cases i;exact IA _ _ _
  .rw[g]at i;cases i
end Lf
end Go.Proofs.YtpbbmagjhkakgaaGreatDoor
