import Derived.Test.YtpbbmagjhkakgaaGreatDoorB9
namespace Go.Proofs.YtpbbmagjhkakgaaGreatDoor
namespace Lf
open Go Go.Extern
variable{P:Program}
theorem gb(P x0):Fit P (λ_=>True) 0 (@Go.Extern.Rtype.ofHandle x0):=by
 unfold Go.Extern.Rtype.ofHandle;exact q8
theorem gW(P x):Fit P (λ_=>True) 0 (ReflectliteValue.partsAny x):=by
 cases x with
 |agg e=>
  obtain⟨_|⟨a,_|⟨b,_|⟨c,_|⟨d,l⟩⟩⟩⟩⟩:=e
  .exact aI P _
  .exact aI P _
  .exact aI P _
  .cases c with
   |int k n=>
    cases k with
    |u64=>
     obtain(_|n)|n:=n
     .exact aP P _
     .cases b with
      |pointer r=>
       cases r with
       |none=>exact aI P _
       |some r=>exact bV (s:=Rtype.ofHandle a) (gb P _) λ_=>aP P _
      |_=>exact aI P _
     .cases b with
      |pointer r=>
       cases r with
       |none=>exact aI P _
       |some r=>exact bV (s:=Rtype.ofHandle a) (gb P _) λ_=>aP P _
      |_=>exact aI P _
    |_=>cases b with
     |pointer r=>cases r<;>exact aI P _
     |_=>exact aI P _
   |_=>cases b with
     |pointer r=>cases r<;>exact aI P _
     |_=>exact aI P _
  .exact aI P _
 |_=>exact aI P _
theorem kQ(P x):Fit P (λ_=>True) 0 (ReflectliteValue.errorText x):=by
 obtain⟨_|⟨a,_|⟨b,l⟩⟩⟩:=x
 .exact aI P _
 .cases a with
  |pointer r=>
   cases r with
   |none=>exact(jK (.nilDeref):Fit P (λ_=>True) 0 (runtimePanic .nilDeref:Sem aE))
   |some r=>exact bV (s:=load r) (qa P _ _) λ_=>bV (mX P _) λ_=>bV (qa P _ _) λ_=>bV (ji P _) λ_=>aP P _
  |_=>exact aI P _
 .exact aI P _
theorem fM(P x0):Fit P (λ_=>True) 0 (@Go.Extern.Rtype.under x0):=by
 unfold Go.Extern.Rtype.under;exact q8
theorem mV(P x0):Fit P (λ_=>True) 0 (@Go.Extern.Rtype.elem? x0):=by
 unfold Go.Extern.Rtype.elem?;exact pO (@fM P)
theorem gC(P){x0}(x1 x2):Fit P (λ_=>True) 0 (@Go.Extern.ReflectliteValue.valueError x0 x1 x2):=by
 unfold Go.Extern.ReflectliteValue.valueError;exact P7 (@lZ P) (@jI P) (@vI P) (@mz P)
theorem mH(P x0 x1 x2 x3):Fit P (λ_=>True) 0 (@Go.Extern.ReflectliteValue.isNil x0 x1 x2 x3):=by
 unfold Go.Extern.ReflectliteValue.isNil;exact P6 (@gC P) (@jw P) (@eK P)
theorem gK(P x0 x1):Fit P (λ_=>True) 0 (@Go.Extern.Rtype.noPack x0 x1):=by
 unfold Go.Extern.Rtype.noPack;exact pO (@eK P)
theorem fG(P x0):Fit P (λ_=>True) 0 (@Go.Extern.ReflectliteValue.parts x0):=by
 unfold Go.Extern.ReflectliteValue.parts;exact yF (@gW P) (@gK P)
theorem iL(P x0):Fit P (λ_=>True) 0 (@Go.Extern.RuntimeError.described x0):=by
 unfold Go.Extern.RuntimeError.described;exact pO (@kH P)
theorem jh(P x0):Fit P (λ_=>True) 0 (@Go.Extern.Rtype.handle x0):=by
 unfold Go.Extern.Rtype.handle;exact q8
theorem iG(P x0):Fit P (λ_=>True) 0 (@Go.Extern.Rtype.kind x0):=by
 unfold Go.Extern.Rtype.kind;exact pO (@fM P)
theorem jg(P x0 x1 x2):Fit P (λ_=>True) 0 (@Go.Extern.ReflectliteValue.mk x0 x1 x2):=by
 unfold Go.Extern.ReflectliteValue.mk;exact yF (@jh P) (@iG P)
theorem fx(P x):Fit P (λ_=>True) 0 (ReflectliteType.ofRtype x):=by
 cases x with
 |agg c=>
  obtain⟨_|⟨a,_|⟨b,l⟩⟩⟩:=c
  .exact aI P _
  .exact bV (s:=Rtype.ofHandle a) (gb P _) λt=>bV (gK P _ _) λ_=>aP P _
  .exact aI P _
 |_=>exact aI P _
theorem cQ(P f)(c:∀t,Fit P (λ_=>True) 0 (f t))(x):Fit P (λ_=>True) 0 (ReflectliteType.method f x):=by
 obtain⟨_|⟨a,_|⟨b,l⟩⟩⟩:=x
 .exact aI P _
 .exact bV (s:=ReflectliteType.ofRtype a) (fx P a) λt=>c t
 .exact aI P _
theorem oH(P x0):Fit P (λ_=>True) 0 (@Go.Extern.RuntimeError.text x0):=by
 unfold Go.Extern.RuntimeError.text;exact q8
theorem lU(P x0):Fit P (λ_=>True) 0 (@Go.Extern.ReflectliteType.pkgPath x0):=by
 unfold Go.Extern.ReflectliteType.pkgPath;exact q8
theorem gj(P x0 x1):Fit P (λ_=>True) 0 (@Go.Extern.Rtype.noPackMethods x0 x1):=by
 unfold Go.Extern.Rtype.noPackMethods;exact pO (@eK P)
theorem h_(P x0 x1):Fit P (λ_=>True) 0 (@Go.Extern.Rtype.implements x0 x1):=by
 unfold Go.Extern.Rtype.implements;exact yF (@gj P) (@fM P)
theorem kF(P x0 x1):Fit P (λ_=>True) 0 (@Go.Extern.ReflectliteType.implements_ x0 x1):=by
 unfold Go.Extern.ReflectliteType.implements_;exact zB6 (@iG P) (@gj P) (@gK P) (@h_ P) (@lK P) (@eK P)
theorem lA(P x):Fit P (λ_=>True) 0 (RuntimeError.boundsError x):=by
 obtain⟨_|⟨a,_|⟨b,l⟩⟩⟩:=x
 .exact aI P _
 .cases a with
  |agg j=>
   obtain⟨_|⟨a,_|⟨b,_|⟨c,_|⟨d,_|⟨e,l⟩⟩⟩⟩⟩⟩:=j
   .exact aI P _
   .exact aI P _
   .exact aI P _
   .exact aI P _
   .cases a with
    |int k x=>
     cases b with
     |int k y=>
      cases c with
      |bool s=>
       cases d with
       |int k z=>
        let i:∀(o:aR String)(g:String->String),Fit P (λ_=>True) 0 (match o with|some h=>RuntimeError.text (g h)|none=>stuck "boundsError: no such code":Sem aE):=by
         intro o g;cases o with
         |none=>exact aI P _
         |some f=>exact aP P _
        exact i ((if s&&x<0 then RuntimeError.boundsNegErrorFmts else RuntimeError.boundsErrorFmts)[z.toNat]?) λh=> "runtime error: "++(h.replace "%x" (toString (if s then x else IntKind.u64.wrap x))).replace "%y" (toString y)
       |_=>exact aI P _
      |_=>exact aI P _
     |_=>exact aI P _
    |_=>exact aI P _
   .exact aI P _
  |_=>exact aI P _
 .exact aI P _
theorem lz(P x0):Fit P (λ_=>True) 0 (@Go.Extern.Rtype.hasName x0):=by
 unfold Go.Extern.Rtype.hasName;exact q8
theorem ig(P x0 x1):Fit P (λ_=>True) 0 (@Go.Extern.Rtype.directlyAssignable x0 x1):=by
 unfold Go.Extern.Rtype.directlyAssignable;exact P6 (@lz P) (@fM P) (@eK P)
theorem e_(P x0 x1):Fit P (λ_=>True) 0 (@Go.Extern.Rtype.noPackNamed x0 x1):=by
 unfold Go.Extern.Rtype.noPackNamed;exact pO (@eK P)
theorem ia(P x0):Fit P (λ_=>True) 0 (@Go.Extern.Rtype.spelt x0):=by
 unfold Go.Extern.Rtype.spelt;exact yF (@e_ P) (@kH P)
theorem nw(P x):Fit P (λ_=>True) 0 (ReflectliteValue.set x):=by
 obtain⟨_|⟨a,_|⟨b,_|⟨c,l⟩⟩⟩⟩:=x
 .exact aI P _
 .exact aI P _
 .refine bV (s:=ReflectliteValue.parts a) (fG P a) λo=>?_
  repeat' (first|(with_reducible first|exact aP P _|apply fG|apply ig|apply h_|apply iG|apply ia|apply jw|apply tQ|apply bJ|apply lK|apply bV|apply eK)|(intro _)|split|(dsimp only))
 .exact aI P _
theorem gV(P f)(c:∀t,Fit P (λ_=>True) 0 (f t))(x):Fit P (λ_=>True) 0 (ReflectliteType.abiMethod f x):=by
 obtain⟨_|⟨a,_|⟨b,l⟩⟩⟩:=x
 .exact aI P _
 .exact bV (s:=Rtype.ofHandle a) (gb P _) λt=>bV (gK P _ _) λ_=>c t
 .exact aI P _
theorem js(P x):Fit P (λ_=>True) 0 (RuntimeError.unhashableTypeError x):=by
 obtain⟨_|⟨a,_|⟨b,l⟩⟩⟩:=x
 .exact aI P _
 .cases a with
  |agg c=>
   obtain⟨_|⟨a,_|⟨b,l⟩⟩⟩:=c
   .exact aI P _
   .refine bV (s:=RuntimeError.described a) (iL P a) λo=>?_;cases o with
    |none=>exact(jK (.nilDeref):Fit P (λ_=>True) 0 (runtimePanic .nilDeref:Sem aE))
    |some t=>exact aP P _
   .exact aI P _
  |_=>exact aI P _
 .exact aI P _
theorem fF(P x0):Fit P (λ_=>True) 0 (@Go.Extern.ReflectliteType.toType x0):=by
 unfold Go.Extern.ReflectliteType.toType;exact yF (@jh P) (@vI P)
theorem mG(P x):Fit P (λ_=>True) 0 (ReflectliteType.typeOf x):=by
 obtain⟨_|⟨a,_|⟨b,l⟩⟩⟩:=x
 .exact aI P _
 .cases a with
  |nilIface=>exact aP P _
  |iface t v=>exact(fF P t:Fit P (λ_=>True) 0 (ReflectliteType.toType t))
  |_=>exact aI P _
 .exact aI P _
theorem ix(P x0):Fit P (λ_=>True) 0 (@Go.Extern.ReflectliteValue.unpack x0):=by
 unfold Go.Extern.ReflectliteValue.unpack;exact yF (@jg P) (@lZ P)
theorem xj(P a n b):Fit P (λ_=>True) 0 (Bytes.loadBytes a n b):=by
 induction n generalizing a b with
 |zero=>exact aP P _
 |succ n c=>
  unfold Bytes.loadBytes;exact yF c (@qa P)
theorem BV(P v):Fit P (λ_=>True) 0 (Bytes.bytesOf v):=by
 unfold Bytes.bytesOf;exact pO (@xj P)
theorem mF(P x):Fit P (λ_=>True) 0 (BytealgCompare.compare x):=by
 obtain⟨_|⟨a,_|⟨b,_|⟨c,l⟩⟩⟩⟩:=x
 .exact aI P _
 .exact aI P _
 .exact bV (s:=Bytes.bytesOf a) (BV P a) λ_=>bV (BV P b) λ_=>aP P _
 .exact aI P _
theorem pd(P x):Fit P (λ_=>True) 0 (AbiNoEscape.same x):=by
 obtain⟨_|⟨a,_|⟨b,l⟩⟩⟩:=x
 .exact aI P _
 .exact aP P _
 .exact aI P _
theorem mU(P x0 x1 x2 x3):Fit P (λ_=>True) 0 (@Go.Extern.ReflectliteValue.elem x0 x1 x2 x3):=by
 unfold Go.Extern.ReflectliteValue.elem;exact zB6 (@mV P) (@ix P) (@jg P) (@gC P) (@jw P) (@eK P)
theorem mI(P x0):Fit P (λ_=>True) 0 (@Go.Extern.RuntimeError.pkgpathOf x0):=by
 unfold Go.Extern.RuntimeError.pkgpathOf;exact q8
theorem jG(P x0):Fit P (λ_=>True) 0 (@Go.Extern.RuntimeError.typeAssertionError x0):=by
 unfold Go.Extern.RuntimeError.typeAssertionError
 repeat' (first|(with_reducible first|exact aP P _|apply iL|apply oH|apply mI|apply mX|apply nQ|apply qa|apply bJ|apply jK|apply bV|apply eK)|(intro _)|split|(exact trivial)|(dsimp only))
theorem ie(P s f)(d:∀t u,Fit P (λ_=>True) 0 (f t u))(x):Fit P (λ_=>True) 0 (ReflectliteType.relation s f x):=by
 obtain⟨_|⟨a,_|⟨b,_|⟨c,l⟩⟩⟩⟩:=x
 .exact aI P _
 .exact aI P _
 .cases b with
  |nilIface=>exact(lK P ("reflect: nil type passed to Type."++s):Fit P (λ_=>True) 0 (panicString ("reflect: nil type passed to Type."++s):Sem aE))
  |iface t u=>exact bV (s:=ReflectliteType.ofRtype u) (fx P u) λ_=>bV (fx P a) λ_=>bV (d _ _) λ_=>aP P _
  |_=>exact aI P _
 .exact aI P _
theorem eL(P z f)(e:Fit P (λ_=>True) 0 z)(g:∀a b c d,Fit P (λ_=>True) 0 (f a b c d))(x):Fit P (λ_=>True) 0 (ReflectliteValue.methodAny z f x):=by
 obtain⟨_|⟨a,_|⟨b,l⟩⟩⟩:=x
 .exact aI P _
 .refine bV (s:=ReflectliteValue.partsAny a) (gW P a) λo=>?_;cases o with
  |none=>exact e
  |some y=>exact g _ _ _ _
 .exact aI P _
theorem nu(P x0):Fit P (λ_=>True) 0 (@Go.Extern.ReflectliteType.name x0):=by
 unfold Go.Extern.ReflectliteType.name;exact P6 (@lz P) (@ia P) (@eK P)
theorem kx(P x0 x1):Fit P (λ_=>True) 0 (@Go.Extern.ReflectliteType.assignableTo x0 x1):=by
 unfold Go.Extern.ReflectliteType.assignableTo;exact P7 (@ig P) (@h_ P) (@gj P) (@eK P)
theorem dY(P z f)(e:Fit P (λ_=>True) 0 z)(g:∀a b c d,Fit P (λ_=>True) 0 (f a b c d))(x):Fit P (λ_=>True) 0 (ReflectliteValue.method z f x):=by
 obtain⟨_|⟨a,_|⟨b,l⟩⟩⟩:=x
 .exact aI P _
 .refine bV (s:=ReflectliteValue.parts a) (fG P a) λo=>?_;cases o with
  |none=>exact e
  |some y=>exact g _ _ _ _
 .exact aI P _
theorem nt(P x0):Fit P (λ_=>True) 0 (@Go.Extern.ReflectliteType.elem x0):=by
 unfold Go.Extern.ReflectliteType.elem;exact P7 (@mV P) (@fF P) (@ia P) (@lK P)
theorem kn(P x0 x1):Fit P (λ_=>True) 0 (@Go.Extern.Rtype.noPackHeld x0 x1):=by
 unfold Go.Extern.Rtype.noPackHeld;exact pO (@eK P)
theorem Gg(P):∀x∈ReflectliteType.rows,∀a,Fit P (λ_=>True) 0 (x.2 a):=by
 intro x b a;simp only[ReflectliteType.rows,gA,gw,oP]at b;obtain rfl|rfl|rfl|rfl|rfl|rfl|rfl|rfl|rfl|rfl|rfl|rfl:=b
 .exact mG P _
 .exact cQ P _ (nt P) _
 .exact cQ P _ (λt=>bV (kn P _ _) λ_=>bV (cV P _) λ_=>aP P _) _
 .exact cQ P _ (λt=>bV (e_ P _ _) λ_=>bV (ia P _) λ_=>aP P _) _
 .exact cQ P _ (λt=>bV (e_ P _ _) λ_=>nu P _) _
 .exact cQ P _ (λt=>bV (e_ P _ _) λ_=>lU P _) _
 .exact ie P _ _ (kF P) _
 .exact ie P _ _ (kx P) _
 .exact cQ P _ (jh P) _
 .exact gV P _ (λt=>bV (iG P _) λ_=>aP P _) _
 .exact gV P _ (λt=>bV (kn P _ _) λ_=>bV (cV P _) λ_=>aP P _) _
 .exact bV (ji P _) λ_=>aP P _
theorem Ge(P):∀x∈RuntimeError.rows,∀a,Fit P (λ_=>True) 0 (x.2 a):=by
 intro x b a;simp only[RuntimeError.rows,gA,gw,oP]at b;obtain rfl|rfl|rfl|rfl|rfl|rfl|rfl|rfl|rfl|rfl|rfl|rfl|rfl|rfl|rfl:=b
 .exact bV (mX P _) λ_=>aP P _
 .exact bV (mX P _) λ_=>aP P _
 .exact bV (A7 P _) λ_=>bV (mX P _) λ_=>aP P _
 .exact bV (A7 P _) λ_=>bV (ji P _) λ_=>aP P _
 .exact lA P _
 .exact jG P _
 .exact aP P _
 .exact js P _
 all_goals exact aP P _
theorem kI{a L}(s k):Fit P L 0 (ReflectliteValue.valueError s k:Sem a):=by
 unfold ReflectliteValue.valueError;exact bV (vI P _) λ_=>bV (jI P _) λ_=>bV (lZ P _ _) λ_=>mz P _
theorem rp(P a b c d):Fit P (λ_=>True) 0 (ReflectliteValue.len a b c d):=by
 unfold ReflectliteValue.len;exact zB5 (@kI P) (@fM P) (@jw P) (@rR P) (@eK P)
theorem Gi(P):∀x∈ReflectliteValue.rows,∀a,Fit P (λ_=>True) 0 (x.2 a):=by
 intro x b a;simp only[ReflectliteValue.rows,gA,gw,oP]at b;obtain rfl|rfl|rfl|rfl|rfl|rfl|rfl|rfl|rfl|rfl:=b
 .exact ix P _
 .exact eL P _ _ (aP P _) (λ_ _ _ _=>aP P _) _
 .exact dY P _ _ (aP P _) (λ_ _ _ _=>aP P _) _
 .exact eL P _ _ (kI _ _) (λ_ _ _ _=>fF P _) _
 .exact eL P _ _ (aP P _) (λ_ _ _ _=>aP P _) _
 .exact dY P _ _ (kI _ _) (mH P) _
 .exact dY P _ _ (kI _ _) (rp P) _
 .exact dY P _ _ (kI _ _) (mU P) _
 .exact nw P _
 .exact kQ P _
theorem I_(P x0 x1 x):Fit P (λ_=>True) 0 (SlicesOverlaps.overlaps x0 x1 x):=by
 obtain⟨_|⟨u,_|⟨v,_|⟨c,l⟩⟩⟩⟩:=x
 .exact aI P _
 .exact aI P _
 .cases u with
  |slice a g f=>
   cases v with
   |slice b h d=>
    let j:∀(e:aR bC->Nat->Nat->aR bC->Nat->Nat->Sem aE)(i:aU aE->Sem aE),SlicesOverlaps.overlaps.match_4 (λ_=>Sem aE) ⟨[Value.slice a g f,Value.slice b h d]⟩ e i=e a g f b h d:=λ_ _=>rfl;unfold SlicesOverlaps.overlaps;rw[j];exact P7 (@tM P) (@yc P) (@zC P) (@eK P)
   |_=>exact aI P _
  |_=>exact aI P _
 .exact aI P _
end Lf
namespace Lf
open Tryz Go Go.Conc Go.Extern
theorem V7{a e}(d:allGenericRows.lookup a.name=none)(b:allTypedRows.lookup a.name=none)(c:allRows.lookup a.name=some e):Extern.find a=some e:=by
 unfold Extern.find;simp only[d,b,c];rfl
def yo:aB String:=["internal/reflectlite.TypeOf","(internal/reflectlite.rtype).Elem","(internal/reflectlite.rtype).Comparable","(internal/reflectlite.rtype).String","(internal/reflectlite.rtype).Name","(internal/reflectlite.rtype).PkgPath","(internal/reflectlite.rtype).Implements","(internal/reflectlite.rtype).AssignableTo","(internal/reflectlite.rtype).common","(*internal/abi.Type).Kind","(*internal/abi.Type).Size","(internal/abi.Kind).String","internal/reflectlite.ValueOf","(internal/reflectlite.Value).Kind","(internal/reflectlite.Value).Type","(internal/reflectlite.Value).IsNil","(internal/reflectlite.Value).Elem","(internal/reflectlite.Value).Set","(*internal/reflectlite.ValueError).Error","(runtime.errorString).Error","(runtime.plainError).Error","(runtime.errorAddressString).Error","(runtime.boundsError).Error","(*runtime.TypeAssertionError).Error","(*runtime.PanicNilError).Error","(internal/runtime/maps.unhashableTypeError).Error","(runtime.errorString).RuntimeError","(runtime.plainError).RuntimeError","(runtime.errorAddressString).RuntimeError","(runtime.boundsError).RuntimeError","(*runtime.TypeAssertionError).RuntimeError","(*runtime.PanicNilError).RuntimeError","(internal/runtime/maps.unhashableTypeError).RuntimeError","internal/abi.NoEscape","internal/bytealg.abigen_runtime_cmpstring"]
def plainFunc(a:Func):Bool:=a.name != "runtime.NumGoroutine"&&(a.body.isSome||((Extern.findNext a).isNone&&(yo.contains a.name||(a.name== "slices.overlaps[vigil/watch.policy]"&&a.origin== "slices.overlaps")||(Extern.find a).isNone)))
theorem KN{a}{t:aU TypeId->aU TypeId->aU aE->Sem aE}(f:allGenericRows.lookup a.name=none)(b:allTypedRows.lookup a.name=none)(e:allRows.lookup a.name=none)
  (c:allGenericRows.lookup a.origin=none) (d:allTypedRows.lookup a.origin=some t):Extern.find a=some (t a.params a.resultTypes):=by
 unfold Extern.find;simp only[f,b,e,c,d];rfl
theorem Rl:prog.funcs.all plainFunc=true:=by kernel_rfl
theorem rT(i:Nat){n:String}(a:allGenericRows.lookup n=none:=by kernel_rfl)(h2:allTypedRows.lookup n=none:=by kernel_rfl)(h3:allRows.lookup n=some (ReflectliteType.rows.getD i default).2:=by kernel_rfl)(hi:i<ReflectliteType.rows.length:=by decide)(h4:ReflectliteType.rows.getD i default=ReflectliteType.rows[i]:=by rfl):∃e,allGenericRows.lookup n=none/\allTypedRows.lookup n=none/\allRows.lookup n=some e/\∀args,Fit prog (λ_=>True) 0 (e args):=⟨_,a,h2,h3,by rw[h4];exact Gg _ _ (xu hi)⟩
theorem rV(i:Nat){n:String}(a:allGenericRows.lookup n=none:=by kernel_rfl)(h2:allTypedRows.lookup n=none:=by kernel_rfl)(h3:allRows.lookup n=some (ReflectliteValue.rows.getD i default).2:=by kernel_rfl)(hi:i<ReflectliteValue.rows.length:=by decide)(h4:ReflectliteValue.rows.getD i default=ReflectliteValue.rows[i]:=by rfl):∃e,allGenericRows.lookup n=none/\allTypedRows.lookup n=none/\allRows.lookup n=some e/\∀args,Fit prog (λ_=>True) 0 (e args):=⟨_,a,h2,h3,by rw[h4];exact Gi _ _ (xu hi)⟩
theorem rE(i:Nat){n:String}(a:allGenericRows.lookup n=none:=by kernel_rfl)(h2:allTypedRows.lookup n=none:=by kernel_rfl)(h3:allRows.lookup n=some (RuntimeError.rows.getD i default).2:=by kernel_rfl)(hi:i<RuntimeError.rows.length:=by decide)(h4:RuntimeError.rows.getD i default=RuntimeError.rows[i]:=by rfl):∃e,allGenericRows.lookup n=none/\allTypedRows.lookup n=none/\allRows.lookup n=some e/\∀args,Fit prog (λ_=>True) 0 (e args):=⟨_,a,h2,h3,by rw[h4];exact Ge _ _ (xu hi)⟩
theorem Oe:∀n∈yo,∃e,allGenericRows.lookup n=none/\allTypedRows.lookup n=none/\allRows.lookup n=some e/\∀args,Fit prog (λ_=>True) 0 (e args):=by
 intro n a;simp only[yo,gA,gw,oP]at a;obtain rfl|rfl|rfl|rfl|rfl|rfl|rfl|rfl|rfl|rfl|rfl|rfl|rfl|rfl|rfl|rfl|rfl|rfl|rfl|rfl|rfl|rfl|rfl|rfl|rfl|rfl|rfl|rfl|rfl|rfl|rfl|rfl|rfl|rfl|rfl:=a
 .exact rT 0
 .exact rT 1
 .exact rT 2
 .exact rT 3
 .exact rT 4
 .exact rT 5
 .exact rT 6
 .exact rT 7
 .exact rT 8
 .exact rT 9
 .exact rT 10
 .exact rT 11
 .exact rV 0
 .exact rV 2
 .exact rV 3
 .exact rV 5
 .exact rV 7
 .exact rV 8
 .exact rV 9
 .exact rE 0
 .exact rE 1
 .exact rE 2
 .exact rE 4
 .exact rE 5
 .exact rE 6
 .exact rE 7
 .exact rE 8
 .exact rE 9
 .exact rE 10
 .exact rE 11
 .exact rE 12
 .exact rE 13
 .exact rE 14
 .exact⟨AbiNoEscape.same,by kernel_rfl,by kernel_rfl,by kernel_rfl,pd _⟩
 .exact⟨BytealgCompare.compare,by kernel_rfl,by kernel_rfl,by kernel_rfl,mF _⟩
theorem aK:Plain prog:=by
 intro f j o;let h:=Array.all_eq_true_iff_forall_mem.1 Rl j (Array.mem_of_getElem? o);simp only[plainFunc,sP,bne_iff_ne,ne_eq,Bool.or_eq_true,Option.isNone_iff_eq_none]at h;refine⟨h.1,λm=>?_⟩;obtain k|⟨k,g⟩:=h.2
 .cases l:j.body with
  |none=>rw[l]at k;cases k
  |some c=>rw[l]at m;cases m
 .refine⟨k,λe i=>?_⟩;obtain(g|⟨g,n⟩)|g:=g
  .let⟨e',a,b,c,d⟩:=Oe j.name (by simpa using g);rw[V7 a b c]at i;cases i;exact d
  .let Yv:j.name= "slices.overlaps[vigil/watch.policy]":=by simpa using g
   let h4':j.origin= "slices.overlaps":=by simpa using n
   rw[KN (t:=SlicesOverlaps.overlaps) (by rw[Yv];kernel_rfl) (by rw[Yv];kernel_rfl) (by rw[Yv];kernel_rfl) (by rw[h4'];kernel_rfl) (by rw[h4'];kernel_rfl)]at i;cases i;exact I_ _ _ _
  .rw[g]at i;cases i
end Lf
end Go.Proofs.YtpbbmagjhkakgaaGreatDoor
