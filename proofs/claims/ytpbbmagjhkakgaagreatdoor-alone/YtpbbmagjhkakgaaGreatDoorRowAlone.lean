/-
  Alone, proved of all lists of raw numbers (of the sentence, of the other's, of the acts) and every list of raw events: on every schedule the call returns true, without a data race, the goroutines that it started are done or only leaving, and the input reads as it did; the package-level variables start as the program's text lays them (the tie is given).
-/
import Derived.Test.YtpbbmagjhkakgaaGreatDoorEaLoop2ToRowAlone0
namespace Go.Proofs.YtpbbmagjhkakgaaGreatDoor
open Go.ChangeShapes Go.WideShapes Go.ChangeAt Go.RowKit Go.Deep Go.Conc Ev Lf
set_option maxRecDepth 100000 in
theorem alone_lifted (os:Os) (started:os.Started) (H:Type) (enc:TypeId×Value->H) :
  ReturnsInLeavingWide {} Tryz.checked os 10 .any (fun w args=>(Rows.aloneSpec.pre enc Tryz.prog Tryz.f10 [] false w args/\laidMetH Tryz.prog Rows.aloneRow.laid w)/\sizedMet enc Tryz.prog Tryz.f10 (OpenSpec.ofChange Rows.aloneSpec) false w args)
   (Rows.aloneSpec.post enc Tryz.prog Tryz.f10 false true false false):=by
 refine qD (C:=Tryz.checked) (X:=fun w _=>laidMetH Tryz.prog Rows.aloneRow.laid w) (fun _ _ _ hh h=>h.of_heap hh) zown started Tryz.func10
  (ChangeSpec.witness_shaped (enc:=enc) (C:=Tryz.checked) (os:=os) (X:=fun w _=>laidMetH Tryz.prog Rows.aloneRow.laid w) false (World.doorLaid Tryz.prog 600 os) #[.slice none 0 0,.slice none 0 0,.slice none 0 0,.slice none 0 0] 8 rfl (World.shaped_of_RefB (by kernel_rfl) (by kernel_rfl)) (by kernel_rfl) (by kernel_rfl) (by kernel_rfl) (door_met os _)) ?_
 intro W base args ds gs before hval hW hz hL
 exact alone_runs W base args ds gs before hval hW hz hL
theorem alone_row:Rows.AloneSaid :=
 OpenClaim.holds_of_wide_leaving 10 Tryz.f10 rfl rfl rfl rfl rfl rfl rfl ⟨rfl,rfl,rfl,rfl,rfl⟩ rfl rfl rfl rfl rfl (by kernel_rfl) Tryz.func10 (by kernel_rfl)
  (of_decide_eq_true (by kernel_rfl)) (by unfold Func.isWrapper;rw [if_neg (of_decide_eq_false (by kernel_rfl))];exact ⟨rfl,rfl⟩)
  (fun os started H enc _=>alone_lifted os started H enc)
theorem alone_holds:Rows.AloneCardSaid :=
 holds_tied_goes .later [.data,.data,.data,.handle,.sentinel,.sentinel,.sentinel,.sentinel,.sentinel,.sentinel,.sentinel,.sentinel,.sentinel] true Rows.aloneCard.stood.harness true
  alone_row (by kernel_rfl) alone_row_tie rfl ⟨rfl,rfl⟩ (by kernel_rfl) rfl
  (fun f fn hf hfn=>by
   obtain rfl:f=10:=Option.some.inj ((show Tryz.prog.funcNamed "vigil/vigilkeep.Alone"=some 10 by kernel_rfl).symm.trans hf) |>.symm
   obtain rfl:fn=Tryz.f10:=(Option.some.inj (Tryz.func10.symm.trans hfn)).symm
   exact ⟨by kernel_rfl,fun j t ht=>by
    rw [Tryz.params10] at ht
    have h3:t=33\/t=34:=by
     rcases j with _ | _ | _ | _ | j
     ·left;simpa using ht.symm
     ·left;simpa using ht.symm
     ·right;simpa using ht.symm
     ·left;simpa using ht.symm
     ·simp at ht
    rcases h3 with rfl | rfl
    ·exact (show Tryz.prog.wantsStandIn 33=false by kernel_rfl)
    ·exact (show Tryz.prog.wantsStandIn 34=false by kernel_rfl)⟩)
  (by kernel_rfl)
end Go.Proofs.YtpbbmagjhkakgaaGreatDoor
