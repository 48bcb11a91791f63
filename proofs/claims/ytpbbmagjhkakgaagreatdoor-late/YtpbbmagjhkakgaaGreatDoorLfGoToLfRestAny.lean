import Derived.Test.YtpbbmagjhkakgaaGreatDoorLfSendsToLfPlain
import Derived.Test.YtpbbmagjhkakgaaGreatDoorLfOpenToLfLead
import Derived.Conc.SmallLaws
namespace Go.Proofs.YtpbbmagjhkakgaaGreatDoor.Lf
open Go Go.Conc Go.RowKit
open Go.Proofs (Tryz.f46 Tryz.f88 Tryz.prog Tryz.func46 Tryz.ntmps46 Tryz.func88 Tryz.ntmps88 Tryz.func89)
noncomputable def wGo (w:World) (pv:Value) (num time:Int) (at_ sv:Value) (N:Nat):World :=
 ((((w.alloc (.cells #[pv] 151)).alloc (.cells #[.int .i64 num,.int .i64 time,at_,sv] 159)).alloc (.chan N #[] false 0 0 false)).alloc (.cells #[.chan none] 235)).setCell ⟨w.heap.size+3,0,none⟩ (.chan (some (w.heap.size+2)))
section
variable (w : World) (pv : Value) (num time : Int) (at_ sv : Value) (N : Nat)
theorem wGo_size:(wGo w pv num time at_ sv N).heap.size=w.heap.size+4:=by unfold wGo;rw [setCell_size,alloc_size,alloc_size,alloc_size,alloc_size]
theorem wGo_old {k:Nat} (hk:k<w.heap.size):(wGo w pv num time at_ sv N).heap[k]? = w.heap[k]?:=by
 unfold wGo
 rw [setCell_other _ _ _ (show k≠w.heap.size+3 by omega),alloc_block _ _ (by rw [alloc_size,alloc_size,alloc_size];omega),alloc_block _ _ (by rw [alloc_size,alloc_size];omega),alloc_block _ _ (by rw [alloc_size];omega),alloc_block _ _ hk]
theorem wGo_p2:(wGo w pv num time at_ sv N).heap[w.heap.size]? = some (.cells #[pv] 151):=by
 unfold wGo
 rw [setCell_other _ _ _ (show w.heap.size≠w.heap.size+3 by omega),alloc_block _ _ (by rw [alloc_size,alloc_size,alloc_size];omega),alloc_block _ _ (by rw [alloc_size,alloc_size];omega),alloc_block _ _ (by rw [alloc_size];omega)]
 exact alloc_new w _
theorem wGo_p3:(wGo w pv num time at_ sv N).heap[w.heap.size+1]? = some (.cells #[.int .i64 num,.int .i64 time,at_,sv] 159):=by
 unfold wGo
 rw [setCell_other _ _ _ (show w.heap.size+1≠w.heap.size+3 by omega),alloc_block _ _ (by rw [alloc_size,alloc_size,alloc_size];omega),alloc_block _ _ (by rw [alloc_size,alloc_size];omega)]
 have:=alloc_new (w.alloc (.cells #[pv] 151)) (.cells #[.int .i64 num,.int .i64 time,at_,sv] 159)
 rwa [alloc_size] at this
theorem wGo_c:(wGo w pv num time at_ sv N).heap[w.heap.size+2]? = some (.chan N #[] false 0 0 false):=by
 unfold wGo
 rw [setCell_other _ _ _ (show w.heap.size+2≠w.heap.size+3 by omega),alloc_block _ _ (by rw [alloc_size,alloc_size,alloc_size];omega)]
 have:=alloc_new ((w.alloc (.cells #[pv] 151)).alloc (.cells #[.int .i64 num,.int .i64 time,at_,sv] 159)) (.chan N #[] false 0 0 false)
 rwa [alloc_size,alloc_size] at this
theorem wGo_p5:(wGo w pv num time at_ sv N).heap[w.heap.size+3]? = some (.cells #[.chan (some (w.heap.size+2))] 235):=by
 unfold wGo
 have:=alloc_new (((w.alloc (.cells #[pv] 151)).alloc (.cells #[.int .i64 num,.int .i64 time,at_,sv] 159)).alloc (.chan N #[] false 0 0 false)) (.cells #[.chan none] 235)
 rw [alloc_size,alloc_size,alloc_size] at this
 exact setCell_same (i:=0) (v:=.chan (some (w.heap.size+2))) this
end
noncomputable def body88:Code:=Tryz.f88.body.getD .skip
noncomputable def blockE:Code:=match body46 with
 | .seq _ (.seq _ (.seq _ (.seq (.seq _ x) _)))=>x
 | _=>.skip
noncomputable def ops5:Array Oper:=match body46 with
 | .seq _ (.seq _ (.seq _ (.seq (.seq (.region _ x _) _) _)))=>x
 | _=>#[]
noncomputable def ops2S:Array Oper:=match body88 with
 | .seq _ (.seq _ (.seq (.region _ x _) _))=>x
 | _=>#[]
noncomputable def tailS:Code:=match body88 with
 | .seq _ (.seq _ (.seq _ x))=>x
 | _=>.skip
variable {w : World} {Ro : Nat → Prop}
set_option maxRecDepth 100000 in
set_option maxHeartbeats 2000000 in
theorem behind_go (pa : Option Addr) (cap : Nat) (num time : Int) (at_ sv : Value) (ss : List Strm) (ps : List Pol) (H : Terr (w.heap.size + 2) (w.heap.size + 4) (Ms ss) Ro) (hn : ∀ s ∈ ss, s.n ≤ 1000000)
  (hlen : ss.length = ps.length) (hps : ∀ (i : Nat) (s : Strm) (p : Pol), ss[i]? = some s → ps[i]? = some p → p.strm = some ⟨s.stb, 0, none⟩) (hok : ∀ s ∈ ss, StrOK w s) (hap : Apart ss) (x0 x1 x2 x3 x4 x5 x6 x7 x8 x10 x11 x12 x13 x14 x15 x16 x17 x18 x19 x20 x21 x22 x23 x24 x25 x26 x27 x28 x29 x30 x31 x32 : Value) (cs : List Frame) (u9 u33 u34 u35 u36 u37 u38 u39 u40 y6 y7 y9 : Value) (w₁ : World) (hw₁ : w₁.heap = (wGo w (.slice pa ps.length cap) num time at_ sv ps.length).heap)
  (K : Goroutine → World → Prop) (hK : ∀ (u9 u33 u34 u35 u36 u37 u38 u39 u40 : Value) (S : Nat → Prop) (w' : World) (now : List Strm), H0 (w.heap.size + 2) (w.heap.size + 4) (Ms ss) (fun _ => False) w₁ S w' [] → Taken (w.heap.size + 4) ss num time ps ps.length S w' now → K (endE (w.heap.size + 2) x0 x1 x2 x3 x4 x5 x6 x7 x8 x10 x11 x12 x13 x14 x15 x16 x17 x18 x19 x20 x21 x22 x23 x24 x25 x26 x27 x28 x29 x30 x31 cs u9 u33 u34 u35 u36 u37 u38 u39 u40) w') :
  SA Tryz.prog (w.heap.size + 2) zE (R0w (w.heap.size + 2) (w.heap.size + 4)) (D0w (w.heap.size + 4) (Ms ss)) (CA1 (w.heap.size + 4) (Ms ss)) K (ps.map (letter num time)) (fun _ => False)
   (G ((base 88).at ⟨#[.slice pa ps.length cap, .agg #[.int .i64 num, .int .i64 time, at_, sv], .pointer (some ⟨w.heap.size, 0, none⟩), .pointer (some ⟨w.heap.size + 1, 0, none⟩), .chan none, .pointer (some ⟨w.heap.size + 3, 0, none⟩), y6, y7, .chan (some (w.heap.size + 2)), y9, undef], []⟩ [.inRegion ops2S [], .code tailS]) (((base 46).at ⟨#[x0, x1, x2, x3, x4, x5, x6, x7, x8, u9, x10, x11, x12, x13, x14, x15, x16, x17, x18, x19, x20, x21, x22, x23, x24, x25, x26, x27, x28, x29, x30, x31, x32, u33, u34, u35, u36, u37, u38, u39, u40], []⟩ [.inRegion ops5 [5], .code blockE, .code tailE]) :: cs)) w₁ := by
 have hsz : w₁.heap.size = w.heap.size + 4 := by rw [hw₁]; exact wGo_size _ _ _ _ _ _ _
 have hold : ∀ k, k < w.heap.size → w₁.heap[k]? = w.heap[k]? := fun k hk => by rw [hw₁]; exact wGo_old _ _ _ _ _ _ _ hk
 have hp5 : w₁.heap[w.heap.size + 3]? = some (.cells #[.chan (some (w.heap.size + 2))] 235) := by rw [hw₁]; exact wGo_p5 _ _ _ _ _ _ _
 have PP := the_pair _ _ _ _ H
 have TT := PP.t0
 generalize hc : w.heap.size + 2 = c at *
 generalize hB : w.heap.size + 4 = B at *
 generalize hq : w.heap.size + 3 = p5 at *
 have hF : H0 c B (fun _ => False) (fun _ => False) w₁ (fun _ => False) w₁ [(p5, .cells #[.chan (some c)] 235)] := H0.start (fun _ x => x.elim) H.chan (by omega) (by intro p hp; simp at hp; subst hp; exact ⟨.inr (show p5 < B by omega), (show p5 ≠ c by omega), hp5⟩)
 have hT : Taken B ss num time ps 0 (fun _ => False) w₁ ss := Taken.start (fun s hs => (hok s hs).heap fun b hb _ => hold b hb) hap
 have hgo := from_e H x0 x1 x2 x3 x4 x5 x6 x7 x8 x10 x11 x12 x13 x14 x15 x16 x17 x18 x19 x20 x21 x22 x23 x24 x25 x26 x27 x28 x29 x30 x31 cs K ss num time ps (fun _ x => x) hn hlen hps w₁ hK ps.length 0 (by omega)
 rw [List.drop_zero] at hgo
 refine SA.of_walk PP ?_
 simp only [headE, loopE, tailE, ops2S, tailS, body88, Tryz.f88, ops5, blockE, body46, Tryz.f46, Option.getD_some] at hgo ⊢
 refine RT.nil TT ?_
 refine RT.seq TT ?_
 refine RT.region TT ?_
 simp only [List.size_toArray, List.length_cons, List.length_nil, Nat.reduceAdd, Nat.zero_add, List.range, List.range.loop]
 refine RT.op rfl (by rfl) (by simp [base]) (fun v1 hR K hK => ?_)
 replace hF := hF.rely hR
 have hc0 := hF.cell (i := 0) (.head _) rfl
 go_simp
 refine hK _ _ ⟨?_, ?_⟩
 ·refine D0w.reads fun e he => ?_
  have hm := mem_listed he
  simp [go_sem, *] at hm
  rcases hm with rfl <;> exact hF.read (.head _) rfl
 clear hK K hR
 rw [grow_self]
 refine RT.op rfl (by rfl) (by simp [base]) (fun v2 hR K hK => ?_)
 replace hF := hF.rely hR
 go_simp
 refine hK _ _ ⟨by rw [listed_nil (by simp [go_sem])]; exact TT.idle _ _, ?_⟩
 clear hK K hR
 rw [grow_self]
 refine RT.nil TT ?_
 refine RT.ret TT ?_
 refine RT.leave TT (v := .chan (some c)) rfl rfl Tryz.func88 (fun w₉ hR9 => ⟨by simp [results, go_sem, Tryz.f88], ?_⟩) ?_
 ·rw [show ∀ t, Sem.events Tryz.prog (results Tryz.f88 t) w₉ #[] = #[] from fun t => by simp [results, go_sem, Tryz.f88], seen_none]; exact TT.idle _ _
 rw [Frame.finish_at]
 change RT Tryz.prog true (R0w c B) (D0w B (Ms ss)) _ _ (G ((base 46).at ⟨#[x0, x1, x2, x3, x4, x5, x6, x7, x8, u9, x10, x11, x12, x13, x14, x15, x16, x17, x18, x19, x20, x21, x22, x23, x24, x25, x26, x27, x28, x29, x30, x31, .chan (some c), u33, u34, u35, u36, u37, u38, u39, u40], []⟩ _) cs) _
 refine RT.nil TT ?_
 refine RT.block TT ?_
 refine RT.loop TT ?_
 have hG : H0 c B (Ms ss) (fun _ => False) w₁ (fun _ => False) v2 [] := (H0.start (fs := []) (fun _ x => x.elim) H.chan (by omega) (by simp)).step hF (fun _ x => x.elim) (by simp)
 have hT2 : Taken B ss num time ps 0 (fun _ => False) v2 ss := hT.heap (c := c) (fun _ x => x) (fun b hb => H.m b hb) (fun _ x => x.elim) (fun b hb hl hc => hF.keep b hb hl hc (fun x => x))
 exact SA.walk PP (hgo u9 u33 u34 u35 u36 u37 u38 u39 u40 _ _ _ hG hT2)
end Go.Proofs.YtpbbmagjhkakgaaGreatDoor.Lf
namespace Go.Proofs.YtpbbmagjhkakgaaGreatDoor.Lf
open Go Go.Conc Go.RowKit
open Go.Proofs (Tryz.f46 Tryz.f88 Tryz.prog Tryz.func46 Tryz.ntmps46 Tryz.func88 Tryz.ntmps88 Tryz.func89)
theorem infoLetter:(Tryz.prog.info? 165).map (fun i=>i.bytes)=some 40:=by kernel_rfl
theorem skip_eq_of {r:Result Next} {w:World} (h:∀ K:Result Next->Prop,K (.ok .skip w)->K r):r=.ok .skip w:=h (·=.ok .skip w) rfl
variable {w : World} {Ro : Nat → Prop}
set_option maxRecDepth 100000 in
set_option maxHeartbeats 2000000 in
theorem send_e (pa:Option Addr) (cap:Nat) (num time:Int) (at_ sv:Value) (ss:List Strm) (ps:List Pol) (H:Terr (w.heap.size+2) (w.heap.size+4) (Ms ss) Ro) (hn:∀ s∈ss,s.n<=1000000) (hN:ps.length<=1000000)
  (hlen:ss.length=ps.length) (hps:∀ (i:Nat) (s:Strm) (p:Pol),ss[i]? = some s->ps[i]? = some p->p.strm=some ⟨s.stb,0,none⟩) (hok:∀ s∈ss,StrOK w s) (hap:Apart ss) (x0 x1 x2 x3 x4 x5 x6 x7 x8 x10 x11 x12 x13 x14 x15 x16 x17 x18 x19 x20 x21 x22 x23 x24 x25 x26 x27 x28 x29 x30 x31 x32:Value) (cs:List Frame) (hcs:∀ fr∈cs,okFrame fr) (u9 u33 u34 u35 u36 u37 u38 u39 u40:Value)
  (hB:∀ w₁:World,w₁.heap=(wGo w (.slice pa ps.length cap) num time at_ sv ps.length).heap->SB Tryz.prog (w.heap.size+2) (RBw (w.heap.size+2) Ro) (DBw (w.heap.size+2) Ro) (CB1 (w.heap.size+2) Ro) ps.length (ps.map (letter num time)) (fun _=>False) (born Tryz.prog (call133 (w.heap.size+3) w.heap.size (w.heap.size+1))) w₁) :
  LeadsR Tryz.prog (fun g w'=>∃ (u9 u33 u34 u35 u36 u37 u38 u39 u40:Value) (S:Nat->Prop) (now:List Strm) (w₁:World),w₁.heap=(wGo w (.slice pa ps.length cap) num time at_ sv ps.length).heap/\w₁.os=w.os/\w₁.output=w.output/\H0 (w.heap.size+2) (w.heap.size+4) (Ms ss) (fun _=>False) w₁ S w' []/\Taken (w.heap.size+4) ss num time ps ps.length S w' now/\g=endE (w.heap.size+2) x0 x1 x2 x3 x4 x5 x6 x7 x8 x10 x11 x12 x13 x14 x15 x16 x17 x18 x19 x20 x21 x22 x23 x24 x25 x26 x27 x28 x29 x30 x31 cs u9 u33 u34 u35 u36 u37 u38 u39 u40)
   (G (Frame.enter Tryz.prog 88 #[.slice pa ps.length cap,.agg #[.int .i64 num,.int .i64 time,at_,sv]] .normal) (((base 46).at ⟨#[x0,x1,x2,x3,x4,x5,x6,x7,x8,u9,x10,x11,x12,x13,x14,x15,x16,x17,x18,x19,x20,x21,x22,x23,x24,x25,x26,x27,x28,x29,x30,x31,x32,u33,u34,u35,u36,u37,u38,u39,u40],[]⟩ [.inRegion ops5 [5],.code blockE,.code tailE])::cs)) w:=by
 have hP:=plain_prog
 have hfr:okFrame ((base 46).at ⟨#[x0,x1,x2,x3,x4,x5,x6,x7,x8,u9,x10,x11,x12,x13,x14,x15,x16,x17,x18,x19,x20,x21,x22,x23,x24,x25,x26,x27,x28,x29,x30,x31,x32,u33,u34,u35,u36,u37,u38,u39,u40],[]⟩ [.inRegion ops5 [5],.code blockE,.code tailE]):=okFrame_at (okItems_cons trivial (okItems_cons trivial (okItems_cons trivial (by simp))))
 have hcs':=okFrames_cons hfr hcs
 have hi0:∀ it∈([]:List Item),okItem it:=by simp
 have hi1:∀ (c:Code),∀ it∈[Item.code c],okItem it:=fun c=>okItems_cons trivial (by simp)
 have hi2:∀ (c d:Code),∀ it∈[Item.code c,Item.code d],okItem it:=fun c d=>okItems_cons trivial (okItems_cons trivial (by simp))
 obtain ⟨ti,hti,hti2⟩:=Option.map_eq_some_iff.1 infoLetter
 have hmk:∀ w:World,(Instr.makeChan 235 (.int .i64 ps.length)).run Tryz.prog w=.ok (.chan (some w.heap.size)) (w.alloc (.chan ps.length #[] false 0 0 false)):=fun w=>run_makeChan Tryz.underlying235 hti .i64 ps.length (by omega) (by rw [hti2];omega)
 rw [enter_at _ Tryz.func88 rfl]
 simp only [Tryz.ntmps88,List.size_toArray,List.length_cons,List.length_nil,Nat.reduceAdd,Nat.reduceSub,Array.replicate_succ,Array.replicate_zero,List.push_toArray,List.append_toArray,List.nil_append,List.cons_append]
 refine LeadsR.seq hP hi0 hcs' ?_
 refine LeadsR.region hP (hi1 _) hcs' ?_
 simp only [List.size_toArray,List.length_cons,List.length_nil,Nat.reduceAdd,Nat.zero_add,List.range,List.range.loop]
 refine LeadsR.val hP (w':=w.alloc (.cells #[.slice pa ps.length cap] 151)) (v:=.pointer (some ⟨w.heap.size,0,none⟩)) rfl (by rfl) (fun τ d=>run_eq_of ?r0) (hi1 _) hcs' ?_
 case r0 =>
  intro K hK
  go_simp
  exact hK
 try walk_nrm
 have s1:(w.alloc (.cells #[.slice pa ps.length cap] 151)).heap.size=w.heap.size+1:=alloc_size _ _
 refine LeadsR.val hP (w':=(w.alloc (.cells #[.slice pa ps.length cap] 151)).alloc (.cells #[.int .i64 num,.int .i64 time,at_,sv] 159)) (v:=.pointer (some ⟨(w.alloc (.cells #[.slice pa ps.length cap] 151)).heap.size,0,none⟩)) rfl (by rfl) (fun τ d=>run_eq_of ?r1) (hi1 _) hcs' ?_
 case r1 =>
  intro K hK
  go_simp
  exact hK
 try walk_nrm
 rw [s1]
 have s2:((w.alloc (.cells #[.slice pa ps.length cap] 151)).alloc (.cells #[.int .i64 num,.int .i64 time,at_,sv] 159)).heap.size=w.heap.size+2:=by rw [alloc_size,s1]
 refine LeadsR.val hP (w':=(w.alloc (.cells #[.slice pa ps.length cap] 151)).alloc (.cells #[.int .i64 num,.int .i64 time,at_,sv] 159)) (v:=.chan none) rfl (by rfl) (fun τ d=>run_eq_of ?r2) (hi1 _) hcs' ?_
 case r2 =>
  intro K hK
  go_simp
  exact hK
 try walk_nrm
 refine LeadsR.nil hP (hi1 _) hcs' ?_
 refine LeadsR.seq hP hi0 hcs' ?_
 refine LeadsR.region hP (hi1 _) hcs' ?_
 simp only [List.size_toArray,List.length_cons,List.length_nil,Nat.reduceAdd,Nat.zero_add,List.range,List.range.loop]
 have hp2:((w.alloc (.cells #[.slice pa ps.length cap] 151)).alloc (.cells #[.int .i64 num,.int .i64 time,at_,sv] 159)).heap[w.heap.size]? = some (.cells #[.slice pa ps.length cap] 151):=by rw [alloc_block _ _ (by rw [s1];omega)];exact alloc_new _ _
 refine LeadsR.val hP (w':=(w.alloc (.cells #[.slice pa ps.length cap] 151)).alloc (.cells #[.int .i64 num,.int .i64 time,at_,sv] 159)) (v:=.slice pa ps.length cap) rfl (by rfl) (fun τ d=>run_eq_of ?r3) (hi1 _) hcs' ?_
 case r3 =>
  intro K hK
  have hc0:(re ((w.alloc (.cells #[.slice pa ps.length cap] 151)).alloc (.cells #[.int .i64 num,.int .i64 time,at_,sv] 159)) τ d).cell? ⟨w.heap.size,0,none⟩=some (.slice pa ps.length cap):=cell_at (w:=re ((w.alloc (.cells #[.slice pa ps.length cap] 151)).alloc (.cells #[.int .i64 num,.int .i64 time,at_,sv] 159)) τ d) hp2 rfl
  go_simp
  exact hK
 try walk_nrm
 refine LeadsR.val hP (w':=(w.alloc (.cells #[.slice pa ps.length cap] 151)).alloc (.cells #[.int .i64 num,.int .i64 time,at_,sv] 159)) (v:=.int .i64 ps.length) rfl (by rfl) (fun τ d=>run_eq_of ?r4) (hi1 _) hcs' ?_
 case r4 =>
  intro K hK
  go_simp
  exact hK
 try walk_nrm
 refine LeadsR.val hP (w':=((w.alloc (.cells #[.slice pa ps.length cap] 151)).alloc (.cells #[.int .i64 num,.int .i64 time,at_,sv] 159)).alloc (.chan ps.length #[] false 0 0 false)) (v:=.chan (some ((w.alloc (.cells #[.slice pa ps.length cap] 151)).alloc (.cells #[.int .i64 num,.int .i64 time,at_,sv] 159)).heap.size)) rfl (by rfl) (fun τ d=>run_eq_of ?r5) (hi1 _) hcs' ?_
 case r5 =>
  intro K hK
  go_simp
  first | exact hK | (rw [hmk];exact hK)
 try walk_nrm
 rw [s2]
 have s3:(((w.alloc (.cells #[.slice pa ps.length cap] 151)).alloc (.cells #[.int .i64 num,.int .i64 time,at_,sv] 159)).alloc (.chan ps.length #[] false 0 0 false)).heap.size=w.heap.size+3:=by rw [alloc_size,s2]
 refine LeadsR.val hP (w':=(((w.alloc (.cells #[.slice pa ps.length cap] 151)).alloc (.cells #[.int .i64 num,.int .i64 time,at_,sv] 159)).alloc (.chan ps.length #[] false 0 0 false)).alloc (.cells #[.chan none] 235)) (v:=.pointer (some ⟨(((w.alloc (.cells #[.slice pa ps.length cap] 151)).alloc (.cells #[.int .i64 num,.int .i64 time,at_,sv] 159)).alloc (.chan ps.length #[] false 0 0 false)).heap.size,0,none⟩)) rfl (by rfl) (fun τ d=>run_eq_of ?r6) (hi1 _) hcs' ?_
 case r6 =>
  intro K hK
  go_simp
  exact hK
 try walk_nrm
 rw [s3]
 have hp4:((((w.alloc (.cells #[.slice pa ps.length cap] 151)).alloc (.cells #[.int .i64 num,.int .i64 time,at_,sv] 159)).alloc (.chan ps.length #[] false 0 0 false)).alloc (.cells #[.chan none] 235)).heap[w.heap.size+3]? = some (.cells #[.chan none] 235):=by rw [<- s3];exact alloc_new _ _
 refine LeadsR.non hP (w':=((((w.alloc (.cells #[.slice pa ps.length cap] 151)).alloc (.cells #[.int .i64 num,.int .i64 time,at_,sv] 159)).alloc (.chan ps.length #[] false 0 0 false)).alloc (.cells #[.chan none] 235)).setCell ⟨w.heap.size+3,0,none⟩ (.chan (some (w.heap.size+2)))) rfl (by rfl) (fun τ d=>skip_eq_of ?r7) (hi1 _) hcs' ?_
 case r7 =>
  intro K hK
  have hc0:(re ((((w.alloc (.cells #[.slice pa ps.length cap] 151)).alloc (.cells #[.int .i64 num,.int .i64 time,at_,sv] 159)).alloc (.chan ps.length #[] false 0 0 false)).alloc (.cells #[.chan none] 235)) τ d).cell? ⟨w.heap.size+3,0,none⟩=some (.chan none):=cell_at (w:=re ((((w.alloc (.cells #[.slice pa ps.length cap] 151)).alloc (.cells #[.int .i64 num,.int .i64 time,at_,sv] 159)).alloc (.chan ps.length #[] false 0 0 false)).alloc (.cells #[.chan none] 235)) τ d) hp4 rfl
  have hz0:(re ((((w.alloc (.cells #[.slice pa ps.length cap] 151)).alloc (.cells #[.int .i64 num,.int .i64 time,at_,sv] 159)).alloc (.chan ps.length #[] false 0 0 false)).alloc (.cells #[.chan none] 235)) τ d).frozen? ⟨w.heap.size+3,0,none⟩=false:=by simp [World.frozen?,show (re ((((w.alloc (.cells #[.slice pa ps.length cap] 151)).alloc (.cells #[.int .i64 num,.int .i64 time,at_,sv] 159)).alloc (.chan ps.length #[] false 0 0 false)).alloc (.cells #[.chan none] 235)) τ d).heap[w.heap.size+3]? = _ from hp4]
  go_simp
  exact hK
 try walk_nrm
 refine LeadsR.nil hP (hi1 _) hcs' ?_
 refine LeadsR.seq hP hi0 hcs' ?_
 refine LeadsR.region hP (hi1 _) hcs' ?_
 simp only [List.size_toArray,List.length_cons,List.length_nil,Nat.reduceAdd,Nat.zero_add,List.range,List.range.loop]
 have hw5:(((((w.alloc (.cells #[.slice pa ps.length cap] 151)).alloc (.cells #[.int .i64 num,.int .i64 time,at_,sv] 159)).alloc (.chan ps.length #[] false 0 0 false)).alloc (.cells #[.chan none] 235)).setCell ⟨w.heap.size+3,0,none⟩ (.chan (some (w.heap.size+2)))).heap=(wGo w (.slice pa ps.length cap) num time at_ sv ps.length).heap:=rfl
 have ho5:(((((w.alloc (.cells #[.slice pa ps.length cap] 151)).alloc (.cells #[.int .i64 num,.int .i64 time,at_,sv] 159)).alloc (.chan ps.length #[] false 0 0 false)).alloc (.cells #[.chan none] 235)).setCell ⟨w.heap.size+3,0,none⟩ (.chan (some (w.heap.size+2)))).os=w.os:=rfl
 have hu5:(((((w.alloc (.cells #[.slice pa ps.length cap] 151)).alloc (.cells #[.int .i64 num,.int .i64 time,at_,sv] 159)).alloc (.chan ps.length #[] false 0 0 false)).alloc (.cells #[.chan none] 235)).setCell ⟨w.heap.size+3,0,none⟩ (.chan (some (w.heap.size+2)))).output=w.output:=rfl
 generalize (((((w.alloc (.cells #[.slice pa ps.length cap] 151)).alloc (.cells #[.int .i64 num,.int .i64 time,at_,sv] 159)).alloc (.chan ps.length #[] false 0 0 false)).alloc (.cells #[.chan none] 235)).setCell ⟨w.heap.size+3,0,none⟩ (.chan (some (w.heap.size+2))))=w5 at hw5 ho5 hu5 ⊢
 refine LeadsR.val hP (w':=w5) (v:=.func (.func 133) #[] #[.pointer (some ⟨w.heap.size+3,0,none⟩),.pointer (some ⟨w.heap.size,0,none⟩),.pointer (some ⟨w.heap.size+1,0,none⟩)]) rfl (by rfl) (fun τ d=>run_eq_of ?r8) (hi1 _) hcs' ?_
 case r8 =>
  intro K hK
  go_simp
  exact hK
 try walk_nrm
 refine LeadsR.spawn rfl (fun τ d=>⟨_,_,_,_,stepG_spawn (d:=call133 (w.heap.size+3) w.heap.size (w.heap.size+1)) (w':=re w5 τ d) rfl (by rfl) (by simp [base]) ?_ rfl,?_,?_⟩)
 ·simp [execOp,go_sem,call133]
 ·intro e he
  have hm:=mem_listed he
  simp [go_sem] at hm
 refine ⟨w.heap.size+2,zE,R0w (w.heap.size+2) (w.heap.size+4),D0w (w.heap.size+4) (Ms ss),RBw (w.heap.size+2) Ro,DBw (w.heap.size+2) Ro,CA1 (w.heap.size+4) (Ms ss),CB1 (w.heap.size+2) Ro,ps.length,ps.map (letter num time),?_,hB _ hw5,?_,(show w5.heap[w.heap.size+2]? = _ from hw5▸wGo_c w _ num time at_ sv ps.length),by simp⟩
 ·have e:(re w5 τ d).heap.size=w.heap.size+4:=(congrArg Array.size hw5).trans (wGo_size w (.slice pa ps.length cap) num time at_ sv ps.length)
  rw [e];exact the_pair _ _ _ _ H
 try walk_nrm
 have:=behind_go (w:=w) pa cap num time at_ sv ss ps H hn hlen hps hok hap x0 x1 x2 x3 x4 x5 x6 x7 x8 x10 x11 x12 x13 x14 x15 x16 x17 x18 x19 x20 x21 x22 x23 x24 x25 x26 x27 x28 x29 x30 x31 x32 cs u9 u33 u34 u35 u36 u37 u38 u39 u40 (.slice pa ps.length cap) (.int .i64 ps.length) (.func (.func 133) #[] #[.pointer (some ⟨w.heap.size+3,0,none⟩),.pointer (some ⟨w.heap.size,0,none⟩),.pointer (some ⟨w.heap.size+1,0,none⟩)]) (re w5 τ d) hw5 (fun g w'=>∃ (u9 u33 u34 u35 u36 u37 u38 u39 u40:Value) (S:Nat->Prop) (now:List Strm) (w₁:World),w₁.heap=(wGo w (.slice pa ps.length cap) num time at_ sv ps.length).heap/\w₁.os=w.os/\w₁.output=w.output/\H0 (w.heap.size+2) (w.heap.size+4) (Ms ss) (fun _=>False) w₁ S w' []/\Taken (w.heap.size+4) ss num time ps ps.length S w' now/\g=endE (w.heap.size+2) x0 x1 x2 x3 x4 x5 x6 x7 x8 x10 x11 x12 x13 x14 x15 x16 x17 x18 x19 x20 x21 x22 x23 x24 x25 x26 x27 x28 x29 x30 x31 cs u9 u33 u34 u35 u36 u37 u38 u39 u40)
  (fun u9 u33 u34 u35 u36 u37 u38 u39 u40 S w' now h1 h2=>⟨u9,u33,u34,u35,u36,u37,u38,u39,u40,S,now,re w5 τ d,hw5,ho5,hu5,h1,h2,rfl⟩)
 simp only [ops2S,tailS,body88,Tryz.f88,Option.getD_some] at this
 exact this
end Go.Proofs.YtpbbmagjhkakgaaGreatDoor.Lf
namespace Go.Proofs.YtpbbmagjhkakgaaGreatDoor.Lf
open Go Go.Conc Go.RowKit
open Go.Proofs (Tryz.f46 Tryz.f88 Tryz.prog Tryz.func46 Tryz.ntmps46 Tryz.func88 Tryz.ntmps88 Tryz.func89)
variable {w : World} {Ro : Nat → Prop}
structure EvPost (w w':World) (ss:List Strm) (num time:Int) (ps:List Pol):Prop where
 os:w'.os=w.os
 output:w'.output=w.output
 size:w.heap.size<=w'.heap.size
 keep:∀ b,b<w.heap.size->¬ Ms ss b->w'.heap[b]? = w.heap[b]?
 taken:∃ (S:Nat->Prop) (now:List Strm),(∀ b,S b->w.heap.size<=b)/\Taken (w.heap.size+4) ss num time ps ps.length S w' now
theorem EvPost.re {w':World} {ss:List Strm} {num time:Int} {ps:List Pol} (h:EvPost w w' ss num time ps) (τ:Tape) (d:Nat):EvPost w (re w' τ d) ss num time ps:=by
 obtain ⟨h1,h2,h3,h4,S,now,h5,h6⟩:=h
 exact ⟨h1,h2,h3,h4,S,now,h5,h6.len,h6.rest,h6.done,h6.ok,h6.apart,h6.mine⟩
noncomputable def midE:Code:=match body46 with
 | .seq _ (.seq _ (.seq _ (.seq x _)))=>x
 | _=>.skip
set_option maxRecDepth 100000 in
set_option maxHeartbeats 2000000 in
theorem end_e (R:Ending->World->Prop) (c:Nat) (x0 x1 x2 x3 x4 x5 x6 x7 x8 x10 x11 x12 x13 x14 x15 x16 x17 x18 x19 x20 x21 x22 x23 x24 x25 x26 x27 x28 x29 x30 x31:Value) (cs:List Frame) (hcs:∀ fr∈cs,okFrame fr) (u9 u33 u34 u35 u36 u37 u38 u39 u40:Value) (w:World) (hR:∀ τ d,R (.returned .nilIface) (re w τ d)) :
  LeadsR Tryz.prog (fun g w'=>∃ e fr,g=G fr cs/\okFrame fr/\R e w'/\fr.fn=46/\fr.leaving Tryz.prog w' e) (endE c x0 x1 x2 x3 x4 x5 x6 x7 x8 x10 x11 x12 x13 x14 x15 x16 x17 x18 x19 x20 x21 x22 x23 x24 x25 x26 x27 x28 x29 x30 x31 cs u9 u33 u34 u35 u36 u37 u38 u39 u40) w:=by
 have hP:=plain_prog
 have hi4:∀ (a b d:Code),∀ it∈[Item.code a,.inLoop b,.inBlock 0,.code d],okItem it:=fun a b d=>okItems_cons trivial (okItems_cons trivial (okItems_cons trivial (okItems_cons trivial (by simp))))
 have hi3:∀ (b d:Code),∀ it∈[Item.inLoop b,.inBlock 0,.code d],okItem it:=fun b d=>okItems_cons trivial (okItems_cons trivial (okItems_cons trivial (by simp)))
 have hi1:∀ (c:Code),∀ it∈[Item.code c],okItem it:=fun c=>okItems_cons trivial (by simp)
 have hi0:∀ it∈([]:List Item),okItem it:=by simp
 simp only [endE,loopE,tailE,opsE,body46,Tryz.f46,Option.getD_some]
 refine LeadsR.val hP (w':=w) (v:=.bool false) rfl (by rfl) (fun τ d=>run_eq_of ?r0) (hi4 _ _ _) hcs ?_
 case r0=>intro K hK;go_simp;exact hK
 try walk_nrm
 refine LeadsR.nil hP (hi4 _ _ _) hcs ?_
 refine LeadsR.seq hP (hi3 _ _) hcs ?_
 refine LeadsR.code (Q:=fun e a' w'=>e=.exit 0/\a'=_/\∃ τ d,w'=re w τ d) (HWp.cond hP (t:=false) rfl (HWp.exit hP (fun τ d=>⟨rfl,rfl,τ,d,rfl⟩))) ⟨hi4 _ _ _,hcs,fun id a w x=>by obtain ⟨x,_⟩:=x;cases x;exact ⟨_,rfl⟩,fun id a w x=>by cases x.1⟩ (fun e a' w' g x y=>?_)
 obtain ⟨rfl,rfl,τ,d,rfl⟩:=x
 obtain ⟨k',hk',rfl⟩:=y
 cases hk'
 refine LeadsR.other ?_ τ d
 refine LeadsR.seq hP hi0 hcs ?_
 refine LeadsR.region hP (hi1 _) hcs ?_
 simp only [List.size_toArray,List.length_cons,List.length_nil,Nat.zero_add,List.range,List.range.loop]
 refine LeadsR.val hP (w':=w) (v:=.nilIface) rfl (by rfl) (fun τ d=>run_eq_of ?r1) (hi1 _) hcs ?_
 case r1=>intro K hK;go_simp;exact hK
 try walk_nrm
 refine LeadsR.nil hP (hi1 _) hcs ?_
 exact LeadsR.ret hP hi0 hcs Tryz.func46 rfl (fun τ d=>by simp [results,go_sem,Tryz.f46]) hR
set_option maxRecDepth 100000 in
set_option maxHeartbeats 4000000 in
theorem rest_e (wtb evb:Nat) (pa:Option Addr) (cap:Nat) (num time:Int) (at_ sv:Value) (ss:List Strm) (ps:List Pol) (H:Terr (w.heap.size+2) (w.heap.size+4) (Ms ss) Ro) (hn:∀ s∈ss,s.n<=1000000) (hN:ps.length<=1000000)
  (hlen:ss.length=ps.length) (hps:∀ (i:Nat) (s:Strm) (p:Pol),ss[i]? = some s->ps[i]? = some p->p.strm=some ⟨s.stb,0,none⟩) (hok:∀ s∈ss,StrOK w s) (hap:Apart ss) (x1 x2 x3 x4 x5 x6 x7 x10 x11 x12 x13 x14 x15 x16 x17 x18 x19 x20 x21 x22 x23 x24 x25 x26 x27 x28 x29 x30 x31 x32:Value) (cs:List Frame) (hcs:∀ fr∈cs,okFrame fr) (u9 u33 u34 u35 u36 u37 u38 u39 u40:Value)
  (r1 r2 r3 r4:Value) (hwt:w.heap[wtb]? = some (.cells #[r1,r2,r3,r4,.slice pa ps.length cap] 153 (0,0))) (hev:w.heap[evb]? = some (.cells #[.int .i64 num,.int .i64 time,at_,sv] 159 (0,0)))
  (hB:∀ w₁:World,w₁.heap=(wGo w (.slice pa ps.length cap) num time at_ sv ps.length).heap->SB Tryz.prog (w.heap.size+2) (RBw (w.heap.size+2) Ro) (DBw (w.heap.size+2) Ro) (CB1 (w.heap.size+2) Ro) ps.length (ps.map (letter num time)) (fun _=>False) (born Tryz.prog (call133 (w.heap.size+3) w.heap.size (w.heap.size+1))) w₁) :
  LeadsR Tryz.prog (fun g w'=>∃ e fr,g=G fr cs/\okFrame fr/\(e=.returned .nilIface/\EvPost w w' ss num time ps)/\fr.fn=46/\fr.leaving Tryz.prog w' e) (G ((base 46).at ⟨#[(.pointer (some ⟨wtb,0,none⟩)),x1,x2,x3,x4,x5,x6,x7,(.pointer (some ⟨evb,0,none⟩)),u9,x10,x11,x12,x13,x14,x15,x16,x17,x18,x19,x20,x21,x22,x23,x24,x25,x26,x27,x28,x29,x30,x31,x32,u33,u34,u35,u36,u37,u38,u39,u40],[]⟩ [.code midE,.code tailE]) cs) w:=by
 have hP:=plain_prog
 have hi0:∀ it∈([]:List Item),okItem it:=by simp
 have hi1:∀ (c:Code),∀ it∈[Item.code c],okItem it:=fun c=>okItems_cons trivial (by simp)
 have hi2:∀ (c d:Code),∀ it∈[Item.code c,Item.code d],okItem it:=fun c d=>okItems_cons trivial (okItems_cons trivial (by simp))
 have last:LeadsR Tryz.prog (fun g w'=>∃ e fr,g=G fr cs/\okFrame fr/\(e=.returned .nilIface/\EvPost w w' ss num time ps)/\fr.fn=46/\fr.leaving Tryz.prog w' e) (G ((base 46).at ⟨#[(.pointer (some ⟨wtb,0,none⟩)),x1,x2,x3,x4,x5,x6,x7,(.pointer (some ⟨evb,0,none⟩)),u9,x10,x11,x12,x13,x14,x15,x16,x17,x18,x19,x20,x21,x22,x23,x24,x25,x26,(.pointer (some ⟨wtb,0,none⟩)),(.pointer (some ⟨wtb,0,none⟩)),(.pointer (some ⟨wtb,4,none⟩)),(.slice pa ps.length cap),(.agg #[.int .i64 num,.int .i64 time,at_,sv]),x32,u33,u34,u35,u36,u37,u38,u39,u40],[]⟩ [.inRegion ops5 [5],.code blockE,.code tailE]) cs) w:=by
  have hs:=send_e pa cap num time at_ sv ss ps H hn hN hlen hps hok hap (.pointer (some ⟨wtb,0,none⟩)) x1 x2 x3 x4 x5 x6 x7 (.pointer (some ⟨evb,0,none⟩)) x10 x11 x12 x13 x14 x15 x16 x17 x18 x19 x20 x21 x22 x23 x24 x25 x26 (.pointer (some ⟨wtb,0,none⟩)) (.pointer (some ⟨wtb,0,none⟩)) (.pointer (some ⟨wtb,4,none⟩)) (.slice pa ps.length cap) (.agg #[.int .i64 num,.int .i64 time,at_,sv]) x32 cs hcs u9 u33 u34 u35 u36 u37 u38 u39 u40 hB
  have hr:∀ τ d,(execOp (Act.eval ⟨#[(.pointer (some ⟨wtb,0,none⟩)),x1,x2,x3,x4,x5,x6,x7,(.pointer (some ⟨evb,0,none⟩)),u9,x10,x11,x12,x13,x14,x15,x16,x17,x18,x19,x20,x21,x22,x23,x24,x25,x26,(.pointer (some ⟨wtb,0,none⟩)),(.pointer (some ⟨wtb,0,none⟩)),(.pointer (some ⟨wtb,4,none⟩)),(.slice pa ps.length cap),(.agg #[.int .i64 num,.int .i64 time,at_,sv]),x32,u33,u34,u35,u36,u37,u38,u39,u40],[]⟩) (ops5.getD 5 default)).run Tryz.prog (re w τ d)=.ok (.enter 88 #[.slice pa ps.length cap,.agg #[.int .i64 num,.int .i64 time,at_,sv]]) (re w τ d):=fun τ d=>by rw [run_call_body (o:=ops5.getD 5 default) (args:=#[.tmp 30,.tmp 31]) (ats:=#[151,159]) rfl Tryz.func88 (by decide) rfl];simp only [List.map_toArray,List.map_cons,List.map_nil];rfl
  refine LeadsR.enter hP (o:=ops5.getD 5 default) (by simp [ops5,body46,Tryz.f46]) (by simp [ops5,body46,Tryz.f46,Region.wanted]) hr (hi2 _ _) hcs (hs.trans ?_)
  rintro g w' ⟨u9,u33,u34,u35,u36,u37,u38,u39,u40,S,now,w₁,e1,e2,e3,h1,h2,rfl⟩
  refine end_e (fun e w'=>e=.returned .nilIface/\EvPost w w' ss num time ps) _ (.pointer (some ⟨wtb,0,none⟩)) x1 x2 x3 x4 x5 x6 x7 (.pointer (some ⟨evb,0,none⟩)) x10 x11 x12 x13 x14 x15 x16 x17 x18 x19 x20 x21 x22 x23 x24 x25 x26 (.pointer (some ⟨wtb,0,none⟩)) (.pointer (some ⟨wtb,0,none⟩)) (.pointer (some ⟨wtb,4,none⟩)) (.slice pa ps.length cap) (.agg #[.int .i64 num,.int .i64 time,at_,sv]) cs hcs u9 u33 u34 u35 u36 u37 u38 u39 u40 w' (fun τ d=>⟨rfl,EvPost.re ⟨h1.os.trans e2,h1.output.trans e3,?_,fun b hb hm=>?_,S,now,fun b hb=>?_,h2⟩ τ d⟩)
  ·have:=h1.base;omega
  ·rw [h1.keep b (.inr (by omega)) (by have:=h1.low;omega) (by omega) hm,e1];exact wGo_old _ _ _ _ _ _ _ hb
  ·have:=(h1.own b hb).1;omega
 simp only [midE,tailE,blockE,ops5,body46,Tryz.f46,Option.getD_some] at last ⊢
 refine LeadsR.seq hP (hi1 _) hcs ?_
 refine LeadsR.draw hP (hi2 _ _) hcs (fun t=>?_)
 have hmem:=schedule_mem (P:=Tryz.prog) (by kernel_rfl) ops5 t
 rw [show allOrders .any ops5 ops5.size (Array.replicate ops5.size false)=[[0,1,2,3,4,5],[0,1,2,4,3,5],[0,1,4,2,3,5],[0,4,1,2,3,5],[4,0,1,2,3,5]] from by decide +kernel] at hmem
 simp only [ops5,body46,Tryz.f46,Option.getD_some,List.mem_cons,List.not_mem_nil,or_false] at hmem
 rcases hmem with hm | hm | hm | hm | hm<;>rw [hm]<;>clear hm
 ·refine LeadsR.val hP (w':=w) (v:=.pointer (some ⟨wtb,0,none⟩)) rfl (by rfl) (fun τ d=>run_eq_of ?r0) (hi2 _ _) hcs ?_
  case r0 =>
   intro K hK
   go_simp
   exact hK
  try walk_nrm
  refine LeadsR.val hP (w':=w) (v:=.pointer (some ⟨wtb,0,none⟩)) rfl (by rfl) (fun τ d=>run_eq_of ?r1) (hi2 _ _) hcs ?_
  case r1 =>
   intro K hK
   go_simp
   exact hK
  try walk_nrm
  refine LeadsR.val hP (w':=w) (v:=.pointer (some ⟨wtb,4,none⟩)) rfl (by rfl) (fun τ d=>run_eq_of ?r2) (hi2 _ _) hcs ?_
  case r2 =>
   intro K hK
   go_simp
   exact hK
  try walk_nrm
  refine LeadsR.val hP (w':=w) (v:=.slice pa ps.length cap) rfl (by rfl) (fun τ d=>run_eq_of ?r3) (hi2 _ _) hcs ?_
  case r3 =>
   intro K hK
   have hc0:(re w τ d).cell? ⟨wtb,4,none⟩=some (.slice pa ps.length cap):=cell_at (w:=re w τ d) hwt rfl
   go_simp
   exact hK
  try walk_nrm
  refine LeadsR.val hP (w':=w) (v:=.agg #[.int .i64 num,.int .i64 time,at_,sv]) rfl (by rfl) (fun τ d=>run_eq_of ?r4) (hi2 _ _) hcs ?_
  case r4 =>
   intro K hK
   have hc0:(re w τ d).cell? ⟨evb,0,none⟩=some (.int .i64 num):=cell_at (w:=re w τ d) hev rfl
   have hc1:(re w τ d).cell? ⟨evb,1,none⟩=some (.int .i64 time):=cell_at (w:=re w τ d) hev rfl
   have hc2:(re w τ d).cell? ⟨evb,2,none⟩=some (at_):=cell_at (w:=re w τ d) hev rfl
   have hc3:(re w τ d).cell? ⟨evb,3,none⟩=some (sv):=cell_at (w:=re w τ d) hev rfl
   go_simp
   exact hK
  try walk_nrm
  exact last
 ·refine LeadsR.val hP (w':=w) (v:=.pointer (some ⟨wtb,0,none⟩)) rfl (by rfl) (fun τ d=>run_eq_of ?r0) (hi2 _ _) hcs ?_
  case r0 =>
   intro K hK
   go_simp
   exact hK
  try walk_nrm
  refine LeadsR.val hP (w':=w) (v:=.pointer (some ⟨wtb,0,none⟩)) rfl (by rfl) (fun τ d=>run_eq_of ?r1) (hi2 _ _) hcs ?_
  case r1 =>
   intro K hK
   go_simp
   exact hK
  try walk_nrm
  refine LeadsR.val hP (w':=w) (v:=.pointer (some ⟨wtb,4,none⟩)) rfl (by rfl) (fun τ d=>run_eq_of ?r2) (hi2 _ _) hcs ?_
  case r2 =>
   intro K hK
   go_simp
   exact hK
  try walk_nrm
  refine LeadsR.val hP (w':=w) (v:=.agg #[.int .i64 num,.int .i64 time,at_,sv]) rfl (by rfl) (fun τ d=>run_eq_of ?r4) (hi2 _ _) hcs ?_
  case r4 =>
   intro K hK
   have hc0:(re w τ d).cell? ⟨evb,0,none⟩=some (.int .i64 num):=cell_at (w:=re w τ d) hev rfl
   have hc1:(re w τ d).cell? ⟨evb,1,none⟩=some (.int .i64 time):=cell_at (w:=re w τ d) hev rfl
   have hc2:(re w τ d).cell? ⟨evb,2,none⟩=some (at_):=cell_at (w:=re w τ d) hev rfl
   have hc3:(re w τ d).cell? ⟨evb,3,none⟩=some (sv):=cell_at (w:=re w τ d) hev rfl
   go_simp
   exact hK
  try walk_nrm
  refine LeadsR.val hP (w':=w) (v:=.slice pa ps.length cap) rfl (by rfl) (fun τ d=>run_eq_of ?r3) (hi2 _ _) hcs ?_
  case r3 =>
   intro K hK
   have hc0:(re w τ d).cell? ⟨wtb,4,none⟩=some (.slice pa ps.length cap):=cell_at (w:=re w τ d) hwt rfl
   go_simp
   exact hK
  try walk_nrm
  exact last
 ·refine LeadsR.val hP (w':=w) (v:=.pointer (some ⟨wtb,0,none⟩)) rfl (by rfl) (fun τ d=>run_eq_of ?r0) (hi2 _ _) hcs ?_
  case r0 =>
   intro K hK
   go_simp
   exact hK
  try walk_nrm
  refine LeadsR.val hP (w':=w) (v:=.pointer (some ⟨wtb,0,none⟩)) rfl (by rfl) (fun τ d=>run_eq_of ?r1) (hi2 _ _) hcs ?_
  case r1 =>
   intro K hK
   go_simp
   exact hK
  try walk_nrm
  refine LeadsR.val hP (w':=w) (v:=.agg #[.int .i64 num,.int .i64 time,at_,sv]) rfl (by rfl) (fun τ d=>run_eq_of ?r4) (hi2 _ _) hcs ?_
  case r4 =>
   intro K hK
   have hc0:(re w τ d).cell? ⟨evb,0,none⟩=some (.int .i64 num):=cell_at (w:=re w τ d) hev rfl
   have hc1:(re w τ d).cell? ⟨evb,1,none⟩=some (.int .i64 time):=cell_at (w:=re w τ d) hev rfl
   have hc2:(re w τ d).cell? ⟨evb,2,none⟩=some (at_):=cell_at (w:=re w τ d) hev rfl
   have hc3:(re w τ d).cell? ⟨evb,3,none⟩=some (sv):=cell_at (w:=re w τ d) hev rfl
   go_simp
   exact hK
  try walk_nrm
  refine LeadsR.val hP (w':=w) (v:=.pointer (some ⟨wtb,4,none⟩)) rfl (by rfl) (fun τ d=>run_eq_of ?r2) (hi2 _ _) hcs ?_
  case r2 =>
   intro K hK
   go_simp
   exact hK
  try walk_nrm
  refine LeadsR.val hP (w':=w) (v:=.slice pa ps.length cap) rfl (by rfl) (fun τ d=>run_eq_of ?r3) (hi2 _ _) hcs ?_
  case r3 =>
   intro K hK
   have hc0:(re w τ d).cell? ⟨wtb,4,none⟩=some (.slice pa ps.length cap):=cell_at (w:=re w τ d) hwt rfl
   go_simp
   exact hK
  try walk_nrm
  exact last
 ·refine LeadsR.val hP (w':=w) (v:=.pointer (some ⟨wtb,0,none⟩)) rfl (by rfl) (fun τ d=>run_eq_of ?r0) (hi2 _ _) hcs ?_
  case r0 =>
   intro K hK
   go_simp
   exact hK
  try walk_nrm
  refine LeadsR.val hP (w':=w) (v:=.agg #[.int .i64 num,.int .i64 time,at_,sv]) rfl (by rfl) (fun τ d=>run_eq_of ?r4) (hi2 _ _) hcs ?_
  case r4 =>
   intro K hK
   have hc0:(re w τ d).cell? ⟨evb,0,none⟩=some (.int .i64 num):=cell_at (w:=re w τ d) hev rfl
   have hc1:(re w τ d).cell? ⟨evb,1,none⟩=some (.int .i64 time):=cell_at (w:=re w τ d) hev rfl
   have hc2:(re w τ d).cell? ⟨evb,2,none⟩=some (at_):=cell_at (w:=re w τ d) hev rfl
   have hc3:(re w τ d).cell? ⟨evb,3,none⟩=some (sv):=cell_at (w:=re w τ d) hev rfl
   go_simp
   exact hK
  try walk_nrm
  refine LeadsR.val hP (w':=w) (v:=.pointer (some ⟨wtb,0,none⟩)) rfl (by rfl) (fun τ d=>run_eq_of ?r1) (hi2 _ _) hcs ?_
  case r1 =>
   intro K hK
   go_simp
   exact hK
  try walk_nrm
  refine LeadsR.val hP (w':=w) (v:=.pointer (some ⟨wtb,4,none⟩)) rfl (by rfl) (fun τ d=>run_eq_of ?r2) (hi2 _ _) hcs ?_
  case r2 =>
   intro K hK
   go_simp
   exact hK
  try walk_nrm
  refine LeadsR.val hP (w':=w) (v:=.slice pa ps.length cap) rfl (by rfl) (fun τ d=>run_eq_of ?r3) (hi2 _ _) hcs ?_
  case r3 =>
   intro K hK
   have hc0:(re w τ d).cell? ⟨wtb,4,none⟩=some (.slice pa ps.length cap):=cell_at (w:=re w τ d) hwt rfl
   go_simp
   exact hK
  try walk_nrm
  exact last
 ·refine LeadsR.val hP (w':=w) (v:=.agg #[.int .i64 num,.int .i64 time,at_,sv]) rfl (by rfl) (fun τ d=>run_eq_of ?r4) (hi2 _ _) hcs ?_
  case r4 =>
   intro K hK
   have hc0:(re w τ d).cell? ⟨evb,0,none⟩=some (.int .i64 num):=cell_at (w:=re w τ d) hev rfl
   have hc1:(re w τ d).cell? ⟨evb,1,none⟩=some (.int .i64 time):=cell_at (w:=re w τ d) hev rfl
   have hc2:(re w τ d).cell? ⟨evb,2,none⟩=some (at_):=cell_at (w:=re w τ d) hev rfl
   have hc3:(re w τ d).cell? ⟨evb,3,none⟩=some (sv):=cell_at (w:=re w τ d) hev rfl
   go_simp
   exact hK
  try walk_nrm
  refine LeadsR.val hP (w':=w) (v:=.pointer (some ⟨wtb,0,none⟩)) rfl (by rfl) (fun τ d=>run_eq_of ?r0) (hi2 _ _) hcs ?_
  case r0 =>
   intro K hK
   go_simp
   exact hK
  try walk_nrm
  refine LeadsR.val hP (w':=w) (v:=.pointer (some ⟨wtb,0,none⟩)) rfl (by rfl) (fun τ d=>run_eq_of ?r1) (hi2 _ _) hcs ?_
  case r1 =>
   intro K hK
   go_simp
   exact hK
  try walk_nrm
  refine LeadsR.val hP (w':=w) (v:=.pointer (some ⟨wtb,4,none⟩)) rfl (by rfl) (fun τ d=>run_eq_of ?r2) (hi2 _ _) hcs ?_
  case r2 =>
   intro K hK
   go_simp
   exact hK
  try walk_nrm
  refine LeadsR.val hP (w':=w) (v:=.slice pa ps.length cap) rfl (by rfl) (fun τ d=>run_eq_of ?r3) (hi2 _ _) hcs ?_
  case r3 =>
   intro K hK
   have hc0:(re w τ d).cell? ⟨wtb,4,none⟩=some (.slice pa ps.length cap):=cell_at (w:=re w τ d) hwt rfl
   go_simp
   exact hK
  try walk_nrm
  exact last
end Go.Proofs.YtpbbmagjhkakgaaGreatDoor.Lf
namespace Go.Proofs.YtpbbmagjhkakgaaGreatDoor.Lf
open Go Go.Conc Go.RowKit
open Go.Proofs (Tryz.f46 Tryz.f88 Tryz.prog)
variable {w : World}
def PolsIn (w:World) (pa:Option Addr) (cap:Nat) (ps:List Pol):Prop :=
 (pa=none/\ps=[]/\cap=0)\/∃ pb po parr mp,pa=some ⟨pb,po,none⟩/\w.heap[pb]? = some (.cells parr 183 mp)/\PolsAt parr po ps
def SoIn (w:World) (sv:Value) (ps:List Pol):Prop:=∃ sb so n cp arr m,sv=.slice (some ⟨sb,so,none⟩) n cp/\w.heap[sb]? = some (.cells arr 4 m)/\∀ p∈ps,arr[so+p.node]? = some (.bool p.v)/\p.node<n
theorem Ms.tag {ss:List Strm} (hok:∀ s∈ss,StrOK w s) {b:Nat} (h:Ms ss b):∃ cs t,w.heap[b]? = some (.cells cs t (0,0))/\(t=177\/t=59):=by
 obtain ⟨s,hs,rfl | hb⟩:=h
 ·exact ⟨_,_,(hok s hs).1,.inl rfl⟩
 ·obtain ⟨h1,h2 | ⟨g,cap,cur,e1,_,e2,_⟩⟩:=(hok s hs).2
  ·rw [h2.1] at hb;cases hb
  ·rw [e1] at hb;cases hb;exact ⟨_,_,e2,.inr rfl⟩
theorem Ms.not {ss:List Strm} (hok:∀ s∈ss,StrOK w s) {b:Nat} {cs:Array Value} {t:TypeId} {m:Nat×Nat} (hb:w.heap[b]? = some (.cells cs t m)) (h1:t≠177) (h2:t≠59):¬ Ms ss b:=fun h=>by
 obtain ⟨cs',t',e,ht⟩:=Ms.tag hok h
 rw [hb] at e
 injection e with e
 injection e with _ e _
 subst e
 exact ht.elim h1 h2
set_option maxRecDepth 100000 in
theorem rest_any (wtb evb:Nat) (pa:Option Addr) (cap:Nat) (num time:Int) (at_ sv:Value) (ss:List Strm) (ps:List Pol) (hP:PolsIn w pa cap ps) (hS:SoIn w sv ps) (hn:∀ s∈ss,s.n<=1000000) (hN:ps.length<=1000000)
  (hlen:ss.length=ps.length) (hps:∀ (i:Nat) (s:Strm) (p:Pol),ss[i]? = some s->ps[i]? = some p->p.strm=some ⟨s.stb,0,none⟩) (hok:∀ s∈ss,StrOK w s) (hap:Apart ss) (x1 x2 x3 x4 x5 x6 x7 x10 x11 x12 x13 x14 x15 x16 x17 x18 x19 x20 x21 x22 x23 x24 x25 x26 x27 x28 x29 x30 x31 x32:Value) (cs:List Frame) (hcs:∀ fr∈cs,okFrame fr) (u9 u33 u34 u35 u36 u37 u38 u39 u40:Value)
  (r1 r2 r3 r4:Value) (hwt:w.heap[wtb]? = some (.cells #[r1,r2,r3,r4,.slice pa ps.length cap] 153 (0,0))) (hev:w.heap[evb]? = some (.cells #[.int .i64 num,.int .i64 time,at_,sv] 159 (0,0))) :
  LeadsR Tryz.prog (fun g w'=>∃ e fr,g=G fr cs/\okFrame fr/\(e=.returned .nilIface/\EvPost w w' ss num time ps)/\fr.fn=46/\fr.leaving Tryz.prog w' e) (G ((base 46).at ⟨#[(.pointer (some ⟨wtb,0,none⟩)),x1,x2,x3,x4,x5,x6,x7,(.pointer (some ⟨evb,0,none⟩)),u9,x10,x11,x12,x13,x14,x15,x16,x17,x18,x19,x20,x21,x22,x23,x24,x25,x26,x27,x28,x29,x30,x31,x32,u33,u34,u35,u36,u37,u38,u39,u40],[]⟩ [.code midE,.code tailE]) cs) w:=by
 have hMl:∀ b,Ms ss b->b<w.heap.size:=fun b hb=>by
  obtain ⟨cs,t,e,_⟩:=Ms.tag hok hb
  exact heap_lt e
 obtain ⟨sb,so,n,cp,arr,m,rfl,hsb,hso⟩:=hS
 rcases hP with ⟨rfl,rfl,rfl⟩ | ⟨pb,po,parr,mp,rfl,hpb,hpat⟩
 ·have H:Terr (w.heap.size+2) (w.heap.size+4) (Ms ss) (fun b=>b=w.heap.size+3\/b=w.heap.size):=by
   refine ⟨by omega,fun b hb=>by have:=hMl b hb;omega,fun b hb=>?_⟩
   rcases hb with rfl | rfl
   ·exact ⟨by omega,by omega,fun h=>by have:=hMl _ h;omega⟩
   ·exact ⟨by omega,by omega,fun h=>by have:=hMl _ h;omega⟩
  refine rest_e wtb evb none 0 num time at_ _ ss [] H hn hN hlen hps hok hap x1 x2 x3 x4 x5 x6 x7 x10 x11 x12 x13 x14 x15 x16 x17 x18 x19 x20 x21 x22 x23 x24 x25 x26 x27 x28 x29 x30 x31 x32 cs hcs u9 u33 u34 u35 u36 u37 u38 u39 u40 r1 r2 r3 r4 hwt hev (fun w₁ hw=>?_)
  refine child0_c H _ _ _ _ _ w₁ (by rw [hw,wGo_size];omega) (fun q hq=>?_)
  simp at hq
  rcases hq with rfl | rfl
  ·exact ⟨.inr (.inl rfl),by simp,by rw [hw];exact wGo_p5 _ _ _ _ _ _ _⟩
  ·exact ⟨.inr (.inr rfl),by simp,by rw [hw];exact wGo_p2 _ _ _ _ _ _ _⟩
 ·have l1:=heap_lt hpb
  have l2:=heap_lt hsb
  have H:Terr (w.heap.size+2) (w.heap.size+4) (Ms ss) (fun b=>b=w.heap.size+3\/b=w.heap.size\/b=w.heap.size+1\/b=pb\/b=sb):=by
   refine ⟨by omega,fun b hb=>by have:=hMl b hb;omega,fun b hb=>?_⟩
   rcases hb with rfl | rfl | rfl | rfl | rfl
   ·exact ⟨by omega,by omega,fun h=>by have:=hMl _ h;omega⟩
   ·exact ⟨by omega,by omega,fun h=>by have:=hMl _ h;omega⟩
   ·exact ⟨by omega,by omega,fun h=>by have:=hMl _ h;omega⟩
   ·exact ⟨by omega,by omega,Ms.not hok hpb (by decide) (by decide)⟩
   ·exact ⟨by omega,by omega,Ms.not hok hsb (by decide) (by decide)⟩
  refine rest_e wtb evb (some ⟨pb,po,none⟩) cap num time at_ _ ss ps H hn hN hlen hps hok hap x1 x2 x3 x4 x5 x6 x7 x10 x11 x12 x13 x14 x15 x16 x17 x18 x19 x20 x21 x22 x23 x24 x25 x26 x27 x28 x29 x30 x31 x32 cs hcs u9 u33 u34 u35 u36 u37 u38 u39 u40 r1 r2 r3 r4 hwt hev (fun w₁ hw=>?_)
  refine child_c H _ _ _ pb po cap sb so n cp num time at_ parr mp arr m ps hpat (by omega) hso _ _ w₁ (by rw [hw,wGo_size];omega) (fun q hq=>?_)
  simp at hq
  rcases hq with rfl | rfl | rfl | rfl | rfl
  ·exact ⟨.inr (.inl rfl),by simp,by rw [hw];exact wGo_p5 _ _ _ _ _ _ _⟩
  ·exact ⟨.inr (.inr (.inl rfl)),by simp,by rw [hw];exact wGo_p2 _ _ _ _ _ _ _⟩
  ·exact ⟨.inr (.inr (.inr (.inl rfl))),by simp,by rw [hw];exact wGo_p3 _ _ _ _ _ _ _⟩
  ·exact ⟨.inr (.inr (.inr (.inr (.inl rfl)))),by simp;omega,by rw [hw,wGo_old _ _ _ _ _ _ _ l1];exact hpb⟩
  ·exact ⟨.inr (.inr (.inr (.inr (.inr rfl)))),by simp;omega,by rw [hw,wGo_old _ _ _ _ _ _ _ l2];exact hsb⟩
end Go.Proofs.YtpbbmagjhkakgaaGreatDoor.Lf
