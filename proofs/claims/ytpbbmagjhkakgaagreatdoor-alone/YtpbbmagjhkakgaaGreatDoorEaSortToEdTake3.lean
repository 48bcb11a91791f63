import Derived.Test.YtpbbmagjhkakgaaGreatDoorEvStateToEaMany
import Derived.Test.YtpbbmagjhkakgaaGreatDoorEvWorkToEvTake3
namespace Go.Proofs.YtpbbmagjhkakgaaGreatDoor
namespace Ev
open Go.RowKit Go.Deep Go.Maps Lf
theorem cmp_trans:∀ a b c:List UInt8,Lib.compareBytes a b<0->Lib.compareBytes b c<0->Lib.compareBytes a c<0
 | [],b,[],h1,h2=>by cases b<;>simp [Lib.compareBytes] at h1 h2
 | [],b,c::cs,h1,h2=>by simp [Lib.compareBytes]
 | a::al,[],c,h1,h2=>by simp [Lib.compareBytes] at h1
 | a::al,b::bl,[],h1,h2=>by simp [Lib.compareBytes] at h2
 | a::al,b::bl,c::cs,h1,h2=>by
  have ih:=cmp_trans al bl cs
  unfold Lib.compareBytes at h1 h2 ⊢
  simp only [UInt8.lt_iff_toNat_lt] at h1 h2 ⊢
  by_cases x1:a.toNat<b.toNat<;>by_cases x2:b.toNat<a.toNat<;>by_cases x3:b.toNat<c.toNat<;>by_cases x4:c.toNat<b.toNat<;>simp only [x1,x2,x3,x4,if_true,if_false] at h1 h2<;>first | omega | skip
  all_goals by_cases e:a.toNat<c.toNat
  all_goals first | (simp only [e,if_true];decide) | skip
  all_goals first | omega | skip
  all_goals
   have e2:¬ c.toNat<a.toNat:=by omega
   simp only [e,e2,if_false]
   exact ih h1 h2
theorem cmp_zero:∀ a b:List UInt8,Lib.compareBytes a b=0↔a=b
 | [],[]=>by simp [Lib.compareBytes]
 | [],_::_=>by simp [Lib.compareBytes]
 | _::_,[]=>by simp [Lib.compareBytes]
 | a::al,b::bl=>by
  have ih:=cmp_zero al bl
  unfold Lib.compareBytes
  simp only [UInt8.lt_iff_toNat_lt,List.cons.injEq]
  by_cases x1:a.toNat<b.toNat
  ·have:a≠b:=fun h=>by subst h;omega
   simp [x1,this]
  ·by_cases x2:b.toNat<a.toNat
   ·have:a≠b:=fun h=>by subst h;omega
    simp [x1,x2,this]
   ·have e:a=b:=by
     apply UInt8.toNat_inj.1;omega
    simp [e,ih]
theorem cmp_flip:∀ a b:List UInt8,Lib.compareBytes a b<0↔0<Lib.compareBytes b a
 | [],[]=>by simp [Lib.compareBytes]
 | [],_::_=>by simp [Lib.compareBytes]
 | _::_,[]=>by simp [Lib.compareBytes]
 | a::al,b::bl=>by
  have ih:=cmp_flip al bl
  unfold Lib.compareBytes
  simp only [UInt8.lt_iff_toNat_lt]
  by_cases x1:a.toNat<b.toNat
  ·have:¬ b.toNat<a.toNat:=by omega
   simp [x1,this]
  ·by_cases x2:b.toNat<a.toNat
   ·simp [x1,x2]
   ·simp [x1,x2,ih]
abbrev qR (a b:ByteArray):Int:=Lib.compareBytes a.data.toList b.data.toList
theorem lY (a b:ByteArray):qR a b=0↔a=b:=by
 rw [qR,cmp_zero]
 constructor
 ·intro h
  cases a;cases b
  exact congrArg _ (Array.toList_inj.1 h)
 ·rintro rfl;rfl
def bL (ps:List bC):Prop:=ps.Pairwise fun p q=>qR p.name q.name<0
def bq (name:ByteArray):List bC->Nat
 | []=>0
 | p::ps=>if qR p.name name<0 then bq name ps+1 else 0
def b8 (name:ByteArray) (ps:List bC):Bool:=match ps[bq name ps]? with
 | some p=>decide (p.name=name)
 | none=>false
theorem jW (name:ByteArray):∀ ps:List bC,bq name ps<=ps.length
 | []=>Nat.le_refl 0
 | p::ps=>by
  have:=jW name ps
  simp only [bq,List.length_cons]
  split<;>omega
theorem l_ (name:ByteArray):∀ (ps:List bC) (i:Nat) (p:bC),bL ps->ps[i]? = some p->(qR p.name name<0↔i<bq name ps)
 | [],i,p,_,h=>by simp at h
 | q::ps,0,p,hs,h=>by
  simp only [List.getElem?_cons_zero,Option.some.injEq] at h
  subst h
  simp only [bq]
  split<;>simp_all
 | q::ps,i+1,p,hs,h=>by
  simp only [List.getElem?_cons_succ] at h
  have qp:bL ps:=(List.pairwise_cons.1 hs).2
  have ih:=l_ name ps i p qp h
  simp only [bq]
  split
  ·rw [ih];omega
  ·rename_i hn
   constructor
   ·intro hp
    have hq:=(List.pairwise_cons.1 hs).1 p (List.mem_of_getElem? h)
    exact absurd (cmp_trans _ _ _ hq hp) hn
   ·intro hp;omega
theorem jY (name:ByteArray) (ps:List bC):b8 name ps=true↔∃ p,ps[bq name ps]? = some p/\p.name=name:=by
 unfold b8
 split<;>simp_all
theorem thereN_mem {name:ByteArray} {ps:List bC} (hs:bL ps):b8 name ps=true↔∃ p∈ps,p.name=name:=by
 rw [jY]
 constructor
 ·rintro ⟨p,h,e⟩
  exact ⟨p,List.mem_of_getElem? h,e⟩
 ·rintro ⟨p,h,e⟩
  obtain ⟨i,hi⟩:=List.getElem?_of_mem h
  have h1:=l_ name ps i p hs hi
  have h0:¬ qR p.name name<0:=by rw [(lY p.name name).2 e];decide
  have h2:¬ i<bq name ps:=fun h=>h0 (h1.2 h)
  by_cases h3:bq name ps=i
  ·rw [h3];exact ⟨p,hi,e⟩
  ·have h4:bq name ps<i:=by omega
   have h5:bq name ps<ps.length:=Nat.lt_trans h4 (List.getElem?_eq_some_iff.1 hi).1
   have h6:=l_ name ps (bq name ps) _ hs (List.getElem?_eq_getElem h5)
   have h7:=List.pairwise_iff_getElem.1 hs _ _ h5 (List.getElem?_eq_some_iff.1 hi).1 h4
   rw [(List.getElem?_eq_some_iff.1 hi).2,e] at h7
   exact absurd (h6.1 h7) (Nat.lt_irrefl _)
theorem bL.insert {ps:List bC} {p:bC} (hs:bL ps) (hn:b8 p.name ps=false):bL (ps.take (bq p.name ps)++p::ps.drop (bq p.name ps)):=by
 have h1:∀ q∈ps.take (bq p.name ps),qR q.name p.name<0:=by
  intro q hq
  obtain ⟨i,hi⟩:=List.getElem?_of_mem hq
  rw [List.getElem?_take] at hi
  split at hi
  ·exact (l_ p.name ps i q hs hi).2 (by assumption)
  ·cases hi
 have h2:∀ q∈ps.drop (bq p.name ps),qR p.name q.name<0:=by
  intro q hq
  obtain ⟨i,hi⟩:=List.getElem?_of_mem hq
  rw [List.getElem?_drop] at hi
  have h3:¬ qR q.name p.name<0:=fun h=>by have:=(l_ p.name ps _ q hs hi).1 h;omega
  have h4:qR q.name p.name≠0:=fun h=>by
   have h5:=(thereN_mem hs).2 ⟨q,List.mem_of_getElem? hi,(lY _ _).1 h⟩
   rw [hn] at h5;cases h5
  have h6:0<qR q.name p.name:=by omega
  exact (cmp_flip _ _).2 h6
 refine List.pairwise_append.2 ⟨hs.sublist (List.take_sublist _ _),List.pairwise_cons.2 ⟨h2,hs.sublist (List.drop_sublist _ _)⟩,?_⟩
 intro a ha b hb
 rcases List.mem_cons.1 hb with rfl | hb
 ·exact h1 a ha
 ·exact cmp_trans _ _ _ (h1 a ha) (h2 b hb)
theorem bL.erase {ps:List bC} (hs:bL ps) (k:Nat):bL (ps.take k++ps.drop (k+1)):=by
 rw [<- List.eraseIdx_eq_take_drop_succ]
 exact hs.sublist (List.eraseIdx_sublist _ _)
end Ev
namespace Ev
open Go.RowKit Go.Deep
set_option maxRecDepth 100000 in
set_option maxHeartbeats 8000000 in
theorem region5_drop (Q:Exit->Act->World->Prop) (hQ:∀ c a d v w,Q (.panic c) (Act.put a d v) w->Q (.panic c) a w) (aj nx:Nat) (ai:Int) (rm nvv:Value) (g:Nat) (az:Nat) (pv:Value) (C:List bx) (num time:Int) (eJ:Option Addr) (kQ fc:Nat) (W:World) (x2 x3 x4 x5 x6 x8 x9 kX lD lF lG lH lI lJ lK lM lN lO lQ lR lU lV lW lX nk nt nu nw u31 u32 ki jH jI jJ jK jL jM jN u41 u42 u43 u44 u45 u46 u47 u48 u49 u50 u51 u52 u53:Value)
  (hw:W.heap[aj]? = some (.cells #[.int .i64 ai,rm,nvv,.slice (some ⟨g,0,none⟩) C.length az,pv] 153 (0,0))) (hE:bY W (.slice (some ⟨g,0,none⟩) C.length az) C) (hn:C.length<=1000) (ht:0<=time/\time<=1000000000000) (hr:0<=ai/\ai<=1000000000) (k:Nat) (hold:nj (time-ai) C=k) (hk0:0<k) (hkn:k<=C.length)
  (nh:W.heap[nx]? = some (.cells #[.int .i64 num,.int .i64 time,.slice eJ kQ fc,.slice none 0 0] 159 (0,0))) (hnxe:(Value.slice (some ⟨g,0,none⟩) C.length az).ownBlock≠some nx)
  (hK:∀ (nT:Value) (W':World) (v41:Value),W'.heap[aj]? = some (.cells #[.int .i64 ai,rm,nvv,nT,pv] 153 (0,0))->bY W' nT (C.drop k++[(⟨num,time,eJ,kQ,fc,none,0,0⟩:bx)])->aY (fun b=>b=aj\/(Value.slice (some ⟨g,0,none⟩) C.length az).ownBlock=some b) W W'->(∀ b,nT.ownBlock=some b->(Value.slice (some ⟨g,0,none⟩) C.length az).ownBlock=some b\/W.heap.size<=b)->
   Q .normal ⟨#[(.pointer (some ⟨aj,0,none⟩)),(.int .i64 time),x2,x3,x4,x5,x6,(.pointer (some ⟨nx,0,none⟩)),x8,x9,kX,lD,lF,lG,lH,lI,lJ,lK,lM,lN,lO,lQ,lR,lU,lV,lW,lX,nk,nt,nu,nw,(.pointer (some ⟨aj,0,none⟩)),(.pointer (some ⟨aj,0,none⟩)),(.pointer (some ⟨aj,0,none⟩)),(.pointer (some ⟨aj,3,none⟩)),(.slice (some ⟨g,0,none⟩) C.length az),(.pointer (some ⟨aj,0,none⟩)),(.int .i64 time),(.int .i64 (k:Int)),(.slice (some ⟨g,0,none⟩) (C.length-k) az),(.agg #[.int .i64 num,.int .i64 time,.slice eJ kQ fc,.slice none 0 0]),v41,nT,(.pointer (some ⟨aj,0,none⟩)),(.pointer (some ⟨aj,3,none⟩)),u45,u46,u47,u48,u49,u50,u51,u52,u53],[]⟩ W') :
  (Code.region 5 opsT5 true).wp Tryz.prog Q ⟨#[(.pointer (some ⟨aj,0,none⟩)),(.int .i64 time),x2,x3,x4,x5,x6,(.pointer (some ⟨nx,0,none⟩)),x8,x9,kX,lD,lF,lG,lH,lI,lJ,lK,lM,lN,lO,lQ,lR,lU,lV,lW,lX,nk,nt,nu,nw,u31,u32,ki,jH,jI,jJ,jK,jL,jM,jN,u41,u42,u43,u44,u45,u46,u47,u48,u49,u50,u51,u52,u53],[]⟩ W:=by
 have cz:=aw hw
 have hnl:=aw nh
 obtain ⟨i0,hi,lr,iU,lu⟩:=info_parts oM
 have HO:Hid (∀ w',Below W.heap.size W w'->Calls Tryz.prog 131 #[.pointer (some ⟨aj,0,none⟩),.int .i64 time] w' fun e w''=>e=.returned (.int .i64 (k:Int))/\Below w'.heap.size w' w''):=fun w' hb=>by
  have:=old_any aj ai rm nvv (.slice (some ⟨g,0,none⟩) C.length az) pv C time w' (hb.aE hw) (hE.below hb) (by omega) ht hr
  rw [hold] at this
  exact this
 have kj:Hid (∀ w',Below W.heap.size W w'->(fun w'=>w'.cell? ⟨aj,3,none⟩=some (.slice (some ⟨g,0,none⟩) C.length az)/\w'.cell? ⟨nx,0,none⟩=some (.int .i64 num)/\w'.cell? ⟨nx,1,none⟩=some (.int .i64 time)/\w'.cell? ⟨nx,2,none⟩=some (.slice eJ kQ fc)/\w'.cell? ⟨nx,3,none⟩=some (.slice none 0 0)) w'):=fun w' hb=>⟨ae (hb.aE hw) rfl,ae (hb.aE nh) rfl,ae (hb.aE nh) rfl,ae (hb.aE nh) rfl,ae (hb.aE nh) rfl⟩
 have HstH:Hid (∀ w':World,w'.heap[aj]? = some (.cells #[.int .i64 ai,rm,nvv,.slice (some ⟨g,0,none⟩) C.length az,pv] 153 (0,0))->w'.heap[nx]? = some (.cells #[.int .i64 num,.int .i64 time,.slice eJ kQ fc,.slice none 0 0] 159 (0,0))->(fun w'=>w'.cell? ⟨aj,3,none⟩=some (.slice (some ⟨g,0,none⟩) C.length az)/\w'.cell? ⟨nx,0,none⟩=some (.int .i64 num)/\w'.cell? ⟨nx,1,none⟩=some (.int .i64 time)/\w'.cell? ⟨nx,2,none⟩=some (.slice eJ kQ fc)/\w'.cell? ⟨nx,3,none⟩=some (.slice none 0 0)) w'):=fun w' h1 h2=>⟨ae h1 rfl,ae h2 rfl,ae h2 rfl,ae h2 rfl,ae h2 rfl⟩
 have hgl:g<W.heap.size:=(hE.lt g rfl).2
 have hwg:aj≠g:=by
  intro e
  obtain ⟨cs,h1⟩:=dG hE (g:=g) rfl
  rw [<- e,hw] at h1
  cases h1
 have hng:nx≠g:=fun e=>hnxe (by rw [e];rfl)
 have after:∀ (w1 wd:World),Below W.heap.size W w1->Only g w1 wd->wd.heap[aj]? = some (.cells #[.int .i64 ai,rm,nvv,.slice (some ⟨g,0,none⟩) C.length az,pv] 153 (0,0))/\wd.heap[nx]? = some (.cells #[.int .i64 num,.int .i64 time,.slice eJ kQ fc,.slice none 0 0] 159 (0,0))/\aY (fun b=>b=aj\/(Value.slice (some ⟨g,0,none⟩) C.length az).ownBlock=some b) W wd:=fun w1 wd hb ho =>
  ⟨(ho.block aj (aw (hb.aE hw)) hwg).trans (hb.aE hw),(ho.block nx (aw (hb.aE nh)) hng).trans (hb.aE nh),(aY.aL hb).trans (aY.kg ho (fun x hx=>.inr (by rw [hx];rfl)))⟩
 replace after:Hid _:=after
 have hZ:=kj.out _ (Below.refl _ W).drew
 have vP:∀ (V:World) (sl:Nat),V.heap[aj]? = some (.cells #[.int .i64 ai,rm,nvv,.slice (some ⟨g,0,none⟩) C.length az,pv] 153 (0,0))->V.heap[nx]? = some (.cells #[.int .i64 num,.int .i64 time,.slice eJ kQ fc,.slice none 0 0] 159 (0,0))->bY V (.slice (some ⟨g,0,none⟩) (C.length-k) az) (C.drop k)->aY (fun b=>b=aj\/(Value.slice (some ⟨g,0,none⟩) C.length az).ownBlock=some b) W V->(∀ j u,(bf (⟨num,time,eJ,kQ,fc,none,0,0⟩:bx))[j]? = some u->V.cell? ((⟨sl,0,none⟩:Addr).add j)=some u)->
   bh Tryz.prog .any opsT5 Q (fun w'=>w'.cell? ⟨aj,3,none⟩=some (.slice (some ⟨g,0,none⟩) C.length az)/\w'.cell? ⟨nx,0,none⟩=some (.int .i64 num)/\w'.cell? ⟨nx,1,none⟩=some (.int .i64 time)/\w'.cell? ⟨nx,2,none⟩=some (.slice eJ kQ fc)/\w'.cell? ⟨nx,3,none⟩=some (.slice none 0 0)) 14 4 #[true,true,true,true,true,true,true,true,true,true,true,false,false,false,false] ⟨#[(.pointer (some ⟨aj,0,none⟩)),(.int .i64 time),x2,x3,x4,x5,x6,(.pointer (some ⟨nx,0,none⟩)),x8,x9,kX,lD,lF,lG,lH,lI,lJ,lK,lM,lN,lO,lQ,lR,lU,lV,lW,lX,nk,nt,nu,nw,(.pointer (some ⟨aj,0,none⟩)),(.pointer (some ⟨aj,0,none⟩)),(.pointer (some ⟨aj,0,none⟩)),(.pointer (some ⟨aj,3,none⟩)),(.slice (some ⟨g,0,none⟩) C.length az),(.pointer (some ⟨aj,0,none⟩)),(.int .i64 time),(.int .i64 (k:Int)),(.slice (some ⟨g,0,none⟩) (C.length-k) az),(.agg #[.int .i64 num,.int .i64 time,.slice eJ kQ fc,.slice none 0 0]),(.slice (some ⟨sl,0,none⟩) 1 1),u42,u43,u44,u45,u46,u47,u48,u49,u50,u51,u52,u53],[]⟩ V:=by
  intro V sl hwV hnV hEV hspV hcell
  have hEV':V.ownsRow 0 159 4 (.slice (some ⟨g,0,none⟩) (C.length-k) az) (C.length-k) (dk (C.drop k)):=by
   have:=hEV
   unfold bY at this
   rw [List.length_drop] at this
   exact this
  simp only [opsT5,tA,Tryz.f87,Option.getD_some]
  refine bh.one (i:=11) (by decide +kernel) rfl (by rfl) (wp_append_own (.tmp 39) (.tmp 41) 146 rfl 0 159 i0 _ 4 64 Tryz.underlying146 hi lr iU lu rfl (by decide) (.slice (some ⟨g,0,none⟩) (C.length-k) az) (C.length-k) (dk (C.drop k)) rfl hEV' ⟨sl,0,none⟩ 1 1 (bf (⟨num,time,eJ,kQ,fc,none,0,0⟩:bx)) rfl rfl hcell (evOne _) (by unfold maxLen;omega) (by omega) (Nat.zero_le _) ?_)
  intro v' w2 dm bz hor
  obtain ⟨g2,c2,rfl⟩:=ownsRow_succ dm
  have hneV:∀ b,(Value.slice (some ⟨g,0,none⟩) C.length az).ownBlock=some b->∃ cs,V.heap[b]? = some (.cells cs 159 (0,0)):=fun b hb=>dG hEV hb
  have hwt2:w2.heap[aj]? = some (.cells #[.int .i64 ai,rm,nvv,.slice (some ⟨g,0,none⟩) C.length az,pv] 153 (0,0)):=by
   rw [bz.block aj (aw hwV) (fun e=>by obtain ⟨cs,h1⟩:=hneV aj e.symm;rw [hwV] at h1;cases h1)];exact hwV
  have r_:w2.cell? ⟨aj,3,none⟩=some (.slice (some ⟨g,0,none⟩) C.length az):=ae hwt2 rfl
  have hf3:w2.frozen? ⟨aj,3,none⟩=false:=Lib.frozen_of_heap hwt2 _
  have hnx2:w2.heap[nx]? = some (.cells #[.int .i64 num,.int .i64 time,.slice eJ kQ fc,.slice none 0 0] 159 (0,0)):=by
   rw [bz.block nx (aw hnV) (fun e=>hnxe e.symm)];exact hnV
  have hS2:(fun w'=>w'.cell? ⟨aj,3,none⟩=some (.slice (some ⟨g,0,none⟩) C.length az)/\w'.cell? ⟨nx,0,none⟩=some (.int .i64 num)/\w'.cell? ⟨nx,1,none⟩=some (.int .i64 time)/\w'.cell? ⟨nx,2,none⟩=some (.slice eJ kQ fc)/\w'.cell? ⟨nx,3,none⟩=some (.slice none 0 0)) w2:=⟨r_,ae hnx2 rfl,ae hnx2 rfl,ae hnx2 rfl,ae hnx2 rfl⟩
  refine ⟨fun _=>hS2,?_⟩
  try walk_nrm
  refine bh.op (i:=12) (by decide +kernel) rfl (by rfl) (fun K' hK'=>?_)
  unfold Oper.wp
  go_simp
  refine hK' _ _ ⟨fun _=>hS2,?_⟩
  clear hK' K'
  try walk_nrm
  refine bh.op (i:=13) (by decide +kernel) rfl (by rfl) (fun K' hK'=>?_)
  unfold Oper.wp
  go_simp
  refine hK' _ _ ⟨fun _=>hS2,?_⟩
  clear hK' K'
  try walk_nrm
  refine bh.op (i:=14) (by decide +kernel) rfl (by rfl) (fun K' hK'=>?_)
  unfold Oper.wp
  go_simp
  refine hK' _ _ ⟨fun x=>absurd rfl x,?_⟩
  clear hK' K'
  refine bh.done (by decide +kernel) ?_ _
  try walk_nrm
  have hg2:g2≠aj:=by
   rintro rfl
   obtain ⟨_,⟨h2,_⟩ | ⟨g',mq,cur,e1,_,e2,_⟩⟩:=dm
   ·cases h2
   ·cases e1;rw [hwt2] at e2;cases e2
  refine hK (.slice (some ⟨g2,0,none⟩) (C.length-k+1) c2) _ _ (b7 (i:=3) hwt2) ?_ ?_ ?_
  ·show World.ownsRow _ 0 159 4 _ _ _
   have el:(C.drop k++[(⟨num,time,eJ,kQ,fc,none,0,0⟩:bx)]).length=C.length-k+1:=by simp
   rw [el,mL]
   exact dw dm fun b hbb=>Below.heap_setCell _ _ _ _ (by cases hbb;exact hg2)
  ·have s1:aY (fun b=>b=aj\/(Value.slice (some ⟨g,0,none⟩) C.length az).ownBlock=some b) W w2:=hspV.trans (aY.of_grown bz (fun x hx=>.inr hx))
   exact s1.trans (aY.kg ((Only.refl aj w2).setCell (p:=⟨aj,3,none⟩) (.inl rfl) _) (fun x hx=>.inl hx))
  ·intro b hb
   rcases hor with e | e
   ·exact .inl (e▸hb)
   ·rw [e] at hb;cases hb;exact .inr hspV.size
 simp only [opsT5,tA,Tryz.f87,Option.getD_some] at vP ⊢
 refine bh.begin (S:=(fun w'=>w'.cell? ⟨aj,3,none⟩=some (.slice (some ⟨g,0,none⟩) C.length az)/\w'.cell? ⟨nx,0,none⟩=some (.int .i64 num)/\w'.cell? ⟨nx,1,none⟩=some (.int .i64 time)/\w'.cell? ⟨nx,2,none⟩=some (.slice eJ kQ fc)/\w'.cell? ⟨nx,3,none⟩=some (.slice none 0 0))) (fin:=14) (by kernel_rfl) ?_
 simp only [List.size_toArray,List.length_cons,List.length_nil,Nat.reduceAdd,Nat.zero_add]
 refine bh.take 0 (v:=?vq0) rfl (by decide +kernel) (by decide +kernel) (by decide +kernel) (by decide +kernel) (fun c a w h=>hQ c a _ _ w h) (by rfl) (fun w' hS=>Go.Conc.run_eq_of ?rq0) hZ ?_
 case rq0 =>
  intro K' hK'
  obtain ⟨y1,y2,y3,y4,y5⟩:=hS
  go_simp
  exact hK'
 try walk_nrm
 refine bh.take 1 (v:=?vq1) rfl (by decide +kernel) (by decide +kernel) (by decide +kernel) (by decide +kernel) (fun c a w h=>hQ c a _ _ w h) (by rfl) (fun w' hS=>Go.Conc.run_eq_of ?rq1) hZ ?_
 case rq1 =>
  intro K' hK'
  obtain ⟨y1,y2,y3,y4,y5⟩:=hS
  go_simp
  exact hK'
 try walk_nrm
 refine bh.take 2 (v:=?vq2) rfl (by decide +kernel) (by decide +kernel) (by decide +kernel) (by decide +kernel) (fun c a w h=>hQ c a _ _ w h) (by rfl) (fun w' hS=>Go.Conc.run_eq_of ?rq2) hZ ?_
 case rq2 =>
  intro K' hK'
  obtain ⟨y1,y2,y3,y4,y5⟩:=hS
  go_simp
  exact hK'
 try walk_nrm
 refine bh.take 3 (v:=?vq3) rfl (by decide +kernel) (by decide +kernel) (by decide +kernel) (by decide +kernel) (fun c a w h=>hQ c a _ _ w h) (by rfl) (fun w' hS=>Go.Conc.run_eq_of ?rq3) hZ ?_
 case rq3 =>
  intro K' hK'
  obtain ⟨y1,y2,y3,y4,y5⟩:=hS
  go_simp
  exact hK'
 try walk_nrm
 refine bh.take 4 (v:=?vq4) rfl (by decide +kernel) (by decide +kernel) (by decide +kernel) (by decide +kernel) (fun c a w h=>hQ c a _ _ w h) (by rfl) (fun w' hS=>Go.Conc.run_eq_of ?rq4) hZ ?_
 case rq4 =>
  intro K' hK'
  obtain ⟨y1,y2,y3,y4,y5⟩:=hS
  go_simp
  exact hK'
 try walk_nrm
 refine bh.take 5 (v:=?vq5) rfl (by decide +kernel) (by decide +kernel) (by decide +kernel) (by decide +kernel) (fun c a w h=>hQ c a _ _ w h) (by rfl) (fun w' hS=>Go.Conc.run_eq_of ?rq5) hZ ?_
 case rq5 =>
  intro K' hK'
  obtain ⟨y1,y2,y3,y4,y5⟩:=hS
  go_simp
  exact hK'
 try walk_nrm
 refine bh.take 6 (v:=?vq6) rfl (by decide +kernel) (by decide +kernel) (by decide +kernel) (by decide +kernel) (fun c a w h=>hQ c a _ _ w h) (by rfl) (fun w' hS=>Go.Conc.run_eq_of ?rq6) hZ ?_
 case rq6 =>
  intro K' hK'
  obtain ⟨y1,y2,y3,y4,y5⟩:=hS
  go_simp
  exact hK'
 try walk_nrm
 refine bh.take 9 (v:=?vq9) rfl (by decide +kernel) (by decide +kernel) (by decide +kernel) (by decide +kernel) (fun c a w h=>hQ c a _ _ w h) (by rfl) (fun w' hS=>Go.Conc.run_eq_of ?rq9) hZ ?_
 case rq9 =>
  intro K' hK'
  obtain ⟨y1,y2,y3,y4,y5⟩:=hS
  go_simp
  exact hK'
 try walk_nrm
 refine bh.two (i:=7) (j:=10) (by decide +kernel) rfl (by rfl) rfl (by rfl) (fun K' hK'=>?_) (fun K' hK'=>?_)
 ·unfold Oper.wp
  rw [Go.Conc.run_call_body (f:=131) (args:=#[.tmp 36,.tmp 37]) (ats:=#[232,3]) rfl Tryz.func131 (by decide) rfl]
  simp only [Oper.upon,List.map_toArray,List.map_cons,List.map_nil]
  change Calls Tryz.prog 131 #[.pointer (some ⟨aj,0,none⟩),.int .i64 time] W.drew _
  refine (HO.out W.drew (Below.refl W.heap.size W).drew).mono ?_
  rintro e w1 ⟨rfl,a_⟩
  replace a_:Below W.heap.size W w1:=((Below.refl W.heap.size W).drew).trans (a_.mono ((Below.refl W.heap.size W).drew).size)
  refine hK' _ _ ⟨fun _=>kj.out _ a_,?_⟩
  clear hK' K'
  try walk_nrm
  refine bh.two (i:=8) (j:=10) (by decide +kernel) rfl (by rfl) rfl (by rfl) (fun K' hK'=>?_) (fun K' hK'=>?_)
  ·unfold Oper.wp
   rw [Go.Conc.run_call_body (f:=130) (args:=#[.tmp 35,.const (.int .i64 0),.tmp 38]) (ats:=#[146,3,3]) rfl Tryz.func130 (by decide) rfl]
   simp only [Oper.upon,List.map_toArray,List.map_cons,List.map_nil]
   change Calls Tryz.prog 130 #[.slice (some ⟨g,0,none⟩) C.length az,.int .i64 0,.int .i64 (k:Int)] w1 _
   refine (tC g az k C w1 (hE.below a_) hk0 hkn hn).mono ?_
   rintro e wd ⟨rfl,hEd,hOd⟩
   obtain ⟨hd1,hd2,hd3⟩:=after.out w1 wd a_ hOd
   refine hK' _ _ ⟨fun _=>HstH.out _ hd1 hd2,?_⟩
   clear hK' K'
   try walk_nrm
   refine bh.op (i:=10) (by decide +kernel) rfl (by rfl) (fun K' hK'=>?_)
   unfold Oper.wp
   go_simp
   have hba:=fun o=>(Below.refl wd.heap.size wd).al o
   refine hK' _ _ ⟨fun _=>HstH.out _ ((hba _).aE hd1) ((hba _).aE hd2),?_⟩
   clear hK' K'
   try walk_nrm
   exact vP _ wd.heap.size ((hba _).aE hd1) ((hba _).aE hd2) (hEd.below (hba _)) (hd3.trans (aY.aL (hba _))) (ei wd (⟨num,time,eJ,kQ,fc,none,0,0⟩:bx) 159)
  ·unfold Oper.wp
   go_simp
   refine hK' _ _ ⟨fun _=>kj.out _ ((a_).al _),?_⟩
   clear hK' K'
   try walk_nrm
   refine bh.op (i:=8) (by decide +kernel) rfl (by rfl) (fun K' hK'=>?_)
   unfold Oper.wp
   rw [Go.Conc.run_call_body (f:=130) (args:=#[.tmp 35,.const (.int .i64 0),.tmp 38]) (ats:=#[146,3,3]) rfl Tryz.func130 (by decide) rfl]
   simp only [Oper.upon,List.map_toArray,List.map_cons,List.map_nil]
   change Calls Tryz.prog 130 #[.slice (some ⟨g,0,none⟩) C.length az,.int .i64 0,.int .i64 (k:Int)] (w1.alloc (.cells #[.int .i64 num,.int .i64 time,.slice eJ kQ fc,.slice none 0 0] 159)) _
   refine (tC g az k C (w1.alloc (.cells #[.int .i64 num,.int .i64 time,.slice eJ kQ fc,.slice none 0 0] 159)) (hE.below (a_.al _)) hk0 hkn hn).mono ?_
   rintro e wd ⟨rfl,hEd,hOd⟩
   obtain ⟨hd1,hd2,hd3⟩:=after.out (w1.alloc (.cells #[.int .i64 num,.int .i64 time,.slice eJ kQ fc,.slice none 0 0] 159)) wd (a_.al _) hOd
   refine hK' _ _ ⟨fun _=>HstH.out _ hd1 hd2,?_⟩
   clear hK' K'
   try walk_nrm
   refine vP _ w1.heap.size hd1 hd2 hEd hd3 (fun j u hj=>?_)
   have h1:=ei w1 (⟨num,time,eJ,kQ,fc,none,0,0⟩:bx) 159 j u hj
   have kS:=a_.size
   have e1:(⟨w1.heap.size,0,none⟩:Addr).add j=⟨w1.heap.size,j,none⟩:=by simp [Addr.add];omega
   rw [e1] at h1 ⊢
   rw [<- h1]
   exact World.cell?_of_block (hOd.block w1.heap.size (by simp) (by have:=hgl;omega))
 ·unfold Oper.wp
  go_simp
  refine hK' _ _ ⟨fun _=>kj.out _ (((Below.refl W.heap.size W).drew).al _),?_⟩
  clear hK' K'
  try walk_nrm
  refine bh.op (i:=7) (by decide +kernel) rfl (by rfl) (fun K' hK'=>?_)
  have hbA:Below W.heap.size W (W.drew.alloc (.cells #[.int .i64 num,.int .i64 time,.slice eJ kQ fc,.slice none 0 0] 159)):=((Below.refl _ W).drew.al _)
  unfold Oper.wp
  rw [Go.Conc.run_call_body (f:=131) (args:=#[.tmp 36,.tmp 37]) (ats:=#[232,3]) rfl Tryz.func131 (by decide) rfl]
  simp only [Oper.upon,List.map_toArray,List.map_cons,List.map_nil]
  change Calls Tryz.prog 131 #[.pointer (some ⟨aj,0,none⟩),.int .i64 time] (W.drew.alloc (.cells #[.int .i64 num,.int .i64 time,.slice eJ kQ fc,.slice none 0 0] 159)) _
  refine (HO.out (W.drew.alloc (.cells #[.int .i64 num,.int .i64 time,.slice eJ kQ fc,.slice none 0 0] 159)) hbA).mono ?_
  rintro e w1 ⟨rfl,a_⟩
  have hbB:=a_
  replace a_:Below W.heap.size W w1:=(hbA).trans (a_.mono (hbA).size)
  refine hK' _ _ ⟨fun _=>kj.out _ a_,?_⟩
  clear hK' K'
  try walk_nrm
  refine bh.op (i:=8) (by decide +kernel) rfl (by rfl) (fun K' hK'=>?_)
  unfold Oper.wp
  rw [Go.Conc.run_call_body (f:=130) (args:=#[.tmp 35,.const (.int .i64 0),.tmp 38]) (ats:=#[146,3,3]) rfl Tryz.func130 (by decide) rfl]
  simp only [Oper.upon,List.map_toArray,List.map_cons,List.map_nil]
  change Calls Tryz.prog 130 #[.slice (some ⟨g,0,none⟩) C.length az,.int .i64 0,.int .i64 (k:Int)] w1 _
  refine (tC g az k C w1 (hE.below a_) hk0 hkn hn).mono ?_
  rintro e wd ⟨rfl,hEd,hOd⟩
  obtain ⟨hd1,hd2,hd3⟩:=after.out w1 wd a_ hOd
  refine hK' _ _ ⟨fun _=>HstH.out _ hd1 hd2,?_⟩
  clear hK' K'
  try walk_nrm
  have hsl:W.heap.size<(W.drew.alloc (.cells #[.int .i64 num,.int .i64 time,.slice eJ kQ fc,.slice none 0 0] 159)).heap.size:=aw (aB W.drew (.cells #[.int .i64 num,.int .i64 time,.slice eJ kQ fc,.slice none 0 0] 159) W.heap.size rfl)
  refine vP _ W.heap.size hd1 hd2 hEd hd3 (fun j u hj=>?_)
  have h1:=ei W.drew (⟨num,time,eJ,kQ,fc,none,0,0⟩:bx) 159 j u hj
  have e1:(⟨W.heap.size,0,none⟩:Addr).add j=⟨W.heap.size,j,none⟩:=by simp [Addr.add];omega
  have e2:(⟨W.drew.heap.size,0,none⟩:Addr).add j=⟨W.heap.size,j,none⟩:=e1
  rw [e2] at h1
  have hlt1:W.heap.size<w1.heap.size:=Nat.lt_of_lt_of_le hsl hbB.size
  rw [e1,World.cell?_of_block (hOd.block W.heap.size hlt1 (by have:=hgl;omega)),hbB.cell (p:=⟨W.heap.size,j,none⟩) hsl]
  exact h1
def TakeD (aj:Nat) (ai:Int) (rm:Value) (no:Option Addr) (aI:Nat) (K:List Key) (ea:Option Addr) (az:Nat) (pv:Value) (C D:List bx) (F:List Pe) (time:Int) (A:List ByteArray) (w:World) (e:Ending) (W':World):Prop :=
 ∃ (c:bx) (nT:Value) (sb:Nat) (cur:Array Value),e=.returned (gv c)/\c.so=some ⟨sb,0,none⟩/\w.heap.size<=sb/\W'.heap[sb]? = some (.cells cur 4 (0,0))/\W'.heap[aj]? = some (.cells #[.int .i64 ai,rm,.slice no K.length aI,nT,pv] 153 (0,0))/\bY W' nT (D++[c])/\
  cZ W' c (b9 F.reverse K (⟨eQ C,time,A,[]⟩:Pe).bare)/\EvT W' c/\aY (fun b=>b=aj\/(Value.slice ea C.length az).ownBlock=some b) w W'/\(∀ b,nT.ownBlock=some b->(Value.slice ea C.length az).ownBlock=some b\/w.heap.size<=b)
set_option maxRecDepth 100000 in
set_option maxHeartbeats 8000000 in
theorem take_drop (aj:Nat) (ai:Int) (rm:Value) (no:Option Addr) (aI:Nat) (K:List Key) (ea:Option Addr) (az:Nat) (pv:Value) (C:List bx) (E:List Pe) (time:Int) (ao:Option Addr) (A:List ByteArray) (cap:Nat) (w:World)
  (hw:w.heap[aj]? = some (.cells #[.int .i64 ai,rm,.slice no K.length aI,.slice ea C.length az,pv] 153 (0,0))) (hE:bY w (.slice ea C.length az) C) (hlen:C.length=E.length) (hIn:∀ (i:Nat) c e,C[i]? = some c->E[i]? = some e->cZ w c e) (hT:∀ c∈C,EvT w c) (hn:C.length<=1000) (ht:0<=time/\time<=1000000000000) (hr:0<=ai/\ai<=1000000000) (k:Nat) (hold:nj (time-ai) C=k) (hk0:0<k) (hkn:k<=C.length)
  (lq:∀ c,C.getLast? = some c->0<=c.number/\c.number<=1000000000000) (h:eI w ao A) (hA:A.length<=1000) (cW:A.length<=cap) (hs:∀ j,j<A.length->(A.getD j ByteArray.empty).size<=1000)
  (hK:K.length<=1000) (hnc:K.length<=aI) (hN:eB w no K) (hNt:∀ a,no=some a->∃ cs m,w.heap[a.block]? = some (.cells cs 226 m)) (aN:∀ k∈K,ib k.op) (hAh:qg K) (bT:∀ e∈E,e.so.length=K.length+1) :
  Calls Tryz.prog 87 #[.pointer (some ⟨aj,0,none⟩),.int .i64 time,.slice ao A.length cap] w (TakeD aj ai rm no aI K ea az pv C (C.drop k) (E.drop k) time A w):=by
 have hInD:∀ (i:Nat) c e,(C.drop k)[i]? = some c->(E.drop k)[i]? = some e->cZ w c e:=fun i c e h1 h2=>hIn (k+i) c e (by rw [<- List.getElem?_drop];exact h1) (by rw [<- List.getElem?_drop];exact h2)
 have hTD:∀ c∈C.drop k,EvT w c:=fun c hc=>hT c (List.mem_of_mem_drop hc)
 have hlenD:(C.drop k).length=(E.drop k).length:=by rw [List.length_drop,List.length_drop,hlen]
 have hrowD:∀ e∈E.drop k,e.so.length=K.length+1:=fun e he=>bT e (List.mem_of_mem_drop he)
 have hnD:(C.drop k).length<=1000:=by rw [List.length_drop];omega
 have hE0:=hE
 clear hIn hT hlen bT
 obtain ⟨D,hD⟩:∃ D,D=C.drop k:=⟨_,rfl⟩
 obtain ⟨F,hF⟩:∃ F,F=E.drop k:=⟨_,rfl⟩
 have hDl:D.length=C.length-k:=by rw [hD,List.length_drop]
 rw [<- hD] at hInD hTD hlenD hnD ⊢
 rw [<- hF] at hInD hlenD hrowD ⊢
 have cz:=aw hw
 have Hlen:Hid (D.length=F.length):=hlenD
 clear hlenD
 have HDl:Hid (D.length=C.length-k):=hDl
 clear hDl
 have r_:w.cell? ⟨aj,3,none⟩=some (.slice ea C.length az):=ae hw rfl
 have hecap:C.length<=az:=by
  rcases hE.cases with ⟨h1,rfl⟩ | ⟨g,cp,js,h1,_,_⟩
  ·simp
  ·cases js;exact h1
 have hCo:=copyOf_any ao A cap (w.alloc (.cells #[.int .i64 0,.int .i64 0,.slice none 0 0,.slice none 0 0] 159)) (h.below ((Below.refl _ _).al _)) hA cW hs
 go_enter Tryz.func87,Tryz.ntmps87
 go_wp2_with fail
 refine hCo.mono ?_
 rintro e w1 ⟨v1,rfl,jF,a_⟩
 obtain ⟨eJ,fc,rfl,hac2,hst2,hao2⟩:=rQ jF
 have lh:Below w.heap.size w w1:=((Below.refl _ _).al _).tr a_
 have mP:w1.heap[w.heap.size]? = some (.cells #[.int .i64 0,.int .i64 0,.slice none 0 0,.slice none 0 0] 159 (0,0)):=a_.aE (aB _ _ _ rfl)
 have hlt1:aj<w1.heap.size:=Nat.lt_of_lt_of_le cz lh.size
 have hbN:Below w.heap.size w (w1.alloc (.cells #[.int .i64 1,.int .i64 time,.slice eJ A.length fc,.slice none 0 0] 159)):=lh.al _
 have y3:(w1.alloc (.cells #[.int .i64 1,.int .i64 time,.slice eJ A.length fc,.slice none 0 0] 159)).cell? ⟨aj,3,none⟩=some (.slice ea C.length az):=(hbN.cell (p:=⟨aj,3,none⟩) cz).trans r_
 have ia:∀ b,(Value.slice ea C.length az).ownBlock=some b->b<w.heap.size:=fun b hb=>(hE.lt b hb).2
 have oG:∀ b cs t m,w.heap[b]? = some (.cells cs t m)->t≠153->t≠159->¬ (b=aj\/(Value.slice ea C.length az).ownBlock=some b):=fun b cs t m hb h1 h2 hp=>by
  rcases hp with rfl | hp
  ·rw [hw] at hb;injection hb with hb;injection hb with _ hb _;exact h1 hb.symm
  ·obtain ⟨cur,hc⟩:=dG hE hp
   rw [hc] at hb;injection hb with hb;injection hb with _ hb _;exact h2 hb.symm
 have hrowN:∀ a,eJ=some a->w.heap.size+1<=a.block/\∃ cs,w1.heap[a.block]? = some (.cells cs 9 (0,0)):=fun a ha=>by have:=hao2 a ha;simpa using this
 have fin:∀ (num:Int),num=eQ C->∀ (nT:Value) (W':World),W'.heap[aj]? = some (.cells #[.int .i64 ai,rm,.slice no K.length aI,nT,pv] 153 (0,0))->bY W' nT (D++[(⟨num,time,eJ,A.length,fc,none,0,0⟩:bx)])->aY (fun b=>b=aj\/(Value.slice ea C.length az).ownBlock=some b) (w1.alloc (.cells #[.int .i64 num,.int .i64 time,.slice eJ A.length fc,.slice none 0 0] 159)) W'->(∀ b,nT.ownBlock=some b->(Value.slice ea C.length az).ownBlock=some b\/(w1.alloc (.cells #[.int .i64 num,.int .i64 time,.slice eJ A.length fc,.slice none 0 0] 159)).heap.size<=b)->
   ∃ g iw,nT=.slice (some ⟨g,0,none⟩) (D.length+1) iw/\(∀ (i:Nat) c e,D[i]? = some c->F[i]? = some e->cZ W' c e)/\(∀ c∈D,EvT W' c)/\qh W' (⟨num,time,eJ,A.length,fc,none,0,0⟩:bx) (⟨eQ C,time,A,[]⟩:Pe)/\(∀ a,eJ=some a->∃ cs m,W'.heap[a.block]? = some (.cells cs 9 m))/\eB W' no K/\(∀ a,no=some a->∃ cs m,W'.heap[a.block]? = some (.cells cs 226 m))/\W'.heap[w.heap.size]? = some (.cells #[.int .i64 0,.int .i64 0,.slice none 0 0,.slice none 0 0] 159 (0,0))/\w.heap.size≠g/\
   ∀ (sb sc:Nat) (cur:Array Value) (W'':World),W'.heap.size<=sb->W''.heap[sb]? = some (.cells cur 4 (0,0))->aY (fun b=>b=g\/b=w.heap.size) W' W''->bY W'' (.slice (some ⟨g,0,none⟩) (D.length+1) iw) (D++[(⟨num,time,eJ,A.length,fc,none,0,0⟩:bx).cC sb (K.length+1) sc])->cZ W'' ((⟨num,time,eJ,A.length,fc,none,0,0⟩:bx).cC sb (K.length+1) sc) (b9 F.reverse K (⟨eQ C,time,A,[]⟩:Pe).bare)->
    TakeD aj ai rm no aI K ea az pv C D F time A w (.returned (gv ((⟨num,time,eJ,A.length,fc,none,0,0⟩:bx).cC sb (K.length+1) sc))) W'':=by
  intro num hnumE nT W' f1 f2 f3 f4
  have hbW:Below w.heap.size w (w1.alloc (.cells #[.int .i64 num,.int .i64 time,.slice eJ A.length fc,.slice none 0 0] 159)):=lh.al _
  have hWs:(w1.alloc (.cells #[.int .i64 num,.int .i64 time,.slice eJ A.length fc,.slice none 0 0] 159)).heap.size=w1.heap.size+1:=by simp
  have o_:∀ b o,w1.heap[b]? = some o->(w1.alloc (.cells #[.int .i64 num,.int .i64 time,.slice eJ A.length fc,.slice none 0 0] 159)).heap[b]? = some o:=fun b o hb=>(Below.heap_alloc _ _ _ (aw hb)).trans hb
  generalize (w1.alloc (.cells #[.int .i64 num,.int .i64 time,.slice eJ A.length fc,.slice none 0 0] 159))=W at *
  have hws:=lh.size
  have hrl:=aw mP
  have sp:aY (fun b=>b=aj\/(Value.slice ea C.length az).ownBlock=some b) w W':=(aY.aL hbW).trans f3
  have el:(D++[(⟨num,time,eJ,A.length,fc,none,0,0⟩:bx)]).length=D.length+1:=by simp
  obtain ⟨g,iw,rfl⟩:∃ g iw,nT=.slice (some ⟨g,0,none⟩) (D.length+1) iw:=by
   rcases f2.cases with ⟨_,h2⟩ | ⟨g,cp,js,_⟩
   ·simp at h2
   ·rw [el] at js;exact ⟨g,cp,js⟩
  have hgt:∃ cg,W'.heap[g]? = some (.cells cg 159 (0,0)):=dG f2 rfl
  obtain ⟨cg,hgt⟩:=hgt
  have hgf:=f4 g rfl
  have hao3:∀ a,eJ=some a->∃ cs m,W'.heap[a.block]? = some (.cells cs 9 m):=fun a ha=>by
   obtain ⟨h1,cs,h2⟩:=hrowN a ha
   refine ⟨cs,(0,0),(f3.block _ (aw (o_ _ _ h2)) (fun hp=>?_)).trans (o_ _ _ h2)⟩
   rcases hp with e | e
   ·omega
   ·have:=ia _ e;omega
  refine ⟨g,iw,rfl,fun i c e h1 h2=>?_,fun c hc=>?_,⟨hnumE,rfl,⟨by show -1000000000000<=time;omega,ht.2⟩,rfl,by show A.length<=_;omega,fun hne=>?_⟩,hao3,hN.spare sp (fun a ha=>?_),fun a ha=>?_,?_,?_,?_⟩
  ·have ht:=hTD c (List.mem_of_getElem? h1)
   exact (hInD i c e h1 h2).spare sp (fun a ha=>by obtain ⟨cs,m,k⟩:=ht.so a ha;exact oG _ _ _ _ k (by decide) (by decide)) (fun a ha=>by obtain ⟨cs,m,k⟩:=ht.ao a ha;exact oG _ _ _ _ k (by decide) (by decide))
  ·have ht:=hTD c hc
   exact ht.spare sp (fun a ha=>by obtain ⟨cs,m,k⟩:=ht.so a ha;exact oG _ _ _ _ k (by decide) (by decide)) (fun a ha=>by obtain ⟨cs,m,k⟩:=ht.ao a ha;exact oG _ _ _ _ k (by decide) (by decide))
  ·obtain ⟨b,off,h1,h2,h3⟩:=hst2 hne
   obtain ⟨k1,cs,k2⟩:=hrowN _ h1
   have hb:W'.heap[b]? = w1.heap[b]?:=((f3.block b (by omega) (fun hp=>by
    rcases hp with e | e
    ·have:w.heap.size+1<=b:=k1;omega
    ·have:=ia _ e;have:w.heap.size+1<=b:=k1;omega)).trans (o_ b _ k2)).trans k2.symm
   exact ⟨b,off,h1,by have:=f3.size;omega,fun j hj=>by rw [World.cell?_of_block hb];exact h3 j hj⟩
  ·obtain ⟨cs,m,k⟩:=hNt a ha;exact oG _ _ _ _ k (by decide) (by decide)
  ·obtain ⟨cs,m,k⟩:=hNt a ha;exact ⟨cs,m,(sp.block _ (aw k) (oG _ _ _ _ k (by decide) (by decide))).trans k⟩
  ·refine (f3.block _ (by omega) (fun hp=>?_)).trans (o_ _ _ mP)
   rcases hp with e | e
   ·omega
   ·have:=ia _ e;omega
  ·rcases hgf with e | e
   ·have:=ia _ e;omega
   ·omega
  ·intro sb sc cur W'' a1 a2 a3 a4 a5
   have hss:=f3.size
   have hgw:g≠aj:=by rintro rfl;rw [f1] at hgt;cases hgt
   refine ⟨_,_,sb,cur,rfl,rfl,by omega,a2,(a3.block aj (aw f1) (fun hp=>hp.elim (fun e=>hgw e.symm) (fun e=>by omega))).trans f1,a4,a5,⟨fun a ha=>?_,fun a ha=>?_⟩,⟨a3.os.trans sp.os,a3.tape.trans sp.tape,a3.output.trans sp.output,Nat.le_trans sp.size a3.size,fun b hb hp=>(a3.block b (Nat.lt_of_lt_of_le hb sp.size) (fun e=>?_)).trans (sp.block b hb hp)⟩,fun b hb=>?_⟩
   ·have:some (⟨sb,0,none⟩:Addr)=some a:=ha
    cases this
    exact ⟨cur,(0,0),a2⟩
   ·obtain ⟨cs,m,k⟩:=hao3 a ha
    obtain ⟨k1,_⟩:=hrowN a ha
    refine ⟨cs,m,(a3.block _ (aw k) (fun hp=>?_)).trans k⟩
    rcases hp with e | e
    ·rw [e,hgt] at k;cases k
    ·omega
   ·rcases e with e | e
    ·rcases hgf with e2 | e2
     ·exact hp (.inr (e▸e2))
     ·omega
    ·omega
   ·exact (f4 b hb).imp id (fun x=>by omega)
 rcases List.eq_nil_or_concat C with rfl | ⟨C0,cl,rfl⟩
 ·simp at hkn;omega
 ·rw [List.concat_eq_append] at *
  have om:(C0++[cl])[C0.length]? = some cl:=by simp
  have hlen1:(C0++[cl]).length=C0.length+1:=by simp
  rcases hE.cases with ⟨_,h2⟩ | ⟨g0,cp,js,_,_,hgl⟩
  ·simp at h2
  cases js
  have hq:=hE.cell (k:=0) om rfl
  have y0:(w1.alloc (.cells #[.int .i64 1,.int .i64 time,.slice eJ A.length fc,.slice none 0 0] 159)).cell? ⟨g0,C0.length*4,none⟩=some (.int .i64 cl.number):=(hbN.cell (p:=⟨g0,C0.length*4,none⟩) hgl).trans hq
  have hnb:=lq cl (by simp)
  have hnn:cl.number+1=eQ (C0++[cl]):=by simp [eQ]
  rw [hlen1] at y3
  go_wp2_with fail
  refine region5_drop _ ?hq5b aj w1.heap.size ai rm (.slice no K.length aI) _ _ pv _ _ time eJ A.length fc _ _ _ _ _ _ _ _ _ _ _ _ _ _ _ _ _ _ _ _ _ _ _ _ _ _ _ _ _ _ _ _ _ _ _ _ _ _ _ _ _ _ _ _ _ _ _ _ _ _ _ _ ((lh.al _).aE hw) (hE.below (lh.al _)) hn ht hr k hold hk0 hkn (aB _ _ _ rfl) (fun e=>by have:=ia _ e;have:=lh.size;omega) ?_
  case hq5b=>exact fun _ _ d _ _ h=>by cases d<;>exact h
  intro nT W' v41 f1 f2 f3 f4
  rw [<- hD] at f2
  have hDl:=HDl.out
  obtain ⟨g,iw,rfl,k1,k2,k3,k4,k5,k6,k7,k8,k9⟩:=fin (eQ (C0++[cl])) rfl _ _ f1 f2 f3 f4
  go_wp2_with fail
  refine rO _ ?hq6b aj w.heap.size g iw (.int .i64 ai) rm no aI K pv D _ F _ W' _ _ _ _ _ _ _ _ _ _ _ _ _ _ _ _ _ _ _ _ _ _ _ _ _ _ _ _ _ _ _ _ _ _ _ _ _ _ _ _ _ _ _ _ _ _ _ _ _ _ _ _ f1 f2 hnD Hlen.out k1 k2 k3 k4 hK hnc k5 k6 aN hAh hrowD k7 k8 ?_
  case hq6b=>exact fun _ _ d _ _ h=>by cases d<;>exact h
  intro sb sc cur W'' a1 a2 a3 a4 a5 a6
  have q0:=ae (i:=0) a6 rfl
  have q1:=ae (i:=1) a6 rfl
  have q2:=ae (i:=2) a6 rfl
  have q3:=ae (i:=3) a6 rfl
  have K9:=k9 sb sc cur W'' a1 a2 a3 a4 a5
  clear k1 k2 k3 k4 k5 k6 k7 k9 f1 f2 f3 f4 a1 a2 a3 a4 a5
  go_wp2_with fail
  rw [hD,hF] at K9
  refine ⟨rfl,_,?_,K9⟩
  simp [results,Tryz.f87,go_sem,loadVar,gv,bx.cC,q0,q1,q2,q3]
end Ev
end Go.Proofs.YtpbbmagjhkakgaaGreatDoor
