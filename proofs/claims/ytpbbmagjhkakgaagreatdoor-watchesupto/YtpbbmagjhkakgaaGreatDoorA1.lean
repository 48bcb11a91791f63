import Derived.Conc.Beside
namespace Go.Proofs.YtpbbmagjhkakgaaGreatDoor
theorem eY:type_of% @List.getElem?_eq_some_iff:=@List.getElem?_eq_some_iff
theorem fH:type_of% @List.getElem?_eq_getElem:=@List.getElem?_eq_getElem
theorem iF:type_of% @List.mem_of_getElem?:=@List.mem_of_getElem?
theorem Zv:type_of% @Nat.le_refl:=@Nat.le_refl
theorem oB:type_of% @congrArg:=@congrArg
theorem bN:type_of% @if_neg:=@if_neg
theorem qF:type_of% @Array.getElem?_setIfInBounds_ne:=@Array.getElem?_setIfInBounds_ne
theorem bY:type_of% @if_pos:=@if_pos
theorem qB:type_of% @List.getD_eq_getElem?_getD:=@List.getD_eq_getElem?_getD
theorem gH:type_of% @Nat.le_trans:=@Nat.le_trans
theorem fZ:type_of% @Nat.lt_of_lt_of_le:=@Nat.lt_of_lt_of_le
theorem jR:type_of% @Array.getElem?_eq_some_iff:=@Array.getElem?_eq_some_iff
theorem fD:type_of% @Option.getD_some:=@Option.getD_some
theorem gI:type_of% @Bool.false_eq_true:=@Bool.false_eq_true
theorem gw:type_of% @List.not_mem_nil:=@List.not_mem_nil
theorem ic:type_of% @List.length_cons:=@List.length_cons
theorem fE:type_of% @Nat.zero_add:=@Nat.zero_add
theorem gA:type_of% @List.mem_cons:=@List.mem_cons
theorem ju:type_of% @List.size_toArray:=@List.size_toArray
theorem lh:type_of% @List.forall_mem_cons:=@List.forall_mem_cons
theorem hY:type_of% @List.map_cons:=@List.map_cons
theorem ky:type_of% @List.length_append:=@List.length_append
theorem pw:type_of% @List.drop_eq_getElem_cons:=@List.drop_eq_getElem_cons
theorem nA:type_of% @Option.map_eq_some_iff:=@Option.map_eq_some_iff
theorem jq:type_of% @List.nil_append:=@List.nil_append
theorem jc:type_of% @List.mem_append:=@List.mem_append
theorem jr:type_of% @List.length_nil:=@List.length_nil
theorem lj:type_of% @List.getElem?_map:=@List.getElem?_map
theorem j_:type_of% @decide_eq_false:=@decide_eq_false
theorem lq:type_of% @List.cons_append:=@List.cons_append
theorem kV:type_of% @List.length_take:=@List.length_take
theorem jS:type_of% @decide_eq_true:=@decide_eq_true
theorem sK:type_of% @List.getElem?_append_right:=@List.getElem?_append_right
theorem iZ:type_of% @List.mem_map:=@List.mem_map
theorem sL:type_of% @Array.getElem?_eq_getElem:=@Array.getElem?_eq_getElem
theorem uw:type_of% @List.getElem?_append_left:=@List.getElem?_append_left
theorem nC:type_of% @List.append_assoc:=@List.append_assoc
theorem ml:type_of% @List.map_append:=@List.map_append
theorem rD:type_of% @List.take_of_length_le:=@List.take_of_length_le
theorem rF:type_of% @List.getElem?_set_self:=@List.getElem?_set_self
theorem fA:type_of% @if_false:=@if_false
theorem sM:type_of% @List.mem_cons_of_mem:=@List.mem_cons_of_mem
theorem uJ:type_of% @List.length_eq_zero_iff:=@List.length_eq_zero_iff
theorem nZ:type_of% @List.length_drop:=@List.length_drop
theorem aaC:type_of% @Nat.lt_succ_self:=@Nat.lt_succ_self
theorem ux:type_of% @List.drop_of_length_le:=@List.drop_of_length_le
theorem nD:type_of% @Option.some.inj:=@Option.some.inj
theorem FI:type_of% @Array.getElem?_setIfInBounds_self_of_lt:=@Array.getElem?_setIfInBounds_self_of_lt
theorem pz:type_of% @decide_eq_true_eq:=@decide_eq_true_eq
theorem sN:type_of% @List.mem_of_mem_drop:=@List.mem_of_mem_drop
theorem uy:type_of% @Array.getElem?_modify:=@Array.getElem?_modify
theorem rG:type_of% @beq_eq_false_iff_ne:=@beq_eq_false_iff_ne
theorem fB:type_of% @if_true:=@if_true
theorem ni:type_of% @false_implies:=@false_implies
theorem uK:type_of% @Array.replicate_succ:=@Array.replicate_succ
theorem uL:type_of% @Array.replicate_zero:=@Array.replicate_zero
theorem sO:type_of% @List.mem_singleton:=@List.mem_singleton
theorem Aw:type_of% @List.mem_iff_getElem?:=@List.mem_iff_getElem?
theorem yz:type_of% @List.take_append_drop:=@List.take_append_drop
theorem uM:type_of% @List.append_toArray:=@List.append_toArray
theorem nj:type_of% @implies_true:=@implies_true
theorem uN:type_of% @List.getElem?_drop:=@List.getElem?_drop
theorem oO:type_of% @Prod.mk.injEq:=@Prod.mk.injEq
theorem BD:type_of% @List.mem_or_eq_of_mem_set:=@List.mem_or_eq_of_mem_set
theorem sP:type_of% @Bool.and_eq_true:=@Bool.and_eq_true
theorem sQ:type_of% @UInt8.toNat_inj:=@UInt8.toNat_inj
theorem FJ:type_of% @List.take_append_of_le_length:=@List.take_append_of_le_length
theorem uO:type_of% @List.push_toArray:=@List.push_toArray
theorem BF:type_of% @List.reverse_append:=@List.reverse_append
theorem yA:type_of% @List.getElem?_set_ne:=@List.getElem?_set_ne
theorem Dg:type_of% @List.pairwise_iff_getElem:=@List.pairwise_iff_getElem
theorem yB:type_of% @Array.length_toList:=@Array.length_toList
theorem qG:type_of% @Nat.add_assoc:=@Nat.add_assoc
theorem uP:type_of% @List.length_map:=@List.length_map
theorem GB:type_of% @Classical.byContradiction:=@Classical.byContradiction
theorem kz:type_of% @and_true:=@and_true
theorem JY:type_of% @Array.getD_eq_getD_getElem?:=@Array.getD_eq_getD_getElem?
theorem xu:type_of% @List.getElem_mem:=@List.getElem_mem
theorem yC:type_of% @of_decide_eq_true:=@of_decide_eq_true
theorem yD:type_of% @List.take_add_one:=@List.take_add_one
theorem sR:type_of% @List.map_nil:=@List.map_nil
theorem qA:type_of% @Nat.le_succ:=@Nat.le_succ
theorem yE:type_of% @List.all_eq_true:=@List.all_eq_true
theorem BG:type_of% @Nat.eq_zero_or_pos:=@Nat.eq_zero_or_pos
theorem BH:type_of% @List.getElem?_take:=@List.getElem?_take
theorem Dh:type_of% @Array.getElem?_map:=@Array.getElem?_map
theorem Di:type_of% @List.mem_cons_self:=@List.mem_cons_self
theorem Dj:type_of% @List.map_toArray:=@List.map_toArray
theorem xv:type_of% @Bool.not_true:=@Bool.not_true
theorem GC:type_of% @List.mem_of_mem_take:=@List.mem_of_mem_take
theorem Sm:type_of% @List.getLast?_eq_getElem?:=@List.getLast?_eq_getElem?
theorem oP:type_of% @or_false:=@or_false
theorem Sn:type_of% @List.findIdx?_eq_some_iff_getElem:=@List.findIdx?_eq_some_iff_getElem
theorem GD:type_of% @Option.some.injEq:=@Option.some.injEq
theorem ML:type_of% @Array.getElem?_eq_none:=@Array.getElem?_eq_none
theorem FK:type_of% @List.length_set:=@List.length_set
theorem FM:type_of% @beq_false_of_ne:=@beq_false_of_ne
theorem Pc:type_of% @List.map_reverse:=@List.map_reverse
theorem BI:type_of% @Nat.lt_or_ge:=@Nat.lt_or_ge
theorem wF:type_of% @List.drop_zero:=@List.drop_zero
theorem Cv:type_of% @Nat.pow_le_pow_right:=@Nat.pow_le_pow_right
theorem Ao:type_of% @Nat.not_lt_zero:=@Nat.not_lt_zero
theorem Cw:type_of% @List.takeWhile_cons:=@List.takeWhile_cons
theorem Ap:type_of% @List.any_eq_true:=@List.any_eq_true
theorem Cx:type_of% @Array.append_assoc:=@Array.append_assoc
theorem Cy:type_of% @of_decide_eq_false:=@of_decide_eq_false
theorem Cz:type_of% @List.pairwise_cons:=@List.pairwise_cons
theorem CC:type_of% @List.set_cons_zero:=@List.set_cons_zero
theorem lG:type_of% @Ne.symm:=@Ne.symm
theorem FA:type_of% @Classical.choose_spec:=@Classical.choose_spec
theorem FB:type_of% @List.set_append_right:=@List.set_append_right
theorem Ik:type_of% @List.getElem?_eq_none_iff:=@List.getElem?_eq_none_iff
theorem CD:type_of% @Nat.min_eq_left:=@Nat.min_eq_left
theorem CF:type_of% @List.ext_getElem?:=@List.ext_getElem?
theorem CG:type_of% @List.flatten_cons:=@List.flatten_cons
theorem sI:type_of% @Nat.not_le:=@Nat.not_le
theorem FC:type_of% @List.map_congr_left:=@List.map_congr_left
theorem CH:type_of% @Array.mem_append:=@Array.mem_append
theorem Il:type_of% @List.getElem?_cons_succ:=@List.getElem?_cons_succ
theorem Aq:type_of% @List.mem_range:=@List.mem_range
theorem CI:type_of% @beq_self_eq_true:=@beq_self_eq_true
theorem Ar:type_of% @UInt8.toNat_lt:=@UInt8.toNat_lt
theorem Im:type_of% @UInt8.toNat_ofNat':=@UInt8.toNat_ofNat'
theorem xL:type_of% @List.map_set:=@List.map_set
theorem CJ:type_of% @List.foldl_cons:=@List.foldl_cons
theorem CK:type_of% @Bool.eq_iff_iff:=@Bool.eq_iff_iff
theorem CL:type_of% @List.append_nil:=@List.append_nil
theorem Io:type_of% @List.pairwise_append:=@List.pairwise_append
theorem wG:type_of% @beq_iff_eq:=@beq_iff_eq
theorem Ip:type_of% @List.reverse_reverse:=@List.reverse_reverse
theorem q9:type_of% @ite_self:=@ite_self
theorem FD:type_of% @List.cons.injEq:=@List.cons.injEq
theorem Iq:type_of% @List.set_cons_succ:=@List.set_cons_succ
theorem My:type_of% @List.getElem?_cons_zero:=@List.getElem?_cons_zero
theorem Mz:type_of% @decide_eq_false_iff_not:=@decide_eq_false_iff_not
theorem CM:type_of% @List.map_map:=@List.map_map
theorem Ir:type_of% @List.mem_flatten:=@List.mem_flatten
theorem MA:type_of% @List.take_length:=@List.take_length
theorem P8:type_of% @List.getElem?_mapIdx:=@List.getElem?_mapIdx
theorem wH:type_of% @true_and:=@true_and
theorem MB:type_of% @List.getElem?_of_mem:=@List.getElem?_of_mem
theorem MC:type_of% @Nat.mul_le_mul_right:=@Nat.mul_le_mul_right
theorem Iu:type_of% @Option.map_some:=@Option.map_some
theorem Iw:type_of% @List.nodup_cons:=@List.nodup_cons
theorem Ix:type_of% @List.mem_filter:=@List.mem_filter
theorem Iy:type_of% @List.range_succ:=@List.range_succ
theorem P9:type_of% @List.drop_succ_cons:=@List.drop_succ_cons
theorem MD:type_of% @List.flatten_append:=@List.flatten_append
theorem ME:type_of% @List.dropWhile_cons:=@List.dropWhile_cons
theorem FE:type_of% @Nat.add_zero:=@Nat.add_zero
theorem FF:type_of% @Nat.sub_self:=@Nat.sub_self
theorem P_:type_of% @List.setIfInBounds_toArray:=@List.setIfInBounds_toArray
theorem P':type_of% @List.findIdx?_eq_none_iff:=@List.findIdx?_eq_none_iff
theorem MF:type_of% @List.nodup_append:=@List.nodup_append
theorem MG:type_of% @List.pairwise_map:=@List.pairwise_map
theorem MH:type_of% @List.mem_flatMap:=@List.mem_flatMap
theorem MI:type_of% @Nat.le_of_lt:=@Nat.le_of_lt
theorem Qa:type_of% @List.map_eq_append_iff:=@List.map_eq_append_iff
theorem aA{T:Prop}(h:T:=by omega):T:=h
theorem aG{T:Prop}(h:T:=by decide):T:=h
theorem aF{T:Prop}(h:T:=by simp):T:=h
theorem bI{T:Prop}(h:T:=by simp; omega):T:=h
theorem eP{T:Prop}(h:T:=by unfold maxLen; omega):T:=h
theorem jZ{T:Prop}(h:T:=by decide +kernel):T:=h
theorem xM{T:Prop}(h:T:=by intro u hu; simp at hu; subst hu; rfl):T:=h
theorem aZ{n:Nat}:n<=n:=Nat.le_refl _
theorem cC{n:Nat}:0<=n:=Nat.zero_le _
theorem j7{n:Nat}:n<n+1:=Nat.lt_succ_self _
abbrev aC:=World
abbrev aE:=Value
abbrev a_:=ByteArray
abbrev bU:=Goroutine
abbrev bC:=Addr
abbrev aB:=@List
abbrev aU:=@Array
abbrev aR:=@Option
abbrev bQ:=Prop
abbrev aX:=UInt8
namespace Lf
open Go Go.Conc
structure TI(hc:Prop)(κ B:Nat)(CA CB:Touch->Prop)(t:Trace):Prop where
 clean:∀said,¬Race said t
 zero:∀i a,touchAt t i=some a->a.loc.isMemory=true->Knows t 0 i\/(t.g? i=some κ/\CB a)
 child:∀i a,touchAt t i=some a->a.loc.isMemory=true->Knows t κ i\/CA a
 over:∀i g,t.g? i=some g->g≠0->g≠κ->t.counts i->∃j,t.g? j=some 0/\HappensBefore t i j
 hears:Deaf t 0=0
 vM:hc->Deaf t κ=0
 seen:∀op∈t,op.act.low B
def Dy(CA CB:Touch->Prop):Prop:=∀a b c,CA a->CB b->¬a.conflicts c b/\¬b.conflicts c a
section
variable{hc:Prop}{κ B:Nat}{CA CB:Touch->Prop}{t u:Trace}
theorem TI.mono{e c b}(h:TI hc κ B CA CB t)(g:B<=e)(f:∀a,CA a->c a)(j:∀a,CB a->b a):TI hc κ e c b t:=
 ⟨h.clean,λi a x y=>(h.zero i a x y).imp id λz=>⟨z.1,j _ z.2⟩,λi a x y=>(h.child i a x y).imp id (f _),h.over,h.hears,h.vM,λop d=>MemAct.low_mono g (h.seen op d)⟩
theorem EO{t u κ}(h:∀i g,t.g? i=some g->g≠0->g≠κ->t.counts i->∃j,t.g? j=some 0/\HappensBefore t i j)(m:∀op∈u,op.g=0\/op.g=κ\/op.act.touch?=none):
  ∀i g,(t++u).g? i=some g->g≠0->g≠κ->(t++u).counts i->∃j,(t++u).g? j=some 0/\HappensBefore (t++u) i j:=by
 intro i g l d f hc;let⟨x,hx,_⟩:=hc;let⟨op,AA,hox⟩:=touch_of hx;obtain⟨hi,k⟩|⟨_,a⟩:=getElem?_append_cases AA
 .let⟨j,hj,hb⟩:=h i g (by simpa[Trace.g?,getElem?_append_old hi]using l) d f ((counts_old hi).1 ⟨x,hx,‹_›⟩);let e:j<t.size:=by
   unfold Trace.g? at hj;let⟨z,hz,_⟩:=nA.1 hj;exact lt_size_of_getElem? hz
  exact⟨j,by simpa[Trace.g?,getElem?_append_old e]using hj,hb_app u hb⟩
 .let c:op.g=g:=by simpa[Trace.g?,AA]using l
  obtain b|b|b:=m op a
  .exact absurd (c.symm.trans b) d
  .exact absurd (c.symm.trans b) f
  .rw[b]at hox;cases hox
theorem Tu{t:Trace}{i g}(h:t.g? i=some g):i<t.size:=by
 unfold Trace.g? at h;let⟨z,hz,_⟩:=nA.1 h;exact lt_size_of_getElem? hz
theorem Jb{t u:Trace}{i g}(h:t.g? i=some g):(t++u).g? i=some g:=g?_old (Tu h)▸h
theorem TI.aa_(h:TI hc κ B CA CB t):TI False κ B CA CB t:=⟨h.clean,h.zero,h.child,h.over,h.hears,λx=>x.elim,h.seen⟩
theorem TI.app0(o:κ≠0)(s:Dy CA CB)(h:TI hc κ B CA CB t)(l:∀op∈u,op.g=0)(k:∀op∈u,∀b,op.act.touch?=some b->b.loc.isMemory=true->CA b)(r:Deaf (t++u) 0=0)(v:∀op∈u,op.act.low B):TI hc κ B CA CB (t++u):=by
 refine⟨λd=>noRace_append (h.clean d) l λi a j op e b q c=>?_,λi a j m=>?_,λi a j m=>?_,EO h.over λop e=>.inl (l op e),r,λx=>(Deaf_other t (lG o) u l).trans (h.vM x),seen_app h.seen v⟩
 .obtain p|⟨_,n⟩:=h.zero i a j c.2.1
  .exact p
  .exact absurd c (s b a d (k op e b q (c.1▸c.2.1)) n).2
 .let⟨x,hx,Bd⟩:=touch_of j;obtain⟨_,f⟩|⟨_,g⟩:=getElem?_append_cases hx
  .exact(h.zero i a (touchAt_of f▸Bd) m).imp (·.app u) λz=>⟨Jb z.1,z.2⟩
  .have:=knows_own hx;rw[l x g]at this;exact .inl this
 .let⟨x,hx,Bd⟩:=touch_of j;obtain⟨_,f⟩|⟨_,g⟩:=getElem?_append_cases hx
  .exact(h.child i a (touchAt_of f▸Bd) m).imp (·.app u) id
  .exact .inr (k x g a Bd m)
theorem TI.aaH(o:κ≠0)(s:Dy CA CB)(h:TI hc κ B CA CB t)(j:∀op∈u,op.g=κ)(l:∀op∈u,∀b,op.act.touch?=some b->b.loc.isMemory=true->CB b)(r:hc->Deaf (t++u) κ=0)(v:∀op∈u,op.act.low B):TI hc κ B CA CB (t++u):=by
 refine⟨λe=>noRace_append (h.clean e) j λi a k op f b q c=>?_,λi a k m=>?_,λi a k m=>?_,EO h.over λop f=>.inr (.inl (j op f)),(Deaf_other t o u j).trans h.hears,r,seen_app h.seen v⟩
 .obtain p|n:=h.child i a k c.2.1
  .exact p
  .exact absurd c (s a b e n (l op f b q (c.1▸c.2.1))).1
 .let⟨x,hx,Bd⟩:=touch_of k;obtain⟨_,g⟩|⟨_,d⟩:=getElem?_append_cases hx
  .exact(h.zero i a (touchAt_of g▸Bd) m).imp (·.app u) λz=>⟨Jb z.1,z.2⟩
  .exact .inr ⟨by simp[Trace.g?,hx,j x d],l x d a Bd m⟩
 .let⟨x,hx,Bd⟩:=touch_of k;obtain⟨_,g⟩|⟨_,d⟩:=getElem?_append_cases hx
  .exact(h.child i a (touchAt_of g▸Bd) m).imp (·.app u) id
  .have:=knows_own hx;rw[j x d]at this;exact .inl this
theorem TI.appMute(h:TI hc κ B CA CB t)(m:∀op∈u,op.act.touch?=none)(q:Deaf (t++u) 0=0)(k:hc->Deaf (t++u) κ=0)(A:∀op∈u,op.act.low B):TI hc κ B CA CB (t++u):=by
 refine⟨λl=>?_,λi a g r=>?_,λi a g r=>?_,EO h.over λop o=>.inr (.inr (m op o)),q,k,seen_app h.seen A⟩
 .rintro⟨i,j,f,⟨a,b,g,s,hc⟩,v,w⟩;let⟨x,hx,Bd⟩:=touch_of g;let⟨y,hy,hyb⟩:=touch_of s;obtain⟨C,n⟩|⟨_,p⟩:=getElem?_append_cases hy
  .let c:t[i]?=some x:=by rw[<-getElem?_append_old (u:=u) (Nat.lt_trans f C)];exact hx
   exact h.clean l ⟨i,j,f,⟨a,b,by simp[Trace.act?,c,Bd],by simp[Trace.act?,n,hyb],hc⟩,λe=>v (hb_app u e),λe=>w (hb_app u e)⟩
  .rw[m y p]at hyb;cases hyb
 .let⟨x,hx,Bd⟩:=touch_of g;obtain⟨_,c⟩|⟨_,d⟩:=getElem?_append_cases hx
  .exact(h.zero i a (touchAt_of c▸Bd) r).imp (·.app u) λz=>⟨Jb z.1,z.2⟩
  .rw[m x d]at Bd;cases Bd
 .let⟨x,hx,Bd⟩:=touch_of g;obtain⟨_,c⟩|⟨_,d⟩:=getElem?_append_cases hx
  .exact(h.child i a (touchAt_of c▸Bd) r).imp (·.app u) id
  .rw[m x d]at Bd;cases Bd
theorem TI.fork(h:Past (λ_=>False) B t)(j:Deaf t κ=0){x y}(d:x.g=0/\x.act=.go κ)(f:y.g=κ/\y.act=.start):TI hc κ B CA CB (t++#[x,y]):=by
 let p:∀op∈(#[x,y]:Trace),op.act.touch?=none:=by
  intro op b;simp at b;rcases b with rfl|rfl
  .rw[d.2];rfl
  .rw[f.2];rfl
 let o:∀g,Deaf t g=0->Deaf (t++#[x,y]) g=0:=by
  intro g q;let e:(t++#[x,y]:Trace)=t++[x,y].toArray:=rfl;rw[e,Deaf_append];simp[deafStep,d.2,f.2,q]
 let base:TI hc κ B (λ_=>True) CB t:=⟨h.clean,λi a k l=>.inl ((h.known i a k l).resolve_right λz=>z.1.elim),λ_ _ _ _=>.inr trivial,λi g s c _ r=>h.over i g s c r,h.hears,λ_=>j,h.seen⟩;let c:=base.appMute p (o 0 h.hears) (λ_=>o κ j) (λop b=>by
  simp at b;obtain rfl|rfl:=b
  .rw[d.2];trivial
  .rw[f.2];trivial)
 refine⟨c.clean,c.zero,λi a k l=>?_,c.over,c.hears,c.vM,c.seen⟩;let⟨z,hz,hza⟩:=touch_of k;obtain⟨_,n⟩|⟨_,m⟩:=getElem?_append_cases hz
 .exact .inl (Go.ConcN.fork_knows d f h.hears j ((h.known i a (touchAt_of n▸hza) l).resolve_right λz=>z.1.elim))
 .rw[p z m]at hza;cases hza
def Shut(κ c:Nat)(t:Trace):Prop:=∃b,t.act? b=some (.close c)/\t.g? b=some κ/\t.heard b/\∀i a,touchAt t i=some a->t.g? i=some κ->i<b
theorem Shut.app{c}(h:Shut κ c t)(j:∀op∈u,op.g=κ->op.act.touch?=none):Shut κ c (t++u):=by
 let⟨pc,h1,h2,h3,h4⟩:=h;let b:=Tu h2;refine⟨pc,by rw[act?_old b];exact h1,Jb h2,(heard_old b).2 h3,λi a g e=>?_⟩;let⟨x,hx,Bd⟩:=touch_of g;obtain⟨hi,d⟩|⟨_,f⟩:=getElem?_append_cases hx
 .exact h4 i a (touchAt_of d▸Bd) (by rw[g?_old hi]at e;exact e)
 .have:x.g=κ:=by simpa[Trace.g?,hx]using e
  rw[j x f this]at Bd;cases Bd
theorem TI.join(A:κ≠0){c}(h:TI hc κ B CA CB t)(D:Shut κ c t){y}(k:y.g=0/\y.act=.recvClosed c)(w:c<B):Past (λ_=>False) B (t++#[y]):=by
 let f:(t++#[y])[t.size]?=some y:=by rw[Array.getElem?_append_right aZ];simp
 let s:∀g,Deaf t g=0->Deaf (t++#[y]) g=0:=by
  intro g d;rw[Deaf_push];simp[deafStep,k.2,d]
 let u:∀op∈(#[y]:Trace),op.act.touch?=none:=by
  intro op e;simp at e;subst e;rw[k.2];rfl
 let l:=h.appMute u (s 0 h.hears) (λx=>s κ (h.vM x)) (λop e=>by simp at e;subst e;rw[k.2];exact w);let⟨pc,s1,s2,s3,s4⟩:=D;let j:=Tu s2;let b:∀i a,touchAt (t++#[y]) i=some a->(t++#[y]).g? i=some κ->HappensBefore (t++#[y]) i t.size:=by
  intro i a n d;let⟨x,hx,Bd⟩:=touch_of n;obtain⟨hi,p⟩|⟨_,r⟩:=getElem?_append_cases hx
  .let⟨z,hz,hzg⟩:=nA.1 (show(t[pc]?).map (·.g)=some κ from s2);let o:x.g=κ:=by unfold Trace.g? at d;rw[hx]at d;exact nD d
   exact(hb_po (s4 i a (touchAt_of p▸Bd) (by rw[g?_old hi]at d;exact d)) hx (getElem?_append_old j▸hz) (o.trans hzg.symm)).trans (.single (.inr ⟨.closed (c:=c) (act?_old j▸s1) (by rw[act?_of f,k.2]),(heard_old j).2 s3,⟨0,by simp[Trace.g?,k.1],by rw[deaf_old aZ];exact h.hears⟩⟩))
  .rw[u x r]at Bd;cases Bd
 refine⟨l.clean,λi a n C=>?_,λi g d q hc=>?_,l.hears,l.seen⟩
 .obtain v|⟨d,_⟩:=l.zero i a n C
  .exact .inl v
  .exact .inl ⟨t.size,y,f,k.1,.inr (b i a n d)⟩
 .by_cases m:g=κ
  .subst m;let⟨x,hx,_⟩:=hc;exact⟨t.size,by simp[Trace.g?,k.1],b i x hx d⟩
  .exact l.over i g d q m hc
end
def re(w:aC)(a:Tape)(d:Nat):aC:={w with tape:=a,drawn:=d}
def Alike(w:aC)(m:Nat)(a:Tape)(d:Nat):Prop:=∀j,j<m->a (d+j)=w.tape (w.drawn+j)
theorem UR(w c a d b):re (re w c d) a b=re w a b:=rfl
theorem JA(w):re w w.tape w.drawn=w:=rfl
theorem Rs(w b d a n):(re w b d).freeze a n=re (w.freeze a n) b d:=by unfold World.freeze;split<;>rfl
def reX(a:Tape)(d:Nat):Except Halt (aC×aB bC)->Except Halt (aC×aB bC)
 |.ok (w,l)=>.ok (re w a d,l)
 |.error h=>.error h
def reE(a:Tape)(d:Nat):Except String (aC×aB bC)->Except String (aC×aB bC)
 |.ok (w,l)=>.ok (re w a d,l)
 |.error h=>.error h
theorem JB(p w a d at_ u k v b):
  (re w a d).viewStore p at_ u k v b=reE a d (w.viewStore p at_ u k v b):=by
 unfold World.viewStore;let f:World.seen p (re w a d) at_ u k b=World.seen p w at_ u k b:=rfl;rw[f];simp only[re,bind,Except.bind,pure,Except.pure,MonadExcept.throw,throwThe,MonadExceptOf.throw];split
 .rfl
 .cases World.seen p w at_ u k b with
  |error e=>rfl
  |ok x=>
   let⟨c,e,frozen,first,like,cells⟩:=x;simp only[];split
   .split
    .rfl
    .split
     .rfl
     .rfl
   .rfl
theorem Ci(p w c d a v b):
  (re w c d).farStore p a v b=reX c d (w.farStore p a v b):=by
 unfold World.farStore;let g:(re w c d).heap=w.heap:=rfl;let f:(re w c d).noCell a "store: no such cell"=w.noCell a "store: no such cell":=rfl;rw[g,f];split
 .rename_i at_ u _;rw[JB];cases World.viewStore p w at_ u a v b with
  |error e=>rfl
  |ok x=>rfl
 .rfl
theorem D'{p}{w c:aC}{a v b t}(h:w.farStore p a v b=.ok (c,t)):c.tape=w.tape/\c.drawn=w.drawn:=by
 have:=Ci p w w.tape w.drawn a v b;rw[JA,h]at this;simp only[reX,Except.ok.injEq,oO,kz]at this;rw[this];exact⟨rfl,rfl⟩
theorem Qr{i}(a:Ask i):∀w,∃m,(w.ask a).2=re (w.ask a).2 w.tape (w.drawn+m)/\
  ∀e d,Alike w m e d->(re w e d).ask a=((w.ask a).1,re (w.ask a).2 e (d+m)):=by
 induction a with
 |done a=>exact λw=>⟨0,rfl,λe d _=>rfl⟩
 |ask c b k g=>
  intro w;by_cases f:(Question.extern c b).forced=true
  .let⟨m,h1,h2⟩:=g 0 w;refine⟨m,?_,λe d h=>?_⟩
   .simp only[World.ask,f,fB];exact h1
   .simp only[World.ask,f,fB];exact h2 e d h
  .let⟨m,h1,h2⟩:=g ((Question.extern c b).cut (w.tape w.drawn (.extern c b))) {w with drawn:=w.drawn+1};refine⟨m+1,?_,λe d h=>?_⟩
   .simp only[World.ask,f,fA,gI];rw[h1];simp only[re];congr 1;omega
   .simp only[World.ask,f,fA,gI];let l:e d=w.tape w.drawn:=by have:=h 0 aA;simpa using this
    have:=h2 e (d+1) (λj n=>by have:=h (j+1) aA;simp only;rw[show d+1+j=d+(j+1)from aA,this];congr 1;omega);rw[show d+(m+1)=d+1+m from aA,<-this];show World.ask _ (k ((Question.extern c b).cut (e d (.extern c b))))=_;rw[l];rfl
def Ends:Halt->Bool
 |.panic _|.goexit|.unsupported (.initOrder _)=>false
 |_=>true
def Fit(P:Program){α:Type}(L:α->Prop):Nat->Sem α->Prop
 |d,.pure a=>d=0/\L a
 |d,.load _ _ k=>∀v,Fit P L d (k v)
 |d,.store _ _ _ k=>Fit P L d k
 |d,.new _ k=>∀n,Fit P L d (k n)
 |d,.shape _ k=>∀s,Fit P L d (k s)
 |d,.freeze _ _ k=>Fit P L d k
 |d,.frozen _ k=>∀b,Fit P L d (k b)
 |d,.getObj _ k=>∀o,Fit P L d (k o)
 |d,.setObj _ _ k=>Fit P L d k
 |d,.choose _ k=>∀n,Fit P L d (k n)
 |d,.sys _ k=>(∃h,k .wouldBlock=.halt h/\Ends h=true)/\∀r,Fit P L d (k r)
 |d,.program k=>Fit P L d (k P)
 |d,.mark m k=>Fit P L (match m with|.disable=>d+1|.enable=>d-1|_=>d) k
 |d,.halt h=>d=0\/Ends h=true
theorem KR{P e g L M}{f:e->Sem g}(i:∀a,L a->Fit P M 0 (f a)):∀{s:Sem e}{d},Fit P L d s->Fit P M d (s.bind f):=by
 intro s
 induction s with
 |pure a=>intro d h;obtain⟨rfl,h⟩:=h;exact i a h
 |load m a k b=>exact λh v=>b v (h v)
 |store m a v k b=>exact λh=>b h
 |new o k b=>exact λh v=>b v (h v)
 |shape o k b=>exact λh v=>b v (h v)
 |freeze a n k b=>exact λh=>b h
 |frozen o k b=>exact λh v=>b v (h v)
 |getObj o k b=>exact λh v=>b v (h v)
 |setObj a n k b=>exact λh=>b h
 |choose o k b=>exact λh v=>b v (h v)
 |sys c k b=>
  intro d h;let⟨⟨x,hx,he⟩,h⟩:=h;exact⟨⟨x,by show(k .wouldBlock).bind f=_;rw[hx];rfl,he⟩,λr=>b r (h r)⟩
 |program k b=>exact λh=>b P h
 |mark m k b=>exact λh=>b h
 |halt x=>exact λh=>h
def PX{c:Type}(b:Tape)(d:Nat):Result c->Result c
 |.ok a w=>.ok a (re w b d)
 |.halt h w=>.halt h (re w b d)
def UU{a:Type}:Result a->Bool
 |.ok _ _=>true
 |.halt h _=> !Ends h
theorem R2{w c}(h:(w.sys c).1≠.wouldBlock):∃m,(w.sys c).2=re (w.sys c).2 w.tape (w.drawn+m)/\
  ∀a d,Alike w m a d->(re w a d).sys c=((w.sys c).1,re (w.sys c).2 a (d+m)):=by
 have⟨m,h1,h2⟩:=Qr (Kernel.perform c w.os) w;unfold World.sys at h⊢;have e:∀a d,(re w a d).os=w.os:=λ_ _=>rfl;simp only[e];generalize f:w.ask (Kernel.perform c w.os)=x at h h1 h2⊢;have⟨⟨r,os⟩,w'⟩:=x;refine⟨m,?_,λa d b=>?_⟩
 .cases r<;>first|exact absurd rfl h|(simp only at h1⊢;rw[h1];rfl)
 .rw[h2 a d b];cases r<;>first|exact absurd rfl h|rfl
theorem qu(P){O L}(s:Sem O):∀n (w) (l),Fit P L n s->UU (s.runT P w l).1=true->
  ∃m,(s.runT P w l).1=PX w.tape (w.drawn+m) (s.runT P w l).1/\∀g d,Alike w m g d->s.runT P (re w g d) l=(PX g (d+m) (s.runT P w l).1,(s.runT P w l).2):=by
 induction s with
 |pure a=>exact λn w l _ _=>⟨0,rfl,λg d _=>rfl⟩
 |load m a k p=>
  intro n w l i f;let I:∀g d,(re w g d).cell? a=w.cell? a:=λ_ _=>rfl;let N:∀g d b,(re w g d).farLoad P a b=w.farLoad P a b:=λ_ _ _=>rfl;simp only[Sem.runT,I,N]at f⊢;cases hw:w.cell? a with
  |some v=>simp only[hw]at f⊢;exact p v n w _ (i v) f
  |none=>
   simp only[hw]at f⊢;cases C:w.farLoad P a (m==.atomic)with
   |ok x=>obtain⟨v,t⟩:=x;simp only[C]at f⊢;exact p v n w _ (i v) f
   |error e=>simp only[C]at f⊢;exact⟨0,rfl,λg d _=>rfl⟩
 |store m a v k p=>
  intro n w l i f;cases v with
  |agg x=>exact⟨0,rfl,λg d _=>rfl⟩
  |tuple x=>exact⟨0,rfl,λg d _=>rfl⟩
  |_=>
   let I:∀g d,(re w g d).cell? a=w.cell? a:=λ_ _=>rfl;let R:∀g d,(re w g d).frozen? a=w.frozen? a:=λ_ _=>rfl;simp only[Sem.runT,I,R,Ci]at f⊢;cases hw:w.cell? a with
   |some u=>
    simp only[hw]at f⊢;split at f
    .rename_i G;simp only[G,fB];exact⟨0,rfl,λg d _=>rfl⟩
    .rename_i G;simp only[G,fA,gI]at f⊢;exact p n _ _ i f
   |none=>
    simp only[hw]at f⊢;cases C:w.farStore P a _ (m==Mode.atomic)with
    |ok x=>
     let⟨w',t⟩:=x;simp only[C,reX]at f⊢;let⟨E,D⟩:=D' C;obtain⟨y,A,F⟩:=p n w' _ i f;rw[E,D]at A;refine⟨y,A,λg d B=>F g d λj H=>?_⟩;rw[E,D];exact B j H
    |error e=>simp only[C,reX]at f⊢;exact⟨0,rfl,λg d _=>rfl⟩
 |new o k p=>exact λn w l i f=>p w.heap.size n _ l (i _) f
 |shape r k p=>exact λn w l i f=>p (w.shape? r) n w l (i _) f
 |freeze a c k p=>
  intro n w l i f;simp only[Sem.runT,Rs]at f⊢;let E:(w.freeze a c).tape=w.tape:=by unfold World.freeze;split<;>rfl
  let D:(w.freeze a c).drawn=w.drawn:=by unfold World.freeze;split<;>rfl
  let⟨y,A,F⟩:=p n (w.freeze a c) l i f;rw[E,D]at A;refine⟨y,A,λg d B=>F g d λj H=>?_⟩;rw[E,D];exact B j H
 |frozen a k p=>exact λn w l i f=>p (w.frozen? a) n w l (i _) f
 |getObj r k p=>
  intro n w l i f;let J:∀g d,(re w g d).heap=w.heap:=λ_ _=>rfl;simp only[Sem.runT,J]at f⊢;cases hw:w.heap[r]? with
  |none=>simp only[hw]at f⊢;exact⟨0,rfl,λg d _=>rfl⟩
  |some o=>
   cases o with
   |cells c t z=>simp only[hw]at f⊢;exact⟨0,rfl,λg d _=>rfl⟩
   |_=>simp only[hw]at f⊢;exact p _ n w _ (i _) f
 |setObj r o k p=>
  intro n w l i f;let J:∀g d,(re w g d).heap=w.heap:=λ_ _=>rfl;simp only[Sem.runT,J]at f⊢;cases hw:w.heap[r]? with
  |none=>simp only[hw]at f⊢;exact⟨0,rfl,λg d _=>rfl⟩
  |some x=>
   cases x with
   |cells c t z=>simp only[hw]at f⊢;exact⟨0,rfl,λg d _=>rfl⟩
   |_=>simp only[hw]at f⊢;exact p n _ _ i f
 |choose q k p=>
  intro n w l i f;simp only[Sem.runT]at f⊢;by_cases K:q.forced=true
  .simp only[K,fB]at f⊢;exact p 0 n w l (i _) f
  .simp only[K,fA,gI]at f⊢;let⟨y,A,F⟩:=p (q.cut (w.tape w.drawn q)) n {w with drawn:=w.drawn+1} l (i _) f;refine⟨y+1,?_,λg d B=>?_⟩
   .rw[show w.drawn+(y+1)=w.drawn+1+y by omega];exact A
   .let Q:g d=w.tape w.drawn:=by have:=B 0 aA;simpa using this
    have:=F g (d+1) (λj H=>by have:=B (j+1) aA;simp only;rw[show d+1+j=d+(j+1)from aA,this];congr 1;omega);rw[show d+(y+1)=d+1+y from aA,<-this];show Sem.runT P (k (q.cut (g d q))) _ l=_;rw[Q];rfl
 |sys c k p=>
  intro n w l i f;let⟨⟨x,C,he⟩,i⟩:=i;simp only[Sem.runT]at f⊢;by_cases M:(w.sys c).1=.wouldBlock
  .rw[M,C]at f;simp[Sem.runT,UU,he]at f
  .let⟨m,A,F⟩:=R2 M;let⟨y,h3,h4⟩:=p (w.sys c).1 n (w.sys c).2 _ (i _) f;let E:(w.sys c).2.tape=w.tape:=by rw[A];rfl
   let D:(w.sys c).2.drawn=w.drawn+m:=by rw[A];rfl
   refine⟨m+y,?_,λg d B=>?_⟩
   .rw[E,D]at h3;rw[<-qG];exact h3
   .rw[F g d λj H=>B j aA];simp only;rw[h4 g (d+m) λj H=>?_]
    .rw[qG]
    .rw[E,D];have:=B (m+j) aA;rw[<-qG]at this;rw[this,<-qG]
 |program k p=>exact λn w l i f=>p P n w l i f
 |mark m k p=>exact λn w l i f=>p _ w _ i f
 |halt h=>exact λn w l i f=>⟨0,rfl,λg d _=>rfl⟩
end Lf
end Go.Proofs.YtpbbmagjhkakgaaGreatDoor
