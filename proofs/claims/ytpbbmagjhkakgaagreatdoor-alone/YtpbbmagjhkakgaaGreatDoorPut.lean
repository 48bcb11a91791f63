import Derived.Test.YtpbbmagjhkakgaaGreatDoorPureNumToWindow
import Derived.Test.YtpbbmagjhkakgaaGreatDoorCore
import Derived.Deep.RegionHeld3
import Derived.Deep.RegionLaw
import Derived.Maps.AppendAt
namespace Go.Proofs.YtpbbmagjhkakgaaGreatDoor
open Go.RowKit Go.Deep Go.Maps
theorem kN {P:Program} {ops:Array Oper} {o:Oper} {a:Act} {w:World} {K:Act->World->Prop} {Q:Exit->Act->World->Prop} {E:Prop}
  (hg:o.guard=none) (s x:Operand) (t:TypeId) (aN:o.op=Op.call { callee:=Callee.builtin Builtin.append,args:=#[s,x],argTypes:=#[t,t] })
  (base:Nat) (e:TypeId) (i:TypeInfo) (z:Value) (size bytes:Nat) (h1:P.underlying t=some (.slice e)) (h2:P.info? e=some i) (h3:i.zero=some z) (h4:i.size=size) (h5:i.bytes=bytes) (h6:z.cells.size=size) (h7:0<size)
  (v:Value) (n:Nat) (xs:List Value) (hs:a.eval s=v) (cE:w.ownsRow base e size v n xs)
  (ad:Addr) (m c:Nat) (news:List Value) (hx:a.eval x=.slice (some ad) m c) (hn:news.length=m*size) (hc:∀ j u,news[j]? = some u->w.cell? (ad.add j)=some u) (h1c:∀ u∈news,u.oneCell'=true)
  (b1:n+m<=maxLen) (b2:(n+m)*bytes<=140737488355328) (hb:base<=w.heap.size)
  (hK:∀ v' w',w'.ownsRow base e size v' (n+m) (xs++news)->w.grownBy w' v.ownBlock->(v'.ownBlock=v.ownBlock\/v'.ownBlock=some w.heap.size)->K (a.put o.dst v') w') :
  if Region.wanted o (yielded ops a.tmps)=true then Oper.wp P o a w K Q else E:=by
 have hw:Region.wanted o (yielded ops a.tmps)=true:=by simp [Region.wanted,hg]
 rw [if_pos hw]
 obtain ⟨v',w',dQ,r1,r2,_,r3⟩:=run_append_own_at (P:=P) w base t o.type e i z size bytes h1 h2 h3 h4 h5 h6 h7 v n xs cE ad m c news hn hc h1c b1 b2 hb
 unfold Oper.wp
 simp [execOp,aN,resolve,invoke,builtin,hs,hx,dQ,Result.andThen]
 exact hK v' w' r1 r2 r3
def eP (k:Key):List Value:=[.int .i32 k.op,.string k.name,.int .i64 k.lo,.int .i64 k.hi,.int .i64 k.l,.int .i64 k.r]
def gh (K:List Key):List Value:=(K.map eP).flatten
theorem flatK_snoc (K:List Key) (k:Key):gh (K++[k])=gh K++eP k:=by simp [gh]
theorem keyOne (k:Key):∀ u∈eP k,u.oneCell'=true:=by
 intro u hu
 simp [eP] at hu
 rcases hu with rfl | rfl | rfl | rfl | rfl | rfl<;>rfl
theorem infoNode:(Tryz.prog.info? 226).map (fun i=>(i.zero,i.size,i.bytes))=some (some (.agg #[.int .i32 0,.string ⟨#[]⟩,.int .i64 0,.int .i64 0,.int .i64 0,.int .i64 0]),6,56):=by kernel_rfl
def c_ (B tb mb:Nat) (nv:Value) (w:World) (K:List Key):Prop :=
 w.heap[tb]? = some (.cells #[.map (some mb),nv] 97 (0,0))/\iC mb w K/\w.ownsRow B 226 6 nv K.length (gh K)/\B<=tb/\B<=mb
def Free (tb mb:Nat) (nv:Value) (k:Nat):Prop:=k≠tb/\k≠mb/\nv.ownBlock≠some k
theorem dG {w:World} {base size n g:Nat} {e:TypeId} {v:Value} {xs:List Value} (h:w.ownsRow base e size v n xs) (hv:v.ownBlock=some g):∃ cur,w.heap[g]? = some (.cells cur e (0,0)):=by
 obtain ⟨_,⟨rfl,_⟩ | ⟨g',cap,cur,rfl,_,hh,_⟩⟩:=h
 ·cases hv
 ·cases hv;exact ⟨cur,hh⟩
theorem iC.isMap {mb:Nat} {w:World} {K:List Key} (h:iC mb w K):∃ es clock,w.heap[mb]? = some (.map es clock):=by
 obtain ⟨n,D,⟨es,clock,h2,_⟩,_⟩:=h
 exact ⟨es,clock,h2⟩
theorem c_.free {B tb mb sb:Nat} {nv:Value} {w:World} {K:List Key} {cs:Array Value} {e:TypeId} {m:Nat×Nat} (h:c_ B tb mb nv w K) (hs:w.heap[sb]? = some (.cells cs e m)) (h1:e≠97) (h2:e≠226):Free tb mb nv sb:=by
 obtain ⟨ht,hm,ho,_,_⟩:=h
 obtain ⟨es,clock,hm⟩:=hm.isMap
 refine ⟨?_,?_,?_⟩
 ·rintro rfl
  rw [hs] at ht
  injection ht with ht
  injection ht with _ ht _
  exact h1 ht
 ·rintro rfl
  rw [hs] at hm
  cases hm
 ·intro hv
  obtain ⟨cur,hc⟩:=dG ho hv
  rw [hs] at hc
  injection hc with hc
  injection hc with _ hc _
  exact h2 hc
theorem c_.tne {B tb mb:Nat} {nv:Value} {w:World} {K:List Key} (h:c_ B tb mb nv w K):tb≠mb/\nv.ownBlock≠some tb/\nv.ownBlock≠some mb:=by
 obtain ⟨ht,hm,ho,_,_⟩:=h
 obtain ⟨es,clock,hm⟩:=hm.isMap
 refine ⟨?_,?_,?_⟩
 ·rintro rfl
  rw [ht] at hm
  cases hm
 ·intro hv
  obtain ⟨cur,hc⟩:=dG ho hv
  rw [ht] at hc
  injection hc with hc
  injection hc with _ hc _
  exact absurd hc (by decide)
 ·intro hv
  obtain ⟨cur,hc⟩:=dG ho hv
  rw [hm] at hc
  cases hc
theorem c_.tlt {B tb mb:Nat} {nv:Value} {w:World} {K:List Key} (h:c_ B tb mb nv w K):tb<w.heap.size:=aw h.1
theorem c_.mlt {B tb mb:Nat} {nv:Value} {w:World} {K:List Key} (h:c_ B tb mb nv w K):mb<w.heap.size:=h.2.1.lt
theorem c_.base {B tb mb:Nat} {nv:Value} {w:World} {K:List Key} (h:c_ B tb mb nv w K):B<=w.heap.size:=by have:=h.tlt;have:=h.2.2.2.1;omega
theorem c_.fresh {B tb mb X:Nat} {nv:Value} {w:World} {K:List Key} (h:c_ B tb mb nv w K) (hX:w.heap.size<=X):Free tb mb nv X:=by
 have h1:=h.tlt
 have h2:=h.mlt
 refine ⟨by omega,by omega,fun hv=>?_⟩
 have:=(h.2.2.1.lt X hv).2
 omega
theorem dw {w w':World} {base size n:Nat} {e:TypeId} {v:Value} {xs:List Value} (h:w.ownsRow base e size v n xs) (hh:∀ k,v.ownBlock=some k->w'.heap[k]? = w.heap[k]?):w'.ownsRow base e size v n xs:=by
 obtain ⟨h1,⟨rfl,h2⟩ | ⟨g,cap,cur,rfl,h3,h4,h5⟩⟩:=h
 ·exact ⟨h1,.inl ⟨rfl,h2⟩⟩
 ·exact ⟨h1,.inr ⟨g,cap,cur,rfl,h3,by rw [hh g rfl];exact h4,h5⟩⟩
theorem c_.heap {B tb mb:Nat} {nv:Value} {w w':World} {K:List Key} (h:c_ B tb mb nv w K) (hh:∀ k,k<w.heap.size->¬ Free tb mb nv k->w'.heap[k]? = w.heap[k]?):c_ B tb mb nv w' K:=by
 have h1:=h.tlt
 have h2:=h.mlt
 obtain ⟨ht,hm,ho,hb⟩:=h
 refine ⟨by rw [hh tb h1 (fun f=>f.1 rfl)];exact ht,hm.heap (hh mb h2 (fun f=>f.2.1 rfl)),dw ho (fun k hk=>hh k (ho.lt k hk).2 (fun f=>f.2.2 hk)),hb⟩
theorem c_.below {B tb mb:Nat} {nv:Value} {w w':World} {K:List Key} (h:c_ B tb mb nv w K) (hb:Below w.heap.size w w'):c_ B tb mb nv w' K:=h.heap fun k hk _=>hb.block k hk
structure bu (B tb mb:Nat) (nv tV:Value) (w w':World):Prop where
 below:Below B w w'
 block:∀ k,k<w.heap.size->Free tb mb nv k->w'.heap[k]? = w.heap[k]?/\Free tb mb tV k
theorem bu.refl (B tb mb:Nat) (nv:Value) (w:World):bu B tb mb nv nv w w:=⟨Below.refl _ _,fun _ _ h=>⟨rfl,h⟩⟩
theorem bu.size {B tb mb:Nat} {nv tV:Value} {a b:World} (h:bu B tb mb nv tV a b):a.heap.size<=b.heap.size:=h.below.size
theorem bu.trans {B tb mb:Nat} {nv nv1 nv2:Value} {a b c:World} (h:bu B tb mb nv nv1 a b) (g:bu B tb mb nv1 nv2 b c):bu B tb mb nv nv2 a c :=
 ⟨h.below.trans g.below,fun k hk hf=>by
  obtain ⟨e1,f1⟩:=h.block k hk hf
  obtain ⟨e2,f2⟩:=g.block k (Nat.lt_of_lt_of_le hk h.size) f1
  exact ⟨e2.trans e1,f2⟩⟩
theorem bu.drew {B tb mb:Nat} {nv tV:Value} {a b:World} (h:bu B tb mb nv tV a b):bu B tb mb nv tV a b.drew:=⟨h.below.drew,h.block⟩
theorem bu.alloc {B tb mb:Nat} {nv tV:Value} {a b:World} (h:bu B tb mb nv tV a b) (hB:B<=a.heap.size) (o:Obj):bu B tb mb nv tV a (b.alloc o) :=
 ⟨h.below.alloc (Nat.le_trans hB h.size) o,fun k hk hf=>by
  obtain ⟨e1,f1⟩:=h.block k hk hf
  exact ⟨(Below.heap_alloc _ _ _ (Nat.lt_of_lt_of_le hk h.size)).trans e1,f1⟩⟩
theorem bu.eY {B tb mb:Nat} {nv tV:Value} {a b:World} (h:bu B tb mb nv tV a b) (hB:B<=a.heap.size) {p:Addr} (hp:a.heap.size<=p.block) (u:Value):bu B tb mb nv tV a (b.setCell p u) :=
 ⟨h.below.setCell (Nat.le_trans hB hp) u,fun k hk hf=>by
  obtain ⟨e1,f1⟩:=h.block k hk hf
  exact ⟨(Below.heap_setCell _ _ _ _ (by omega)).trans e1,f1⟩⟩
theorem aC.keep {Bt B tb mb:Nat} {nv tV:Value} {w w':World} {K:List Key} (ht:c_ B tb mb nv w K) (hk:bu B tb mb nv tV w w'):∀ {x:BT aO} {v:Value},aC 143 Bt w x v->aC 143 Bt w' x v
 | .nil,_,h=>h
 | .node _ _ _ l r,_,⟨sb,vl,vr,e,hB,hc,hl,hr⟩=>⟨sb,vl,vr,e,hB,by rw [(hk.block sb (aw hc) (ht.free hc (by decide) (by decide))).1];exact hc,aC.keep ht hk (x:=l) hl,aC.keep ht hk (x:=r) hr⟩
theorem Only.setIn {s o:Nat} {a w:World} (h:Only s a w) (u:Value):Only s a (w.setCell ⟨s,o,none⟩ u):=h.setCell (p:=⟨s,o,none⟩) (.inl rfl) u
theorem tail_gen {Q:Exit->Act->World->Prop} {e:Exit} {a:Act} {W:World} {F:World->Prop} (hF:F W) (h:∀ W',F W'->Q e a W'):Q e a W:=h W hF
def Bare (X:Nat) (w:World):Prop:=w.heap[X]? = some (.cells #[.int .i32 0,.string ⟨#[]⟩,.int .i64 0,.int .i64 0,.int .i64 0,.int .i64 0] 226 (0,0))
theorem Bare.facts {X:Nat} {w:World} (h:Bare X w):(w.cell? ⟨X,0,none⟩=some (.int .i32 0)/\w.cell? ⟨X,1,none⟩=some (.string ⟨#[]⟩)/\w.cell? ⟨X,2,none⟩=some (.int .i64 0)/\w.cell? ⟨X,3,none⟩=some (.int .i64 0)/\w.cell? ⟨X,4,none⟩=some (.int .i64 0)/\w.cell? ⟨X,5,none⟩=some (.int .i64 0))
  /\(w.frozen? ⟨X,0,none⟩=false/\w.frozen? ⟨X,1,none⟩=false/\w.frozen? ⟨X,2,none⟩=false/\w.frozen? ⟨X,3,none⟩=false/\w.frozen? ⟨X,4,none⟩=false/\w.frozen? ⟨X,5,none⟩=false) :=
 ⟨⟨ae h rfl,ae h rfl,ae h rfl,ae h rfl,ae h rfl,ae h rfl⟩,⟨Lib.frozen_of_heap h 0,Lib.frozen_of_heap h 1,Lib.frozen_of_heap h 2,Lib.frozen_of_heap h 3,Lib.frozen_of_heap h 4,Lib.frozen_of_heap h 5⟩⟩
theorem bu.bare {X B tb mb:Nat} {nv tV:Value} {w w':World} (hk:bu B tb mb nv tV w w') (h:Bare X w) (hf:Free tb mb nv X):Bare X w'/\Free tb mb tV X:=by
 obtain ⟨e,f⟩:=hk.block X (aw h) hf
 exact ⟨by unfold Bare;rw [e];exact h,f⟩
def PutOK (x:BT aO):Prop:=∀ (v:Value) (Bt B tb mb:Nat) (nv:Value) (K:List Key) (w:World),aC 143 Bt w x v->(x=.nil\/Good x)->c_ B tb mb nv w K->K.length+aV x<=1000000000000->
 Calls Tryz.prog 83 #[.pointer (some ⟨tb,0,none⟩),v] w fun e w'=>e=.returned (.int .i64 (aX K x).1)/\∃ tV,c_ B tb mb tV w' (aX K x).2/\bu B tb mb nv tV w w'
set_option maxHeartbeats 400000 in
theorem put_nil (p:Value) (w:World):Calls Tryz.prog 83 #[p,.pointer none] w fun e w'=>e=.returned (.int .i64 0)/\w'=w:=by
 go_enter Tryz.func83,Tryz.ntmps83
 go_wp2_with fail
 go_ret
 exact ⟨rfl,rfl⟩
theorem c_.grown {B tb mb X:Nat} {nv v':Value} {W W1 w':World} {K:List Key} {k:Key} {o:Obj} (h:c_ B tb mb nv W K) (hX:X<W.heap.size) (fX:Free tb mb nv X) (e1:W1.heap=W.heap)
  (cE:w'.ownsRow B 226 6 v' (K.length+1) (gh K++eP k)) (hg:(W1.alloc o).grownBy w' nv.ownBlock) :
  (∃ g cap,v'=.slice (some ⟨g,0,none⟩) (K.length+1) cap/\g≠tb/\g≠mb)/\w'.heap[tb]? = some (.cells #[.map (some mb),nv] 97 (0,0))/\w'.heap[mb]? = W.heap[mb]?/\w'.heap[X]? = W.heap[X]?:=by
 obtain ⟨n1,n2,n3⟩:=h.tne
 have t1:=h.tlt
 have t2:=h.mlt
 have hb:∀ k,k<W.heap.size->nv.ownBlock≠some k->w'.heap[k]? = W.heap[k]?:=by
  intro k hk hn
  have hk1:k<W1.heap.size:=by rw [e1];exact hk
  rw [hg.block k (by simp;omega) (fun e=>hn e.symm),Below.heap_alloc _ _ _ hk1,e1]
 have htb:w'.heap[tb]? = some (.cells #[.map (some mb),nv] 97 (0,0)):=by rw [hb tb t1 n2];exact h.1
 have hmb:w'.heap[mb]? = W.heap[mb]?:=hb mb t2 n3
 refine ⟨?_,htb,hmb,hb X hX fX.2.2⟩
 obtain ⟨_,⟨_,hz⟩ | ⟨g,cap,cur,hv,_,hc,_⟩⟩:=cE
 ·omega
 ·refine ⟨g,cap,hv,?_,?_⟩
  ·rintro rfl
   rw [htb] at hc
   injection hc with hc
   injection hc with _ hc _
   exact absurd hc (by decide)
  ·rintro rfl
   obtain ⟨es,clock,hm⟩:=h.2.1.isMap
   rw [hmb,hm] at hc
   cases hc
theorem key_new (w:World) (k:Key) (e:TypeId):∀ j u,(eP k)[j]? = some u->(w.alloc (.cells #[.int .i32 k.op,.string k.name,.int .i64 k.lo,.int .i64 k.hi,.int .i64 k.l,.int .i64 k.r] e)).cell? ((⟨w.heap.size,0,none⟩:Addr).add j)=some u:=by
 intro j u hj
 have hh:=aB w (.cells #[.int .i32 k.op,.string k.name,.int .i64 k.lo,.int .i64 k.hi,.int .i64 k.l,.int .i64 k.r] e (0,0)) _ rfl
 have:(⟨w.heap.size,0,none⟩:Addr).add j=⟨w.heap.size,j,none⟩:=by simp [Addr.add];omega
 rw [this]
 exact ae hh (by simpa [eP] using hj)
theorem heap_set2 {w:World} {k:Nat} {u v x:Value} {e:TypeId} {m:Nat×Nat} (h:w.heap[k]? = some (.cells #[x,u] e m)):(w.setCell ⟨k,1,none⟩ v).heap[k]? = some (.cells #[x,v] e m):=by
 simp [World.setCell,Array.getElem?_modify,h]
theorem c_.pushed {B tb mb g cap:Nat} {nv:Value} {W W1 w' W3:World} {K:List Key} {k:Key} {o:Obj} (h:c_ B tb mb nv W K) (e1:W1.heap=W.heap) (b1:Below B W W1)
  (cE:w'.ownsRow B 226 6 (.slice (some ⟨g,0,none⟩) (K.length+1) cap) (K.length+1) (gh K++eP k)) (hg:(W1.alloc o).grownBy w' nv.ownBlock)
  (hor:(Value.slice (some ⟨g,0,none⟩) (K.length+1) cap).ownBlock=nv.ownBlock\/(Value.slice (some ⟨g,0,none⟩) (K.length+1) cap).ownBlock=some (W1.alloc o).heap.size) (gt:g≠tb) (gm:g≠mb)
  (htb:w'.heap[tb]? = some (.cells #[.map (some mb),nv] 97 (0,0))) (hM3:iC mb W3 (K++[k])) (n_:Only mb (w'.setCell ⟨tb,1,none⟩ (.slice (some ⟨g,0,none⟩) (K.length+1) cap)).drew W3) :
  c_ B tb mb (.slice (some ⟨g,0,none⟩) (K.length+1) cap) W3 (K++[k])/\bu B tb mb nv (.slice (some ⟨g,0,none⟩) (K.length+1) cap) W W3:=by
 obtain ⟨n1,n2,n3⟩:=h.tne
 have t1:=h.tlt
 have t2:=h.mlt
 have iU:W1.heap.size=W.heap.size:=by rw [e1]
 have hs:=hg.size
 simp at hs
 have hgl:g<w'.heap.size:=(cE.lt g rfl).2
 have hss:(w'.setCell ⟨tb,1,none⟩ (.slice (some ⟨g,0,none⟩) (K.length+1) cap)).drew.heap.size=w'.heap.size:=by simp [World.setCell]
 have hb:∀ q,q<W.heap.size->nv.ownBlock≠some q->w'.heap[q]? = W.heap[q]?:=by
  intro q hq hn
  have hk1:q<W1.heap.size:=by rw [e1];exact hq
  rw [hg.block q (by simp;omega) (fun e=>hn e.symm),Below.heap_alloc _ _ _ hk1,e1]
 have h3:∀ q,q<w'.heap.size->q≠tb->q≠mb->W3.heap[q]? = w'.heap[q]?:=by
  intro q hq hqt hqm
  rw [n_.block q (by rw [hss];exact hq) hqm]
  exact Below.heap_setCell _ _ _ _ hqt
 refine ⟨⟨?_,hM3,?_,h.2.2.2⟩,⟨?_,?_⟩⟩
 ·rw [n_.block tb (by rw [hss];omega) n1]
  exact heap_set2 htb
 ·rw [flatK_snoc]
  have:=dw (w':=W3) cE (fun q hq=>by cases hq;exact h3 g hgl gt gm)
  simpa using this
 ·have b2:Below B W w':=(b1.alloc (by have:=h.base;omega) o).grown hg (by have:=h.base;simp;omega) (fun q hq=>(h.2.2.1.lt q hq).1)
  have b3:Below B W (w'.setCell ⟨tb,1,none⟩ (.slice (some ⟨g,0,none⟩) (K.length+1) cap)).drew:=(b2.setCell (p:=⟨tb,1,none⟩) h.2.2.2.1 _).drew
  exact b3.trans (n_.below h.2.2.2.2 (by rw [hss];have:=h.base;omega))
 ·rintro q hq ⟨f1,f2,f3⟩
  refine ⟨(h3 q (by omega) f1 f2).trans (hb q hq f3),f1,f2,?_⟩
  rcases hor with e | e
  ·rw [e];exact f3
  ·rw [e];intro e2;injection e2 with e2;simp at e2;omega
set_option maxHeartbeats 4000000 in
theorem vE (b0 o0:Nat) (a:aO) (l r:BT aO) (il:PutOK l) (ir:PutOK r) (gl:l=.nil\/Good l) (gr:r=.nil\/Good r) (v:Value) (Bt B tb mb:Nat) (nv:Value) (K:List Key) (w:World) (hs:aC 143 Bt w (.node b0 o0 a l r) v)
  (hk:∀ p q:Int,0<=p->p<=1000000000000000000->0<=q->q<=1000000000000000000->Key.OK ⟨a.op,a.name,a.lo,a.hi,p,q⟩) (ht:c_ B tb mb nv w K) (hlen:K.length+(aV l+aV r+1)<=1000000000000) :
  Calls Tryz.prog 83 #[.pointer (some ⟨tb,0,none⟩),v] w fun e w'=>e=.returned (.int .i64 (aX K (.node b0 o0 a l r)).1)/\∃ tV,c_ B tb mb tV w' (aX K (.node b0 o0 a l r)).2/\bu B tb mb nv tV w w':=by
 obtain ⟨sb,vl,vr,rfl,hB,hh,hl,hr⟩:=hs
 have hsf:=ht.free hh (by decide) (by decide)
 have hsl:=aw hh
 have uX:=ht.base
 have df:∀ tV w',bu B tb mb nv tV w w'->w'.cell? ⟨sb,0,none⟩=some (.int .i32 a.op)/\w'.cell? ⟨sb,1,none⟩=some (.string a.name)/\w'.cell? ⟨sb,2,none⟩=some (.int .i64 a.lo)/\w'.cell? ⟨sb,3,none⟩=some (.int .i64 a.hi)/\w'.cell? ⟨sb,4,none⟩=some vl/\w'.cell? ⟨sb,5,none⟩=some vr/\w.heap.size<=w'.heap.size:=fun tV w' h=>by
  have hc:w'.heap[sb]? = _:=(h.block sb hsl hsf).1.trans hh
  exact ⟨ae hc rfl,ae hc rfl,ae hc rfl,ae hc rfl,ae hc rfl,ae hc rfl,h.size⟩
 have kj:Hid (∀ tV w',bu B tb mb nv tV w w'->w'.cell? ⟨sb,0,none⟩=some (.int .i32 a.op)/\w'.cell? ⟨sb,1,none⟩=some (.string a.name)/\w'.cell? ⟨sb,2,none⟩=some (.int .i64 a.lo)/\w'.cell? ⟨sb,3,none⟩=some (.int .i64 a.hi)/\w'.cell? ⟨sb,4,none⟩=some vl/\w'.cell? ⟨sb,5,none⟩=some vr/\w.heap.size<=w'.heap.size):=df
 have hL:=fun (W:World) (hW:aC 143 Bt W l vl) (hT:c_ B tb mb nv W K)=>il vl Bt B tb mb nv K W hW gl hT (by omega)
 have HL:Hid (∀ W:World,aC 143 Bt W l vl->c_ B tb mb nv W K->_):=hL
 have bl:=kt l K
 have hR:=fun (nv1:Value) (W:World) (hW:aC 143 Bt W r vr) (hT:c_ B tb mb nv1 W (aX K l).2)=>ir vr Bt B tb mb nv1 (aX K l).2 W hW gr hT (by omega)
 have HR:Hid (∀ (nv1:Value) (W:World),aC 143 Bt W r vr->c_ B tb mb nv1 W (aX K l).2->_):=hR
 have br:=kt r (aX K l).2
 have hPut:Hid (aX K (.node b0 o0 a l r)=mo (aX (aX K l).2 r).2 ⟨a.op,a.name,a.lo,a.hi,(aX K l).1,(aX (aX K l).2 r).1⟩):=rfl
 generalize aX K (.node b0 o0 a l r)=out at *
 have hSr:Hid (∀ tV W',bu B tb mb nv tV w W'->aC 143 Bt W' r vr):=fun tV W' h=>aC.keep ht h hr
 have hkk:=hk (aX K l).1 (aX (aX K l).2 r).1 (by omega) (by omega) (by omega) (by omega)
 have hfr:Free tb mb nv w.heap.size:=ht.fresh (Nat.le_refl _)
 obtain ⟨i0,hi,lr,iU,lu⟩:=info_parts infoNode
 clear df hL hR hk il ir hh hsf
 generalize (aX K l).1=nl at *
 generalize (aX K l).2=K1 at *
 generalize (aX K1 r).1=nr at *
 generalize (aX K1 r).2=K2 at *
 go_enter Tryz.func83,Tryz.ntmps83
 go_wp2_with fail
 go_region_held3 (fun w'=>w'.cell? ⟨sb,0,none⟩=some (.int .i32 a.op)/\w'.cell? ⟨sb,1,none⟩=some (.string a.name)/\w'.cell? ⟨sb,2,none⟩=some (.int .i64 a.lo)/\w'.cell? ⟨sb,3,none⟩=some (.int .i64 a.hi)/\w'.cell? ⟨sb,4,none⟩=some vl/\w'.cell? ⟨sb,5,none⟩=some vr/\w.heap.size<=w'.heap.size)
  ((first | (refine kj.out nv _ ?_;(repeat (with_reducible (first | refine bu.eY ?_ uX (Nat.le_refl _) _ | refine bu.eY ?_ uX z1 _ | refine bu.eY ?_ uX z2 _ | refine bu.alloc ?_ uX _ | refine bu.drew ?_ | refine bu.trans ?_ jE | refine bu.trans ?_ kK | exact bu.refl _ _ _ _ _)));done) | (refine kj.out nv1 _ ?_;(repeat (with_reducible (first | refine bu.eY ?_ uX (Nat.le_refl _) _ | refine bu.eY ?_ uX z1 _ | refine bu.eY ?_ uX z2 _ | refine bu.alloc ?_ uX _ | refine bu.drew ?_ | refine bu.trans ?_ jE | refine bu.trans ?_ kK | exact bu.refl _ _ _ _ _)));done) | (refine kj.out nv2 _ ?_;(repeat (with_reducible (first | refine bu.eY ?_ uX (Nat.le_refl _) _ | refine bu.eY ?_ uX z1 _ | refine bu.eY ?_ uX z2 _ | refine bu.alloc ?_ uX _ | refine bu.drew ?_ | refine bu.trans ?_ jE | refine bu.trans ?_ kK | exact bu.refl _ _ _ _ _)));done)))
  (first
   | (go_at_call_of 83 (vl);refine (HL.out _ ?_ ?_).mono ?_;(first | exact hl.below (Below.refl _ _).drew | exact hl.below ((Below.refl _ _).drew.al _));(first | exact ht.below (Below.refl _ _).drew | exact ht.below ((Below.refl _ _).drew.al _));rintro e w1 ⟨rfl,nv1,ht1,kK⟩;have z1:w.heap.size<=w1.heap.size:=Nat.le_trans (by simp) kK.size;(first | (have k1:=bu.bare kK (X:=w.heap.size) (aB _ _ _ rfl) hfr;obtain ⟨⟨c0,c1,c2,c3,c4,c5⟩,⟨f0,f1,f2,f3,f4,f5⟩⟩:=k1.1.facts) | skip))
   | (go_at_call_of 83 (vr);refine (HR.out nv1 _ ?_ ?_).mono ?_;(refine hSr.out nv1 _ ?_;(repeat (with_reducible (first | refine bu.eY ?_ uX (Nat.le_refl _) _ | refine bu.eY ?_ uX z1 _ | refine bu.eY ?_ uX z2 _ | refine bu.alloc ?_ uX _ | refine bu.drew ?_ | refine bu.trans ?_ jE | refine bu.trans ?_ kK | exact bu.refl _ _ _ _ _))));(first | exact ht1 | exact ht1.below ((Below.refl _ _).al _));rintro e w2 ⟨rfl,nv2,ht2,jE⟩;have z2:w.heap.size<=w2.heap.size:=Nat.le_trans z1 (Nat.le_trans (by simp) jE.size);(first | (have k2:=bu.bare jE k1.1 k1.2;obtain ⟨⟨d0,d1,d2,d3,d4,d5⟩,⟨g0,g1,g2,g3,g4,g5⟩⟩:=k2.1.facts) | (have k3:=bu.bare jE (X:=w1.heap.size) (aB _ _ _ rfl) (ht1.fresh (Nat.le_refl _));obtain ⟨⟨d0,d1,d2,d3,d4,d5⟩,⟨g0,g1,g2,g3,g4,g5⟩⟩:=k3.1.facts) | skip)))
 ·refine tail_gen (F:=(fun W=>c_ B tb mb nv2 W K2/\(W.cell? ⟨w2.heap.size,0,none⟩=some (.int .i32 a.op)/\W.cell? ⟨w2.heap.size,1,none⟩=some (.string a.name)/\W.cell? ⟨w2.heap.size,2,none⟩=some (.int .i64 a.lo)/\W.cell? ⟨w2.heap.size,3,none⟩=some (.int .i64 a.hi)/\W.cell? ⟨w2.heap.size,4,none⟩=some (.int .i64 nl)/\W.cell? ⟨w2.heap.size,5,none⟩=some (.int .i64 nr))/\w2.heap.size<W.heap.size/\bu B tb mb nv nv2 w W)) ⟨ht2.heap (fun k hk hf=>Only.block (s:=w2.heap.size) (by repeat (with_reducible (first | refine Only.setIn ?_ _ | refine Only.alloc ?_ _ | exact Only.refl _ _))) k hk (by omega)),⟨by go_simp,by go_simp,by go_simp,by go_simp,by go_simp,by go_simp⟩,by simp,by (repeat (with_reducible (first | refine bu.eY ?_ uX (Nat.le_refl _) _ | refine bu.eY ?_ uX z1 _ | refine bu.eY ?_ uX z2 _ | refine bu.alloc ?_ uX _ | refine bu.drew ?_ | refine bu.trans ?_ jE | refine bu.trans ?_ kK | exact bu.refl _ _ _ _ _)))⟩ ?_
  have hfX:Free tb mb nv2 (w2.heap.size):=ht2.fresh (Nat.le_refl _)
  rintro W ⟨hT,⟨q0,q1,q2,q3,q4,q5⟩,hX,hoW⟩
  clear kj HL HR hSr hl hr ht1 ht2 kK jE hfr
  generalize w2.heap.size=X at *
  have hM:=hT.2.1
  have hmc:W.cell? ⟨tb,0,none⟩=some (.map (some mb)):=ae hT.1 rfl
  have hnc:W.cell? ⟨tb,1,none⟩=some nv2:=ae hT.1 rfl
  have hbig:(K2.length:Int)+1<=9223372036854775807:=by omega
  have uZ:∀ W':World,W'.heap[mb]? = W.heap[mb]?->(Instr.lookup 94 (.map (some mb)) (.agg #[.int .i32 a.op,.string a.name,.int .i64 a.lo,.int .i64 a.hi,.int .i64 nl,.int .i64 nr]) true).run Tryz.prog W'=.ok (.tuple #[.int .i64 (numI K2 ⟨a.op,a.name,a.lo,a.hi,nl,nr⟩),.bool (kL K2 ⟨a.op,a.name,a.lo,a.hi,nl,nr⟩).isSome]) W':=fun W' h=>(hM.heap h).look ⟨a.op,a.name,a.lo,a.hi,nl,nr⟩ hkk
  have hP:=hPut.out
  unfold mo at hP
  unfold numI at uZ
  cases hn:kL K2 ⟨a.op,a.name,a.lo,a.hi,nl,nr⟩ with
  | some i =>
   rw [hn] at hP uZ
   have hi':=numK_lt hn
   simp only [Option.isSome_some] at hP uZ
   have hlk1:=uZ W.drew rfl
   clear uZ
   subst hP
   go_wp2_with fail
   go_region
   go_wp2_with fail
   go_ret
   exact ⟨rfl,nv2,hT.heap (fun _ _ _=>rfl),hoW.drew⟩
  | none =>
   rw [hn] at hP uZ
   simp only [Option.isSome_none] at hP uZ
   have hlk1:=uZ W.drew rfl
   clear uZ
   subst hP
   have hown0:=hT.2.2.1
   have hBW:=hT.base
   have hln:K2.length<=1000000000000:=by omega
   have htl:tb<W.heap.size:=hT.tlt
   have htl2:tb≠W.heap.size:=by omega
   have hXt:X≠tb:=hfX.1
   have hXt2:tb≠X:=fun e=>hXt e.symm
   go_wp2_with fail
   go_region
   go_wp2_with fail
   go_region_law (refine kN rfl (.tmp 50) (.tmp 52) 95 rfl B 226 i0 _ 6 56 Tryz.underlying95 hi lr iU lu rfl (by decide) nv2 K2.length (gh K2) (by simp [Act.eval]) (hown0.drew.drew.alloc _) ⟨W.heap.size,0,none⟩ 1 1 (eP ⟨a.op,a.name,a.lo,a.hi,nl,nr⟩) (by simp [Act.eval]) rfl (key_new W.drew.drew ⟨a.op,a.name,a.lo,a.hi,nl,nr⟩ _) (keyOne _) (by unfold maxLen;omega) (by omega) (by simp;omega) ?_;intro v' w' dm bz hor;obtain ⟨⟨g,mq,rfl,hg1,hg2⟩,u_,hmb',hX'⟩:=hT.grown (W1:=W.drew.drew) hX hfX rfl dm bz;have d0:=ae (i:=0) u_ rfl;have d1:=ae (i:=1) u_ rfl;have fz1:w'.frozen? ⟨tb,1,none⟩=false:=Lib.frozen_of_heap u_ 1;have r0:=(World.cell?_of_block (a:=⟨X,0,none⟩) hX').trans q0;have r1:=(World.cell?_of_block (a:=⟨X,1,none⟩) hX').trans q1;have r2:=(World.cell?_of_block (a:=⟨X,2,none⟩) hX').trans q2;have r3:=(World.cell?_of_block (a:=⟨X,3,none⟩) hX').trans q3;have r4:=(World.cell?_of_block (a:=⟨X,4,none⟩) hX').trans q4;have r5:=(World.cell?_of_block (a:=⟨X,5,none⟩) hX').trans q5)
   all_goals go_wp2_with fail
   all_goals
    obtain ⟨W3,df,hM3,n_⟩:=iC.store (hM.heap (w':=(w'.setCell ⟨tb,1,none⟩ (.slice (some ⟨g,0,none⟩) (K2.length+1) mq)).drew) ((Below.heap_setCell _ _ _ _ (fun e=>hT.tne.1 e.symm)).trans hmb')) ⟨a.op,a.name,a.lo,a.hi,nl,nr⟩ hkk hn (by omega)
    have hst2:(Instr.mapUpdate 94 (.map (some mb)) (.agg #[.int .i32 a.op,.string a.name,.int .i64 a.lo,.int .i64 a.hi,.int .i64 nl,.int .i64 nr]) (.int .i64 ((K2.length:Int)+1))).run Tryz.prog (w'.setCell ⟨tb,1,none⟩ (.slice (some ⟨g,0,none⟩) (K2.length+1) mq)).drew=.ok () W3:=df
    obtain ⟨hT3,hK3⟩:=hT.pushed (W1:=W.drew.drew) rfl (Below.refl _ _).drew.drew dm bz hor hg1 hg2 u_ hM3 n_
    clear df n_ hM3
    go_region
    go_wp2_with fail
    go_ret
    exact ⟨rfl,_,hT3,hoW.trans hK3⟩
 ·refine tail_gen (F:=(fun W=>c_ B tb mb nv2 W K2/\(W.cell? ⟨w1.heap.size,0,none⟩=some (.int .i32 a.op)/\W.cell? ⟨w1.heap.size,1,none⟩=some (.string a.name)/\W.cell? ⟨w1.heap.size,2,none⟩=some (.int .i64 a.lo)/\W.cell? ⟨w1.heap.size,3,none⟩=some (.int .i64 a.hi)/\W.cell? ⟨w1.heap.size,4,none⟩=some (.int .i64 nl)/\W.cell? ⟨w1.heap.size,5,none⟩=some (.int .i64 nr))/\w1.heap.size<W.heap.size/\bu B tb mb nv nv2 w W)) ⟨ht2.heap (fun k hk hf=>Only.block (s:=w1.heap.size) (by repeat (with_reducible (first | refine Only.setIn ?_ _ | refine Only.alloc ?_ _ | exact Only.refl _ _))) k hk (fun e=>hf (e▸k3.2))),⟨by go_simp,by go_simp,by go_simp,by go_simp,by go_simp,by go_simp⟩,Nat.lt_of_lt_of_le (aw k3.1) (Only.size (s:=w1.heap.size) (by repeat (with_reducible (first | refine Only.setIn ?_ _ | refine Only.alloc ?_ _ | exact Only.refl _ _)))),by (repeat (with_reducible (first | refine bu.eY ?_ uX (Nat.le_refl _) _ | refine bu.eY ?_ uX z1 _ | refine bu.eY ?_ uX z2 _ | refine bu.alloc ?_ uX _ | refine bu.drew ?_ | refine bu.trans ?_ jE | refine bu.trans ?_ kK | exact bu.refl _ _ _ _ _)))⟩ ?_
  have hfX:Free tb mb nv2 (w1.heap.size):=k3.2
  rintro W ⟨hT,⟨q0,q1,q2,q3,q4,q5⟩,hX,hoW⟩
  clear kj HL HR hSr hl hr ht1 ht2 kK jE hfr
  generalize w1.heap.size=X at *
  have hM:=hT.2.1
  have hmc:W.cell? ⟨tb,0,none⟩=some (.map (some mb)):=ae hT.1 rfl
  have hnc:W.cell? ⟨tb,1,none⟩=some nv2:=ae hT.1 rfl
  have hbig:(K2.length:Int)+1<=9223372036854775807:=by omega
  have uZ:∀ W':World,W'.heap[mb]? = W.heap[mb]?->(Instr.lookup 94 (.map (some mb)) (.agg #[.int .i32 a.op,.string a.name,.int .i64 a.lo,.int .i64 a.hi,.int .i64 nl,.int .i64 nr]) true).run Tryz.prog W'=.ok (.tuple #[.int .i64 (numI K2 ⟨a.op,a.name,a.lo,a.hi,nl,nr⟩),.bool (kL K2 ⟨a.op,a.name,a.lo,a.hi,nl,nr⟩).isSome]) W':=fun W' h=>(hM.heap h).look ⟨a.op,a.name,a.lo,a.hi,nl,nr⟩ hkk
  have hP:=hPut.out
  unfold mo at hP
  unfold numI at uZ
  cases hn:kL K2 ⟨a.op,a.name,a.lo,a.hi,nl,nr⟩ with
  | some i =>
   rw [hn] at hP uZ
   have hi':=numK_lt hn
   simp only [Option.isSome_some] at hP uZ
   have hlk1:=uZ W.drew rfl
   clear uZ
   subst hP
   go_wp2_with fail
   go_region
   go_wp2_with fail
   go_ret
   exact ⟨rfl,nv2,hT.heap (fun _ _ _=>rfl),hoW.drew⟩
  | none =>
   rw [hn] at hP uZ
   simp only [Option.isSome_none] at hP uZ
   have hlk1:=uZ W.drew rfl
   clear uZ
   subst hP
   have hown0:=hT.2.2.1
   have hBW:=hT.base
   have hln:K2.length<=1000000000000:=by omega
   have htl:tb<W.heap.size:=hT.tlt
   have htl2:tb≠W.heap.size:=by omega
   have hXt:X≠tb:=hfX.1
   have hXt2:tb≠X:=fun e=>hXt e.symm
   go_wp2_with fail
   go_region
   go_wp2_with fail
   go_region_law (refine kN rfl (.tmp 50) (.tmp 52) 95 rfl B 226 i0 _ 6 56 Tryz.underlying95 hi lr iU lu rfl (by decide) nv2 K2.length (gh K2) (by simp [Act.eval]) (hown0.drew.drew.alloc _) ⟨W.heap.size,0,none⟩ 1 1 (eP ⟨a.op,a.name,a.lo,a.hi,nl,nr⟩) (by simp [Act.eval]) rfl (key_new W.drew.drew ⟨a.op,a.name,a.lo,a.hi,nl,nr⟩ _) (keyOne _) (by unfold maxLen;omega) (by omega) (by simp;omega) ?_;intro v' w' dm bz hor;obtain ⟨⟨g,mq,rfl,hg1,hg2⟩,u_,hmb',hX'⟩:=hT.grown (W1:=W.drew.drew) hX hfX rfl dm bz;have d0:=ae (i:=0) u_ rfl;have d1:=ae (i:=1) u_ rfl;have fz1:w'.frozen? ⟨tb,1,none⟩=false:=Lib.frozen_of_heap u_ 1;have r0:=(World.cell?_of_block (a:=⟨X,0,none⟩) hX').trans q0;have r1:=(World.cell?_of_block (a:=⟨X,1,none⟩) hX').trans q1;have r2:=(World.cell?_of_block (a:=⟨X,2,none⟩) hX').trans q2;have r3:=(World.cell?_of_block (a:=⟨X,3,none⟩) hX').trans q3;have r4:=(World.cell?_of_block (a:=⟨X,4,none⟩) hX').trans q4;have r5:=(World.cell?_of_block (a:=⟨X,5,none⟩) hX').trans q5)
   all_goals go_wp2_with fail
   all_goals
    obtain ⟨W3,df,hM3,n_⟩:=iC.store (hM.heap (w':=(w'.setCell ⟨tb,1,none⟩ (.slice (some ⟨g,0,none⟩) (K2.length+1) mq)).drew) ((Below.heap_setCell _ _ _ _ (fun e=>hT.tne.1 e.symm)).trans hmb')) ⟨a.op,a.name,a.lo,a.hi,nl,nr⟩ hkk hn (by omega)
    have hst2:(Instr.mapUpdate 94 (.map (some mb)) (.agg #[.int .i32 a.op,.string a.name,.int .i64 a.lo,.int .i64 a.hi,.int .i64 nl,.int .i64 nr]) (.int .i64 ((K2.length:Int)+1))).run Tryz.prog (w'.setCell ⟨tb,1,none⟩ (.slice (some ⟨g,0,none⟩) (K2.length+1) mq)).drew=.ok () W3:=df
    obtain ⟨hT3,hK3⟩:=hT.pushed (W1:=W.drew.drew) rfl (Below.refl _ _).drew.drew dm bz hor hg1 hg2 u_ hM3 n_
    clear df n_ hM3
    go_region
    go_wp2_with fail
    go_ret
    exact ⟨rfl,_,hT3,hoW.trans hK3⟩
 ·refine tail_gen (F:=(fun W=>c_ B tb mb nv2 W K2/\(W.cell? ⟨w.heap.size,0,none⟩=some (.int .i32 a.op)/\W.cell? ⟨w.heap.size,1,none⟩=some (.string a.name)/\W.cell? ⟨w.heap.size,2,none⟩=some (.int .i64 a.lo)/\W.cell? ⟨w.heap.size,3,none⟩=some (.int .i64 a.hi)/\W.cell? ⟨w.heap.size,4,none⟩=some (.int .i64 nl)/\W.cell? ⟨w.heap.size,5,none⟩=some (.int .i64 nr))/\w.heap.size<W.heap.size/\bu B tb mb nv nv2 w W)) ⟨ht2.heap (fun k hk hf=>Only.block (s:=w.heap.size) (by repeat (with_reducible (first | refine Only.setIn ?_ _ | refine Only.alloc ?_ _ | exact Only.refl _ _))) k hk (fun e=>hf (e▸k2.2))),⟨by go_simp,by go_simp,by go_simp,by go_simp,by go_simp,by go_simp⟩,Nat.lt_of_lt_of_le (aw k2.1) (Only.size (s:=w.heap.size) (by repeat (with_reducible (first | refine Only.setIn ?_ _ | refine Only.alloc ?_ _ | exact Only.refl _ _)))),by (repeat (with_reducible (first | refine bu.eY ?_ uX (Nat.le_refl _) _ | refine bu.eY ?_ uX z1 _ | refine bu.eY ?_ uX z2 _ | refine bu.alloc ?_ uX _ | refine bu.drew ?_ | refine bu.trans ?_ jE | refine bu.trans ?_ kK | exact bu.refl _ _ _ _ _)))⟩ ?_
  have hfX:Free tb mb nv2 (w.heap.size):=k2.2
  rintro W ⟨hT,⟨q0,q1,q2,q3,q4,q5⟩,hX,hoW⟩
  clear kj HL HR hSr hl hr ht1 ht2 kK jE hfr
  generalize w.heap.size=X at *
  have hM:=hT.2.1
  have hmc:W.cell? ⟨tb,0,none⟩=some (.map (some mb)):=ae hT.1 rfl
  have hnc:W.cell? ⟨tb,1,none⟩=some nv2:=ae hT.1 rfl
  have hbig:(K2.length:Int)+1<=9223372036854775807:=by omega
  have uZ:∀ W':World,W'.heap[mb]? = W.heap[mb]?->(Instr.lookup 94 (.map (some mb)) (.agg #[.int .i32 a.op,.string a.name,.int .i64 a.lo,.int .i64 a.hi,.int .i64 nl,.int .i64 nr]) true).run Tryz.prog W'=.ok (.tuple #[.int .i64 (numI K2 ⟨a.op,a.name,a.lo,a.hi,nl,nr⟩),.bool (kL K2 ⟨a.op,a.name,a.lo,a.hi,nl,nr⟩).isSome]) W':=fun W' h=>(hM.heap h).look ⟨a.op,a.name,a.lo,a.hi,nl,nr⟩ hkk
  have hP:=hPut.out
  unfold mo at hP
  unfold numI at uZ
  cases hn:kL K2 ⟨a.op,a.name,a.lo,a.hi,nl,nr⟩ with
  | some i =>
   rw [hn] at hP uZ
   have hi':=numK_lt hn
   simp only [Option.isSome_some] at hP uZ
   have hlk1:=uZ W.drew rfl
   clear uZ
   subst hP
   go_wp2_with fail
   go_region
   go_wp2_with fail
   go_ret
   exact ⟨rfl,nv2,hT.heap (fun _ _ _=>rfl),hoW.drew⟩
  | none =>
   rw [hn] at hP uZ
   simp only [Option.isSome_none] at hP uZ
   have hlk1:=uZ W.drew rfl
   clear uZ
   subst hP
   have hown0:=hT.2.2.1
   have hBW:=hT.base
   have hln:K2.length<=1000000000000:=by omega
   have htl:tb<W.heap.size:=hT.tlt
   have htl2:tb≠W.heap.size:=by omega
   have hXt:X≠tb:=hfX.1
   have hXt2:tb≠X:=fun e=>hXt e.symm
   go_wp2_with fail
   go_region
   go_wp2_with fail
   go_region_law (refine kN rfl (.tmp 50) (.tmp 52) 95 rfl B 226 i0 _ 6 56 Tryz.underlying95 hi lr iU lu rfl (by decide) nv2 K2.length (gh K2) (by simp [Act.eval]) (hown0.drew.drew.alloc _) ⟨W.heap.size,0,none⟩ 1 1 (eP ⟨a.op,a.name,a.lo,a.hi,nl,nr⟩) (by simp [Act.eval]) rfl (key_new W.drew.drew ⟨a.op,a.name,a.lo,a.hi,nl,nr⟩ _) (keyOne _) (by unfold maxLen;omega) (by omega) (by simp;omega) ?_;intro v' w' dm bz hor;obtain ⟨⟨g,mq,rfl,hg1,hg2⟩,u_,hmb',hX'⟩:=hT.grown (W1:=W.drew.drew) hX hfX rfl dm bz;have d0:=ae (i:=0) u_ rfl;have d1:=ae (i:=1) u_ rfl;have fz1:w'.frozen? ⟨tb,1,none⟩=false:=Lib.frozen_of_heap u_ 1;have r0:=(World.cell?_of_block (a:=⟨X,0,none⟩) hX').trans q0;have r1:=(World.cell?_of_block (a:=⟨X,1,none⟩) hX').trans q1;have r2:=(World.cell?_of_block (a:=⟨X,2,none⟩) hX').trans q2;have r3:=(World.cell?_of_block (a:=⟨X,3,none⟩) hX').trans q3;have r4:=(World.cell?_of_block (a:=⟨X,4,none⟩) hX').trans q4;have r5:=(World.cell?_of_block (a:=⟨X,5,none⟩) hX').trans q5)
   all_goals go_wp2_with fail
   all_goals
    obtain ⟨W3,df,hM3,n_⟩:=iC.store (hM.heap (w':=(w'.setCell ⟨tb,1,none⟩ (.slice (some ⟨g,0,none⟩) (K2.length+1) mq)).drew) ((Below.heap_setCell _ _ _ _ (fun e=>hT.tne.1 e.symm)).trans hmb')) ⟨a.op,a.name,a.lo,a.hi,nl,nr⟩ hkk hn (by omega)
    have hst2:(Instr.mapUpdate 94 (.map (some mb)) (.agg #[.int .i32 a.op,.string a.name,.int .i64 a.lo,.int .i64 a.hi,.int .i64 nl,.int .i64 nr]) (.int .i64 ((K2.length:Int)+1))).run Tryz.prog (w'.setCell ⟨tb,1,none⟩ (.slice (some ⟨g,0,none⟩) (K2.length+1) mq)).drew=.ok () W3:=df
    obtain ⟨hT3,hK3⟩:=hT.pushed (W1:=W.drew.drew) rfl (Below.refl _ _).drew.drew dm bz hor hg1 hg2 u_ hM3 n_
    clear df n_ hM3
    go_region
    go_wp2_with fail
    go_ret
    exact ⟨rfl,_,hT3,hoW.trans hK3⟩
end Go.Proofs.YtpbbmagjhkakgaaGreatDoor
