import Derived.Test.YtpbbmagjhkakgaaGreatDoorPut
import Derived.Test.YtpbbmagjhkakgaaGreatDoorFace
import Derived.Test.YtpbbmagjhkakgaaGreatDoorShelfToPureScan
import Derived.Test.YtpbbmagjhkakgaaGreatDoorPureTreeToPureTab
import Derived.Test.YtpbbmagjhkakgaaGreatDoorPureEndsToPureSem
import Derived.Test.YtpbbmagjhkakgaaGreatDoorEvCheckToEvNew
import Derived.WalkSpells
import Derived.Test.YtpbbmagjhkakgaaGreatDoorProg
import Derived.Shelf.Strings.BuilderRune
namespace Go.Proofs.YtpbbmagjhkakgaaGreatDoor
open Go.RowKit Go.Deep Go.Maps
theorem key_ok (a:Pay) (p q:Int) (hop:isSign a.op\/a.op=116\/a.op=97) (hn:a.name.size<=8) (h0:0<=a.lo/\a.lo<=a.hi/\a.hi<=1000000) (hp:0<=p/\p<=1000000000000000000) (hq:0<=q/\q<=1000000000000000000):Key.OK ⟨a.op,a.name,a.lo,a.hi,p,q⟩ :=
 ⟨by rcases hop with (e | e | e | e | e | e | e) | e | e<;>(show (Lit.int .i32 a.op).wf=true;rw [e];decide),Nat.le_trans hn (by decide),(show (Lit.int .i64 (a.lo)).wf=true from WalkArith.wf_i64 (by omega)),(show (Lit.int .i64 (a.hi)).wf=true from WalkArith.wf_i64 (by omega)),(show (Lit.int .i64 (p)).wf=true from WalkArith.wf_i64 (by omega)),(show (Lit.int .i64 (q)).wf=true from WalkArith.wf_i64 (by omega))⟩
theorem empty_small:ByteArray.empty.size<=8:=by decide
theorem put_any:∀ x:BT Pay,PutOK x:=by
 intro x
 induction x with
 | nil =>
  intro v Bt B tb mb nv K w hs _ ht _
  obtain rfl:v=.pointer none:=hs
  refine (put_nil _ w).mono ?_
  rintro e w' ⟨rfl,rfl⟩
  exact ⟨rfl,nv,ht,Keep.refl _ _ _ _ _⟩
 | node b0 o0 a l r il ir =>
  intro v Bt B tb mb nv K w hs hg ht hlen
  have hg:Good (.node b0 o0 a l r):=by
   rcases hg with hg | hg
   ·cases hg
   ·exact hg
  have hlen2:K.length+(nodesT l+nodesT r+1)<=1000000000000:=hlen
  rcases hg with ⟨h1,h2,h3,h4,rfl,rfl⟩ | ⟨h1,⟨_,n2,_⟩,h3,h4,rfl,rfl⟩ | ⟨h1,h2,h3,h4,gl,gr⟩ | ⟨h1,h2,h3,h4,gl,rfl⟩
  ·exact put_node b0 o0 a _ _ il ir (.inl rfl) (.inl rfl) v Bt B tb mb nv K w hs (fun p q a1 a2 a3 a4=>key_ok a p q (.inr (.inl h1)) (by rw [h2];exact empty_small) (by omega) ⟨a1,a2⟩ ⟨a3,a4⟩) ht hlen2
  ·exact put_node b0 o0 a _ _ il ir (.inl rfl) (.inl rfl) v Bt B tb mb nv K w hs (fun p q a1 a2 a3 a4=>key_ok a p q (.inr (.inr h1)) n2 (by omega) ⟨a1,a2⟩ ⟨a3,a4⟩) ht hlen2
  ·exact put_node b0 o0 a _ _ il ir (.inr gl) (.inr gr) v Bt B tb mb nv K w hs (fun p q a1 a2 a3 a4=>key_ok a p q (.inl (by unfold isSign;omega)) (by rw [h2];exact empty_small) h3 ⟨a1,a2⟩ ⟨a3,a4⟩) ht hlen2
  ·exact put_node b0 o0 a _ _ il ir (.inr gl) (.inl rfl) v Bt B tb mb nv K w hs (fun p q a1 a2 a3 a4=>key_ok a p q (.inl (by unfold isSign;omega)) (by rw [h2];exact empty_small) h3 ⟨a1,a2⟩ ⟨a3,a4⟩) ht hlen2
def TabV (B tb:Nat) (w:World) (K:List Key):Prop:=(w.heap[tb]? = some (.cells #[.map none,.slice none 0 0] 97 (0,0))/\K=[]/\B<=tb)\/∃ mb nv,TabAt B tb mb nv w K
theorem TabV.new (B:Nat) (w:World) (hB:B<=w.heap.size):TabV B w.heap.size (w.alloc (.cells #[.map none,.slice none 0 0] 97 (0,0))) []:=.inl ⟨heap_new _ _ _ rfl,rfl,hB⟩
theorem TabV.below {B tb:Nat} {w w':World} {K:List Key} (h:TabV B tb w K) (hb:Below w.heap.size w w'):TabV B tb w' K:=by
 rcases h with ⟨h1,h2,h3⟩ | ⟨mb,nv,h2⟩
 ·exact .inl ⟨hb.heapOf h1,h2,h3⟩
 ·exact .inr ⟨mb,nv,h2.below hb⟩
theorem heap_set1 {w:World} {k:Nat} {u v x:Value} {e:TypeId} {m:Nat×Nat} (h:w.heap[k]? = some (.cells #[u,x] e m)):(w.setCell ⟨k,0,none⟩ v).heap[k]? = some (.cells #[v,x] e m):=by
 simp [World.setCell,Array.getElem?_modify,h]
set_option maxHeartbeats 400000 in
theorem count_any (B tb:Nat) (K:List Key) (w:World) (ht:TabV B tb w K) :
  Calls Tryz.prog 44 #[.pointer (some ⟨tb,0,none⟩)] w fun e w'=>e=.returned (.int .i64 (K.length:Int))/\w'=w:=by
 rcases ht with ⟨h1,rfl,_⟩ | ⟨mb,nv,h2⟩
 ·have hc0:w.cell? ⟨tb,1,none⟩=some (.slice none 0 0):=cell_at h1 rfl
  go_enter Tryz.func44,Tryz.ntmps44
  go_wp2_with fail
  go_ret
  exact ⟨rfl,rfl⟩
 ·obtain ⟨h1,_,⟨_,⟨rfl,h3⟩ | ⟨g,cap,cur,rfl,_⟩⟩,_⟩:=h2
  ·have hc0:w.cell? ⟨tb,1,none⟩=some (.slice none 0 0):=cell_at h1 rfl
   rw [h3]
   go_enter Tryz.func44,Tryz.ntmps44
   go_wp2_with fail
   go_ret
   exact ⟨rfl,rfl⟩
  ·have hc0:w.cell? ⟨tb,1,none⟩=some (.slice (some ⟨g,0,none⟩) K.length cap):=cell_at h1 rfl
   go_enter Tryz.func44,Tryz.ntmps44
   go_wp2_with fail
   go_ret
   exact ⟨rfl,rfl⟩
end Go.Proofs.YtpbbmagjhkakgaaGreatDoor
namespace Go.Proofs.YtpbbmagjhkakgaaGreatDoor
open Go.RowKit Go.Deep
def printA (s:ByteArray):Value:=match (readF s).1 with
 | some x=>.tuple #[.string ⟨(printB x).toArray⟩,.int .i64 0]
 | none=>.tuple #[.string ⟨#[]⟩,.int .i64 (readF s).2]
def reachA (s:ByteArray):Value:=match (readF s).1 with
 | some x=>.tuple #[.int .i64 (reachT x),.int .i64 0]
 | none=>.tuple #[.int .i64 0,.int .i64 (readF s).2]
theorem below_drewN (w:World) (n:Nat):Below w.heap.size w (w.drewN n):=⟨rfl,rfl,rfl,Nat.le_refl _,fun _ _=>rfl⟩
set_option maxHeartbeats 400000 in
theorem reachTop_any (s:ByteArray) (w:World) (hm:s.size<=maxLen) (hg:Glob w) (hw7:14<=w.heap.size) :
  Calls Tryz.prog 15 #[.string s] w fun e w'=>e=.returned (reachA s)/\Below w.heap.size w w':=by
 have hr:=readTop_any s w hm hg hw7
 have hso:∀ x n,readF s=(some x,n)->Good x/\ZeroT x/\depthT x<=12/\n=0:=fun x n h=>readF_sound h
 have hA:Hid (reachA s=match (readF s).1 with | some x=>.tuple #[.int .i64 (reachT x),.int .i64 0] | none=>.tuple #[.int .i64 0,.int .i64 (readF s).2]):=rfl
 generalize reachA s=ans at *
 generalize readF s=res at *
 go_enter Tryz.func15,Tryz.ntmps15
 go_wp2_with fail
 refine hr.mono ?_
 rintro e w1 ⟨hb,⟨x,v,h1,rfl,hx,hd⟩ | ⟨h1,tb,fa,rfl,ht⟩ | ⟨h1,tb,fa,rfl,ht⟩⟩
 ·subst h1
  obtain ⟨hgd,_,hd,_⟩:=hso x 0 rfl
  obtain ⟨vv,rfl⟩:=sent_ptr hx
  have hS:=reach_any x _ _ w1 hx (by omega) hgd.win
  have hA2:Hid (ans=.tuple #[.int .i64 (reachT x),.int .i64 0]):=hA.out
  clear hr hso hA hg
  generalize reachT x=rb at *
  go_wp2_with fail
  refine hS.mono ?_
  rintro e w2 ⟨rfl,n,rfl⟩
  go_wp2_with fail
  go_ret2
  exact ⟨congrArg Ending.returned hA2.out.symm,hb.tr (below_drewN w1 n)⟩
 ·subst h1
  have hE:=errno_text s tb fa w1 (hg.below hb) ht
  have hA2:Hid (ans=.tuple #[.int .i64 0,.int .i64 1]):=hA.out
  clear hr hso hA hg
  go_wp2_with fail
  refine hE.mono ?_
  rintro e w2 ⟨rfl,hb2⟩
  go_wp2_with fail
  go_ret2
  exact ⟨congrArg Ending.returned hA2.out.symm,hb.tr hb2⟩
 ·subst h1
  have hE:=errno_deep s tb fa w1 (hg.below hb) ht
  have hA2:Hid (ans=.tuple #[.int .i64 0,.int .i64 2]):=hA.out
  clear hr hso hA hg
  go_wp2_with fail
  refine hE.mono ?_
  rintro e w2 ⟨rfl,hb2⟩
  go_wp2_with fail
  go_ret2
  exact ⟨congrArg Ending.returned hA2.out.symm,hb.tr hb2⟩
end Go.Proofs.YtpbbmagjhkakgaaGreatDoor
namespace Go.Proofs.YtpbbmagjhkakgaaGreatDoor.Ev
open Go.RowKit Go.Deep Go.Maps
theorem infoPolicy:(Tryz.prog.info? 183).map (fun i=>(i.zero,i.size,i.bytes))=some (some (.agg #[.string ⟨#[]⟩,.pointer none,.int .i64 0,.int .i64 0,.pointer none]),5,48):=by kernel_rfl
set_option maxHeartbeats 2000000 in
set_option maxRecDepth 100000 in
theorem cloneVer_some (b off n c:Nat) (xs:List Value) (w:World) (hl:xs.length=n*4) (hn:n<=1000000) (hc:∀ j u,xs[j]? = some u->w.cell? ⟨b,off+j,none⟩=some u) (h1:∀ u∈xs,u.oneCell'=true) :
  Calls Tryz.prog 94 #[.slice (some ⟨b,off,none⟩) n c] w fun e w'=>∃ v',e=.returned v'/\w'.ownsRow w.heap.size 59 4 v' n xs/\Below w.heap.size w w':=by
 obtain ⟨i0,hi,hz0,hz1,hz2⟩:=info_parts Go.Proofs.YtpbbmagjhkakgaaGreatDoor.Lf.infoVerdict
 have q22:∀ (w:World) (a:Option Addr) (n c n' c':Nat),(binOp .eql 54 (.slice a n c) (.slice none n' c')).run Tryz.prog w=.ok (.bool a.isNone) w:=fun w a n c n' c'=>Lib.run_eql_slice_nil w _ _ a n c n' c' Tryz.underlying54
 have A:Hid (∀ j u,xs[j]? = some u->w.cell? ⟨b,off+j,none⟩=some u):=hc
 have HL:Hid (xs.length=n*4):=hl
 clear hc hl
 go_enter Tryz.func94,Tryz.ntmps94
 go_wp2_with (at_builtin;refine wpList_append_own _ rfl _ _ 54 rfl w.heap.size 59 i0 (.agg #[.int .i64 0,.int .i64 0,.int .i64 0,.bool false]) 4 32 Tryz.underlying54 hi hz0 hz1 hz2 rfl (by decide) _ _ _ rfl (World.ownsRow_made w #[] 0 (Nat.le_refl _) (Nat.zero_le _) rfl) ⟨b,off,none⟩ n c xs rfl ?qc1 ?qc2 ?qc3 ?qc4 ?qc5 ?qc6 ?_)
 case qc1=>exact HL.out
 case qc2 =>
  intro j u hj
  rw [Addr.add_lit]
  exact Lib.cell?_alloc_some _ (A.out j u hj)
 case qc3=>exact h1
 case qc4=>unfold maxLen;omega
 case qc5=>omega
 case qc6=>simp
 intro v' w1 hown hgrow hnil
 go_wp2_with fail
 go_ret
 refine ⟨v',rfl,by simpa using hown,?_⟩
 exact ((Below.refl _ w).alloc (Nat.le_refl _) _).grown hgrow (by simp) (by intro k hk;simp [Value.ownBlock] at hk;omega)
theorem cloneVer_nil (n c:Nat) (w:World):Calls Tryz.prog 94 #[.slice none n c] w fun e w'=>e=.returned (.slice none 0 0)/\w'=w:=by
 have q22:∀ (w:World) (a:Option Addr) (n c n' c':Nat),(binOp .eql 54 (.slice a n c) (.slice none n' c')).run Tryz.prog w=.ok (.bool a.isNone) w:=fun w a n c n' c'=>Lib.run_eql_slice_nil w _ _ a n c n' c' Tryz.underlying54
 go_enter Tryz.func94,Tryz.ntmps94
 go_wp2_with fail
 go_ret
 exact ⟨rfl,rfl⟩
theorem clonePol_nil (n c:Nat) (w:World):Calls Tryz.prog 100 #[.slice none n c] w fun e w'=>e=.returned (.slice none 0 0)/\w'=w:=by
 have q22:∀ (w:World) (a:Option Addr) (n c n' c':Nat),(binOp .eql 151 (.slice a n c) (.slice none n' c')).run Tryz.prog w=.ok (.bool a.isNone) w:=fun w a n c n' c'=>Lib.run_eql_slice_nil w _ _ a n c n' c' Tryz.underlying151
 go_enter Tryz.func100,Tryz.ntmps100
 go_wp2_with fail
 go_ret
 exact ⟨rfl,rfl⟩
set_option maxHeartbeats 2000000 in
set_option maxRecDepth 100000 in
theorem cloneEv_some (b off n c:Nat) (xs:List Value) (w:World) (hl:xs.length=n*4) (hn:n<=1000000) (hc:∀ j u,xs[j]? = some u->w.cell? ⟨b,off+j,none⟩=some u) (h1:∀ u∈xs,u.oneCell'=true) :
  Calls Tryz.prog 175 #[.slice (some ⟨b,off,none⟩) n c] w fun e w'=>∃ v',e=.returned v'/\w'.ownsRow w.heap.size 159 4 v' n xs/\Below w.heap.size w w':=by
 obtain ⟨i0,hi,hz0,hz1,hz2⟩:=info_parts infoEvent
 have q22:∀ (w:World) (a:Option Addr) (n c n' c':Nat),(binOp .eql 146 (.slice a n c) (.slice none n' c')).run Tryz.prog w=.ok (.bool a.isNone) w:=fun w a n c n' c'=>Lib.run_eql_slice_nil w _ _ a n c n' c' Tryz.underlying146
 have A:Hid (∀ j u,xs[j]? = some u->w.cell? ⟨b,off+j,none⟩=some u):=hc
 have HL:Hid (xs.length=n*4):=hl
 clear hc hl
 go_enter Tryz.func175,Tryz.ntmps175
 go_wp2_with (at_builtin;refine wpList_append_own _ rfl _ _ 146 rfl w.heap.size 159 i0 (.agg #[.int .i64 0,.int .i64 0,.slice none 0 0,.slice none 0 0]) 4 64 Tryz.underlying146 hi hz0 hz1 hz2 rfl (by decide) _ _ _ rfl (World.ownsRow_made w #[] 0 (Nat.le_refl _) (Nat.zero_le _) rfl) ⟨b,off,none⟩ n c xs rfl ?qc1 ?qc2 ?qc3 ?qc4 ?qc5 ?qc6 ?_)
 case qc1=>exact HL.out
 case qc2 =>
  intro j u hj
  rw [Addr.add_lit]
  exact Lib.cell?_alloc_some _ (A.out j u hj)
 case qc3=>exact h1
 case qc4=>unfold maxLen;omega
 case qc5=>omega
 case qc6=>simp
 intro v' w1 hown hgrow hnil
 go_wp2_with fail
 go_ret
 refine ⟨v',rfl,by simpa using hown,?_⟩
 exact ((Below.refl _ w).alloc (Nat.le_refl _) _).grown hgrow (by simp) (by intro k hk;simp [Value.ownBlock] at hk;omega)
theorem cloneEv_nil (n c:Nat) (w:World):Calls Tryz.prog 175 #[.slice none n c] w fun e w'=>e=.returned (.slice none 0 0)/\w'=w:=by
 have q22:∀ (w:World) (a:Option Addr) (n c n' c':Nat),(binOp .eql 146 (.slice a n c) (.slice none n' c')).run Tryz.prog w=.ok (.bool a.isNone) w:=fun w a n c n' c'=>Lib.run_eql_slice_nil w _ _ a n c n' c' Tryz.underlying146
 go_enter Tryz.func175,Tryz.ntmps175
 go_wp2_with fail
 go_ret
 exact ⟨rfl,rfl⟩
set_option maxHeartbeats 2000000 in
set_option maxRecDepth 100000 in
theorem cloneNode_some (b off n c:Nat) (xs:List Value) (w:World) (hl:xs.length=n*6) (hn:n<=1000000) (hc:∀ j u,xs[j]? = some u->w.cell? ⟨b,off+j,none⟩=some u) (h1:∀ u∈xs,u.oneCell'=true) :
  Calls Tryz.prog 177 #[.slice (some ⟨b,off,none⟩) n c] w fun e w'=>∃ v',e=.returned v'/\w'.ownsRow w.heap.size 226 6 v' n xs/\Below w.heap.size w w':=by
 obtain ⟨i0,hi,hz0,hz1,hz2⟩:=info_parts infoNode
 have q22:∀ (w:World) (a:Option Addr) (n c n' c':Nat),(binOp .eql 95 (.slice a n c) (.slice none n' c')).run Tryz.prog w=.ok (.bool a.isNone) w:=fun w a n c n' c'=>Lib.run_eql_slice_nil w _ _ a n c n' c' Tryz.underlying95
 have A:Hid (∀ j u,xs[j]? = some u->w.cell? ⟨b,off+j,none⟩=some u):=hc
 have HL:Hid (xs.length=n*6):=hl
 clear hc hl
 go_enter Tryz.func177,Tryz.ntmps177
 go_wp2_with (at_builtin;refine wpList_append_own _ rfl _ _ 95 rfl w.heap.size 226 i0 (.agg #[.int .i32 0,.string ⟨#[]⟩,.int .i64 0,.int .i64 0,.int .i64 0,.int .i64 0]) 6 56 Tryz.underlying95 hi hz0 hz1 hz2 rfl (by decide) _ _ _ rfl (World.ownsRow_made w #[] 0 (Nat.le_refl _) (Nat.zero_le _) rfl) ⟨b,off,none⟩ n c xs rfl ?qc1 ?qc2 ?qc3 ?qc4 ?qc5 ?qc6 ?_)
 case qc1=>exact HL.out
 case qc2 =>
  intro j u hj
  rw [Addr.add_lit]
  exact Lib.cell?_alloc_some _ (A.out j u hj)
 case qc3=>exact h1
 case qc4=>unfold maxLen;omega
 case qc5=>omega
 case qc6=>simp
 intro v' w1 hown hgrow hnil
 go_wp2_with fail
 go_ret
 refine ⟨v',rfl,by simpa using hown,?_⟩
 exact ((Below.refl _ w).alloc (Nat.le_refl _) _).grown hgrow (by simp) (by intro k hk;simp [Value.ownBlock] at hk;omega)
theorem cloneNode_nil (n c:Nat) (w:World):Calls Tryz.prog 177 #[.slice none n c] w fun e w'=>e=.returned (.slice none 0 0)/\w'=w:=by
 have q22:∀ (w:World) (a:Option Addr) (n c n' c':Nat),(binOp .eql 95 (.slice a n c) (.slice none n' c')).run Tryz.prog w=.ok (.bool a.isNone) w:=fun w a n c n' c'=>Lib.run_eql_slice_nil w _ _ a n c n' c' Tryz.underlying95
 go_enter Tryz.func177,Tryz.ntmps177
 go_wp2_with fail
 go_ret
 exact ⟨rfl,rfl⟩
theorem sent_tagged {S:TypeId} {w w':World} (hh:∀ (k:Nat) (cs:Array Value),w.heap[k]? = some (Obj.cells cs S (0,0))->w'.heap[k]? = some (Obj.cells cs S (0,0))):∀ {x:BT Pay} {v:Value},SentAt S 0 w x v->SentAt S 0 w' x v
 | .nil,_,h=>h
 | .node _ _ _ l r,_,⟨b,vl,vr,e,hb,hc,hl,hr⟩=>⟨b,vl,vr,e,hb,hh b _ hc,sent_tagged hh (x:=l) hl,sent_tagged hh (x:=r) hr⟩
theorem sent_zero {S:TypeId} {B:Nat} {w:World}:∀ {x:BT Pay} {v:Value},SentAt S B w x v->SentAt S 0 w x v
 | .nil,_,h=>h
 | .node _ _ _ l r,_,⟨b,vl,vr,e,_,hc,hl,hr⟩=>⟨b,vl,vr,e,Nat.zero_le _,hc,sent_zero (x:=l) hl,sent_zero (x:=r) hr⟩
set_option maxHeartbeats 400000 in
theorem putTop0 (x:BT Pay) (v:Value) (B tb:Nat) (K:List Key) (w:World) (hs:SentAt 143 0 w x v) (hg:Good x) (ht:TabV B tb w K) (hlen:K.length+nodesT (coreT x)<=1000000000000) :
  Calls Tryz.prog 43 #[.pointer (some ⟨tb,0,none⟩),v] w fun e w'=>e=.returned (.int .i64 (putK K (coreT x)).1)/\TabV B tb w' (putK K (coreT x)).2/\Below B w w':=by
 obtain ⟨vv,rfl⟩:∃ vv,v=Value.pointer vv:=sent_ptr hs
 have q1:∀ (w:World) (r:Option Nat),(binOp .eql 94 (.map r) (.map none)).run Tryz.prog w=.ok (.bool r.isNone) w:=fun w r=>run_eql_map_nil w _ _ _ r Tryz.underlying94
 have gc:=good_core hg
 rcases ht with ⟨h1,rfl,hB⟩ | ⟨mb,nv,h2⟩
 ·have hc0:w.cell? ⟨tb,0,none⟩=some (.map none):=cell_at h1 rfl
  have hf0:w.frozen? ⟨tb,0,none⟩=false:=Lib.frozen_of_heap h1 0
  have hlt:=heap_lt h1
  have hne:tb≠w.heap.size:=by omega
  have hsz:(w.setCell ⟨tb,0,none⟩ (.map (some w.heap.size))).heap.size=w.heap.size:=by simp [World.setCell]
  have hoT:Only tb w ((w.setCell ⟨tb,0,none⟩ (.map (some w.heap.size))).alloc (.map #[] 0)):=((Only.refl tb w).setCell (p:=⟨tb,0,none⟩) (.inl rfl) _).alloc _
  have hT:TabAt B tb w.heap.size (.slice none 0 0) ((w.setCell ⟨tb,0,none⟩ (.map (some w.heap.size))).alloc (.map #[] 0)) []:=by
   refine ⟨?_,?_,World.ownsRow_nil _ _ _ _,hB,by omega⟩
   ·rw [Below.heap_alloc _ _ _ (by rw [hsz];exact hlt)];exact heap_set1 h1
   ·have:=MapAt.made (w.setCell ⟨tb,0,none⟩ (.map (some w.heap.size)))
    rw [hsz] at this
    exact this
  have hsT:SentAt 143 0 ((w.setCell ⟨tb,0,none⟩ (.map (some w.heap.size))).alloc (.map #[] 0)) x (.pointer vv):=sent_tagged (fun k cs hk=>hoT.heap hk (by rintro rfl;rw [h1] at hk;cases hk)) hs
  have hO:=of_any x (.pointer vv) 0 _ hsT hg (Nat.zero_le _)
  have hmm:(Instr.makeMap 94 none).run Tryz.prog w=.ok (.map (some w.heap.size)) (w.alloc (.map #[] 0)):=rfl
  go_enter Tryz.func43,Tryz.ntmps43
  go_wp2_with fail
  refine hO.mono ?_
  rintro e w1 ⟨p,rfl,hs1,hb1⟩
  have hP:=put_any (coreT x) (.pointer p) 0 B tb w.heap.size (.slice none 0 0) [] w1 hs1 (.inr gc) (hT.below hb1) hlen
  clear hO
  go_wp2_with fail
  refine hP.mono ?_
  rintro e w2 ⟨rfl,nv2,ht2,ho2⟩
  clear hP
  go_wp2_with fail
  go_ret
  refine ⟨rfl,.inr ⟨w.heap.size,nv2,ht2⟩,?_⟩
  have b1:Below B w w1:=(hoT.below hB (by omega)).trans (hb1.mono (by have:=hoT.size;omega))
  exact b1.trans ho2.below
 ·have hc0:w.cell? ⟨tb,0,none⟩=some (.map (some mb)):=cell_at h2.1 rfl
  have hBw:=h2.base
  have hO:=of_any x (.pointer vv) 0 w hs hg (Nat.zero_le _)
  go_enter Tryz.func43,Tryz.ntmps43
  go_wp2_with fail
  refine hO.mono ?_
  rintro e w1 ⟨p,rfl,hs1,hb1⟩
  have hP:=put_any (coreT x) (.pointer p) 0 B tb mb nv K w1 hs1 (.inr gc) (h2.below hb1) hlen
  clear hO
  go_wp2_with fail
  refine hP.mono ?_
  rintro e w2 ⟨rfl,nv2,ht2,ho2⟩
  clear hP
  go_wp2_with fail
  go_ret
  refine ⟨rfl,.inr ⟨mb,nv2,ht2⟩,?_⟩
  have b1:Below B w w1:=hb1.mono (by omega)
  exact b1.trans ho2.below
theorem keyOnes (K:List Key):∀ u∈flatK K,u.oneCell'=true:=by
 intro u hu
 simp only [flatK,List.mem_flatten,List.mem_map] at hu
 obtain ⟨l,⟨k,_,rfl⟩,h⟩:=hu
 exact keyOne k u h
theorem flatK_len (K:List Key):(flatK K).length=K.length*6:=flat_len keyCells 6 (fun _=>rfl) K
theorem tabNodes_any (B tb:Nat) (K:List Key) (w:World) (ht:TabV B tb w K) (hK:K.length<=1000000):Calls Tryz.prog 143 #[.pointer (some ⟨tb,0,none⟩)] w fun e w'=>∃ v',e=.returned v'/\w'.ownsRow w.heap.size 226 6 v' K.length (flatK K)/\Below w.heap.size w w':=by
 have key:∀ nv,w.cell? ⟨tb,1,none⟩=some nv->w.ownsRow B 226 6 nv K.length (flatK K)->Calls Tryz.prog 143 #[.pointer (some ⟨tb,0,none⟩)] w fun e w'=>∃ v',e=.returned v'/\w'.ownsRow w.heap.size 226 6 v' K.length (flatK K)/\Below w.heap.size w w':=by
  intro nv hc hr
  have hr0:=hr
  obtain ⟨_,⟨rfl,h3⟩ | ⟨g,cap,cur,rfl,_⟩⟩:=hr
  ·have hk:K=[]:=List.length_eq_zero_iff.1 h3
   subst hk
   have hcl:=cloneNode_nil 0 0 w
   go_enter Tryz.func143,Tryz.ntmps143
   go_wp2_with fail
   refine hcl.mono ?_
   rintro e w1 ⟨rfl,rfl⟩
   go_wp2_with fail
   go_ret
   exact ⟨_,rfl,World.ownsRow_nil _ _ _ _,Below.refl _ _⟩
  ·have hcl:=cloneNode_some g 0 K.length cap (flatK K) w (flatK_len K) hK (fun j u hj=>by rw [Nat.zero_add];exact row_cell hr0 rfl hj) (keyOnes K)
   have Hr:Hid (w.ownsRow B 226 6 (.slice (some ⟨g,0,none⟩) K.length cap) K.length (flatK K)):=hr0
   clear hr0
   generalize flatK K=xs at *
   generalize K.length=n at *
   go_enter Tryz.func143,Tryz.ntmps143
   go_wp2_with fail
   refine hcl.mono ?_
   rintro e w1 ⟨v',rfl,ho,hb⟩
   go_wp2_with fail
   go_ret
   exact ⟨_,rfl,ho,hb⟩
 rcases ht with ⟨h1,rfl,hB⟩ | ⟨mb,nv,h1,_,h3,_⟩
 ·exact key _ (cell_at h1 rfl) (World.ownsRow_nil _ _ _ _)
 ·exact key _ (cell_at h1 rfl) h3
set_option maxHeartbeats 1000000 in
theorem judge0_any (wtb:Nat) (rt rm nv pv nn:Value) (o:Option Addr) (n cap:Nat) (hnn:nn=.slice o n cap) (w:World) (hw:w.heap[wtb]? = some (.cells #[rt,rm,nv,.slice none 0 0,pv] 153 (0,0))) :
  Calls Tryz.prog 142 #[.pointer (some ⟨wtb,0,none⟩),nn] w fun e w'=>e=.returned (.tuple #[])/\w'.heap[wtb]? = some (.cells #[rt,rm,nn,.slice none 0 0,pv] 153 (0,0))/\Only wtb w w':=by
 subst hnn
 have hf0:w.frozen? ⟨wtb,2,none⟩=false:=Lib.frozen_of_heap hw 2
 have c2:=cell_at (i:=2) hw rfl
 have c3:=cell_at (i:=3) hw rfl
 go_enter Tryz.func142,Tryz.ntmps142
 go_wp2_with fail
 go_loopw [14] (fun iv wr=>iv=.int .i64 0/\wr=w.setCell ⟨wtb,2,none⟩ (.slice o n cap)) (fun iv _=>0)
 case atStart=>exact ⟨rfl,rfl⟩
 case round =>
  obtain ⟨rfl,rfl⟩:=hrel
  go_wp2_with fail
  refine bodyPost_end (results_none rfl _ _ _) rfl ?_
  exact ⟨rfl,set_heap (i:=2) hw,(Only.refl wtb w).setCell (p:=⟨wtb,2,none⟩) (.inl rfl) _⟩
theorem checkReach_ok (wtb:Nat) (retain reach:Int) (rm nv ev pv:Value) (w:World) (hw:w.heap[wtb]? = some (.cells #[.int .i64 retain,rm,nv,ev,pv] 153 (0,0))) (h:reach<=retain) :
  Calls Tryz.prog 171 #[.pointer (some ⟨wtb,0,none⟩),.int .i64 reach] w fun e w'=>e=.returned .nilIface/\w'=w:=by
 have c0:=cell_at (i:=0) hw rfl
 go_enter Tryz.func171,Tryz.ntmps171
 go_wp2_with fail
 go_ret
 exact ⟨rfl,rfl⟩
set_option maxHeartbeats 1000000 in
theorem readPol_ok (wtb:Nat) (retain:Int) (rm nv ev pv:Value) (name s:ByteArray) (x:BT Pay) (w:World) (hw:w.heap[wtb]? = some (.cells #[.int .i64 retain,rm,nv,ev,pv] 153 (0,0))) (hN:NameOK name) (hm:s.size<=maxLen) (hg:Glob w) (hw7:14<=w.heap.size) (hr:readF s=(some x,0)) (hR:reachT x<=retain) :
  Calls Tryz.prog 135 #[.pointer (some ⟨wtb,0,none⟩),.string name,.string s] w fun e w'=>∃ p,e=.returned (.tuple #[.pointer p,.nilIface])/\SentAt 143 0 w' x (.pointer p)/\Below w.heap.size w w':=by
 have hI:=isName_ok name hN w
 obtain ⟨hgd,_,hdx,_⟩:=readF_sound hr
 have hRd:∀ w1,Below w.heap.size w w1->Calls Tryz.prog 39 #[.string s] w1 (ReadTop s w1 (some x,0)):=fun w1 hb=>by
  have:=readTop_any s w1 hm (hg.below hb) (by have:=hb.size;omega)
  rw [hr] at this
  exact this
 have HRd:Hid (∀ w1,Below w.heap.size w w1->Calls Tryz.prog 39 #[.string s] w1 (ReadTop s w1 (some x,0))):=hRd
 clear hRd
 have Hw:Hid (w.heap[wtb]? = some (.cells #[.int .i64 retain,rm,nv,ev,pv] 153 (0,0))):=hw
 clear hw
 go_enter Tryz.func135,Tryz.ntmps135
 go_wp2_with fail
 refine hI.mono ?_
 rintro e w1 ⟨rfl,hb1⟩
 go_wp2_with fail
 refine (HRd.out w1 hb1).mono ?_
 rintro e w2 ⟨hb2,⟨x',v,h1,rfl,hx,hd⟩ | ⟨h1,tb,fa,rfl,ht⟩ | ⟨h1,tb,fa,rfl,ht⟩⟩
 ·cases h1
  obtain ⟨vv,rfl⟩:=sent_ptr hx
  have hb12:=hb1.tr hb2
  have hx0:=sent_zero hx
  have hw2:=hb12.heapOf Hw.out
  have hwin:=hgd.win
  go_wp2_with fail
  go_quiet (first
   | (go_at_call_of 42 (Value.pointer vv);exact Calls.quiet_of (reach_any x _ _ _ (hx0.drewN _) (by omega) hwin))
   | (go_at_call_of 171 (Value.pointer (some ⟨wtb,0,none⟩));exact Calls.quiet_of ((checkReach_ok wtb retain (reachT x) rm nv ev pv _ (by exact hw2) hR).mono (fun e w' h=>⟨h.1,0,h.2⟩))))
  go_wp2_with fail
  all_goals go_ret2
  all_goals exact ⟨vv,rfl,hx0.drewN _,hb12.tr (below_drewN _ _)⟩
 ·cases h1
 ·cases h1
end Go.Proofs.YtpbbmagjhkakgaaGreatDoor.Ev
