import Derived.Test.YtpbbmagjhkakgaaGreatDoorRead
import Derived.Test.YtpbbmagjhkakgaaGreatDoorErrs2
import Derived.Test.YtpbbmagjhkakgaaGreatDoorLfRestAnyToWindow
import Derived.Test.YtpbbmagjhkakgaaGreatDoorPut
import Derived.Test.YtpbbmagjhkakgaaGreatDoorPureToPurePrint
import Derived.Test.YtpbbmagjhkakgaaGreatDoorPureTabToTab
import Derived.WalkSpells
import Derived.Test.YtpbbmagjhkakgaaGreatDoorProg
import Derived.Shelf.Strings.BuilderRune
namespace Go.Proofs.YtpbbmagjhkakgaaGreatDoor
section
open Go.RowKit Go.Deep
structure eF (w:World):Prop where
 conv:eh w
 ns:∃ eb eo,w.cell? ⟨0,0,none⟩=some (.iface 357 (.pointer (some ⟨eb,eo,none⟩)))
 et:w.cell? ⟨7,0,none⟩=some (.iface 266 (.agg #[.pointer (some ⟨14,89,none⟩)]))
 tab:∃ e m,w.heap[9]? = some (.cells (Lib.pow10Tab.map fun z=>Value.int .u64 z).toArray e m)
theorem eF.only {s:Nat} {w w':World} (h:eF w) (ho:Only s w w') (hs:14<=s):eF w':=by
 obtain ⟨h1,⟨eb,eo,h2⟩,h3,⟨e,m,h4⟩⟩:=h
 have c:∀ k,k<14->k<w.heap.size->w'.cell? ⟨k,0,none⟩=w.cell? ⟨k,0,none⟩:=fun k hk hl=>World.cell?_of_block (w:=w) (a:=⟨k,0,none⟩) (ho.block k hl (by omega))
 exact ⟨h1.only ho hs,⟨eb,eo,by rw [c _ (by decide) (i_ h2)];exact h2⟩,by rw [c _ (by decide) (i_ h3)];exact h3,⟨e,m,ho.heap h4 (by omega)⟩⟩
theorem eF.below {w w':World} (h:eF w) (hb:Below w.heap.size w w'):eF w':=h.only (s:=14) (Only.aL hb) (Nat.le_refl _)
def ReadTop (s:ByteArray) (w:World) (res:Option (BT aO)×Int) (e:Ending) (w':World):Prop :=
 Below w.heap.size w w'/\((∃ x v,res=(some x,0)/\e=.returned (.tuple #[v,.nilIface])/\aC 143 w.heap.size w' x v/\aK x<=12)
  \/(res=(none,1)/\∃ tb fa,e=.returned (.tuple #[.pointer none,.iface 125 (.pointer (some ⟨tb,0,none⟩))])/\w'.heap[tb]? = some (.cells #[.string s,.iface 201 (.pointer (some fa))] 127 (0,0)))
  \/(res=(none,2)/\∃ tb fa,e=.returned (.tuple #[.pointer none,.iface 125 (.pointer (some ⟨tb,0,none⟩))])/\w'.heap[tb]? = some (.cells #[.string s,.iface 130 (.pointer (some fa))] 127 (0,0))))
set_option maxHeartbeats 400000 in
theorem readTop_any (s:ByteArray) (w:World) (hm:s.size<=maxLen) (hg:eF w) (l9:14<=w.heap.size):Calls Tryz.prog 39 #[.string s] w (ReadTop s w (cI s)):=by
 have hr:Calls Tryz.prog 74 #[.string s] w (ReadEnd w (cI s)):=by
  by_cases hs:300<s.size
  ·exact read_long s w hs hm
  ·exact read_short s w (by omega) hg.conv l9
 generalize cI s=res at *
 go_enter Tryz.func39,Tryz.ntmps39
 go_wp2_with fail
 refine hr.mono ?_
 rintro e w1 ⟨hb,⟨x,v,h1,rfl,hx,hd⟩ | ⟨h1,fa,rfl⟩ | ⟨h1,fa,rfl⟩⟩
 ·have H1:Hid (res=(some x,0)):=h1
  obtain ⟨vv,rfl⟩:=gZ hx
  clear h1 hr hg
  go_wp2_with fail
  go_ret2
  exact ⟨hb,.inl ⟨x,_,H1.out,rfl,hx,hd⟩⟩
 ·have H1:Hid (res=(none,1)):=h1
  clear h1 hr hg
  go_wp2_with fail
  go_ret2
  exact ⟨hb.al _,.inr (.inl ⟨H1.out,_,_,rfl,aB _ _ _ rfl⟩)⟩
 ·have H1:Hid (res=(none,2)):=h1
  clear h1 hr hg
  go_wp2_with fail
  go_ret2
  exact ⟨hb.al _,.inr (.inr ⟨H1.out,_,_,rfl,aB _ _ _ rfl⟩)⟩
end
namespace Ev
open Go.RowKit Go.Deep Lf Go.Conc
theorem sV (s:ByteArray) (v lo hi:Int) (w:World) (h:lo<=v/\v<=hi):Calls Tryz.prog 124 #[.string s,.int .i64 v,.int .i64 lo,.int .i64 hi] w fun e w'=>e=.returned .nilIface/\w'=w:=by
 go_enter Tryz.func124,Tryz.ntmps124
 go_wp2_with fail
 go_ret
 exact ⟨rfl,rfl⟩
set_option maxHeartbeats 1000000 in
theorem pastNew_ok (ai room:Int) (w:World) (h1:0<=ai/\ai<=100000) (h2:1<=room/\room<=60):Calls Tryz.prog 85 #[.int .i64 ai,.int .i64 room] w fun e w'=>e=.returned (.tuple #[.agg #[.int .i64 ai,.int .i64 room,.slice none 0 0,.slice none 0 0],.nilIface])/\Below w.heap.size w w':=by
 have kJ:=sV ⟨#[114,101,116,97,105,110]⟩ ai 0 100000 (w.alloc (.cells #[.int .i64 0,.int .i64 0,.slice none 0 0,.slice none 0 0] 148)) h1
 have hc2:=sV ⟨#[114,111,111,109]⟩ room 1 60 (w.alloc (.cells #[.int .i64 0,.int .i64 0,.slice none 0 0,.slice none 0 0] 148)) h2
 go_enter Tryz.func85,Tryz.ntmps85
 go_wp2_with fail
 refine kJ.mono ?_
 rintro e w1 ⟨rfl,rfl⟩
 go_wp2_with fail
 refine hc2.mono ?_
 rintro e w1 ⟨rfl,rfl⟩
 go_wp2_with fail
 have hR:(w.alloc (.cells #[.int .i64 ai,.int .i64 room,.slice none 0 0,.slice none 0 0] 148)).heap[w.heap.size]? = some (.cells #[.int .i64 ai,.int .i64 room,.slice none 0 0,.slice none 0 0] 148 (0,0)):=aB _ _ _ rfl
 have q0:=ae (i:=0) hR rfl
 have q1:=ae (i:=1) hR rfl
 have q2:=ae (i:=2) hR rfl
 have q3:=ae (i:=3) hR rfl
 refine ⟨rfl,_,?_,rfl,(Below.refl _ _).al _⟩
 simp [results,Tryz.f85,go_sem,loadVar,q0,q1,q2,q3]
set_option maxHeartbeats 1000000 in
theorem watchNew_ok (ai room:Int) (w:World) (h1:0<=ai/\ai<=100000) (h2:1<=room/\room<=60):Calls Tryz.prog 45 #[.int .i64 ai,.int .i64 room] w fun e w'=>∃ aj,e=.returned (.tuple #[.pointer (some ⟨aj,0,none⟩),.nilIface])/\w.heap.size<=aj/\w'.heap[aj]? = some (.cells #[.int .i64 ai,.int .i64 room,.slice none 0 0,.slice none 0 0,.slice none 0 0] 153 (0,0))/\Below w.heap.size w w':=by
 have hp:=pastNew_ok ai room w h1 h2
 go_enter Tryz.func45,Tryz.ntmps45
 go_wp2_with fail
 refine hp.mono ?_
 rintro e w1 ⟨rfl,a_⟩
 have hs:=a_.size
 go_wp2_with fail
 go_ret2
 exact ⟨_,rfl,by first | omega | (simp;omega),by first | exact aB _ _ _ rfl | exact aB _ _ _ (by simp),by first | exact (a_.al _).al _ | exact a_.al _⟩
theorem new_ok (ai room:Int) (w:World) (h1:0<=ai/\ai<=100000) (h2:1<=room/\room<=60):Calls Tryz.prog 23 #[.int .i64 ai,.int .i64 room] w fun e w'=>∃ mb aj,e=.returned (.tuple #[.pointer (some ⟨mb,0,none⟩),.int .i64 0])/\w.heap.size<=mb/\w.heap.size<=aj/\w'.heap[mb]? = some (.cells #[.pointer (some ⟨aj,0,none⟩)] 104 (0,0))/\w'.heap[aj]? = some (.cells #[.int .i64 ai,.int .i64 room,.slice none 0 0,.slice none 0 0,.slice none 0 0] 153 (0,0))/\Below w.heap.size w w':=by
 have hp:=watchNew_ok ai room w h1 h2
 go_enter Tryz.func23,Tryz.ntmps23
 go_wp2_with fail
 refine hp.mono ?_
 rintro e w1 ⟨aj,rfl,hw,hh,a_⟩
 have hs:=a_.size
 go_wp2_with fail
 go_ret2
 exact ⟨_,aj,rfl,hs,hw,aB _ _ _ rfl,(Below.heap_alloc _ _ _ (aw hh)).trans hh,a_.al _⟩
theorem ow (w:World):Calls Tryz.prog 40 #[.nilIface] w fun e w'=>e=.returned (.int .i64 0)/\w'=w:=by
 go_enter Tryz.func40,Tryz.ntmps40
 go_wp2_with fail
 go_ret
 exact ⟨rfl,rfl⟩
theorem errno_nilH (w:World):bZ Tryz.prog 40 #[.nilIface] w fun e w'=>e=.returned (.int .i64 0)/\∃ τ d,w'=re w τ d :=
 bZ.of_calls bk (fun e w τ d x=>⟨x.1,by obtain ⟨_,vX,d',rfl⟩:=x;exact ⟨τ,d,rfl⟩⟩) (fun w x=>by cases x.1) (fun τ d=>(ow (re w τ d)).mono fun e w' ⟨h1,h2⟩=>⟨h1,τ,d,h2⟩)
set_option maxRecDepth 100000 in
set_option maxHeartbeats 1000000 in
theorem monEvent {w:World} {mb aj:Nat} {time:Int} {ao:Option Addr} {n cap:Nat} {D:World->Prop} (hm:w.heap[mb]? = some (.cells #[.pointer (some ⟨aj,0,none⟩)] 104 (0,0))) (hD:∀ w τ d,D w->D (re w τ d))
  (h:bZ Tryz.prog 46 #[.pointer (some ⟨aj,0,none⟩),.int .i64 time,.slice ao n cap] w fun e W'=>e=.returned .nilIface/\D W'):bZ Tryz.prog 24 #[.pointer (some ⟨mb,0,none⟩),.int .i64 time,.slice ao n cap] w fun e W'=>e=.returned (.int .i64 0)/\D W':=by
 have hP:=bk
 have ix:∀ it∈([]:List Item),aR it:=by simp
 have dY:∀ (c:Code),∀ it∈[Item.code c],aR it:=fun c=>aJ trivial (by simp)
 have lj:∀ τ d,(re w τ d).cell? ⟨mb,0,none⟩=some (.pointer (some ⟨aj,0,none⟩)):=fun τ d=>ae (w:=re w τ d) hm rfl
 refine bZ.nJ Tryz.func24 rfl (fun cs bn=>?_)
 simp only [Tryz.ntmps24,List.size_toArray,List.length_cons,List.length_nil,Nat.reduceAdd,Nat.reduceSub,Array.replicate_succ,Array.replicate_zero,List.push_toArray,List.append_toArray,List.nil_append,List.cons_append]
 refine af.seq hP ix bn ?_
 refine af.region hP (dY _) bn ?_
 simp only [List.size_toArray,List.length_cons,List.length_nil,Nat.zero_add,List.range,List.range.loop]
 refine af.val hP (w':=w) (v:=.int .i64 0) rfl (by rfl) (fun τ d=>run_eq_of ?r0) (dY _) bn ?_
 case r0=>intro K hK;go_simp;exact hK
 try walk_nrm
 refine af.nil hP (dY _) bn ?_
 refine af.seq hP ix bn ?_
 refine af.region hP (dY _) bn ?_
 simp only [List.size_toArray,List.length_cons,List.length_nil,Nat.reduceAdd,Nat.zero_add,List.range,List.range.loop]
 refine af.val hP (w':=w) (v:=.pointer (some ⟨mb,0,none⟩)) rfl (by rfl) (fun τ d=>run_eq_of ?r1) (dY _) bn ?_
 case r1=>intro K hK;go_simp;exact hK
 try walk_nrm
 refine af.val hP (w':=w) (v:=.pointer (some ⟨mb,0,none⟩)) rfl (by rfl) (fun τ d=>run_eq_of ?r2) (dY _) bn ?_
 case r2=>intro K hK;go_simp;exact hK
 try walk_nrm
 refine af.val hP (w':=w) (v:=.pointer (some ⟨mb,0,none⟩)) rfl (by rfl) (fun τ d=>run_eq_of ?r3) (dY _) bn ?_
 case r3=>intro K hK;go_simp;exact hK
 try walk_nrm
 refine af.val hP (w':=w) (v:=.pointer (some ⟨aj,0,none⟩)) rfl (by rfl) (fun τ d=>run_eq_of ?r4) (dY _) bn ?_
 case r4=>intro K hK;have:=lj τ d;go_simp;exact hK
 try walk_nrm
 refine af.val hP (w':=w) (v:=.int .i64 time) rfl (by rfl) (fun τ d=>run_eq_of ?r5) (dY _) bn ?_
 case r5=>intro K hK;go_simp;exact hK
 try walk_nrm
 refine af.val hP (w':=w) (v:=.slice ao n cap) rfl (by rfl) (fun τ d=>run_eq_of ?r6) (dY _) bn ?_
 case r6=>intro K hK;go_simp;exact hK
 try walk_nrm
 refine af.call hP (f:=46) (args:=#[.pointer (some ⟨aj,0,none⟩),.int .i64 time,.slice ao n cap]) rfl (by rfl) (fun τ d=>?c7) (dY _) bn h (fun e w' x=>⟨_,x.1⟩) ?_
 case c7=>rw [run_call_body (f:=46) (args:=#[.tmp 10,.tmp 11,.tmp 12]) (ats:=#[100,3,31]) rfl Tryz.func46 (by decide) rfl];simp only [List.map_toArray,List.map_cons,List.map_nil];rfl
 rintro v w1 ⟨hv,hD1⟩
 cases hv
 try walk_nrm
 refine af.call hP (f:=40) (args:=#[.nilIface]) rfl (by rfl) (fun τ d=>?c8) (dY _) bn (errno_nilH w1) (fun e w' x=>⟨_,x.1⟩) ?_
 case c8=>rw [run_call_body (f:=40) (args:=#[.tmp 13]) (ats:=#[89]) rfl Tryz.func40 (by decide) rfl];simp only [List.map_toArray,List.map_cons,List.map_nil];rfl
 rintro v w2 ⟨hv,τ,d,rfl⟩
 cases hv
 refine af.other ?_ τ d
 try walk_nrm
 refine af.val hP (w':=w1) (v:=.int .i64 0) rfl (by rfl) (fun τ d=>run_eq_of ?r9) (dY _) bn ?_
 case r9=>intro K hK;go_simp;exact hK
 try walk_nrm
 refine af.nil hP (dY _) bn ?_
 exact af.ret hP ix bn Tryz.func24 rfl (fun τ d=>by simp [results,go_sem,Tryz.f24]) (fun τ d=>⟨rfl,hD _ _ _ hD1⟩)
end Ev
section
open Go.RowKit Go.Deep Go.Maps
theorem key_ok (a:aO) (p q:Int) (aN:oa a.op\/a.op=116\/a.op=97) (hn:a.name.size<=8) (h0:0<=a.lo/\a.lo<=a.hi/\a.hi<=1000000) (hp:0<=p/\p<=1000000000000000000) (hq:0<=q/\q<=1000000000000000000):Key.OK ⟨a.op,a.name,a.lo,a.hi,p,q⟩ :=
 ⟨by rcases aN with (e | e | e | e | e | e | e) | e | e<;>(show (Lit.int .i32 a.op).wf=true;rw [e];decide),Nat.le_trans hn (by decide),(show (Lit.int .i64 (a.lo)).wf=true from WalkArith.wf_i64 (by omega)),(show (Lit.int .i64 (a.hi)).wf=true from WalkArith.wf_i64 (by omega)),(show (Lit.int .i64 (p)).wf=true from WalkArith.wf_i64 (by omega)),(show (Lit.int .i64 (q)).wf=true from WalkArith.wf_i64 (by omega))⟩
theorem qX:ByteArray.empty.size<=8:=by decide
theorem put_any:∀ x:BT aO,PutOK x:=by
 intro x
 induction x with
 | nil =>
  intro v Bt B tb mb nv K w hs _ ht _
  obtain rfl:v=.pointer none:=hs
  refine (put_nil _ w).mono ?_
  rintro e w' ⟨rfl,rfl⟩
  exact ⟨rfl,nv,ht,bu.refl _ _ _ _ _⟩
 | node b0 o0 a l r il ir =>
  intro v Bt B tb mb nv K w hs hg ht hlen
  have hg:Good (.node b0 o0 a l r):=by
   rcases hg with hg | hg
   ·cases hg
   ·exact hg
  have hlen2:K.length+(aV l+aV r+1)<=1000000000000:=hlen
  rcases hg with ⟨h1,h2,h3,h4,rfl,rfl⟩ | ⟨h1,⟨_,n2,_⟩,h3,h4,rfl,rfl⟩ | ⟨h1,h2,h3,h4,gl,gr⟩ | ⟨h1,h2,h3,h4,gl,rfl⟩
  ·exact vE b0 o0 a _ _ il ir (.inl rfl) (.inl rfl) v Bt B tb mb nv K w hs (fun p q a1 a2 a3 a4=>key_ok a p q (.inr (.inl h1)) (by rw [h2];exact qX) (by omega) ⟨a1,a2⟩ ⟨a3,a4⟩) ht hlen2
  ·exact vE b0 o0 a _ _ il ir (.inl rfl) (.inl rfl) v Bt B tb mb nv K w hs (fun p q a1 a2 a3 a4=>key_ok a p q (.inr (.inr h1)) n2 (by omega) ⟨a1,a2⟩ ⟨a3,a4⟩) ht hlen2
  ·exact vE b0 o0 a _ _ il ir (.inr gl) (.inr gr) v Bt B tb mb nv K w hs (fun p q a1 a2 a3 a4=>key_ok a p q (.inl (by unfold oa;omega)) (by rw [h2];exact qX) h3 ⟨a1,a2⟩ ⟨a3,a4⟩) ht hlen2
  ·exact vE b0 o0 a _ _ il ir (.inr gl) (.inl rfl) v Bt B tb mb nv K w hs (fun p q a1 a2 a3 a4=>key_ok a p q (.inl (by unfold oa;omega)) (by rw [h2];exact qX) h3 ⟨a1,a2⟩ ⟨a3,a4⟩) ht hlen2
def sC (B tb:Nat) (w:World) (K:List Key):Prop:=(w.heap[tb]? = some (.cells #[.map none,.slice none 0 0] 97 (0,0))/\K=[]/\B<=tb)\/∃ mb nv,c_ B tb mb nv w K
theorem sC.new (B:Nat) (w:World) (hB:B<=w.heap.size):sC B w.heap.size (w.alloc (.cells #[.map none,.slice none 0 0] 97 (0,0))) []:=.inl ⟨aB _ _ _ rfl,rfl,hB⟩
theorem sC.below {B tb:Nat} {w w':World} {K:List Key} (h:sC B tb w K) (hb:Below w.heap.size w w'):sC B tb w' K:=by
 rcases h with ⟨h1,h2,h3⟩ | ⟨mb,nv,h2⟩
 ·exact .inl ⟨hb.aE h1,h2,h3⟩
 ·exact .inr ⟨mb,nv,h2.below hb⟩
theorem heap_set1 {w:World} {k:Nat} {u v x:Value} {e:TypeId} {m:Nat×Nat} (h:w.heap[k]? = some (.cells #[u,x] e m)):(w.setCell ⟨k,0,none⟩ v).heap[k]? = some (.cells #[v,x] e m):=by
 simp [World.setCell,Array.getElem?_modify,h]
set_option maxHeartbeats 400000 in
theorem count_any (B tb:Nat) (K:List Key) (w:World) (ht:sC B tb w K) :
  Calls Tryz.prog 44 #[.pointer (some ⟨tb,0,none⟩)] w fun e w'=>e=.returned (.int .i64 (K.length:Int))/\w'=w:=by
 rcases ht with ⟨h1,rfl,_⟩ | ⟨mb,nv,h2⟩
 ·have lj:w.cell? ⟨tb,1,none⟩=some (.slice none 0 0):=ae h1 rfl
  go_enter Tryz.func44,Tryz.ntmps44
  go_wp2_with fail
  go_ret
  exact ⟨rfl,rfl⟩
 ·obtain ⟨h1,_,⟨_,⟨rfl,h3⟩ | ⟨g,cap,cur,rfl,_⟩⟩,_⟩:=h2
  ·have lj:w.cell? ⟨tb,1,none⟩=some (.slice none 0 0):=ae h1 rfl
   rw [h3]
   go_enter Tryz.func44,Tryz.ntmps44
   go_wp2_with fail
   go_ret
   exact ⟨rfl,rfl⟩
  ·have lj:w.cell? ⟨tb,1,none⟩=some (.slice (some ⟨g,0,none⟩) K.length cap):=ae h1 rfl
   go_enter Tryz.func44,Tryz.ntmps44
   go_wp2_with fail
   go_ret
   exact ⟨rfl,rfl⟩
end
section
open Go.RowKit Go.Deep
theorem below_drewN (w:World) (n:Nat):Below w.heap.size w (w.drewN n):=⟨rfl,rfl,rfl,Nat.le_refl _,fun _ _=>rfl⟩
end
namespace Ev
open Go.RowKit Go.Deep Go.Maps
theorem iy:(Tryz.prog.info? 183).map (fun i=>(i.zero,i.size,i.bytes))=some (some (.agg #[.string ⟨#[]⟩,.pointer none,.int .i64 0,.int .i64 0,.pointer none]),5,48):=by kernel_rfl
set_option maxHeartbeats 2000000 in
set_option maxRecDepth 100000 in
theorem cloneVer_some (b off n c:Nat) (xs:List Value) (w:World) (hl:xs.length=n*4) (hn:n<=1000000) (hc:∀ j u,xs[j]? = some u->w.cell? ⟨b,off+j,none⟩=some u) (h1:∀ u∈xs,u.oneCell'=true) :
  Calls Tryz.prog 94 #[.slice (some ⟨b,off,none⟩) n c] w fun e w'=>∃ v',e=.returned v'/\w'.ownsRow w.heap.size 59 4 v' n xs/\Below w.heap.size w w':=by
 obtain ⟨i0,hi,lr,iU,lu⟩:=info_parts Go.Proofs.YtpbbmagjhkakgaaGreatDoor.Lf.rF
 have q22:∀ (w:World) (a:Option Addr) (n c n' c':Nat),(binOp .eql 54 (.slice a n c) (.slice none n' c')).run Tryz.prog w=.ok (.bool a.isNone) w:=fun w a n c n' c'=>Lib.run_eql_slice_nil w _ _ a n c n' c' Tryz.underlying54
 have A:Hid (∀ j u,xs[j]? = some u->w.cell? ⟨b,off+j,none⟩=some u):=hc
 have HL:Hid (xs.length=n*4):=hl
 clear hc hl
 go_enter Tryz.func94,Tryz.ntmps94
 go_wp2_with (at_builtin;refine wpList_append_own _ rfl _ _ 54 rfl w.heap.size 59 i0 (.agg #[.int .i64 0,.int .i64 0,.int .i64 0,.bool false]) 4 32 Tryz.underlying54 hi lr iU lu rfl (by decide) _ _ _ rfl (World.ownsRow_made w #[] 0 (Nat.le_refl _) (Nat.zero_le _) rfl) ⟨b,off,none⟩ n c xs rfl ?qc1 ?qc2 ?qc3 ?qc4 ?qc5 ?qc6 ?_)
 case qc1=>exact HL.out
 case qc2 =>
  intro j u hj
  rw [Addr.add_lit]
  exact Lib.cell?_alloc_some _ (A.out j u hj)
 case qc3=>exact h1
 case qc4=>unfold maxLen;omega
 case qc5=>omega
 case qc6=>simp
 intro v' w1 cE bz hnil
 go_wp2_with fail
 go_ret
 refine ⟨v',rfl,by simpa using cE,?_⟩
 exact ((Below.refl _ w).alloc (Nat.le_refl _) _).grown bz (by simp) (by intro k hk;simp [Value.ownBlock] at hk;omega)
theorem cloneVer_nil (n c:Nat) (w:World):Calls Tryz.prog 94 #[.slice none n c] w fun e w'=>e=.returned (.slice none 0 0)/\w'=w:=by
 have q22:∀ (w:World) (a:Option Addr) (n c n' c':Nat),(binOp .eql 54 (.slice a n c) (.slice none n' c')).run Tryz.prog w=.ok (.bool a.isNone) w:=fun w a n c n' c'=>Lib.run_eql_slice_nil w _ _ a n c n' c' Tryz.underlying54
 go_enter Tryz.func94,Tryz.ntmps94
 go_wp2_with fail
 go_ret
 exact ⟨rfl,rfl⟩
set_option maxHeartbeats 2000000 in
set_option maxRecDepth 100000 in
theorem clonePol_some (b off n c:Nat) (xs:List Value) (w:World) (hl:xs.length=n*5) (hn:n<=1000000) (hc:∀ j u,xs[j]? = some u->w.cell? ⟨b,off+j,none⟩=some u) (h1:∀ u∈xs,u.oneCell'=true) :
  Calls Tryz.prog 100 #[.slice (some ⟨b,off,none⟩) n c] w fun e w'=>∃ v',e=.returned v'/\w'.ownsRow w.heap.size 183 5 v' n xs/\Below w.heap.size w w':=by
 obtain ⟨i0,hi,lr,iU,lu⟩:=info_parts iy
 have q22:∀ (w:World) (a:Option Addr) (n c n' c':Nat),(binOp .eql 151 (.slice a n c) (.slice none n' c')).run Tryz.prog w=.ok (.bool a.isNone) w:=fun w a n c n' c'=>Lib.run_eql_slice_nil w _ _ a n c n' c' Tryz.underlying151
 have A:Hid (∀ j u,xs[j]? = some u->w.cell? ⟨b,off+j,none⟩=some u):=hc
 have HL:Hid (xs.length=n*5):=hl
 clear hc hl
 go_enter Tryz.func100,Tryz.ntmps100
 go_wp2_with (at_builtin;refine wpList_append_own _ rfl _ _ 151 rfl w.heap.size 183 i0 (.agg #[.string ⟨#[]⟩,.pointer none,.int .i64 0,.int .i64 0,.pointer none]) 5 48 Tryz.underlying151 hi lr iU lu rfl (by decide) _ _ _ rfl (World.ownsRow_made w #[] 0 (Nat.le_refl _) (Nat.zero_le _) rfl) ⟨b,off,none⟩ n c xs rfl ?qc1 ?qc2 ?qc3 ?qc4 ?qc5 ?qc6 ?_)
 case qc1=>exact HL.out
 case qc2 =>
  intro j u hj
  rw [Addr.add_lit]
  exact Lib.cell?_alloc_some _ (A.out j u hj)
 case qc3=>exact h1
 case qc4=>unfold maxLen;omega
 case qc5=>omega
 case qc6=>simp
 intro v' w1 cE bz hnil
 go_wp2_with fail
 go_ret
 refine ⟨v',rfl,by simpa using cE,?_⟩
 exact ((Below.refl _ w).alloc (Nat.le_refl _) _).grown bz (by simp) (by intro k hk;simp [Value.ownBlock] at hk;omega)
theorem clonePol_nil (n c:Nat) (w:World):Calls Tryz.prog 100 #[.slice none n c] w fun e w'=>e=.returned (.slice none 0 0)/\w'=w:=by
 have q22:∀ (w:World) (a:Option Addr) (n c n' c':Nat),(binOp .eql 151 (.slice a n c) (.slice none n' c')).run Tryz.prog w=.ok (.bool a.isNone) w:=fun w a n c n' c'=>Lib.run_eql_slice_nil w _ _ a n c n' c' Tryz.underlying151
 go_enter Tryz.func100,Tryz.ntmps100
 go_wp2_with fail
 go_ret
 exact ⟨rfl,rfl⟩
set_option maxHeartbeats 2000000 in
set_option maxRecDepth 100000 in
theorem cloneEv_some (b off n c:Nat) (xs:List Value) (w:World) (hl:xs.length=n*4) (hn:n<=1000000) (hc:∀ j u,xs[j]? = some u->w.cell? ⟨b,off+j,none⟩=some u) (h1:∀ u∈xs,u.oneCell'=true) :
  Calls Tryz.prog 175 #[.slice (some ⟨b,off,none⟩) n c] w fun e w'=>∃ v',e=.returned v'/\w'.ownsRow w.heap.size 159 4 v' n xs/\Below w.heap.size w w':=by
 obtain ⟨i0,hi,lr,iU,lu⟩:=info_parts oM
 have q22:∀ (w:World) (a:Option Addr) (n c n' c':Nat),(binOp .eql 146 (.slice a n c) (.slice none n' c')).run Tryz.prog w=.ok (.bool a.isNone) w:=fun w a n c n' c'=>Lib.run_eql_slice_nil w _ _ a n c n' c' Tryz.underlying146
 have A:Hid (∀ j u,xs[j]? = some u->w.cell? ⟨b,off+j,none⟩=some u):=hc
 have HL:Hid (xs.length=n*4):=hl
 clear hc hl
 go_enter Tryz.func175,Tryz.ntmps175
 go_wp2_with (at_builtin;refine wpList_append_own _ rfl _ _ 146 rfl w.heap.size 159 i0 (.agg #[.int .i64 0,.int .i64 0,.slice none 0 0,.slice none 0 0]) 4 64 Tryz.underlying146 hi lr iU lu rfl (by decide) _ _ _ rfl (World.ownsRow_made w #[] 0 (Nat.le_refl _) (Nat.zero_le _) rfl) ⟨b,off,none⟩ n c xs rfl ?qc1 ?qc2 ?qc3 ?qc4 ?qc5 ?qc6 ?_)
 case qc1=>exact HL.out
 case qc2 =>
  intro j u hj
  rw [Addr.add_lit]
  exact Lib.cell?_alloc_some _ (A.out j u hj)
 case qc3=>exact h1
 case qc4=>unfold maxLen;omega
 case qc5=>omega
 case qc6=>simp
 intro v' w1 cE bz hnil
 go_wp2_with fail
 go_ret
 refine ⟨v',rfl,by simpa using cE,?_⟩
 exact ((Below.refl _ w).alloc (Nat.le_refl _) _).grown bz (by simp) (by intro k hk;simp [Value.ownBlock] at hk;omega)
theorem cloneEv_nil (n c:Nat) (w:World):Calls Tryz.prog 175 #[.slice none n c] w fun e w'=>e=.returned (.slice none 0 0)/\w'=w:=by
 have q22:∀ (w:World) (a:Option Addr) (n c n' c':Nat),(binOp .eql 146 (.slice a n c) (.slice none n' c')).run Tryz.prog w=.ok (.bool a.isNone) w:=fun w a n c n' c'=>Lib.run_eql_slice_nil w _ _ a n c n' c' Tryz.underlying146
 go_enter Tryz.func175,Tryz.ntmps175
 go_wp2_with fail
 go_ret
 exact ⟨rfl,rfl⟩
set_option maxHeartbeats 2000000 in
set_option maxRecDepth 100000 in
theorem cloneNode_some (b off n c:Nat) (xs:List Value) (w:World) (hl:xs.length=n*6) (hn:n<=1000000) (hc:∀ j u,xs[j]? = some u->w.cell? ⟨b,off+j,none⟩=some u) (h1:∀ u∈xs,u.oneCell'=true) :
  Calls Tryz.prog 177 #[.slice (some ⟨b,off,none⟩) n c] w fun e w'=>∃ v',e=.returned v'/\w'.ownsRow w.heap.size 226 6 v' n xs/\Below w.heap.size w w':=by
 obtain ⟨i0,hi,lr,iU,lu⟩:=info_parts infoNode
 have q22:∀ (w:World) (a:Option Addr) (n c n' c':Nat),(binOp .eql 95 (.slice a n c) (.slice none n' c')).run Tryz.prog w=.ok (.bool a.isNone) w:=fun w a n c n' c'=>Lib.run_eql_slice_nil w _ _ a n c n' c' Tryz.underlying95
 have A:Hid (∀ j u,xs[j]? = some u->w.cell? ⟨b,off+j,none⟩=some u):=hc
 have HL:Hid (xs.length=n*6):=hl
 clear hc hl
 go_enter Tryz.func177,Tryz.ntmps177
 go_wp2_with (at_builtin;refine wpList_append_own _ rfl _ _ 95 rfl w.heap.size 226 i0 (.agg #[.int .i32 0,.string ⟨#[]⟩,.int .i64 0,.int .i64 0,.int .i64 0,.int .i64 0]) 6 56 Tryz.underlying95 hi lr iU lu rfl (by decide) _ _ _ rfl (World.ownsRow_made w #[] 0 (Nat.le_refl _) (Nat.zero_le _) rfl) ⟨b,off,none⟩ n c xs rfl ?qc1 ?qc2 ?qc3 ?qc4 ?qc5 ?qc6 ?_)
 case qc1=>exact HL.out
 case qc2 =>
  intro j u hj
  rw [Addr.add_lit]
  exact Lib.cell?_alloc_some _ (A.out j u hj)
 case qc3=>exact h1
 case qc4=>unfold maxLen;omega
 case qc5=>omega
 case qc6=>simp
 intro v' w1 cE bz hnil
 go_wp2_with fail
 go_ret
 refine ⟨v',rfl,by simpa using cE,?_⟩
 exact ((Below.refl _ w).alloc (Nat.le_refl _) _).grown bz (by simp) (by intro k hk;simp [Value.ownBlock] at hk;omega)
theorem cloneNode_nil (n c:Nat) (w:World):Calls Tryz.prog 177 #[.slice none n c] w fun e w'=>e=.returned (.slice none 0 0)/\w'=w:=by
 have q22:∀ (w:World) (a:Option Addr) (n c n' c':Nat),(binOp .eql 95 (.slice a n c) (.slice none n' c')).run Tryz.prog w=.ok (.bool a.isNone) w:=fun w a n c n' c'=>Lib.run_eql_slice_nil w _ _ a n c n' c' Tryz.underlying95
 go_enter Tryz.func177,Tryz.ntmps177
 go_wp2_with fail
 go_ret
 exact ⟨rfl,rfl⟩
theorem cU {S:TypeId} {w w':World} (hh:∀ (k:Nat) (cs:Array Value),w.heap[k]? = some (Obj.cells cs S (0,0))->w'.heap[k]? = some (Obj.cells cs S (0,0))):∀ {x:BT aO} {v:Value},aC S 0 w x v->aC S 0 w' x v
 | .nil,_,h=>h
 | .node _ _ _ l r,_,⟨b,vl,vr,e,hb,hc,hl,hr⟩=>⟨b,vl,vr,e,hb,hh b _ hc,cU hh (x:=l) hl,cU hh (x:=r) hr⟩
theorem sent_zero {S:TypeId} {B:Nat} {w:World}:∀ {x:BT aO} {v:Value},aC S B w x v->aC S 0 w x v
 | .nil,_,h=>h
 | .node _ _ _ l r,_,⟨b,vl,vr,e,_,hc,hl,hr⟩=>⟨b,vl,vr,e,Nat.zero_le _,hc,sent_zero (x:=l) hl,sent_zero (x:=r) hr⟩
set_option maxHeartbeats 400000 in
theorem putTop0 (x:BT aO) (v:Value) (B tb:Nat) (K:List Key) (w:World) (hs:aC 143 0 w x v) (hg:Good x) (ht:sC B tb w K) (hlen:K.length+aV (ak x)<=1000000000000) :
  Calls Tryz.prog 43 #[.pointer (some ⟨tb,0,none⟩),v] w fun e w'=>e=.returned (.int .i64 (aX K (ak x)).1)/\sC B tb w' (aX K (ak x)).2/\Below B w w':=by
 obtain ⟨vv,rfl⟩:∃ vv,v=Value.pointer vv:=gZ hs
 have q1:∀ (w:World) (r:Option Nat),(binOp .eql 94 (.map r) (.map none)).run Tryz.prog w=.ok (.bool r.isNone) w:=fun w r=>run_eql_map_nil w _ _ _ r Tryz.underlying94
 have gc:=cA hg
 rcases ht with ⟨h1,rfl,hB⟩ | ⟨mb,nv,h2⟩
 ·have lj:w.cell? ⟨tb,0,none⟩=some (.map none):=ae h1 rfl
  have hf0:w.frozen? ⟨tb,0,none⟩=false:=Lib.frozen_of_heap h1 0
  have cz:=aw h1
  have hne:tb≠w.heap.size:=by omega
  have oK:(w.setCell ⟨tb,0,none⟩ (.map (some w.heap.size))).heap.size=w.heap.size:=by simp [World.setCell]
  have hoT:Only tb w ((w.setCell ⟨tb,0,none⟩ (.map (some w.heap.size))).alloc (.map #[] 0)):=((Only.refl tb w).setCell (p:=⟨tb,0,none⟩) (.inl rfl) _).alloc _
  have hT:c_ B tb w.heap.size (.slice none 0 0) ((w.setCell ⟨tb,0,none⟩ (.map (some w.heap.size))).alloc (.map #[] 0)) []:=by
   refine ⟨?_,?_,World.ownsRow_nil _ _ _ _,hB,by omega⟩
   ·rw [Below.heap_alloc _ _ _ (by rw [oK];exact cz)];exact heap_set1 h1
   ·have:=iC.made (w.setCell ⟨tb,0,none⟩ (.map (some w.heap.size)))
    rw [oK] at this
    exact this
  have hsT:aC 143 0 ((w.setCell ⟨tb,0,none⟩ (.map (some w.heap.size))).alloc (.map #[] 0)) x (.pointer vv):=cU (fun k cs hk=>hoT.heap hk (by rintro rfl;rw [h1] at hk;cases hk)) hs
  have hO:=of_any x (.pointer vv) 0 _ hsT hg (Nat.zero_le _)
  have hmm:(Instr.makeMap 94 none).run Tryz.prog w=.ok (.map (some w.heap.size)) (w.alloc (.map #[] 0)):=rfl
  go_enter Tryz.func43,Tryz.ntmps43
  go_wp2_with fail
  refine hO.mono ?_
  rintro e w1 ⟨p,rfl,kS,a_⟩
  have hP:=put_any (ak x) (.pointer p) 0 B tb w.heap.size (.slice none 0 0) [] w1 kS (.inr gc) (hT.below a_) hlen
  clear hO
  go_wp2_with fail
  refine hP.mono ?_
  rintro e w2 ⟨rfl,nv2,ht2,jE⟩
  clear hP
  go_wp2_with fail
  go_ret
  refine ⟨rfl,.inr ⟨w.heap.size,nv2,ht2⟩,?_⟩
  have b1:Below B w w1:=(hoT.below hB (by omega)).trans (a_.mono (by have:=hoT.size;omega))
  exact b1.trans jE.below
 ·have lj:w.cell? ⟨tb,0,none⟩=some (.map (some mb)):=ae h2.1 rfl
  have uX:=h2.base
  have hO:=of_any x (.pointer vv) 0 w hs hg (Nat.zero_le _)
  go_enter Tryz.func43,Tryz.ntmps43
  go_wp2_with fail
  refine hO.mono ?_
  rintro e w1 ⟨p,rfl,kS,a_⟩
  have hP:=put_any (ak x) (.pointer p) 0 B tb mb nv K w1 kS (.inr gc) (h2.below a_) hlen
  clear hO
  go_wp2_with fail
  refine hP.mono ?_
  rintro e w2 ⟨rfl,nv2,ht2,jE⟩
  clear hP
  go_wp2_with fail
  go_ret
  refine ⟨rfl,.inr ⟨mb,nv2,ht2⟩,?_⟩
  have b1:Below B w w1:=a_.mono (by omega)
  exact b1.trans jE.below
theorem keyOnes (K:List Key):∀ u∈gh K,u.oneCell'=true:=by
 intro u hu
 simp only [gh,List.mem_flatten,List.mem_map] at hu
 obtain ⟨l,⟨k,_,rfl⟩,h⟩:=hu
 exact keyOne k u h
theorem flatK_len (K:List Key):(gh K).length=K.length*6:=ft eP 6 (fun _=>rfl) K
theorem tabNodes_any (B tb:Nat) (K:List Key) (w:World) (ht:sC B tb w K) (hK:K.length<=1000000):Calls Tryz.prog 143 #[.pointer (some ⟨tb,0,none⟩)] w fun e w'=>∃ v',e=.returned v'/\w'.ownsRow w.heap.size 226 6 v' K.length (gh K)/\Below w.heap.size w w':=by
 have key:∀ nv,w.cell? ⟨tb,1,none⟩=some nv->w.ownsRow B 226 6 nv K.length (gh K)->Calls Tryz.prog 143 #[.pointer (some ⟨tb,0,none⟩)] w fun e w'=>∃ v',e=.returned v'/\w'.ownsRow w.heap.size 226 6 v' K.length (gh K)/\Below w.heap.size w w':=by
  intro nv hc hr
  have hr0:=hr
  obtain ⟨_,⟨rfl,h3⟩ | ⟨g,cap,cur,rfl,_⟩⟩:=hr
  ·have hk:K=[]:=List.length_eq_zero_iff.1 h3
   subst hk
   have om:=cloneNode_nil 0 0 w
   go_enter Tryz.func143,Tryz.ntmps143
   go_wp2_with fail
   refine om.mono ?_
   rintro e w1 ⟨rfl,rfl⟩
   go_wp2_with fail
   go_ret
   exact ⟨_,rfl,World.ownsRow_nil _ _ _ _,Below.refl _ _⟩
  ·have om:=cloneNode_some g 0 K.length cap (gh K) w (flatK_len K) hK (fun j u hj=>by rw [Nat.zero_add];exact gH hr0 rfl hj) (keyOnes K)
   have Hr:Hid (w.ownsRow B 226 6 (.slice (some ⟨g,0,none⟩) K.length cap) K.length (gh K)):=hr0
   clear hr0
   generalize gh K=xs at *
   generalize K.length=n at *
   go_enter Tryz.func143,Tryz.ntmps143
   go_wp2_with fail
   refine om.mono ?_
   rintro e w1 ⟨v',rfl,ho,hb⟩
   go_wp2_with fail
   go_ret
   exact ⟨_,rfl,ho,hb⟩
 rcases ht with ⟨h1,rfl,hB⟩ | ⟨mb,nv,h1,_,h3,_⟩
 ·exact key _ (ae h1 rfl) (World.ownsRow_nil _ _ _ _)
 ·exact key _ (ae h1 rfl) h3
end Ev
end Go.Proofs.YtpbbmagjhkakgaaGreatDoor
