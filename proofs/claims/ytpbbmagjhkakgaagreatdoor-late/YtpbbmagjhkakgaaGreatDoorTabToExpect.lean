import Derived.Test.YtpbbmagjhkakgaaGreatDoorShelfToPureScan
import Derived.Test.YtpbbmagjhkakgaaGreatDoorPureTreeToPureTab
import Derived.Test.YtpbbmagjhkakgaaGreatDoorProg
import Derived.Maps.OwnSet
import Derived.DeepKeys4
import Derived.MapViews
namespace Go.Proofs.YtpbbmagjhkakgaaGreatDoor
open Go.RowKit Go.Deep Go.Maps
def keyVal (k:Key):Value:=.agg #[.int .i32 k.op,.string k.name,.int .i64 k.lo,.int .i64 k.hi,.int .i64 k.l,.int .i64 k.r]
structure Key.OK (k:Key):Prop where
 op:(Lit.int .i32 k.op).wf=true
 name:k.name.size<=maxLen
 lo:(Lit.int .i64 k.lo).wf=true
 hi:(Lit.int .i64 k.hi).wf=true
 l:(Lit.int .i64 k.l).wf=true
 r:(Lit.int .i64 k.r).wf=true
theorem kType:Tryz.prog.keyType 226=true:=by kernel_rfl
theorem kFormed (k:Key):(keyVal k).formed Tryz.prog 226=true:=by kernel_rfl
theorem kSize:Tryz.prog.types.size=386:=by kernel_rfl
theorem kcNode:Tryz.prog.cellsOf 226=6:=by kernel_rfl
theorem kcOp:Tryz.prog.cellsOf 141=1:=by kernel_rfl
theorem kcStr:Tryz.prog.cellsOf 9=1:=by kernel_rfl
theorem kcWin:Tryz.prog.cellsOf 140=2:=by kernel_rfl
theorem kcInt:Tryz.prog.cellsOf 3=1:=by kernel_rfl
def klits (k:Key):List Lit:=[.int .i32 k.op,.string k.name.data.toList,.int .i64 k.lo,.int .i64 k.hi,.int .i64 k.l,.int .i64 k.r]
def klit (k:Key):Lit:=.string (keyBytes (klits k))
theorem lits_any (d:Nat) (k:Key) (h:k.OK):Tryz.prog.keyLits (d+1+1+1) 226 [.int .i32 k.op,.string k.name,.int .i64 k.lo,.int .i64 k.hi,.int .i64 k.l,.int .i64 k.r]=some (klits k):=by
 simp [Program.keyLits,Tryz.underlying226,Tryz.underlying141,Tryz.underlying9,Tryz.underlying140,Tryz.underlying3,kcNode,kcOp,kcStr,kcWin,kcInt,h.op,h.name,h.lo,h.hi,h.l,h.r,klits]
 rw [if_pos (by intro i hi;match i,hi with | 0,_=>simp | 1,_=>simp)]
 rfl
theorem key_lit (k:Key) (h:k.OK):keyOf Tryz.prog 226 (keyVal k)=some (klit k):=by
 unfold keyOf
 rw [Tryz.underlying226]
 simp only [kType,kFormed,Bool.and_self,if_true]
 rw [kSize]
 exact congrArg (Option.map fun ls=>Lit.string (keyBytes ls)) (lits_any 384 k h)
theorem laidOut:laidOutB Tryz.prog=true:=by kernel_rfl
theorem law:Keyed Tryz.prog 226:=Keyed.of_law (deep_law_laid laidOut (m:=3) (by omega) (of_decide_eq_true (by kernel_rfl)) (by kernel_rfl) (by kernel_rfl))
theorem zeroInt (w:World):(zeroValue 3).run Tryz.prog w=.ok (.int .i64 0) w:=by kernel_rfl
theorem klit_inj {k q:Key} (hk:k.OK) (hq:q.OK) (h:klit k=klit q):k=q:=by
 have e:=law.inj (key_lit k hk) (by rw [h];exact key_lit q hq)
 cases k;cases q
 simp [keyVal] at e
 obtain ⟨h1,h2,h3,h4,h5,h6⟩:=e
 subst h1;subst h2;subst h3;subst h4;subst h5;subst h6
 rfl
def MapAt (mb:Nat) (w:World) (K:List Key):Prop :=
 ∃ (n:Nat) (D:DataW Unit),w.ownsMap Tryz.prog 226 (plainElem Tryz.prog 3) mb n D/\n<=K.length/\Maps.size D=K.length/\(∀ k,k∈K->k.OK)/\
  ∀ k:Key,k.OK->Maps.has D (klit k)=(numK K k).isSome/\D.atKey (klit k) (.lit (.int .i64 0))=.lit (.int .i64 (numI K k))
theorem MapAt.lt {mb:Nat} {w:World} {K:List Key} (h:MapAt mb w K):mb<w.heap.size:=by obtain ⟨n,D,ho,_⟩:=h;exact ho.lt
theorem MapAt.made (w:World):MapAt w.heap.size (w.alloc (.map #[] 0)) [] :=
 ⟨0,.map [],World.ownsMap_made w _ _ _,Nat.le_refl _,rfl,by simp,fun k _=>⟨rfl,rfl⟩⟩
theorem MapAt.heap {mb:Nat} {w w':World} {K:List Key} (h:MapAt mb w K) (hb:w'.heap[mb]? = w.heap[mb]?):MapAt mb w' K:=by
 obtain ⟨n,D,⟨es,clock,h1,h2⟩,r⟩:=h
 exact ⟨n,D,⟨es,clock,by rw [hb];exact h1,h2⟩,r⟩
theorem MapAt.look {mb:Nat} {w:World} {K:List Key} (h:MapAt mb w K) (k:Key) (hk:k.OK) :
  (Instr.lookup 94 (.map (some mb)) (keyVal k) true).run Tryz.prog w=.ok (.tuple #[.int .i64 (numI K k),.bool (numK K k).isSome]) w:=by
 obtain ⟨n,D,ho,hn,hs,hK,hall⟩:=h
 obtain ⟨h1,h2⟩:=hall k hk
 obtain ⟨v,ps,hrun,hv⟩:=ho.look_ok law Tryz.underlying94 (zeroInt w) (plainElem_int Tryz.underlying3 (by decide)) (key_lit k hk)
 obtain ⟨c,rfl,hc,_⟩:=plainElem_int_inv Tryz.underlying3 hv
 have hc1:D.atKey (klit k) (.lit (.int .i64 0))=.lit (.int .i64 c):=congrArg Prod.fst hc
 have hc2:numI K k=c:=by
  have h3:=h2.symm.trans hc1
  simp only [DataW.lit.injEq,Lit.int.injEq,true_and] at h3
  exact h3
 rw [h1] at hrun
 rw [hc2]
 exact hrun
theorem MapAt.store {mb:Nat} {w:World} {K:List Key} (h:MapAt mb w K) (k:Key) (hk:k.OK) (hnew:numK K k=none) (hlen:K.length<=1000000000000000000) :
  ∃ w',(Instr.mapUpdate 94 (.map (some mb)) (keyVal k) (.int .i64 ((K.length:Int)+1))).run Tryz.prog w=.ok () w'/\MapAt mb w' (K++[k])/\Only mb w w':=by
 obtain ⟨n,D,ho,hn,hs,hK,hall⟩:=h
 have hwf:(Lit.int .i64 ((K.length:Int)+1)).wf=true:=WalkArith.wf_i64 (by omega)
 obtain ⟨w',hrun,ho',hg⟩:=ho.update law Tryz.underlying94 (by unfold maxLen;omega) (key_lit k hk) (plainElem_int Tryz.underlying3 hwf)
 have hD:=(ho.tidy law).isMap
 refine ⟨w',hrun,⟨n+1,_,ho',by simp;omega,?_,?_,?_⟩,⟨hg.os,hg.tape,hg.output,hg.size,fun i hi hne=>hg.block i hi (by simp;omega)⟩⟩
 ·rw [size_put (ho.tidy law),(hall k hk).1,hnew,hs];simp
 ·intro q hq
  rcases List.mem_append.1 hq with hq | hq
  ·exact hK q hq
  ·simp at hq;subst hq;exact hk
 ·intro q hq
  by_cases e:q=k
  ·subst e
   refine ⟨?_,?_⟩
   ·rw [has_put_same hD (law.key (key_lit q hk)),numK_snoc_same K q hnew];rfl
   ·rw [atKey_put_same hD (law.key (key_lit q hk))];unfold numI;rw [numK_snoc_same K q hnew]
  ·have hne:klit q≠klit k:=fun h=>e (klit_inj hq hk h)
   refine ⟨?_,?_⟩
   ·rw [has_put_other hne,numK_snoc_other K k q e];exact (hall q hq).1
   ·rw [atKey_put_other hne];unfold numI;rw [numK_snoc_other K k q e];exact (hall q hq).2
end Go.Proofs.YtpbbmagjhkakgaaGreatDoor
namespace Go.Proofs.YtpbbmagjhkakgaaGreatDoor
open Go.RowKit
set_option maxHeartbeats 400000 in
theorem joins_any (s:Int) (w:World) :
  Calls Tryz.prog 153 #[.int .i32 s] w fun e w'=>e=.returned (.bool (joinsB s))/\w'=w:=by
 go_enter Tryz.func153,Tryz.ntmps153
 go_wp2
 all_goals go_ret
 all_goals exact ⟨by simp_all [joinsB],rfl⟩
set_option maxHeartbeats 400000 in
theorem hasWindow_any (s:Int) (w:World) :
  Calls Tryz.prog 165 #[.int .i32 s] w fun e w'=>e=.returned (.bool (winB s))/\w'=w:=by
 go_enter Tryz.func165,Tryz.ntmps165
 go_wp2
 all_goals go_ret
 all_goals exact ⟨by simp_all [winB],rfl⟩
set_option maxHeartbeats 1000000 in
theorem signOf_any (r:Int) (w:World) :
  Calls Tryz.prog 151 #[.int .i32 r] w fun e w'=>e=.returned (.int .i32 (signF r))/\w'=w:=by
 go_enter Tryz.func151,Tryz.ntmps151
 go_wp2
 all_goals go_ret
 all_goals refine ⟨ret_int ?_,rfl⟩
 all_goals (try simp_all [signF])
 all_goals ((repeat' split)<;>intros<;>omega)
set_option maxHeartbeats 400000 in
theorem takeF_end (rb tb off n cap:Nat) (pl:Int) (wd:ByteArray) (w:World) (hr:w.heap[rb]? = some (.cells #[.slice (some ⟨tb,off,none⟩) (n+1) cap] 208 (0,0)))
  (h0:w.cell? ⟨tb,off,none⟩=some (.int .i32 (-1))) (h1:w.cell? ⟨tb,off+1,none⟩=some (.int .i64 pl)) (h2:w.cell? ⟨tb,off+2,none⟩=some (.string wd)) :
  Calls Tryz.prog 154 #[.pointer (some ⟨rb,0,none⟩)] w fun e w'=>e=.returned (.agg #[.int .i32 (-1),.int .i64 pl,.string wd])/\Below w.heap.size w w':=by
 have hc:w.cell? ⟨rb,0,none⟩=some (.slice (some ⟨tb,off,none⟩) (n+1) cap):=cell_at hr rfl
 have hrl:rb<w.heap.size:=heap_lt hr
 have htl:tb<w.heap.size:=cell_lt h0
 go_enter Tryz.func154,Tryz.ntmps154
 go_wp2
 refine bodyPost_ret (v:=.agg #[.int .i32 (-1),.int .i64 pl,.string wd]) (by simp [results,Tryz.results154,go_sem]) rfl ⟨rfl,?_⟩
 exact ((Below.refl _ _).alloc (Nat.le_refl _) _).alloc (by simp) _
set_option maxHeartbeats 400000 in
theorem take_go (rb tb off n cap:Nat) (sg pl:Int) (wd:ByteArray) (w:World) (hr:w.heap[rb]? = some (.cells #[.slice (some ⟨tb,off,none⟩) (n+1) cap] 208 (0,0)))
  (h0:w.cell? ⟨tb,off,none⟩=some (.int .i32 sg)) (h1:w.cell? ⟨tb,off+1,none⟩=some (.int .i64 pl)) (h2:w.cell? ⟨tb,off+2,none⟩=some (.string wd)) (hsg:(sg != -1)=true) (hcap:n+1<=cap) (_hmax:cap<=maxLen) (hn:1<=n) :
  Calls Tryz.prog 154 #[.pointer (some ⟨rb,0,none⟩)] w fun e w'=>e=.returned (.agg #[.int .i32 sg,.int .i64 pl,.string wd])/\Only rb w w'/\w'.heap[rb]? = some (.cells #[.slice (some ⟨tb,off+3,none⟩) n (cap-1)] 208 (0,0)):=by
 have hc:w.cell? ⟨rb,0,none⟩=some (.slice (some ⟨tb,off,none⟩) (n+1) cap):=cell_at hr rfl
 have hrl:rb<w.heap.size:=heap_lt hr
 have htl:tb<w.heap.size:=cell_lt h0
 have hfz:w.frozen? ⟨rb,0,none⟩=false:=Lib.frozen_of_heap hr 0
 unfold maxLen at _hmax
 go_enter Tryz.func154,Tryz.ntmps154
 go_wp2
 refine bodyPost_ret (v:=.agg #[.int .i32 sg,.int .i64 pl,.string wd]) (by simp [results,Tryz.results154,go_sem]) rfl ⟨rfl,?_,?_⟩
 ·exact (((Only.refl rb w).setCell (p:=⟨rb,0,none⟩) (.inl rfl) _).alloc _).alloc _
 ·rw [Lib.alloc_old _ _ _ (by simp [World.setCell];omega),Lib.alloc_old _ _ _ (by simp [World.setCell];omega)]
  simp [World.setCell,Array.getElem?_modify,hr]
theorem take_any (rb:Nat) (ts:List Tok) (w:World) (h:RdAt 208 rb w ts) (he:Ends ts) :
  Calls Tryz.prog 154 #[.pointer (some ⟨rb,0,none⟩)] w fun e w'=>e=.returned (.agg #[.int .i32 (takeF ts).1.sign,.int .i64 (takeF ts).1.place,.string (takeF ts).1.word])/\Only rb w w'/\RdAt 208 rb w' (takeF ts).2:=by
 have hl:=he.take
 obtain ⟨v,hv,ht⟩:=h
 match ts,he,hl,ht with
 | [],⟨f,e,hfe,_⟩,_,_=>exact absurd hfe (by simp)
 | t::r,he,hl,ht =>
  obtain ⟨tb,off,cap,rfl,htb,hcap,hmax,h0,h1,h2,hrest⟩:=toks_head ht
  by_cases hs:t.sign = -1
  ·rw [hs] at h0
   refine (takeF_end rb tb off r.length cap t.place t.word w hv h0 h1 h2).mono ?_
   rintro e w' ⟨rfl,hb⟩
   have e1:takeF (t::r)=(t,t::r):=by simp [takeF,hs]
   rw [e1,hs]
   exact ⟨rfl,Only.of_below hb,_,Below.heapOf hb hv,ht.only (Only.of_below hb) (Nat.le_refl _)⟩
  ·have e1:takeF (t::r)=(t,r):=by simp [takeF,hs]
   have hn:1<=r.length:=by
    obtain ⟨f,e,hfe,hes,_⟩:=he
    cases f with
    | nil=>simp at hfe;exact absurd (hfe.1▸hes) hs
    | cons a f=>simp at hfe;rw [hfe.2];simp
   refine (take_go rb tb off r.length cap t.sign t.place t.word w hv h0 h1 h2 (by simp [hs]) hcap hmax hn).mono ?_
   rintro e w' ⟨rfl,ho,hr'⟩
   rw [e1]
   exact ⟨rfl,ho,_,hr',hrest rb w' ho (Nat.le_refl _)⟩
set_option maxHeartbeats 400000 in
theorem expect_yes (rb:Nat) (ts:List Tok) (sg:Int) (why:ByteArray) (w:World) (h:RdAt 208 rb w ts) (he:Ends ts) (hs:(takeF ts).1.sign=sg) :
  Calls Tryz.prog 115 #[.pointer (some ⟨rb,0,none⟩),.int .i32 sg,.string why] w fun e w'=>e=.returned .nilIface/\Only rb w w'/\RdAt 208 rb w' (takeF ts).2:=by
 subst hs
 go_enter Tryz.func115,Tryz.ntmps115
 go_wp2_with fail
 refine (take_any rb ts _ h he).mono ?_
 rintro e w1 ⟨rfl,ho,hr⟩
 go_wp2
 go_ret
 exact ⟨rfl,ho.alloc _,hr.alloc _⟩
set_option maxHeartbeats 400000 in
theorem expect_no (rb:Nat) (ts:List Tok) (sg:Int) (why:ByteArray) (w:World) (h:RdAt 208 rb w ts) (he:Ends ts) (hs:((takeF ts).1.sign != sg)=true) :
  Calls Tryz.prog 115 #[.pointer (some ⟨rb,0,none⟩),.int .i32 sg,.string why] w fun e w'=>∃ fa,e=.returned (.iface 201 (.pointer (some fa)))/\Only rb w w':=by
 go_enter Tryz.func115,Tryz.ntmps115
 go_wp2_with fail
 refine (take_any rb ts _ h he).mono ?_
 rintro e w1 ⟨rfl,ho,hr⟩
 go_wp2
 go_ret
 exact ⟨_,rfl,(ho.alloc _).alloc _⟩
theorem clone_any (s:ByteArray) (w:World) (hlim:s.size<=281474976710656) :
  Calls Tryz.prog 136 #[.string s] w fun e w'=>e=.returned (.string s)/\Below w.heap.size w w':=by
 go_enter Tryz.func136,Tryz.ntmps136
 go_wp2_with fail
 refine (Tryz.stringslite_Clone s w hlim).mono ?_
 rintro e w1 ⟨rfl,hb⟩
 go_wp2
 go_ret
 exact ⟨rfl,hb⟩
theorem expect_any (rb:Nat) (ts:List Tok) (sg:Int) (why:ByteArray) (w:World) (h:RdAt 208 rb w ts) (he:Ends ts) :
  Calls Tryz.prog 115 #[.pointer (some ⟨rb,0,none⟩),.int .i32 sg,.string why] w fun e w'=>Only rb w w'/\((∃ r,expectF sg ts=some r/\e=.returned .nilIface/\RdAt 208 rb w' r)
   \/(expectF sg ts=none/\∃ fa,e=.returned (.iface 201 (.pointer (some fa))))):=by
 by_cases hs:(takeF ts).1.sign=sg
 ·refine (expect_yes rb ts sg why w h he hs).mono ?_
  rintro e w' ⟨rfl,ho,hr⟩
  exact ⟨ho,.inl ⟨_,by unfold expectF;rw [if_pos hs],rfl,hr⟩⟩
 ·refine (expect_no rb ts sg why w h he (by simp [hs])).mono ?_
  rintro e w' ⟨fa,rfl,ho⟩
  exact ⟨ho,.inr ⟨by unfold expectF;rw [if_neg hs],fa,rfl⟩⟩
set_option maxHeartbeats 400000 in
theorem word_true (sg pl:Int) (w:World) :
  Calls Tryz.prog 155 #[.agg #[.int .i32 sg,.int .i64 pl,.string trueB]] w fun e w'=>∃ v,e=.returned (.tuple #[v,.nilIface])/\SentAt 143 w.heap.size w' (mk 116 ByteArray.empty 0 0 .nil .nil) v/\Below w.heap.size w w':=by
 unfold trueB
 go_enter Tryz.func155,Tryz.ntmps155
 go_wp2
 go_ret2
 exact ⟨_,rfl,sent_mk (Nat.le_succ _) (heap_new _ _ _ (by simp)) rfl rfl,((Below.refl _ _).alloc (Nat.le_refl _) _).alloc (by simp) _⟩
set_option maxHeartbeats 400000 in
theorem word_long (sg pl:Int) (wd:ByteArray) (w:World) (ht:(wd.toList==[116,114,117,101])=false) (hl:8<wd.size) (hm:wd.size<=maxLen) :
  Calls Tryz.prog 155 #[.agg #[.int .i32 sg,.int .i64 pl,.string wd]] w fun e w'=>∃ fa,e=.returned (.tuple #[.pointer none,.iface 201 (.pointer (some fa))])/\Below w.heap.size w w':=by
 unfold maxLen at hm
 go_enter Tryz.func155,Tryz.ntmps155
 go_wp2
 go_region
 all_goals go_wp2
 all_goals go_ret2
 all_goals exact ⟨_,rfl,by repeat (first | exact Below.refl _ _ | refine Below.drew ?_ | refine Below.al ?_ _)⟩
set_option maxHeartbeats 400000 in
theorem word_name (sg pl:Int) (wd:ByteArray) (w:World) (ht:(wd.toList==[116,114,117,101])=false) (hl:wd.size<=8) :
  Calls Tryz.prog 155 #[.agg #[.int .i32 sg,.int .i64 pl,.string wd]] w fun e w'=>∃ v,e=.returned (.tuple #[v,.nilIface])/\SentAt 143 w.heap.size w' (mk 97 wd 0 0 .nil .nil) v/\Below w.heap.size w w':=by
 go_enter Tryz.func155,Tryz.ntmps155
 go_wp2_with fail
 refine (clone_any wd _ (by omega)).mono ?_
 rintro e w1 ⟨rfl,hb⟩
 go_wp2
 go_ret2
 have hz:w.heap.size+1<=w1.heap.size:=by have:=hb.size;simpa using this
 refine ⟨_,rfl,sent_mk (by omega) (heap_new _ _ _ rfl) rfl rfl,?_⟩
 exact (((Below.refl _ _).alloc (Nat.le_refl _) _).trans (hb.mono (by simp))).alloc (by omega) _
structure ConvAt (w:World):Prop where
 syn:∃ te pe,w.cell? ⟨10,0,none⟩=some (.iface te pe)
 rng:∃ te pe,w.cell? ⟨11,0,none⟩=some (.iface te pe)
theorem atoi_any (s:ByteArray) (hs:s.size<=281474976710656) (w:World) (hg:ConvAt w) :
  Calls Tryz.prog 210 #[.string s] w fun e w'=>Below w.heap.size w w'/\((∃ v,Lib.atoiAll s.data.toList=.ok v/\e=.returned (.tuple #[.int .i64 v,.nilIface]))\/((∀ v,Lib.atoiAll s.data.toList≠.ok v)/\∃ v te pe,e=.returned (.tuple #[.int .i64 v,.iface te pe]))):=by
 obtain ⟨⟨t1,p1,h1⟩,⟨t2,p2,h2⟩⟩:=hg
 rcases h:Lib.atoiAll s.data.toList with v | _ | _
 ·refine (Tryz.strconv_Atoi_ok s (by omega) v h w).mono ?_
  rintro e w' ⟨rfl,hw⟩
  refine ⟨?_,.inl ⟨v,rfl,rfl⟩⟩
  rcases hw with rfl | ⟨t,rfl⟩
  ·exact Below.refl _ _
  ·exact Lib.bytesWorld_below w _ t
 ·refine (Tryz.strconv_Atoi_syntax s hs h _ w h1 (.inr ⟨_,_,rfl⟩)).mono ?_
  rintro e w' ⟨n,rfl,_,_,hb⟩
  exact ⟨hb,.inr ⟨fun v hv=>by (cases hv),_,_,_,rfl⟩⟩
 ·refine (Tryz.strconv_Atoi_range s hs h _ w h2 (.inr ⟨_,_,rfl⟩)).mono ?_
  rintro e w' ⟨n,rfl,_,_,hb⟩
  exact ⟨hb,.inr ⟨fun v hv=>by (cases hv),_,_,_,rfl⟩⟩
theorem ConvAt.only {s:Nat} {w w':World} (h:ConvAt w) (ho:Only s w w') (hs:14<=s):ConvAt w':=by
 obtain ⟨⟨t1,p1,h1⟩,⟨t2,p2,h2⟩⟩:=h
 have c:∀ k,k<14->k<w.heap.size->w'.cell? ⟨k,0,none⟩=w.cell? ⟨k,0,none⟩:=fun k hk hl=>World.cell?_of_block (w:=w) (a:=⟨k,0,none⟩) (ho.block k hl (by omega))
 exact ⟨⟨t1,p1,by rw [c 10 (by omega) (cell_lt h1)];exact h1⟩,⟨t2,p2,by rw [c 11 (by omega) (cell_lt h2)];exact h2⟩⟩
theorem ConvAt.below {w w':World} (h:ConvAt w) (hb:Below w.heap.size w w'):ConvAt w':=h.only (s:=14) (Only.of_below hb) (Nat.le_refl _)
set_option maxHeartbeats 400000 in
theorem number_no (rb:Nat) (ts:List Tok) (w:World) (h:RdAt 208 rb w ts) (he:Ends ts) (hs:((takeF ts).1.sign != 48)=true) :
  Calls Tryz.prog 204 #[.pointer (some ⟨rb,0,none⟩)] w fun e w'=>∃ fa,e=.returned (.tuple #[.int .i64 0,.iface 201 (.pointer (some fa))])/\Only rb w w':=by
 go_enter Tryz.func204,Tryz.ntmps204
 go_wp2_with fail
 refine (take_any rb ts _ h he).mono ?_
 rintro e w1 ⟨rfl,ho,hr⟩
 go_wp2_with fail
 go_region
 all_goals go_wp2
 all_goals go_ret2
 all_goals exact ⟨_,rfl,by repeat (first | exact ho | refine Only.drew ?_ | refine Only.alloc ?_ _)⟩
set_option maxHeartbeats 800000 in
theorem number_zero (rb:Nat) (rest:List Tok) (pl:Int) (wd:ByteArray) (w:World)
  (htk:Calls Tryz.prog 154 #[.pointer (some ⟨rb,0,none⟩)] w fun e w'=>e=.returned (.agg #[.int .i32 48,.int .i64 pl,.string wd])/\Only rb w w'/\RdAt 208 rb w' rest)
  (hm:wd.size<=281474976710656) (hz:0<wd.size) (h1:1<wd.size) (h0:(((wd[0]'hz).toNat:Int)==48)=true) :
  Calls Tryz.prog 204 #[.pointer (some ⟨rb,0,none⟩)] w fun e w'=>Only rb w w'/\∃ fa,e=.returned (.tuple #[.int .i64 0,.iface 201 (.pointer (some fa))]):=by
 go_enter Tryz.func204,Tryz.ntmps204
 go_wp2_with fail
 refine htk.mono ?_
 rintro e w1 ⟨rfl,ho,hr⟩
 go_wp2_with fail
 go_region
 all_goals go_wp2
 all_goals go_ret2
 all_goals exact ⟨by repeat (first | exact ho | refine Only.drew ?_ | refine Only.alloc ?_ _),_,rfl⟩
set_option maxHeartbeats 800000 in
theorem number_conv (rb:Nat) (rest:List Tok) (pl:Int) (wd:ByteArray) (w:World)
  (htk:Calls Tryz.prog 154 #[.pointer (some ⟨rb,0,none⟩)] w fun e w'=>e=.returned (.agg #[.int .i32 48,.int .i64 pl,.string wd])/\Only rb w w'/\RdAt 208 rb w' rest)
  (hg:ConvAt w) (hrb:14<=rb) (hm:wd.size<=281474976710656) (h0:¬ 1<wd.size\/∃ hz:0<wd.size,1<wd.size/\(((wd[0]'hz).toNat:Int)==48)=false) :
  Calls Tryz.prog 204 #[.pointer (some ⟨rb,0,none⟩)] w fun e w'=>Only rb w w'/\((∃ v,okNum (Lib.atoiAll wd.data.toList)=some v/\e=.returned (.tuple #[.int .i64 v,.nilIface])/\RdAt 208 rb w' rest)\/(okNum (Lib.atoiAll wd.data.toList)=none/\∃ fa,e=.returned (.tuple #[.int .i64 0,.iface 201 (.pointer (some fa))]))):=by
 rcases h0 with h1 | ⟨hz,h1,h0⟩
 all_goals
  go_enter Tryz.func204,Tryz.ntmps204
  go_wp2_with fail
  refine htk.mono ?_
  rintro e w1 ⟨rfl,ho,hr⟩
  go_wp2_with fail
  have hg1:ConvAt (w1.alloc (.cells #[.int .i32 48,.int .i64 pl,.string wd] 260)):=(hg.only ho hrb).below ((Below.refl _ _).al _)
  refine (atoi_any wd hm _ hg1).mono ?_
  rintro e w2 ⟨hb,⟨v,hv,rfl⟩ | ⟨hv,v,te,pe,rfl⟩⟩
  ·have ho2:Only rb w w2:=(ho.alloc _).tb hb
   have hr2:RdAt 208 rb w2 rest:=(hr.alloc _).below hb
   have hN:Hid (okNum (Lib.atoiAll wd.data.toList)=if 1000000<v then none else some v):=by rw [hv];rfl
   have q1:w2.cell? ⟨w1.heap.size,1,none⟩=some (.int .i64 pl):=by rw [hb.cell (p:=⟨w1.heap.size,1,none⟩) (by simp)];simp
   clear hv hb
   by_cases hgt:1000000<v
   ·go_wp2_with fail
    go_region
    all_goals go_wp2
    all_goals go_ret2
    all_goals exact ⟨by repeat (first | exact ho2 | refine Only.drew ?_ | refine Only.alloc ?_ _),.inr ⟨by rw [hN.out,if_pos (by omega)],_,rfl⟩⟩
   ·go_wp2_with fail
    go_ret2
    exact ⟨ho2,.inl ⟨v,by rw [hN.out,if_neg (by omega)],rfl,hr2⟩⟩
  ·have ho2:Only rb w w2:=(ho.alloc _).tb hb
   have hN:Hid (okNum (Lib.atoiAll wd.data.toList)=none):=okNum_none hv
   have q1:w2.cell? ⟨w1.heap.size,1,none⟩=some (.int .i64 pl):=by rw [hb.cell (p:=⟨w1.heap.size,1,none⟩) (by simp)];simp
   clear hv hb
   go_wp2_with fail
   go_region
   all_goals go_wp2
   all_goals go_ret2
   all_goals exact ⟨by repeat (first | exact ho2 | refine Only.drew ?_ | refine Only.alloc ?_ _),.inr ⟨hN.out,_,rfl⟩⟩
theorem number_some (rb:Nat) (ts:List Tok) (w:World) (h:RdAt 208 rb w ts) (he:Ends ts) (hs:(takeF ts).1.sign=48) (hg:ConvAt w) (hrb:14<=rb) (hm:(takeF ts).1.word.size<=281474976710656) :
  Calls Tryz.prog 204 #[.pointer (some ⟨rb,0,none⟩)] w fun e w'=>Only rb w w'/\((∃ v,numB (takeF ts).1.word=some v/\e=.returned (.tuple #[.int .i64 v,.nilIface])/\RdAt 208 rb w' (takeF ts).2)\/(numB (takeF ts).1.word=none/\∃ fa,e=.returned (.tuple #[.int .i64 0,.iface 201 (.pointer (some fa))]))):=by
 have htk:=take_any rb ts w h he
 rw [hs] at htk
 generalize (takeF ts).1.word=wd at *
 generalize (takeF ts).1.place=pl at *
 by_cases h1:1<wd.size
 ·have hz:0<wd.size:=by omega
  have hh:=head_get wd hz
  by_cases h0:wd.data.toList.headD 0=48
  ·refine (number_zero rb _ pl wd w htk hm hz h1 ?_).mono ?_
   ·rw [hh] at h0;rw [h0];decide
   ·rintro e w' ⟨ho,hf⟩
    exact ⟨ho,.inr ⟨by unfold numB;rw [if_pos ⟨h1,h0⟩],hf⟩⟩
  ·refine (number_conv rb _ pl wd w htk hg hrb hm (.inr ⟨hz,h1,?_⟩)).mono ?_
   ·rw [hh] at h0
    rw [beq_eq_false_iff_ne]
    intro h
    apply h0
    apply UInt8.toNat_inj.1
    show wd[0].toNat=48
    omega
   ·have e1:numB wd=okNum (Lib.atoiAll wd.data.toList):=by unfold numB;rw [if_neg (by intro h;exact h0 h.2)]
    rw [e1]
    exact fun _ _ h=>h
 ·refine (number_conv rb _ pl wd w htk hg hrb hm (.inl h1)).mono ?_
  have e1:numB wd=okNum (Lib.atoiAll wd.data.toList):=by unfold numB;rw [if_neg (by intro h;exact h1 h.1)]
  rw [e1]
  exact fun _ _ h=>h
theorem number_any (rb:Nat) (ts:List Tok) (w:World) (h:RdAt 208 rb w ts) (he:Ends ts) (hg:ConvAt w) (hrb:14<=rb) :
  Calls Tryz.prog 204 #[.pointer (some ⟨rb,0,none⟩)] w fun e w'=>Only rb w w'/\((∃ v r,numF ts=some (v,r)/\e=.returned (.tuple #[.int .i64 v,.nilIface])/\RdAt 208 rb w' r)
   \/(numF ts=none/\∃ fa,e=.returned (.tuple #[.int .i64 0,.iface 201 (.pointer (some fa))]))):=by
 by_cases hs:(takeF ts).1.sign=48
 ·refine (number_some rb ts w h he hs hg hrb (by have:=he.word;omega)).mono ?_
  rintro e w' ⟨ho,⟨v,hv,rfl,hr⟩ | ⟨hv,fa,rfl⟩⟩
  ·exact ⟨ho,.inl ⟨v,_,by unfold numF;rw [if_pos hs,hv];rfl,rfl,hr⟩⟩
  ·exact ⟨ho,.inr ⟨by unfold numF;rw [if_pos hs,hv];rfl,fa,rfl⟩⟩
 ·refine (number_no rb ts w h he (by simp [hs])).mono ?_
  rintro e w' ⟨fa,rfl,ho⟩
  exact ⟨ho,.inr ⟨by unfold numF;rw [if_neg hs],fa,rfl⟩⟩
end Go.Proofs.YtpbbmagjhkakgaaGreatDoor
