import Derived.Test.YtpbbmagjhkakgaaGreatDoorEvAdd2ToEaDel
import Derived.Test.YtpbbmagjhkakgaaGreatDoorEvJudge0ToEvAdd
import Derived.Test.YtpbbmagjhkakgaaGreatDoorLfRestAnyToWindow
import Derived.Lib.AppendZerosOnto
import Derived.Lib.Overlaps
namespace Go.Proofs.YtpbbmagjhkakgaaGreatDoor
namespace Ev
open Go.RowKit Go.Deep
theorem nL (w:World) (ty:TypeId) (g o dLen dCap:Nat) (a:Addr) (sLen sCap:Nat) (cur:Array Value) (t:TypeId) (cs:List Value) (k:Nat) (hk:k=Nat.min sLen dLen)
  (hg:w.heap[g]? = some (.cells cur t (0,0))) (hn:cs.length=k*5)
  (hsrc:∀ j v,cs[j]? = some v->w.cell? (a.add j)=some v) (hfit:o+cs.length<=cur.size) (h1:∀ v∈cs,v.oneCell'=true) :
  (Builtin.copy_ #[151,151] ty #[.slice (some ⟨g,o,none⟩) dLen dCap,.slice (some a) sLen sCap]).run Tryz.prog w =
   .ok (goInt k) (w.setRow g (cur.toList.take o++cs++cur.toList.drop (o+cs.length)).toArray):=by
 have hl:=run_loadCells_list (P:=Tryz.prog) w a cs hsrc
 have df:=run_storeCells_at Tryz.prog g o t cs 0 cur w hg (by simpa using hfit) h1
 obtain ⟨i0,hi,lr,iU,lu⟩:=info_parts iy
 rw [hn] at hl
 simp [Builtin.copy_,run_underlying Tryz.underlying151,Builtin.lenOf,Builtin.firstCells,sizeOf,typeInfo,hi,iU,<- hk,hl,df]
set_option maxRecDepth 100000 in
theorem insPol_end (B g cap n vb:Nat) (cs xs:List Value) (w:World) (hE:w.ownsRow B 183 5 (.slice (some ⟨g,0,none⟩) n cap) n cs) (hxl:xs.length=5) (hc:∀ j u,xs[j]? = some u->w.cell? ⟨vb,j,none⟩=some u) (qy:∀ u∈xs,u.oneCell'=true) (hn:n<=1000) (hB:B<=w.heap.size) :
  Calls Tryz.prog 137 #[.slice (some ⟨g,0,none⟩) n cap,.int .i64 (n:Int),.slice (some ⟨vb,0,none⟩) 1 1] w fun e w'=>∃ v',e=.returned v'/\w'.ownsRow B 183 5 v' (n+1) (cs++xs)/\Below B w w':=by
 obtain ⟨i0,hi,lr,iU,lu⟩:=info_parts iy
 have HE:Hid (w.ownsRow B 183 5 (.slice (some ⟨g,0,none⟩) n cap) n cs):=hE
 have HL:Hid (xs.length=5):=hxl
 have A:Hid (∀ j u,xs[j]? = some u->w.cell? ⟨vb,j,none⟩=some u):=hc
 have hgB:∀ k,(Value.slice (some ⟨g,0,none⟩) n cap).ownBlock=some k->B<=k:=fun k hk=>(hE.lt k hk).1
 have hncap:n<=cap/\cap<=9223372036854775807:=by
  obtain ⟨_,⟨h,_⟩ | ⟨g',mq,cur,e1,_,_,h3,h4,_⟩⟩:=hE
  ·cases h
  ·cases e1
   exact ⟨h3,Nat.le_trans h4 (by decide)⟩
 replace hgB:Hid _:=hgB
 clear hE hxl hc
 by_cases hcn:cap=n
 ·subst hcn
  go_enter Tryz.func137,Tryz.ntmps137
  go_wp2_with (at_builtin;refine wpList_append_own _ rfl _ _ 151 rfl B 183 i0 (.agg #[.string ⟨#[]⟩,.pointer none,.int .i64 0,.int .i64 0,.pointer none]) 5 48 Tryz.underlying151 hi lr iU lu rfl (by decide) _ _ _ rfl HE.out ⟨vb,0,none⟩ 1 1 xs rfl ?qc1 ?qc2 ?qc3 ?qc4 ?qc5 ?qc6 ?_)
  case qc1=>exact HL.out
  case qc2 =>
   intro j u hj
   rw [Addr.add_lit,Nat.zero_add]
   exact A.out j u hj
  case qc3=>exact qy
  case qc4=>unfold maxLen;omega
  case qc5=>omega
  case qc6=>exact hB
  intro v' w1 cE bz hnil
  go_wp2_with fail
  go_ret
  exact ⟨v',rfl,cE,(Below.refl _ w).grown bz hB hgB.out⟩
 ·go_enter Tryz.func137,Tryz.ntmps137
  go_wp2_with (at_builtin;refine wpList_append_own _ rfl _ _ 151 rfl B 183 i0 (.agg #[.string ⟨#[]⟩,.pointer none,.int .i64 0,.int .i64 0,.pointer none]) 5 48 Tryz.underlying151 hi lr iU lu rfl (by decide) _ _ _ rfl HE.out ⟨vb,0,none⟩ 1 1 xs rfl ?qc1 ?qc2 ?qc3 ?qc4 ?qc5 ?qc6 ?_)
  case qc1=>exact HL.out
  case qc2 =>
   intro j u hj
   rw [Addr.add_lit,Nat.zero_add]
   exact A.out j u hj
  case qc3=>exact qy
  case qc4=>unfold maxLen;omega
  case qc5=>omega
  case qc6=>exact hB
  intro v' w1 cE bz hnil
  go_wp2_with fail
  go_ret
  exact ⟨v',rfl,cE,(Below.refl _ w).grown bz hB hgB.out⟩
set_option maxRecDepth 100000 in
set_option maxHeartbeats 8000000 in
theorem insPol_shift (B g cap i n vb:Nat) (cs xs:List Value) (w:World) (hE:w.ownsRow B 183 5 (.slice (some ⟨g,0,none⟩) n cap) n cs) (kJ:∀ u∈cs,u.oneCell'=true) (hv:w.heap[vb]? = some (.cells xs.toArray 183 (0,0))) (hxl:xs.length=5) (qy:∀ u∈xs,u.oneCell'=true) (hvg:vb≠g) (tP:i<n) (oI:n+1<=cap) (hn:n<=1000) :
  Calls Tryz.prog 137 #[.slice (some ⟨g,0,none⟩) n cap,.int .i64 (i:Int),.slice (some ⟨vb,0,none⟩) 1 1] w fun e w'=>e=.returned (.slice (some ⟨g,0,none⟩) (n+1) cap)/\w'.ownsRow B 183 5 (.slice (some ⟨g,0,none⟩) (n+1) cap) (n+1) (cs.take (i*5)++xs++cs.drop (i*5))/\Below B w w':=by
 obtain ⟨h0,⟨h1,_⟩ | ⟨g',mq,cur,e1,hBg,hg,hnc,sa,ng,rE⟩⟩:=hE
 ·cases h1
 cases e1
 obtain ⟨i0,hi,lr,iU,lu⟩:=info_parts iy
 have hcmx:cap<=9223372036854775807:=Nat.le_trans sa (by decide)
 have hcl':cur.toList.length=cap*5:=by rw [Array.length_toList];exact ng
 obtain ⟨ds,hds⟩:∃ ds,ds=cs.drop (i*5):=⟨_,rfl⟩
 have hdl:ds.length=(n-i)*5:=by rw [hds,List.length_drop,h0];omega
 have oK:∀ w,(Go.sizeOf 183).run Tryz.prog w=.ok 5 w:=fun w=>by simp [sizeOf,typeInfo,hi,iU]
 have hov:∀ lb cb,(callFunc 173 #[.slice (some ⟨vb,0,none⟩) 1 1,.slice (some ⟨g,(i+1)*5,none⟩) lb cb]).run Tryz.prog w=.ok (.value (.bool false)) w:=fun lb cb=>by
  rw [run_callFunc_extern Tryz.func173 (by kernel_rfl) (by kernel_rfl) (by kernel_rfl) (e:=Extern.SlicesOverlaps.overlaps #[151,151] #[4]) (by kernel_rfl),
   Lib.run_overlaps_apart w 151 4 183 Tryz.underlying151 5 oK ⟨vb,0,none⟩ ⟨g,(i+1)*5,none⟩ 1 1 lb cb hvg 183 183 5 (cap*5) (by simp [World.shape?,hv,hxl]) (by simp [World.shape?,hg,ng]) (by omega) (by simp [World.frozen?,hv]) (by simp [World.frozen?,hv])]
  rfl
 obtain ⟨W1,o_⟩:∃ W1,W1=w.drew.setRow g (cur.toList.take ((i+1)*5)++ds++cur.toList.drop ((i+1)*5+ds.length)).toArray:=⟨_,rfl⟩
 have hcp1:∀ ty dc sc,(Builtin.copy_ #[151,151] ty #[.slice (some ⟨g,(i+1)*5,none⟩) (n-i) dc,.slice (some ⟨g,i*5,none⟩) (n+1-i) sc]).run Tryz.prog w.drew=.ok (goInt ((n-i:Nat):Int)) W1:=fun ty dc sc=>by
  rw [o_]
  refine nL w.drew ty g ((i+1)*5) _ dc ⟨g,i*5,none⟩ _ sc cur 183 ds (n-i) (by simp only [Nat.min_def];split<;>omega) hg hdl (fun j v hj=>?_) (by rw [ng,hdl];omega) (fun v hv=>kJ v (by rw [hds] at hv;exact List.mem_of_mem_drop hv))
  rw [Addr.add_lit]
  have hjl:=(List.getElem?_eq_some_iff.1 hj).1
  refine ae (w:=w.drew) hg ?_
  rw [hds,List.getElem?_drop,<- rE,List.getElem?_take,if_pos (by omega)] at hj
  simpa using hj
 have hg1:W1.heap[g]? = some (.cells (cur.toList.take ((i+1)*5)++ds++cur.toList.drop ((i+1)*5+ds.length)).toArray 183 (0,0)):=by
  rw [o_];exact setRow_heap w.drew g cur _ _ (0,0) hg
 obtain ⟨c1,hc1e⟩:∃ c1,c1=(cur.toList.take ((i+1)*5)++ds++cur.toList.drop ((i+1)*5+ds.length)):=⟨_,rfl⟩
 rw [<- hc1e] at hg1
 have hc1l:c1.length=cap*5:=by
  rw [hc1e];simp only [List.length_append,List.length_take,List.length_drop,hcl',hdl];omega
 have hv1:W1.heap[vb]? = some (.cells xs.toArray 183 (0,0)):=by rw [o_,setRow_other _ _ _ _ hvg];exact hv
 obtain ⟨W2,hW2⟩:∃ W2,W2=W1.setRow g (c1.toArray.toList.take (i*5)++xs++c1.toArray.toList.drop (i*5+xs.length)).toArray:=⟨_,rfl⟩
 have hcp2:∀ ty dc,(Builtin.copy_ #[151,151] ty #[.slice (some ⟨g,i*5,none⟩) (n+1-i) dc,.slice (some ⟨vb,0,none⟩) 1 1]).run Tryz.prog W1=.ok (goInt ((1:Nat):Int)) W2:=fun ty dc=>by
  rw [hW2]
  refine nL W1 ty g (i*5) _ dc ⟨vb,0,none⟩ _ 1 c1.toArray 183 xs 1 (by simp only [Nat.min_def];split<;>omega) hg1 (by omega) (fun j v hj=>?_) (by simp only [List.size_toArray];omega) qy
  rw [Addr.add_lit,Nat.zero_add]
  exact ae hv1 (by simpa using hj)
 have bH:W2.ownsRow B 183 5 (.slice (some ⟨g,0,none⟩) (n+1) cap) (n+1) (cs.take (i*5)++xs++ds)/\Below B w W2:=by
  refine ⟨⟨?_,.inr ⟨g,cap,_,rfl,hBg,by rw [hW2];exact setRow_heap W1 g _ _ _ _ hg1,oI,sa,?_,?_⟩⟩,?_⟩
  ·simp only [List.length_append,List.length_take,h0,hdl,hxl];omega
  ·simp only [List.size_toArray,List.length_append,List.length_take,List.length_drop,hc1l,hxl];omega
  ·have e1:c1.take (i*5)=cs.take (i*5):=by
    rw [hc1e,List.append_assoc,List.take_append_of_le_length (by simp only [List.length_take,hcl'];omega),List.take_take,<- rE,List.take_take]
    congr 1
    omega
   have e2:c1.drop (i*5+xs.length)=ds++cur.toList.drop ((i+1)*5+ds.length):=by
    rw [hc1e,List.append_assoc,List.drop_append,List.drop_of_length_le (by simp only [List.length_take,hcl'];omega),List.nil_append]
    have:i*5+xs.length-(List.take ((i+1)*5) cur.toList).length=0:=by simp only [List.length_take,hcl'];omega
    rw [this,List.drop_zero]
   simp only []
   rw [e1,e2,<- List.append_assoc,List.take_append_of_le_length (by simp only [List.length_append,List.length_take,h0,hdl,hxl];omega),List.take_of_length_le (by simp only [List.length_append,List.length_take,h0,hdl,hxl];omega)]
  ·have b1:Below B w W1:=by rw [o_];exact (Below.refl _ w).drew.trans ⟨rfl,rfl,rfl,by simp [World.setRow],fun k hk=>setRow_other _ _ _ _ (by omega)⟩
   rw [hW2]
   exact b1.trans ⟨rfl,rfl,rfl,by simp [World.setRow],fun k hk=>setRow_other _ _ _ _ (by omega)⟩
 rw [hds] at bH
 replace bH:Hid _:=bH
 have cB:¬ (cap=i+1):=by omega
 have hb4:¬ (cap=i):=by omega
 have hz1':¬ ((i:Int)=(n:Int)):=by omega
 have l8:IntKind.i64.wrap ((i:Int)+1)=(i:Int)+1:=by rw [IntKind.wrap_i64];omega
 have a_:(0:Int)<=(i:Int)+1:=by omega
 have hin':i<=n:=by omega
 have htn:((i:Int)+1).toNat=i+1:=by omega
 have pU:(i:Int)<=(n:Int)+1:=by omega
 clear hg1 hc1e hc1l hv1 hW2 o_ hg ng rE hcl' hds hdl kJ hv qy h0
 go_enter Tryz.func137,Tryz.ntmps137
 go_wp2_with (simp only [hov])
 go_region_law (refine step_copyR rfl (.tmp 73) (.tmp 76) 151 151 rfl _ _ (by simp [Act.eval,Act.put]) (by simp [Act.eval,Act.put]) (hcp1 _ _ _) ?_)
 go_wp2_with (at_builtin;refine wpList_copyR _ rfl _ _ 151 151 rfl _ _ rfl rfl (hcp2 _ _) ?_)
 go_ret
 exact ⟨rfl,bH.out⟩
set_option maxRecDepth 100000 in
set_option maxHeartbeats 8000000 in
theorem insPol_grow (B g cap i n vb:Nat) (cs xs:List Value) (w:World) (hE:w.ownsRow B 183 5 (.slice (some ⟨g,0,none⟩) n cap) n cs) (kJ:∀ u∈cs,u.oneCell'=true) (hv:w.heap[vb]? = some (.cells xs.toArray 183 (0,0))) (hxl:xs.length=5) (qy:∀ u∈xs,u.oneCell'=true) (tP:i<n) (oI:cap<n+1) (hn:n<=1000) (hB:B<=w.heap.size) :
  Calls Tryz.prog 137 #[.slice (some ⟨g,0,none⟩) n cap,.int .i64 (i:Int),.slice (some ⟨vb,0,none⟩) 1 1] w fun e w'=>∃ v',e=.returned v'/\w'.ownsRow B 183 5 v' (n+1) (cs.take (i*5)++xs++cs.drop (i*5))/\Below B w w':=by
 obtain ⟨h0,⟨h1,_⟩ | ⟨g',mq,cur,e1,hBg,hg,hnc,sa,ng,rE⟩⟩:=hE
 ·cases h1
 cases e1
 obtain rfl:cap=n:=by omega
 obtain ⟨i0,hi,lr,iU,lu⟩:=info_parts iy
 have hgl:=aw hg
 have hvl:=aw hv
 have hcl':cur.toList.length=cap*5:=by rw [Array.length_toList];exact ng
 have hcc:cur.toList=cs:=by rw [<- rE,List.take_of_length_le (by omega)]
 obtain ⟨ds,hds⟩:∃ ds,ds=cs.drop (i*5):=⟨_,rfl⟩
 have hdl:ds.length=(cap-i)*5:=by rw [hds,List.length_drop,h0];omega
 have fD:∀ (j:Nat) v,cs[j]? = some v->w.cell? ⟨g,j,none⟩=some v:=fun j v hj=>ae hg (by rw [<- hcc] at hj;simpa using hj)
 have hold:(Builtin.firstCells i0.size i (.slice (some ⟨g,0,none⟩) i cap)).run Tryz.prog w.drew=.ok (cs.take (i*5)).toArray w.drew:=by
  have hl:=run_loadCells_list (P:=Tryz.prog) w.drew ⟨g,0,none⟩ (cs.take (i*5)) (fun j v hj=>by
   rw [Addr.add_lit,Nat.zero_add]
   rw [List.getElem?_take] at hj
   split at hj
   ·exact fD j v hj
   ·cases hj)
  rw [List.length_take,h0,Nat.min_eq_left (by omega)] at hl
  rw [iU]
  simp [Builtin.firstCells,hl]
 have hkk:(cap:Int)+1-(i:Int)=((cap+1-i:Nat):Int):=by omega
 have hik:i+(cap+1-i)=cap+1:=by omega
 obtain ⟨G,hG⟩:∃ G,G=grownCap w (cap+1) cap 183:=⟨_,rfl⟩
 obtain ⟨ROW,hROW⟩:∃ ROW:Array Value,ROW=(cs.take (i*5)).toArray++Builtin.zeroCells (Value.agg #[.string ⟨#[]⟩,.pointer none,.int .i64 0,.int .i64 0,.pointer none]).cells (cap+1-i)++Builtin.zeroCells (Value.agg #[.string ⟨#[]⟩,.pointer none,.int .i64 0,.int .i64 0,.pointer none]).cells (G-(cap+1)):=⟨_,rfl⟩
 obtain ⟨W1,o_⟩:∃ W1,W1=w.drew.alloc (.cells ROW 183):=⟨_,rfl⟩
 obtain ⟨N,hN⟩:∃ N,N=w.heap.size:=⟨_,rfl⟩
 have hrz:∀ ty,(Builtin.append_ #[151,3] ty #[.slice (some ⟨g,0,none⟩) i cap,.int .i64 ((cap:Int)+1-(i:Int))]).run Tryz.prog w =
   .ok (.slice (some ⟨N,0,none⟩) (cap+1) G) W1:=fun ty=>by
  have h:=Lib.run_append_grow_zeros w 151 3 ty 183 i0 _ .i64 .i64 Tryz.underlying151 Tryz.underlying3 hi lr (some ⟨g,0,none⟩) i cap (cs.take (i*5)) hold (cap+1-i) (by omega) (by omega) (by omega) (by omega) (by rw [lu];omega) (by rw [lu,hik];exact growslice_fits oI (by omega))
  rw [hik,<- hG,<- hROW,<- o_,<- hN] at h
  rw [hkk]
  exact h
 have hGn:cap+1<=G:=by rw [hG];exact grownCap_ge w _ _ _
 have hGm:G<=maxLen:=by rw [hG];exact grownCap_le_maxLen w (cap+1) cap 183 (by unfold maxLen;omega)
 have hG63:G<=9223372036854775807:=Nat.le_trans hGm (by decide)
 have hRl:ROW.toList.length=G*5:=by
  rw [hROW]
  simp [Builtin.zeroCells,Value.cells,h0]
  omega
 have hg1:W1.heap[N]? = some (.cells ROW 183 (0,0)):=by rw [o_,hN];exact aB _ _ _ rfl
 have hv1:W1.heap[vb]? = some (.cells xs.toArray 183 (0,0)):=by rw [o_];exact (Below.heap_alloc _ _ _ hvl).trans hv
 have hgg1:W1.heap[g]? = some (.cells cur 183 (0,0)):=by rw [o_];exact (Below.heap_alloc _ _ _ hgl).trans hg
 obtain ⟨W2,hW2⟩:∃ W2,W2=W1.setRow N (ROW.toList.take (i*5)++xs++ROW.toList.drop (i*5+xs.length)).toArray:=⟨_,rfl⟩
 have hcpA:∀ ty dc,(Builtin.copy_ #[151,151] ty #[.slice (some ⟨N,i*5,none⟩) (cap+1-i) dc,.slice (some ⟨vb,0,none⟩) 1 1]).run Tryz.prog W1=.ok (goInt ((1:Nat):Int)) W2:=fun ty dc=>by
  rw [hW2]
  refine nL W1 ty N (i*5) _ dc ⟨vb,0,none⟩ _ 1 ROW 183 xs 1 (by simp only [Nat.min_def];split<;>omega) hg1 (by omega) (fun j v hj=>?_) (by rw [<- Array.length_toList];omega) qy
  rw [Addr.add_lit,Nat.zero_add]
  exact ae hv1 (by simpa using hj)
 obtain ⟨c1,hc1e⟩:∃ c1,c1=ROW.toList.take (i*5)++xs++ROW.toList.drop (i*5+xs.length):=⟨_,rfl⟩
 have hg2:W2.heap[N]? = some (.cells c1.toArray 183 (0,0)):=by rw [hW2,hc1e];exact setRow_heap W1 N ROW _ _ (0,0) hg1
 have hc1l:c1.length=G*5:=by
  rw [hc1e];simp only [List.length_append,List.length_take,List.length_drop,hRl,hxl];omega
 have hgN:g≠N:=by omega
 have hgg2:W2.heap[g]? = some (.cells cur 183 (0,0)):=by rw [hW2,setRow_other _ _ _ _ hgN];exact hgg1
 obtain ⟨W3,hW3⟩:∃ W3,W3=W2.drew.setRow N (c1.toArray.toList.take ((i+1)*5)++ds++c1.toArray.toList.drop ((i+1)*5+ds.length)).toArray:=⟨_,rfl⟩
 have hcpB:∀ ty dc sc,(Builtin.copy_ #[151,151] ty #[.slice (some ⟨N,(i+1)*5,none⟩) (cap-i) dc,.slice (some ⟨g,i*5,none⟩) (cap-i) sc]).run Tryz.prog W2.drew=.ok (goInt ((cap-i:Nat):Int)) W3:=fun ty dc sc=>by
  rw [hW3]
  refine nL W2.drew ty N ((i+1)*5) _ dc ⟨g,i*5,none⟩ _ sc c1.toArray 183 ds (cap-i) (by simp only [Nat.min_def];split<;>omega) hg2 hdl (fun j v hj=>?_) (by simp only [List.size_toArray];omega) (fun v hv=>kJ v (by rw [hds] at hv;exact List.mem_of_mem_drop hv))
  rw [Addr.add_lit]
  refine ae (w:=W2.drew) hgg2 ?_
  rw [hds,List.getElem?_drop,<- hcc] at hj
  simpa using hj
 have bH:W3.ownsRow B 183 5 (.slice (some ⟨N,0,none⟩) (cap+1) G) (cap+1) (cs.take (i*5)++xs++ds)/\Below B w W3:=by
  refine ⟨⟨?_,.inr ⟨N,G,_,rfl,by omega,by rw [hW3];exact setRow_heap W2.drew N _ _ _ _ hg2,hGn,hGm,?_,?_⟩⟩,?_⟩
  ·simp only [List.length_append,List.length_take,h0,hdl,hxl];omega
  ·simp only [List.size_toArray,List.length_append,List.length_take,List.length_drop,hc1l,hdl];omega
  ·have e0:ROW.toList.take (i*5)=cs.take (i*5):=by
    rw [hROW]
    simp only [Array.toList_append,List.append_assoc]
    rw [List.take_append_of_le_length (by simp only [List.length_take,h0];omega),List.take_of_length_le (by simp only [List.length_take];omega)]
   have e1:c1.take ((i+1)*5)=cs.take (i*5)++xs:=by
    rw [hc1e,e0,List.take_append_of_le_length (by simp only [List.length_append,List.length_take,h0,hxl];omega),List.take_of_length_le (by simp only [List.length_append,List.length_take,h0,hxl];omega)]
   simp only []
   rw [e1,List.take_append_of_le_length (by simp only [List.length_append,List.length_take,h0,hdl,hxl];omega),List.take_of_length_le (by simp only [List.length_append,List.length_take,h0,hdl,hxl];omega)]
  ·have b1:Below B w W1:=by rw [o_];exact ((Below.refl _ w).drew).alloc hB _
   have b2:Below B w W2:=by rw [hW2];exact b1.trans ⟨rfl,rfl,rfl,by simp [World.setRow],fun k hk=>setRow_other _ _ _ _ (by omega)⟩
   rw [hW3]
   exact b2.drew.trans ⟨rfl,rfl,rfl,by simp [World.setRow],fun k hk=>setRow_other _ _ _ _ (by omega)⟩
 rw [hds] at bH
 replace bH:Hid _:=bH
 have hGi:¬ (G=i):=by omega
 have hGim:¬ (G=i+1):=by omega
 have hb4:¬ (cap=i):=by omega
 have hz1':¬ ((i:Int)=(cap:Int)):=by omega
 have l8:IntKind.i64.wrap ((i:Int)+1)=(i:Int)+1:=by rw [IntKind.wrap_i64];omega
 have a_:(0:Int)<=(i:Int)+1:=by omega
 have hin':i<=cap:=by omega
 have htn:((i:Int)+1).toNat=i+1:=by omega
 have pU:(i:Int)<=(cap:Int):=by omega
 have hz3:(cap:Int)<(cap:Int)+1:=by omega
 clear hN hg1 hc1e hc1l hv1 hW3 hW2 o_ hg ng rE hcl' hds hdl kJ hv qy h0 hg2 hgg1 hgg2 hRl hROW hG hold fD hcc hkk hik
 go_enter Tryz.func137,Tryz.ntmps137
 go_wp2_with (first
  | (at_builtin;refine Lib.wpList_append_run _ rfl _ _ _ _ rfl _ _ rfl rfl _ _ (hrz _) ?_)
  | (at_builtin;refine wpList_copyR _ rfl _ _ 151 151 rfl _ _ rfl rfl (hcpA _ _) ?_))
 go_region_law (refine step_copyR rfl (.tmp 50) (.tmp 53) 151 151 rfl _ _ (by simp [Act.eval,Act.put]) (by simp [Act.eval,Act.put]) (hcpB _ _ _) ?_)
 go_wp2
 go_ret
 exact ⟨_,rfl,bH.out⟩
theorem insPol_any (B g cap i n vb:Nat) (cs xs:List Value) (w:World) (hE:w.ownsRow B 183 5 (.slice (some ⟨g,0,none⟩) n cap) n cs) (kJ:∀ u∈cs,u.oneCell'=true) (hv:w.heap[vb]? = some (.cells xs.toArray 183 (0,0))) (hxl:xs.length=5) (qy:∀ u∈xs,u.oneCell'=true) (hvg:vb≠g) (tP:i<=n) (hn:n<=1000) (hB:B<=w.heap.size) :
  Calls Tryz.prog 137 #[.slice (some ⟨g,0,none⟩) n cap,.int .i64 (i:Int),.slice (some ⟨vb,0,none⟩) 1 1] w fun e w'=>∃ v',e=.returned v'/\w'.ownsRow B 183 5 v' (n+1) (cs.take (i*5)++xs++cs.drop (i*5))/\Below B w w':=by
 rcases Nat.lt_or_ge i n with hi | hi
 ·rcases Nat.lt_or_ge cap (n+1) with hr | hr
  ·exact insPol_grow B g cap i n vb cs xs w hE kJ hv hxl qy hi hr hn hB
  ·refine (insPol_shift B g cap i n vb cs xs w hE kJ hv hxl qy hvg hi hr hn).mono ?_
   rintro e w' ⟨rfl,h1,h2⟩
   exact ⟨_,rfl,h1,h2⟩
 ·obtain rfl:i=n:=by omega
  refine (insPol_end B g cap i vb cs xs w hE hxl (fun j u hj=>ae hv (by simpa using hj)) qy hn hB).mono ?_
  rintro e w' ⟨v',rfl,h1,h2⟩
  have hl:=hE.1
  rw [List.take_of_length_le (by omega),List.drop_of_length_le (by omega),List.append_nil]
  exact ⟨v',rfl,h1,h2⟩
end Ev
namespace Ev
open Go.RowKit Go.Deep Go.Maps Lf
theorem cmp_trans:∀ a b c:List UInt8,Lib.compareBytes a b<0->Lib.compareBytes b c<0->Lib.compareBytes a c<0
 | [],b,[],h1,h2=>by cases b<;>simp [Lib.compareBytes] at h1 h2
 | [],b,c::cs,h1,h2=>by simp [Lib.compareBytes]
 | a::al,[],c,h1,h2=>by simp [Lib.compareBytes] at h1
 | a::al,b::bl,[],h1,h2=>by simp [Lib.compareBytes] at h2
 | a::al,b::bl,c::cs,h1,h2=>by
  have ih:=cmp_trans al bl cs
  unfold Lib.compareBytes at h1 h2 ⊢
  simp only [UInt8.lt_iff_toNat_lt] at h1 h2 ⊢
  by_cases x1:a.toNat<b.toNat<;>by_cases x2:b.toNat<a.toNat<;>by_cases x3:b.toNat<c.toNat<;>by_cases x4:c.toNat<b.toNat<;>simp only [x1,x2,x3,x4,if_true,if_false] at h1 h2<;>first | omega | skip
  all_goals by_cases e:a.toNat<c.toNat
  all_goals first | (simp only [e,if_true];decide) | skip
  all_goals first | omega | skip
  all_goals
   have e2:¬ c.toNat<a.toNat:=by omega
   simp only [e,e2,if_false]
   exact ih h1 h2
theorem cmp_zero:∀ a b:List UInt8,Lib.compareBytes a b=0↔a=b
 | [],[]=>by simp [Lib.compareBytes]
 | [],_::_=>by simp [Lib.compareBytes]
 | _::_,[]=>by simp [Lib.compareBytes]
 | a::al,b::bl=>by
  have ih:=cmp_zero al bl
  unfold Lib.compareBytes
  simp only [UInt8.lt_iff_toNat_lt,List.cons.injEq]
  by_cases x1:a.toNat<b.toNat
  ·have:a≠b:=fun h=>by subst h;omega
   simp [x1,this]
  ·by_cases x2:b.toNat<a.toNat
   ·have:a≠b:=fun h=>by subst h;omega
    simp [x1,x2,this]
   ·have e:a=b:=by
     apply UInt8.toNat_inj.1;omega
    simp [e,ih]
theorem cmp_flip:∀ a b:List UInt8,Lib.compareBytes a b<0↔0<Lib.compareBytes b a
 | [],[]=>by simp [Lib.compareBytes]
 | [],_::_=>by simp [Lib.compareBytes]
 | _::_,[]=>by simp [Lib.compareBytes]
 | a::al,b::bl=>by
  have ih:=cmp_flip al bl
  unfold Lib.compareBytes
  simp only [UInt8.lt_iff_toNat_lt]
  by_cases x1:a.toNat<b.toNat
  ·have:¬ b.toNat<a.toNat:=by omega
   simp [x1,this]
  ·by_cases x2:b.toNat<a.toNat
   ·simp [x1,x2]
   ·simp [x1,x2,ih]
abbrev qR (a b:ByteArray):Int:=Lib.compareBytes a.data.toList b.data.toList
theorem lY (a b:ByteArray):qR a b=0↔a=b:=by
 rw [qR,cmp_zero]
 constructor
 ·intro h
  cases a;cases b
  exact congrArg _ (Array.toList_inj.1 h)
 ·rintro rfl;rfl
def bL (ps:List bC):Prop:=ps.Pairwise fun p q=>qR p.name q.name<0
def bq (name:ByteArray):List bC->Nat
 | []=>0
 | p::ps=>if qR p.name name<0 then bq name ps+1 else 0
def b8 (name:ByteArray) (ps:List bC):Bool:=match ps[bq name ps]? with
 | some p=>decide (p.name=name)
 | none=>false
theorem jW (name:ByteArray):∀ ps:List bC,bq name ps<=ps.length
 | []=>Nat.le_refl 0
 | p::ps=>by
  have:=jW name ps
  simp only [bq,List.length_cons]
  split<;>omega
theorem l_ (name:ByteArray):∀ (ps:List bC) (i:Nat) (p:bC),bL ps->ps[i]? = some p->(qR p.name name<0↔i<bq name ps)
 | [],i,p,_,h=>by simp at h
 | q::ps,0,p,hs,h=>by
  simp only [List.getElem?_cons_zero,Option.some.injEq] at h
  subst h
  simp only [bq]
  split<;>simp_all
 | q::ps,i+1,p,hs,h=>by
  simp only [List.getElem?_cons_succ] at h
  have qp:bL ps:=(List.pairwise_cons.1 hs).2
  have ih:=l_ name ps i p qp h
  simp only [bq]
  split
  ·rw [ih];omega
  ·rename_i hn
   constructor
   ·intro hp
    have hq:=(List.pairwise_cons.1 hs).1 p (List.mem_of_getElem? h)
    exact absurd (cmp_trans _ _ _ hq hp) hn
   ·intro hp;omega
theorem jY (name:ByteArray) (ps:List bC):b8 name ps=true↔∃ p,ps[bq name ps]? = some p/\p.name=name:=by
 unfold b8
 split<;>simp_all
theorem thereN_mem {name:ByteArray} {ps:List bC} (hs:bL ps):b8 name ps=true↔∃ p∈ps,p.name=name:=by
 rw [jY]
 constructor
 ·rintro ⟨p,h,e⟩
  exact ⟨p,List.mem_of_getElem? h,e⟩
 ·rintro ⟨p,h,e⟩
  obtain ⟨i,hi⟩:=List.getElem?_of_mem h
  have h1:=l_ name ps i p hs hi
  have h0:¬ qR p.name name<0:=by rw [(lY p.name name).2 e];decide
  have h2:¬ i<bq name ps:=fun h=>h0 (h1.2 h)
  by_cases h3:bq name ps=i
  ·rw [h3];exact ⟨p,hi,e⟩
  ·have h4:bq name ps<i:=by omega
   have h5:bq name ps<ps.length:=Nat.lt_trans h4 (List.getElem?_eq_some_iff.1 hi).1
   have h6:=l_ name ps (bq name ps) _ hs (List.getElem?_eq_getElem h5)
   have h7:=List.pairwise_iff_getElem.1 hs _ _ h5 (List.getElem?_eq_some_iff.1 hi).1 h4
   rw [(List.getElem?_eq_some_iff.1 hi).2,e] at h7
   exact absurd (h6.1 h7) (Nat.lt_irrefl _)
theorem bL.insert {ps:List bC} {p:bC} (hs:bL ps) (hn:b8 p.name ps=false):bL (ps.take (bq p.name ps)++p::ps.drop (bq p.name ps)):=by
 have h1:∀ q∈ps.take (bq p.name ps),qR q.name p.name<0:=by
  intro q hq
  obtain ⟨i,hi⟩:=List.getElem?_of_mem hq
  rw [List.getElem?_take] at hi
  split at hi
  ·exact (l_ p.name ps i q hs hi).2 (by assumption)
  ·cases hi
 have h2:∀ q∈ps.drop (bq p.name ps),qR p.name q.name<0:=by
  intro q hq
  obtain ⟨i,hi⟩:=List.getElem?_of_mem hq
  rw [List.getElem?_drop] at hi
  have h3:¬ qR q.name p.name<0:=fun h=>by have:=(l_ p.name ps _ q hs hi).1 h;omega
  have h4:qR q.name p.name≠0:=fun h=>by
   have h5:=(thereN_mem hs).2 ⟨q,List.mem_of_getElem? hi,(lY _ _).1 h⟩
   rw [hn] at h5;cases h5
  have h6:0<qR q.name p.name:=by omega
  exact (cmp_flip _ _).2 h6
 refine List.pairwise_append.2 ⟨hs.sublist (List.take_sublist _ _),List.pairwise_cons.2 ⟨h2,hs.sublist (List.drop_sublist _ _)⟩,?_⟩
 intro a ha b hb
 rcases List.mem_cons.1 hb with rfl | hb
 ·exact h1 a ha
 ·exact cmp_trans _ _ _ (h1 a ha) (h2 b hb)
theorem bL.erase {ps:List bC} (hs:bL ps) (k:Nat):bL (ps.take k++ps.drop (k+1)):=by
 rw [<- List.eraseIdx_eq_take_drop_succ]
 exact hs.sublist (List.eraseIdx_sublist _ _)
set_option maxHeartbeats 1000000 in
theorem compare_any (p:bC) (name:ByteArray) (w:World):Calls Tryz.prog 140 #[polVal p,.string name] w fun e w'=>e=.returned (.int .i64 (qR p.name name))/\Below w.heap.size w w':=by
 have hs:=fun W=>Tryz.strings_Compare p.name name W
 unfold qR
 generalize Lib.compareBytes p.name.data.toList name.data.toList=c at *
 unfold polVal
 go_enter Tryz.func140,Tryz.ntmps140
 go_wp2_with fail
 refine (hs _).mono ?_
 rintro e w1 ⟨rfl,rfl⟩
 go_wp2_with fail
 go_ret
 exact ⟨rfl,(Below.refl _ _).al _⟩
set_option maxRecDepth 100000 in
set_option maxHeartbeats 4000000 in
theorem search_any (pb po cap:Nat) (arr:Array Value) (m:Nat×Nat) (ps:List bC) (name:ByteArray) (w:World) (hp:w.heap[pb]? = some (.cells arr 183 m)) (hP:b5 arr po ps) (hs:bL ps) (hl:ps.length<=1000000) :
  Calls Tryz.prog 139 #[.slice (some ⟨pb,po,none⟩) ps.length cap,.string name,.func (.func 140) #[] #[]] w fun e w'=>e=.returned (.tuple #[.int .i64 (bq name ps:Nat),.bool (b8 name ps)])/\Below w.heap.size w w':=by
 have Hcs:Hid (∀ W (j:Nat) p,Below w.heap.size w W->ps[j]? = some p->W.cell? ⟨pb,po+j*5,none⟩=some (.string p.name)/\W.cell? ⟨pb,po+j*5+1,none⟩=some (.pointer p.bV)/\W.cell? ⟨pb,po+j*5+2,none⟩=some (.int .i64 p.node)/\W.cell? ⟨pb,po+j*5+3,none⟩=some (.int .i64 p.cu)/\W.cell? ⟨pb,po+j*5+4,none⟩=some (.pointer p.cG)):=fun W j p hb hj=>by
  have h:=hb.aE hp
  obtain ⟨a0,a1,a2,a3,a4⟩:=hP j p hj
  exact ⟨ae h a0,ae h a1,ae h a2,ae h a3,ae h a4⟩
 have hcmp:=fun p W=>compare_any p name W
 have Hlt:Hid (∀ (i:Nat) (p:bC),ps[i]? = some p->(qR p.name name<0↔i<bq name ps)):=fun i p=>l_ name ps i p hs
 have Hth:Hid (∀ p,ps[bq name ps]? = some p->b8 name ps=decide (qR p.name name=0)):=fun p hp=>by
  unfold b8
  rw [hp]
  simp [lY]
 have Hno:Hid (¬ bq name ps<ps.length->b8 name ps=false):=fun h=>by
  unfold b8
  rw [List.getElem?_eq_none (by omega)]
 have hle:=jW name ps
 have fD:Hid (∀ j,j<ps.length->∃ p,ps[j]? = some p):=fun j hj=>⟨_,List.getElem?_eq_getElem hj⟩
 generalize b8 name ps=th at *
 generalize bq name ps=pl at *
 generalize ps.length=n at *
 unfold polVal at hcmp
 clear hP hp hs
 go_enter Tryz.func139,Tryz.ntmps139
 go_wp2_with fail
 go_loopw [9,10] (fun iv jv wr=>∃ i j:Nat,iv=.int .i64 i/\jv=.int .i64 j/\i<=pl/\pl<=j/\j<=n/\Below w.heap.size w wr) (fun iv jv _=>(intOf jv).toNat-(intOf iv).toNat)
 case atStart=>exact ⟨0,n,rfl,rfl,Nat.zero_le _,hle,Nat.le_refl _,Below.refl _ _⟩
 case round =>
  obtain ⟨lo,hi,rfl,rfl,h1,h2,h3,hb⟩:=hrel
  by_cases cz:lo<hi
  ·obtain ⟨p,hp⟩:=fD.out ((lo+hi)/2) (by omega)
   obtain ⟨y0,y1,y2,y3,y4⟩:=Hcs.out _ _ p hb hp
   have hc:=hcmp p
   have hpl:=Hlt.out _ p hp
   have Hb:Hid (Below w.heap.size w wr):=hb
   clear hcmp hb hp
   generalize qR p.name name=c at *
   by_cases lj:c<0
   ·have hq:=hpl.1 lj
    clear hpl
    go_wp2_with fail
    refine (hc _).mono ?_
    rintro e w1 ⟨rfl,a_⟩
    go_wp2_with fail
    go_roundw
    case rel=>exact ⟨(lo+hi)/2+1,hi,by rw [show ((lo:Int)+(hi:Int))/2+1=(((lo+hi)/2+1:Nat):Int) by omega],rfl,by omega,h2,h3,Hb.out.tr a_⟩
    case measure=>simp only [intOf];omega
   ·have hq:¬ (lo+hi)/2<pl:=fun h=>lj (hpl.2 h)
    clear hpl
    go_wp2_with fail
    refine (hc _).mono ?_
    rintro e w1 ⟨rfl,a_⟩
    go_wp2_with fail
    go_roundw
    case rel=>exact ⟨lo,(lo+hi)/2,rfl,by rw [show ((lo:Int)+(hi:Int))/2=(((lo+hi)/2:Nat):Int) by omega],h1,by omega,by omega,Hb.out.tr a_⟩
    case measure=>simp only [intOf];omega
  ·obtain rfl:lo=pl:=by omega
   by_cases hn:lo<n
   ·obtain ⟨p,hp⟩:=fD.out lo hn
    obtain ⟨y0,y1,y2,y3,y4⟩:=Hcs.out _ _ p hb hp
    have hc:=hcmp p
    have ht:=Hth.out p hp
    have Hb:Hid (Below w.heap.size w wr):=hb
    clear hcmp hb hp
    generalize qR p.name name=c at *
    by_cases lj:c=0
    ·subst lj
     go_wp2_with fail
     refine (hc _).mono ?_
     rintro e w1 ⟨rfl,a_⟩
     go_wp2_with fail
     go_ret2
     exact ⟨by rw [ht];rfl,Hb.out.tr a_⟩
    ·go_wp2_with fail
     refine (hc _).mono ?_
     rintro e w1 ⟨rfl,a_⟩
     go_wp2_with fail
     go_ret2
     exact ⟨by rw [ht];simp [lj],Hb.out.tr a_⟩
   ·have ht:=Hno.out hn
    subst ht
    have Hb:Hid (Below w.heap.size w wr):=hb
    clear hcmp hb
    go_wp2_with fail
    go_ret2
    exact ⟨rfl,Hb.out⟩
theorem mC (aj:Nat) (rt rm nv ev:Value) (pa:Option Addr) (aM:Nat) (ps:List bC) (name:ByteArray) (w:World) (hw:w.heap[aj]? = some (.cells #[rt,rm,nv,ev,.slice pa ps.length aM] 153 (0,0))) (hP:fg w pa aM ps) (hs:bL ps) (hl:ps.length<=1000000) :
  Calls Tryz.prog 97 #[.pointer (some ⟨aj,0,none⟩),.string name] w fun e w'=>e=.returned (.tuple #[.int .i64 (bq name ps:Nat),.bool (b8 name ps)])/\Below w.heap.size w w':=by
 rcases hP with ⟨rfl,rfl,rfl⟩ | ⟨pb,po,fA,mp,rfl,hp,hP⟩
 ·refine (find0 aj rt rm nv ev name w hw).mono ?_
  rintro e w' ⟨rfl,rfl⟩
  exact ⟨rfl,Below.refl _ _⟩
 ·have c4:=ae (i:=4) hw rfl
  have hs:=search_any pb po aM fA mp ps name w hp hP hs hl
  generalize bq name ps=pl at *
  generalize b8 name ps=th at *
  generalize ps.length=n at *
  go_enter Tryz.func97,Tryz.ntmps97
  go_wp2_with fail
  refine hs.mono ?_
  rintro e w1 ⟨rfl,a_⟩
  go_wp2_with fail
  go_ret2
  exact ⟨rfl,a_⟩
def du (ps:List bC):List Value:=(ps.map ey).flatten
theorem oD (ps:List bC):(du ps).length=ps.length*5:=ft ey 5 (fun _=>rfl) ps
theorem flatP_one (ps:List bC):∀ u∈du ps,u.oneCell'=true:=by
 intro u hu
 obtain ⟨c,hc,hu⟩:=List.mem_flatten.1 hu
 obtain ⟨p,_,rfl⟩:=List.mem_map.1 hc
 exact polOne p u hu
theorem rY (ps qs:List bC):du (ps++qs)=du ps++du qs:=by simp [du]
theorem flatP_take (ps:List bC) (i:Nat) (hi:i<=ps.length):(du ps).take (i*5)=du (ps.take i):=by
 conv=>lhs;rw [<- List.take_append_drop i ps,rY]
 have h:=oD (ps.take i)
 rw [List.length_take,Nat.min_eq_left hi] at h
 rw [List.take_append_of_le_length (by omega),List.take_of_length_le (by omega)]
theorem flatP_drop (ps:List bC) (i:Nat) (hi:i<=ps.length):(du ps).drop (i*5)=du (ps.drop i):=by
 conv=>lhs;rw [<- List.take_append_drop i ps,rY]
 have h:=oD (ps.take i)
 rw [List.length_take,Nat.min_eq_left hi] at h
 rw [List.drop_append,List.drop_of_length_le (by omega),List.nil_append,h,Nat.sub_self,List.drop_zero]
theorem flatP_at {arr:Array Value} {po:Nat} {ps:List bC} (h:b5 arr po ps) (j:Nat) (u:Value) (hj:(du ps)[j]? = some u):arr[po+j]? = some u:=by
 have hl:=oD ps
 have hjl:=(List.getElem?_eq_some_iff.1 hj).1
 have hq:j/5<ps.length:=by omega
 have hp:ps[j/5]? = some ps[j/5]:=List.getElem?_eq_getElem hq
 obtain ⟨a0,a1,a2,a3,a4⟩:=h (j/5) _ hp
 have hg:=kn ey 5 (fun _=>rfl) ps (j/5) (j % 5) ps[j/5]
 have hjj:j/5*5+j % 5=j:=by omega
 have hr:j % 5=0\/j % 5=1\/j % 5=2\/j % 5=3\/j % 5=4:=by omega
 have bH:∀ v,(ey ps[j/5])[j % 5]? = some v->arr[po+j/5*5+j % 5]? = some v->arr[po+j]? = some u:=fun v h1 h2=>by
  have h3:=hg v hp h1
  rw [hjj] at h3
  have h4:(du ps)[j]? = some v:=h3
  rw [hj] at h4
  cases h4
  rw [show po+j/5*5+j % 5=po+j by omega] at h2
  exact h2
 rcases hr with e | e | e | e | e
 ·exact bH _ (by rw [e];rfl) (by rw [e];exact a0)
 ·exact bH _ (by rw [e];rfl) (by rw [e];exact a1)
 ·exact bH _ (by rw [e];rfl) (by rw [e];exact a2)
 ·exact bH _ (by rw [e];rfl) (by rw [e];exact a3)
 ·exact bH _ (by rw [e];rfl) (by rw [e];exact a4)
theorem polsAt_flat {cur:Array Value} {ps:List bC} (h:∀ (j:Nat) u,(du ps)[j]? = some u->cur[j]? = some u):b5 cur 0 ps:=fun j p hp=>by
 have hg:=fun k v=>kn ey 5 (fun _=>rfl) ps j k p v hp
 rw [Nat.zero_add]
 exact ⟨h _ _ (hg 0 _ rfl),h _ _ (hg 1 _ rfl),h _ _ (hg 2 _ rfl),h _ _ (hg 3 _ rfl),h _ _ (hg 4 _ rfl)⟩
theorem polsAt_row {w:World} {B:Nat} {v:Value} {ps:List bC} (h:w.ownsRow B 183 5 v ps.length (du ps)) (hne:ps≠[]):∃ (g cap:Nat) (cur:Array Value),v=.slice (some ⟨g,0,none⟩) ps.length cap/\B<=g/\w.heap[g]? = some (.cells cur 183 (0,0))/\ps.length<=cap/\b5 cur 0 ps:=by
 obtain ⟨h0,⟨_,h1⟩ | ⟨g,cap,cur,e1,hB,hg,hn,_,hc,rE⟩⟩:=h
 ·exact absurd (List.length_eq_zero_iff.1 h1) hne
 ·refine ⟨g,cap,cur,e1,hB,hg,hn,polsAt_flat fun j u hj=>?_⟩
  have hjl:=(List.getElem?_eq_some_iff.1 hj).1
  rw [<- rE,List.getElem?_take,if_pos (by omega)] at hj
  simpa using hj
theorem nS (w:World) (pa:Option Addr) (aM:Nat) (ps:List bC) (hP:fg w pa aM ps) (hn:ps.length<=1000000) :
  Calls Tryz.prog 100 #[.slice pa ps.length aM] w fun e w'=>∃ v',e=.returned v'/\w'.ownsRow w.heap.size 183 5 v' ps.length (du ps)/\Below w.heap.size w w':=by
 rcases hP with ⟨rfl,rfl,rfl⟩ | ⟨pb,po,fA,mp,rfl,hp,hP⟩
 ·refine (clonePol_nil _ _ w).mono ?_
  rintro e w' ⟨rfl,rfl⟩
  exact ⟨_,rfl,World.ownsRow_nil _ _ _ _,Below.refl _ _⟩
 ·exact clonePol_some pb po ps.length aM (du ps) w (oD ps) hn (fun j u hj=>ae hp (flatP_at hP j u hj)) (flatP_one ps)
end Ev
end Go.Proofs.YtpbbmagjhkakgaaGreatDoor
