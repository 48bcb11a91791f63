import Derived.Test.YtpbbmagjhkakgaaGreatDoorEvStateToEaMany
import Derived.Lib.AppendZerosOnto
import Derived.Lib.Overlaps
namespace Go.Proofs.YtpbbmagjhkakgaaGreatDoor.Ev
open Go.RowKit Go.Deep
def rV (k:Nat):List Value:=(Builtin.zeroCells #[.string ⟨#[]⟩,.pointer none,.int .i64 0,.int .i64 0,.pointer none] k).toList
theorem ui (k:Nat):(rV k).length=k*5:=by simp [rV,Builtin.zeroCells]
theorem zerosP_one (k:Nat):∀ u∈rV k,u.oneCell'=true:=by
 intro u hu
 simp only [rV,Builtin.zeroCells,Array.toList_map,List.mem_map,Array.mem_toList_iff,Array.mem_range] at hu
 obtain ⟨i,_,rfl⟩:=hu
 have h4:i % 5=0\/i % 5=1\/i % 5=2\/i % 5=3\/i % 5=4:=by omega
 have e:(#[Value.string ⟨#[]⟩,.pointer none,.int .i64 0,.int .i64 0,.pointer none]:Array Value).size=5:=rfl
 rw [e]
 rcases h4 with h | h | h | h | h<;>rw [h]<;>rfl
theorem clear_pols (W:World) (ty:TypeId) (g o k c:Nat) (hk:k≠0) (cur:Array Value) (hg:W.heap[g]? = some (.cells cur 183 (0,0))) (hfit:o+k*5<=cur.size) :
  (Builtin.clear_ #[151] ty #[.slice (some ⟨g,o,none⟩) k c]).run Tryz.prog W=.ok (.tuple #[]) (W.setRow g (cur.toList.take o++rV k++cur.toList.drop (o+k*5)).toArray):=by
 have h1:=run_storeCells_at (P:=Tryz.prog) g o 183 (rV k) 0 cur W hg (by rw [ui];omega) (zerosP_one k)
 rw [ui,Nat.add_zero] at h1
 obtain ⟨k,rfl⟩:∃ m,k=m+1:=⟨k-1,by omega⟩
 have h2:(Value.agg #[.string ⟨#[]⟩,.pointer none,.int .i64 0,.int .i64 0,.pointer none]).cells=#[.string ⟨#[]⟩,.pointer none,.int .i64 0,.int .i64 0,.pointer none]:=rfl
 have hu:∀ w:World,(underlying 151).run Tryz.prog w=.ok (.slice 183) w:=fun w=>by
  have:=Tryz.underlying151
  simp [underlying,this]
 unfold rV at h1
 simp [Builtin.clear_,hu,h2,h1]
 rfl
set_option maxRecDepth 100000 in
set_option maxHeartbeats 8000000 in
theorem deletePol_any (B g cap i n:Nat) (xs:List Value) (w:World) (hE:w.ownsRow B 183 5 (.slice (some ⟨g,0,none⟩) n cap) n xs) (qy:∀ u∈xs,u.oneCell'=true) (tP:i<n) (hn:n<=1000) :
  Calls Tryz.prog 99 #[.slice (some ⟨g,0,none⟩) n cap,.int .i64 (i:Int),.int .i64 ((i:Int)+1)] w fun e w'=>e=.returned (.slice (some ⟨g,0,none⟩) (n-1) cap)/\w'.ownsRow B 183 5 (.slice (some ⟨g,0,none⟩) (n-1) cap) (n-1) (xs.take (i*5)++xs.drop ((i+1)*5))/\Only g w w':=by
 obtain ⟨h0,⟨h1,_⟩ | ⟨g',mq,cur,e1,hBg,hg,hnc,sa,ng,rE⟩⟩:=hE
 ·cases h1
 cases e1
 obtain ⟨i0,hi,lr,iU,lu⟩:=info_parts iy
 obtain ⟨news,rD⟩:∃ news,news=xs.drop ((i+1)*5):=⟨_,rfl⟩
 have hlen:news.length=(n-(i+1))*5:=by rw [rD,List.length_drop,h0];omega
 have hcmx:cap<=9223372036854775807:=Nat.le_trans sa (by decide)
 have hcl':cur.toList.length=cap*5:=by rw [Array.length_toList];exact ng
 have fD:∀ t u,news[t]? = some u->w.cell? ⟨g,(i+1)*5+t,none⟩=some u:=by
  intro t u hu
  have ht:t<(n-(i+1))*5:=by have:=(List.getElem?_eq_some_iff.1 hu).1;rwa [hlen] at this
  refine ae hg ?_
  rw [rD,List.getElem?_drop,<- rE,List.getElem?_take] at hu
  rw [if_pos (by omega)] at hu
  simpa using hu
 obtain ⟨A,hA,hsrc⟩:∃ A:Addr,(if cap=i+1 then some (⟨g,0,none⟩:Addr) else some ⟨g,(i+1)*5,none⟩)=some A/\Hid (∀ t u,news[t]? = some u->w.drew.cell? (A.add t)=some u):=by
  by_cases h:cap=i+1
  ·refine ⟨⟨g,0,none⟩,by simp [h],fun t u hu=>?_⟩
   have h0:news.length=0:=by rw [hlen];omega
   rw [List.length_eq_zero_iff.1 h0] at hu
   simp at hu
  ·refine ⟨⟨g,(i+1)*5,none⟩,by simp [h],fun t u hu=>?_⟩
   rw [Addr.add_lit]
   exact fD t u hu
 obtain ⟨W1,o_⟩:∃ W1,W1=w.drew.setRow g (cur.toList.take (i*i0.size)++news++cur.toList.drop (i*i0.size+news.length)).toArray:=⟨_,rfl⟩
 have hone:∀ u∈news,u.oneCell'=true:=by
  intro u hu
  rw [rD] at hu
  exact qy u (List.mem_of_mem_drop hu)
 have hg1:W1.heap[g]? = some (.cells (cur.toList.take (i*5)++news++cur.toList.drop (i*5+news.length)).toArray 183 (0,0)):=by
  rw [o_,iU]
  exact setRow_heap w.drew g cur _ _ (0,0) hg
 have hsz1:(cur.toList.take (i*5)++news++cur.toList.drop (i*5+news.length)).toArray.size=cap*5:=by
  simp only [List.size_toArray,List.length_append,List.length_take,List.length_drop,hcl',hlen]
  omega
 have om:=fun ty=>clear_pols W1 ty g ((n-1)*5) 1 (cap-(n-1)) (by omega) _ hg1 (by rw [hsz1];omega)
 have bH:∀ w2,w2=W1.setRow g ((cur.toList.take (i*5)++news++cur.toList.drop (i*5+news.length)).toArray.toList.take ((n-1)*5)++rV 1++(cur.toList.take (i*5)++news++cur.toList.drop (i*5+news.length)).toArray.toList.drop ((n-1)*5+1*5)).toArray->w2.ownsRow B 183 5 (.slice (some ⟨g,0,none⟩) (n-1) cap) (n-1) (xs.take (i*5)++xs.drop ((i+1)*5))/\Only g w w2:=by
  rintro w2 rfl
  have hpre:(cur.toList.take (i*5)++news).length=(n-1)*5:=by
   simp only [List.length_append,List.length_take,hcl',hlen]
   omega
  refine ⟨⟨?_,.inr ⟨g,cap,_,rfl,hBg,setRow_heap _ g _ _ _ _ hg1,by omega,sa,?_,?_⟩⟩,?_⟩
  ·simp only [List.length_append,List.length_take,List.length_drop,h0];omega
  ·simp only [List.size_toArray,List.length_append,List.length_take,List.length_drop,ui,hcl',hlen]
   omega
  ·have e2:(cur.toList.take (i*5)++news++cur.toList.drop (i*5+news.length)).take ((n-1)*5)=cur.toList.take (i*5)++news:=by
    rw [List.take_append_of_le_length (by omega),List.take_of_length_le (by omega)]
   have e3:cur.toList.take (i*5)=xs.take (i*5):=by rw [<- rE,List.take_take];congr 1;omega
   simp only []
   rw [e2,List.append_assoc,List.take_append_of_le_length (by omega),List.take_of_length_le (by omega),e3,rD]
  ·refine ⟨by rw [o_];rfl,by rw [o_];rfl,by rw [o_];rfl,by rw [o_];simp,fun b hb hne=>?_⟩
   rw [setRow_other _ _ _ _ hne,o_,setRow_other _ _ _ _ hne]
   rfl
 have s1:news.length=(n-(i+1))*i0.size:=by rw [iU];exact hlen
 have s2:i*i0.size+news.length<=cur.size:=by rw [ng,iU];omega
 have hW:Hid (W1=w.drew.setRow g (cur.toList.take (i*i0.size)++news++cur.toList.drop (i*i0.size+news.length)).toArray):=o_
 replace bH:Hid _:=bH
 replace s1:Hid _:=s1
 replace s2:Hid _:=s2
 replace hone:Hid _:=hone
 have oq:Hid (w.drew.heap[g]? = some (.cells cur 183 (0,0))):=hg
 have hkc:i+1<=cap:=by omega
 have hic:i<=cap:=by omega
 have hkn:(i:Int)+1<=(n:Int):=by omega
 have htn:((i:Int)+1).toNat=i+1:=by omega
 have h0i:(0:Int)<=(i:Int)+1:=by omega
 clear fD rD hlen hg1 hsz1 h0 rE hg o_ ng sa hcl' qy
 go_enter Tryz.func99,Tryz.ntmps99
 go_wp2_with fail
 go_region_law (refine qu rfl (.tmp 22) (.tmp 25) 151 rfl 183 i0 Tryz.underlying151 hi g i cap cur oq.out (by simp [Act.eval,Act.put]) A (n-(i+1)) (cap-(i+1)) news (by simp [Act.eval,Act.put]) s1.out hsrc.out hone.out (by omega) s2.out ?_;rw [<- hW.out])
 have hnk:n-(n-1)=1:=by omega
 have hnk2:i+(n-(i+1))=n-1:=by omega
 rw [hnk2]
 go_wp2
 go_ret
 exact ⟨rfl,bH.out _ (by simp only [List.append_assoc,Nat.one_mul])⟩
theorem nL (w:World) (ty:TypeId) (g o dLen dCap:Nat) (a:Addr) (sLen sCap:Nat) (cur:Array Value) (t:TypeId) (cs:List Value) (k:Nat) (hk:k=Nat.min sLen dLen)
  (hg:w.heap[g]? = some (.cells cur t (0,0))) (hn:cs.length=k*5)
  (hsrc:∀ j v,cs[j]? = some v->w.cell? (a.add j)=some v) (hfit:o+cs.length<=cur.size) (h1:∀ v∈cs,v.oneCell'=true) :
  (Builtin.copy_ #[151,151] ty #[.slice (some ⟨g,o,none⟩) dLen dCap,.slice (some a) sLen sCap]).run Tryz.prog w =
   .ok (goInt k) (w.setRow g (cur.toList.take o++cs++cur.toList.drop (o+cs.length)).toArray):=by
 have hl:=run_loadCells_list (P:=Tryz.prog) w a cs hsrc
 have df:=run_storeCells_at Tryz.prog g o t cs 0 cur w hg (by simpa using hfit) h1
 obtain ⟨i0,hi,lr,iU,lu⟩:=info_parts iy
 rw [hn] at hl
 simp [Builtin.copy_,run_underlying Tryz.underlying151,Builtin.lenOf,Builtin.firstCells,sizeOf,typeInfo,hi,iU,<- hk,hl,df]
set_option maxRecDepth 100000 in
theorem insPol_end (B g cap n vb:Nat) (cs xs:List Value) (w:World) (hE:w.ownsRow B 183 5 (.slice (some ⟨g,0,none⟩) n cap) n cs) (hxl:xs.length=5) (hc:∀ j u,xs[j]? = some u->w.cell? ⟨vb,j,none⟩=some u) (qy:∀ u∈xs,u.oneCell'=true) (hn:n<=1000) (hB:B<=w.heap.size) :
  Calls Tryz.prog 137 #[.slice (some ⟨g,0,none⟩) n cap,.int .i64 (n:Int),.slice (some ⟨vb,0,none⟩) 1 1] w fun e w'=>∃ v',e=.returned v'/\w'.ownsRow B 183 5 v' (n+1) (cs++xs)/\Below B w w':=by
 obtain ⟨i0,hi,lr,iU,lu⟩:=info_parts iy
 have HE:Hid (w.ownsRow B 183 5 (.slice (some ⟨g,0,none⟩) n cap) n cs):=hE
 have HL:Hid (xs.length=5):=hxl
 have A:Hid (∀ j u,xs[j]? = some u->w.cell? ⟨vb,j,none⟩=some u):=hc
 have hgB:∀ k,(Value.slice (some ⟨g,0,none⟩) n cap).ownBlock=some k->B<=k:=fun k hk=>(hE.lt k hk).1
 have hncap:n<=cap/\cap<=9223372036854775807:=by
  obtain ⟨_,⟨h,_⟩ | ⟨g',mq,cur,e1,_,_,h3,h4,_⟩⟩:=hE
  ·cases h
  ·cases e1
   exact ⟨h3,Nat.le_trans h4 (by decide)⟩
 replace hgB:Hid _:=hgB
 clear hE hxl hc
 by_cases hcn:cap=n
 ·subst hcn
  go_enter Tryz.func137,Tryz.ntmps137
  go_wp2_with (at_builtin;refine wpList_append_own _ rfl _ _ 151 rfl B 183 i0 (.agg #[.string ⟨#[]⟩,.pointer none,.int .i64 0,.int .i64 0,.pointer none]) 5 48 Tryz.underlying151 hi lr iU lu rfl (by decide) _ _ _ rfl HE.out ⟨vb,0,none⟩ 1 1 xs rfl ?qc1 ?qc2 ?qc3 ?qc4 ?qc5 ?qc6 ?_)
  case qc1=>exact HL.out
  case qc2 =>
   intro j u hj
   rw [Addr.add_lit,Nat.zero_add]
   exact A.out j u hj
  case qc3=>exact qy
  case qc4=>unfold maxLen;omega
  case qc5=>omega
  case qc6=>exact hB
  intro v' w1 cE bz hnil
  go_wp2_with fail
  go_ret
  exact ⟨v',rfl,cE,(Below.refl _ w).grown bz hB hgB.out⟩
 ·go_enter Tryz.func137,Tryz.ntmps137
  go_wp2_with (at_builtin;refine wpList_append_own _ rfl _ _ 151 rfl B 183 i0 (.agg #[.string ⟨#[]⟩,.pointer none,.int .i64 0,.int .i64 0,.pointer none]) 5 48 Tryz.underlying151 hi lr iU lu rfl (by decide) _ _ _ rfl HE.out ⟨vb,0,none⟩ 1 1 xs rfl ?qc1 ?qc2 ?qc3 ?qc4 ?qc5 ?qc6 ?_)
  case qc1=>exact HL.out
  case qc2 =>
   intro j u hj
   rw [Addr.add_lit,Nat.zero_add]
   exact A.out j u hj
  case qc3=>exact qy
  case qc4=>unfold maxLen;omega
  case qc5=>omega
  case qc6=>exact hB
  intro v' w1 cE bz hnil
  go_wp2_with fail
  go_ret
  exact ⟨v',rfl,cE,(Below.refl _ w).grown bz hB hgB.out⟩
set_option maxRecDepth 100000 in
set_option maxHeartbeats 8000000 in
theorem insPol_shift (B g cap i n vb:Nat) (cs xs:List Value) (w:World) (hE:w.ownsRow B 183 5 (.slice (some ⟨g,0,none⟩) n cap) n cs) (kJ:∀ u∈cs,u.oneCell'=true) (hv:w.heap[vb]? = some (.cells xs.toArray 183 (0,0))) (hxl:xs.length=5) (qy:∀ u∈xs,u.oneCell'=true) (hvg:vb≠g) (tP:i<n) (oI:n+1<=cap) (hn:n<=1000) :
  Calls Tryz.prog 137 #[.slice (some ⟨g,0,none⟩) n cap,.int .i64 (i:Int),.slice (some ⟨vb,0,none⟩) 1 1] w fun e w'=>e=.returned (.slice (some ⟨g,0,none⟩) (n+1) cap)/\w'.ownsRow B 183 5 (.slice (some ⟨g,0,none⟩) (n+1) cap) (n+1) (cs.take (i*5)++xs++cs.drop (i*5))/\Below B w w':=by
 obtain ⟨h0,⟨h1,_⟩ | ⟨g',mq,cur,e1,hBg,hg,hnc,sa,ng,rE⟩⟩:=hE
 ·cases h1
 cases e1
 obtain ⟨i0,hi,lr,iU,lu⟩:=info_parts iy
 have hcmx:cap<=9223372036854775807:=Nat.le_trans sa (by decide)
 have hcl':cur.toList.length=cap*5:=by rw [Array.length_toList];exact ng
 obtain ⟨ds,hds⟩:∃ ds,ds=cs.drop (i*5):=⟨_,rfl⟩
 have hdl:ds.length=(n-i)*5:=by rw [hds,List.length_drop,h0];omega
 have oK:∀ w,(Go.sizeOf 183).run Tryz.prog w=.ok 5 w:=fun w=>by simp [sizeOf,typeInfo,hi,iU]
 have hov:∀ lb cb,(callFunc 173 #[.slice (some ⟨vb,0,none⟩) 1 1,.slice (some ⟨g,(i+1)*5,none⟩) lb cb]).run Tryz.prog w=.ok (.value (.bool false)) w:=fun lb cb=>by
  rw [run_callFunc_extern Tryz.func173 (by kernel_rfl) (by kernel_rfl) (by kernel_rfl) (e:=Extern.SlicesOverlaps.overlaps #[151,151] #[4]) (by kernel_rfl),
   Lib.run_overlaps_apart w 151 4 183 Tryz.underlying151 5 oK ⟨vb,0,none⟩ ⟨g,(i+1)*5,none⟩ 1 1 lb cb hvg 183 183 5 (cap*5) (by simp [World.shape?,hv,hxl]) (by simp [World.shape?,hg,ng]) (by omega) (by simp [World.frozen?,hv]) (by simp [World.frozen?,hv])]
  rfl
 obtain ⟨W1,o_⟩:∃ W1,W1=w.drew.setRow g (cur.toList.take ((i+1)*5)++ds++cur.toList.drop ((i+1)*5+ds.length)).toArray:=⟨_,rfl⟩
 have hcp1:∀ ty dc sc,(Builtin.copy_ #[151,151] ty #[.slice (some ⟨g,(i+1)*5,none⟩) (n-i) dc,.slice (some ⟨g,i*5,none⟩) (n+1-i) sc]).run Tryz.prog w.drew=.ok (goInt ((n-i:Nat):Int)) W1:=fun ty dc sc=>by
  rw [o_]
  refine nL w.drew ty g ((i+1)*5) _ dc ⟨g,i*5,none⟩ _ sc cur 183 ds (n-i) (by simp only [Nat.min_def];split<;>omega) hg hdl (fun j v hj=>?_) (by rw [ng,hdl];omega) (fun v hv=>kJ v (by rw [hds] at hv;exact List.mem_of_mem_drop hv))
  rw [Addr.add_lit]
  have hjl:=(List.getElem?_eq_some_iff.1 hj).1
  refine ae (w:=w.drew) hg ?_
  rw [hds,List.getElem?_drop,<- rE,List.getElem?_take,if_pos (by omega)] at hj
  simpa using hj
 have hg1:W1.heap[g]? = some (.cells (cur.toList.take ((i+1)*5)++ds++cur.toList.drop ((i+1)*5+ds.length)).toArray 183 (0,0)):=by
  rw [o_];exact setRow_heap w.drew g cur _ _ (0,0) hg
 obtain ⟨c1,hc1e⟩:∃ c1,c1=(cur.toList.take ((i+1)*5)++ds++cur.toList.drop ((i+1)*5+ds.length)):=⟨_,rfl⟩
 rw [<- hc1e] at hg1
 have hc1l:c1.length=cap*5:=by
  rw [hc1e];simp only [List.length_append,List.length_take,List.length_drop,hcl',hdl];omega
 have hv1:W1.heap[vb]? = some (.cells xs.toArray 183 (0,0)):=by rw [o_,setRow_other _ _ _ _ hvg];exact hv
 obtain ⟨W2,hW2⟩:∃ W2,W2=W1.setRow g (c1.toArray.toList.take (i*5)++xs++c1.toArray.toList.drop (i*5+xs.length)).toArray:=⟨_,rfl⟩
 have hcp2:∀ ty dc,(Builtin.copy_ #[151,151] ty #[.slice (some ⟨g,i*5,none⟩) (n+1-i) dc,.slice (some ⟨vb,0,none⟩) 1 1]).run Tryz.prog W1=.ok (goInt ((1:Nat):Int)) W2:=fun ty dc=>by
  rw [hW2]
  refine nL W1 ty g (i*5) _ dc ⟨vb,0,none⟩ _ 1 c1.toArray 183 xs 1 (by simp only [Nat.min_def];split<;>omega) hg1 (by omega) (fun j v hj=>?_) (by simp only [List.size_toArray];omega) qy
  rw [Addr.add_lit,Nat.zero_add]
  exact ae hv1 (by simpa using hj)
 have bH:W2.ownsRow B 183 5 (.slice (some ⟨g,0,none⟩) (n+1) cap) (n+1) (cs.take (i*5)++xs++ds)/\Below B w W2:=by
  refine ⟨⟨?_,.inr ⟨g,cap,_,rfl,hBg,by rw [hW2];exact setRow_heap W1 g _ _ _ _ hg1,oI,sa,?_,?_⟩⟩,?_⟩
  ·simp only [List.length_append,List.length_take,h0,hdl,hxl];omega
  ·simp only [List.size_toArray,List.length_append,List.length_take,List.length_drop,hc1l,hxl];omega
  ·have e1:c1.take (i*5)=cs.take (i*5):=by
    rw [hc1e,List.append_assoc,List.take_append_of_le_length (by simp only [List.length_take,hcl'];omega),List.take_take,<- rE,List.take_take]
    congr 1
    omega
   have e2:c1.drop (i*5+xs.length)=ds++cur.toList.drop ((i+1)*5+ds.length):=by
    rw [hc1e,List.append_assoc,List.drop_append,List.drop_of_length_le (by simp only [List.length_take,hcl'];omega),List.nil_append]
    have:i*5+xs.length-(List.take ((i+1)*5) cur.toList).length=0:=by simp only [List.length_take,hcl'];omega
    rw [this,List.drop_zero]
   simp only []
   rw [e1,e2,<- List.append_assoc,List.take_append_of_le_length (by simp only [List.length_append,List.length_take,h0,hdl,hxl];omega),List.take_of_length_le (by simp only [List.length_append,List.length_take,h0,hdl,hxl];omega)]
  ·have b1:Below B w W1:=by rw [o_];exact (Below.refl _ w).drew.trans ⟨rfl,rfl,rfl,by simp [World.setRow],fun k hk=>setRow_other _ _ _ _ (by omega)⟩
   rw [hW2]
   exact b1.trans ⟨rfl,rfl,rfl,by simp [World.setRow],fun k hk=>setRow_other _ _ _ _ (by omega)⟩
 rw [hds] at bH
 replace bH:Hid _:=bH
 have cB:¬ (cap=i+1):=by omega
 have hb4:¬ (cap=i):=by omega
 have hz1':¬ ((i:Int)=(n:Int)):=by omega
 have l8:IntKind.i64.wrap ((i:Int)+1)=(i:Int)+1:=by rw [IntKind.wrap_i64];omega
 have a_:(0:Int)<=(i:Int)+1:=by omega
 have hin':i<=n:=by omega
 have htn:((i:Int)+1).toNat=i+1:=by omega
 have pU:(i:Int)<=(n:Int)+1:=by omega
 clear hg1 hc1e hc1l hv1 hW2 o_ hg ng rE hcl' hds hdl kJ hv qy h0
 go_enter Tryz.func137,Tryz.ntmps137
 go_wp2_with (simp only [hov])
 go_region_law (refine step_copyR rfl (.tmp 73) (.tmp 76) 151 151 rfl _ _ (by simp [Act.eval,Act.put]) (by simp [Act.eval,Act.put]) (hcp1 _ _ _) ?_)
 go_wp2_with (at_builtin;refine wpList_copyR _ rfl _ _ 151 151 rfl _ _ rfl rfl (hcp2 _ _) ?_)
 go_ret
 exact ⟨rfl,bH.out⟩
set_option maxRecDepth 100000 in
set_option maxHeartbeats 8000000 in
theorem insPol_grow (B g cap i n vb:Nat) (cs xs:List Value) (w:World) (hE:w.ownsRow B 183 5 (.slice (some ⟨g,0,none⟩) n cap) n cs) (kJ:∀ u∈cs,u.oneCell'=true) (hv:w.heap[vb]? = some (.cells xs.toArray 183 (0,0))) (hxl:xs.length=5) (qy:∀ u∈xs,u.oneCell'=true) (tP:i<n) (oI:cap<n+1) (hn:n<=1000) (hB:B<=w.heap.size) :
  Calls Tryz.prog 137 #[.slice (some ⟨g,0,none⟩) n cap,.int .i64 (i:Int),.slice (some ⟨vb,0,none⟩) 1 1] w fun e w'=>∃ v',e=.returned v'/\w'.ownsRow B 183 5 v' (n+1) (cs.take (i*5)++xs++cs.drop (i*5))/\Below B w w':=by
 obtain ⟨h0,⟨h1,_⟩ | ⟨g',mq,cur,e1,hBg,hg,hnc,sa,ng,rE⟩⟩:=hE
 ·cases h1
 cases e1
 obtain rfl:cap=n:=by omega
 obtain ⟨i0,hi,lr,iU,lu⟩:=info_parts iy
 have hgl:=aw hg
 have hvl:=aw hv
 have hcl':cur.toList.length=cap*5:=by rw [Array.length_toList];exact ng
 have hcc:cur.toList=cs:=by rw [<- rE,List.take_of_length_le (by omega)]
 obtain ⟨ds,hds⟩:∃ ds,ds=cs.drop (i*5):=⟨_,rfl⟩
 have hdl:ds.length=(cap-i)*5:=by rw [hds,List.length_drop,h0];omega
 have fD:∀ (j:Nat) v,cs[j]? = some v->w.cell? ⟨g,j,none⟩=some v:=fun j v hj=>ae hg (by rw [<- hcc] at hj;simpa using hj)
 have hold:(Builtin.firstCells i0.size i (.slice (some ⟨g,0,none⟩) i cap)).run Tryz.prog w.drew=.ok (cs.take (i*5)).toArray w.drew:=by
  have hl:=run_loadCells_list (P:=Tryz.prog) w.drew ⟨g,0,none⟩ (cs.take (i*5)) (fun j v hj=>by
   rw [Addr.add_lit,Nat.zero_add]
   rw [List.getElem?_take] at hj
   split at hj
   ·exact fD j v hj
   ·cases hj)
  rw [List.length_take,h0,Nat.min_eq_left (by omega)] at hl
  rw [iU]
  simp [Builtin.firstCells,hl]
 have hkk:(cap:Int)+1-(i:Int)=((cap+1-i:Nat):Int):=by omega
 have hik:i+(cap+1-i)=cap+1:=by omega
 obtain ⟨G,hG⟩:∃ G,G=grownCap w (cap+1) cap 183:=⟨_,rfl⟩
 obtain ⟨ROW,hROW⟩:∃ ROW:Array Value,ROW=(cs.take (i*5)).toArray++Builtin.zeroCells (Value.agg #[.string ⟨#[]⟩,.pointer none,.int .i64 0,.int .i64 0,.pointer none]).cells (cap+1-i)++Builtin.zeroCells (Value.agg #[.string ⟨#[]⟩,.pointer none,.int .i64 0,.int .i64 0,.pointer none]).cells (G-(cap+1)):=⟨_,rfl⟩
 obtain ⟨W1,o_⟩:∃ W1,W1=w.drew.alloc (.cells ROW 183):=⟨_,rfl⟩
 obtain ⟨N,hN⟩:∃ N,N=w.heap.size:=⟨_,rfl⟩
 have hrz:∀ ty,(Builtin.append_ #[151,3] ty #[.slice (some ⟨g,0,none⟩) i cap,.int .i64 ((cap:Int)+1-(i:Int))]).run Tryz.prog w =
   .ok (.slice (some ⟨N,0,none⟩) (cap+1) G) W1:=fun ty=>by
  have h:=Lib.run_append_grow_zeros w 151 3 ty 183 i0 _ .i64 .i64 Tryz.underlying151 Tryz.underlying3 hi lr (some ⟨g,0,none⟩) i cap (cs.take (i*5)) hold (cap+1-i) (by omega) (by omega) (by omega) (by omega) (by rw [lu];omega) (by rw [lu,hik];exact growslice_fits oI (by omega))
  rw [hik,<- hG,<- hROW,<- o_,<- hN] at h
  rw [hkk]
  exact h
 have hGn:cap+1<=G:=by rw [hG];exact grownCap_ge w _ _ _
 have hGm:G<=maxLen:=by rw [hG];exact grownCap_le_maxLen w (cap+1) cap 183 (by unfold maxLen;omega)
 have hG63:G<=9223372036854775807:=Nat.le_trans hGm (by decide)
 have hRl:ROW.toList.length=G*5:=by
  rw [hROW]
  simp [Builtin.zeroCells,Value.cells,h0]
  omega
 have hg1:W1.heap[N]? = some (.cells ROW 183 (0,0)):=by rw [o_,hN];exact aB _ _ _ rfl
 have hv1:W1.heap[vb]? = some (.cells xs.toArray 183 (0,0)):=by rw [o_];exact (Below.heap_alloc _ _ _ hvl).trans hv
 have hgg1:W1.heap[g]? = some (.cells cur 183 (0,0)):=by rw [o_];exact (Below.heap_alloc _ _ _ hgl).trans hg
 obtain ⟨W2,hW2⟩:∃ W2,W2=W1.setRow N (ROW.toList.take (i*5)++xs++ROW.toList.drop (i*5+xs.length)).toArray:=⟨_,rfl⟩
 have hcpA:∀ ty dc,(Builtin.copy_ #[151,151] ty #[.slice (some ⟨N,i*5,none⟩) (cap+1-i) dc,.slice (some ⟨vb,0,none⟩) 1 1]).run Tryz.prog W1=.ok (goInt ((1:Nat):Int)) W2:=fun ty dc=>by
  rw [hW2]
  refine nL W1 ty N (i*5) _ dc ⟨vb,0,none⟩ _ 1 ROW 183 xs 1 (by simp only [Nat.min_def];split<;>omega) hg1 (by omega) (fun j v hj=>?_) (by rw [<- Array.length_toList];omega) qy
  rw [Addr.add_lit,Nat.zero_add]
  exact ae hv1 (by simpa using hj)
 obtain ⟨c1,hc1e⟩:∃ c1,c1=ROW.toList.take (i*5)++xs++ROW.toList.drop (i*5+xs.length):=⟨_,rfl⟩
 have hg2:W2.heap[N]? = some (.cells c1.toArray 183 (0,0)):=by rw [hW2,hc1e];exact setRow_heap W1 N ROW _ _ (0,0) hg1
 have hc1l:c1.length=G*5:=by
  rw [hc1e];simp only [List.length_append,List.length_take,List.length_drop,hRl,hxl];omega
 have hgN:g≠N:=by omega
 have hgg2:W2.heap[g]? = some (.cells cur 183 (0,0)):=by rw [hW2,setRow_other _ _ _ _ hgN];exact hgg1
 obtain ⟨W3,hW3⟩:∃ W3,W3=W2.drew.setRow N (c1.toArray.toList.take ((i+1)*5)++ds++c1.toArray.toList.drop ((i+1)*5+ds.length)).toArray:=⟨_,rfl⟩
 have hcpB:∀ ty dc sc,(Builtin.copy_ #[151,151] ty #[.slice (some ⟨N,(i+1)*5,none⟩) (cap-i) dc,.slice (some ⟨g,i*5,none⟩) (cap-i) sc]).run Tryz.prog W2.drew=.ok (goInt ((cap-i:Nat):Int)) W3:=fun ty dc sc=>by
  rw [hW3]
  refine nL W2.drew ty N ((i+1)*5) _ dc ⟨g,i*5,none⟩ _ sc c1.toArray 183 ds (cap-i) (by simp only [Nat.min_def];split<;>omega) hg2 hdl (fun j v hj=>?_) (by simp only [List.size_toArray];omega) (fun v hv=>kJ v (by rw [hds] at hv;exact List.mem_of_mem_drop hv))
  rw [Addr.add_lit]
  refine ae (w:=W2.drew) hgg2 ?_
  rw [hds,List.getElem?_drop,<- hcc] at hj
  simpa using hj
 have bH:W3.ownsRow B 183 5 (.slice (some ⟨N,0,none⟩) (cap+1) G) (cap+1) (cs.take (i*5)++xs++ds)/\Below B w W3:=by
  refine ⟨⟨?_,.inr ⟨N,G,_,rfl,by omega,by rw [hW3];exact setRow_heap W2.drew N _ _ _ _ hg2,hGn,hGm,?_,?_⟩⟩,?_⟩
  ·simp only [List.length_append,List.length_take,h0,hdl,hxl];omega
  ·simp only [List.size_toArray,List.length_append,List.length_take,List.length_drop,hc1l,hdl];omega
  ·have e0:ROW.toList.take (i*5)=cs.take (i*5):=by
    rw [hROW]
    simp only [Array.toList_append,List.append_assoc]
    rw [List.take_append_of_le_length (by simp only [List.length_take,h0];omega),List.take_of_length_le (by simp only [List.length_take];omega)]
   have e1:c1.take ((i+1)*5)=cs.take (i*5)++xs:=by
    rw [hc1e,e0,List.take_append_of_le_length (by simp only [List.length_append,List.length_take,h0,hxl];omega),List.take_of_length_le (by simp only [List.length_append,List.length_take,h0,hxl];omega)]
   simp only []
   rw [e1,List.take_append_of_le_length (by simp only [List.length_append,List.length_take,h0,hdl,hxl];omega),List.take_of_length_le (by simp only [List.length_append,List.length_take,h0,hdl,hxl];omega)]
  ·have b1:Below B w W1:=by rw [o_];exact ((Below.refl _ w).drew).alloc hB _
   have b2:Below B w W2:=by rw [hW2];exact b1.trans ⟨rfl,rfl,rfl,by simp [World.setRow],fun k hk=>setRow_other _ _ _ _ (by omega)⟩
   rw [hW3]
   exact b2.drew.trans ⟨rfl,rfl,rfl,by simp [World.setRow],fun k hk=>setRow_other _ _ _ _ (by omega)⟩
 rw [hds] at bH
 replace bH:Hid _:=bH
 have hGi:¬ (G=i):=by omega
 have hGim:¬ (G=i+1):=by omega
 have hb4:¬ (cap=i):=by omega
 have hz1':¬ ((i:Int)=(cap:Int)):=by omega
 have l8:IntKind.i64.wrap ((i:Int)+1)=(i:Int)+1:=by rw [IntKind.wrap_i64];omega
 have a_:(0:Int)<=(i:Int)+1:=by omega
 have hin':i<=cap:=by omega
 have htn:((i:Int)+1).toNat=i+1:=by omega
 have pU:(i:Int)<=(cap:Int):=by omega
 have hz3:(cap:Int)<(cap:Int)+1:=by omega
 clear hN hg1 hc1e hc1l hv1 hW3 hW2 o_ hg ng rE hcl' hds hdl kJ hv qy h0 hg2 hgg1 hgg2 hRl hROW hG hold fD hcc hkk hik
 go_enter Tryz.func137,Tryz.ntmps137
 go_wp2_with (first
  | (at_builtin;refine Lib.wpList_append_run _ rfl _ _ _ _ rfl _ _ rfl rfl _ _ (hrz _) ?_)
  | (at_builtin;refine wpList_copyR _ rfl _ _ 151 151 rfl _ _ rfl rfl (hcpA _ _) ?_))
 go_region_law (refine step_copyR rfl (.tmp 50) (.tmp 53) 151 151 rfl _ _ (by simp [Act.eval,Act.put]) (by simp [Act.eval,Act.put]) (hcpB _ _ _) ?_)
 go_wp2
 go_ret
 exact ⟨_,rfl,bH.out⟩
theorem insPol_any (B g cap i n vb:Nat) (cs xs:List Value) (w:World) (hE:w.ownsRow B 183 5 (.slice (some ⟨g,0,none⟩) n cap) n cs) (kJ:∀ u∈cs,u.oneCell'=true) (hv:w.heap[vb]? = some (.cells xs.toArray 183 (0,0))) (hxl:xs.length=5) (qy:∀ u∈xs,u.oneCell'=true) (hvg:vb≠g) (tP:i<=n) (hn:n<=1000) (hB:B<=w.heap.size) :
  Calls Tryz.prog 137 #[.slice (some ⟨g,0,none⟩) n cap,.int .i64 (i:Int),.slice (some ⟨vb,0,none⟩) 1 1] w fun e w'=>∃ v',e=.returned v'/\w'.ownsRow B 183 5 v' (n+1) (cs.take (i*5)++xs++cs.drop (i*5))/\Below B w w':=by
 rcases Nat.lt_or_ge i n with hi | hi
 ·rcases Nat.lt_or_ge cap (n+1) with hr | hr
  ·exact insPol_grow B g cap i n vb cs xs w hE kJ hv hxl qy hi hr hn hB
  ·refine (insPol_shift B g cap i n vb cs xs w hE kJ hv hxl qy hvg hi hr hn).mono ?_
   rintro e w' ⟨rfl,h1,h2⟩
   exact ⟨_,rfl,h1,h2⟩
 ·obtain rfl:i=n:=by omega
  refine (insPol_end B g cap i vb cs xs w hE hxl (fun j u hj=>ae hv (by simpa using hj)) qy hn hB).mono ?_
  rintro e w' ⟨v',rfl,h1,h2⟩
  have hl:=hE.1
  rw [List.take_of_length_le (by omega),List.drop_of_length_le (by omega),List.append_nil]
  exact ⟨v',rfl,h1,h2⟩
end Go.Proofs.YtpbbmagjhkakgaaGreatDoor.Ev
