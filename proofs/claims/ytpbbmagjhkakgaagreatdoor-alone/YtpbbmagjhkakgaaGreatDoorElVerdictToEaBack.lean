import Derived.Test.YtpbbmagjhkakgaaGreatDoorElJudgeToEdEvent
namespace Go.Proofs.YtpbbmagjhkakgaaGreatDoor
namespace Ev
open Go.RowKit Go.Deep Go.Maps Lf
set_option maxHeartbeats 1000000 in
theorem says170 (num time at_:Value) (sb so n cap i:Nat) (v:Bool) (w:World) (hsb:sb<w.heap.size) (hv:w.cell? ⟨sb,so+i,none⟩=some (.bool v)) (hi:i<n) :
  Calls Tryz.prog 170 #[.agg #[num,time,at_,.slice (some ⟨sb,so,none⟩) n cap],.int .i64 i] w fun e w'=>e=.returned (.bool v)/\Below w.heap.size w w':=by
 go_enter Tryz.func170,Tryz.ntmps170
 go_wp2_with fail
 have hb:Below w.heap.size w (w.alloc (.cells #[num,time,at_,.slice (some ⟨sb,so,none⟩) n cap] 159)):=(Below.refl _ _).al _
 have y3:(w.alloc (.cells #[num,time,at_,.slice (some ⟨sb,so,none⟩) n cap] 159)).cell? ⟨w.heap.size,3,none⟩=some (.slice (some ⟨sb,so,none⟩) n cap):=ae (aB _ _ _ rfl) rfl
 have yv:(w.alloc (.cells #[num,time,at_,.slice (some ⟨sb,so,none⟩) n cap] 159)).cell? ⟨sb,so+i,none⟩=some (.bool v):=by rw [hb.cell (p:=⟨sb,so+i,none⟩) hsb];exact hv
 generalize (w.alloc (.cells #[num,time,at_,.slice (some ⟨sb,so,none⟩) n cap] 159))=W at *
 go_wp2_with fail
 go_ret
 exact ⟨rfl,hb⟩
set_option maxRecDepth 100000 in
set_option maxHeartbeats 4000000 in
theorem verdict_any (name bV cG:Value) (ao:Option Addr) (al ac:Nat) (cu num time:Int) (sb so n cap node:Nat) (v:Bool) (w:World) (hsb:sb<w.heap.size) (hv:w.cell? ⟨sb,so+node,none⟩=some (.bool v)) (hi:node<n) :
  Calls Tryz.prog 134 #[.agg #[name,bV,.int .i64 node,.int .i64 cu,cG],.agg #[.int .i64 num,.int .i64 time,.slice ao al ac,.slice (some ⟨sb,so,none⟩) n cap]] w fun e w'=>e=.returned (.agg #[.int .i64 num,.int .i64 time,.int .i64 cu,.bool v])/\Below w.heap.size w w':=by
 have Hv:Hid (w.cell? ⟨sb,so+node,none⟩=some (.bool v)):=hv
 clear hv
 go_enter Tryz.func134,Tryz.ntmps134
 go_wp2_with fail
 have hbW:Below w.heap.size w (((w.alloc (.cells #[name,bV,.int .i64 node,.int .i64 cu,cG] 183)).alloc (.cells #[.int .i64 num,.int .i64 time,.slice ao al ac,.slice (some ⟨sb,so,none⟩) n cap] 159)).alloc (.cells #[.int .i64 0,.int .i64 0,.int .i64 0,.bool false] 59)):=(((Below.refl _ w).al _).al _).al _
 have h1:(((w.alloc (.cells #[name,bV,.int .i64 node,.int .i64 cu,cG] 183)).alloc (.cells #[.int .i64 num,.int .i64 time,.slice ao al ac,.slice (some ⟨sb,so,none⟩) n cap] 159)).alloc (.cells #[.int .i64 0,.int .i64 0,.int .i64 0,.bool false] 59)).heap[w.heap.size]? = some (.cells #[name,bV,.int .i64 node,.int .i64 cu,cG] 183 (0,0)):=(Below.heap_alloc _ _ _ (by simp;omega)).trans ((Below.heap_alloc _ _ _ (by simp)).trans (aB _ _ _ rfl))
 have h2:(((w.alloc (.cells #[name,bV,.int .i64 node,.int .i64 cu,cG] 183)).alloc (.cells #[.int .i64 num,.int .i64 time,.slice ao al ac,.slice (some ⟨sb,so,none⟩) n cap] 159)).alloc (.cells #[.int .i64 0,.int .i64 0,.int .i64 0,.bool false] 59)).heap[w.heap.size+1]? = some (.cells #[.int .i64 num,.int .i64 time,.slice ao al ac,.slice (some ⟨sb,so,none⟩) n cap] 159 (0,0)):=(Below.heap_alloc _ _ _ (by simp)).trans (aB _ _ _ (by simp))
 have h3:(((w.alloc (.cells #[name,bV,.int .i64 node,.int .i64 cu,cG] 183)).alloc (.cells #[.int .i64 num,.int .i64 time,.slice ao al ac,.slice (some ⟨sb,so,none⟩) n cap] 159)).alloc (.cells #[.int .i64 0,.int .i64 0,.int .i64 0,.bool false] 59)).heap[w.heap.size+1+1]? = some (.cells #[.int .i64 0,.int .i64 0,.int .i64 0,.bool false] 59 (0,0)):=aB _ _ _ (by simp)
 generalize (((w.alloc (.cells #[name,bV,.int .i64 node,.int .i64 cu,cG] 183)).alloc (.cells #[.int .i64 num,.int .i64 time,.slice ao al ac,.slice (some ⟨sb,so,none⟩) n cap] 159)).alloc (.cells #[.int .i64 0,.int .i64 0,.int .i64 0,.bool false] 59))=W at *
 have hws:w.heap.size+1+1<W.heap.size:=aw h3
 generalize nY:w.heap.size=b1 at *
 generalize hB2:b1+1=b2 at *
 generalize hB3:b2+1=b3 at *
 have kj:Hid (∀ w',Below W.heap.size W w'->(fun w'=>w'.cell? ⟨b1,2,none⟩=some (.int .i64 node)/\w'.cell? ⟨b1,3,none⟩=some (.int .i64 cu)/\w'.cell? ⟨b2,0,none⟩=some (.int .i64 num)/\w'.cell? ⟨b2,1,none⟩=some (.int .i64 time)/\w'.cell? ⟨b2,2,none⟩=some (.slice ao al ac)/\w'.cell? ⟨b2,3,none⟩=some (.slice (some ⟨sb,so,none⟩) n cap)) w'):=fun w' hb=>⟨ae (hb.aE h1) rfl,ae (hb.aE h1) rfl,ae (hb.aE h2) rfl,ae (hb.aE h2) rfl,ae (hb.aE h2) rfl,ae (hb.aE h2) rfl⟩
 have hZ:(fun w'=>w'.cell? ⟨b1,2,none⟩=some (.int .i64 node)/\w'.cell? ⟨b1,3,none⟩=some (.int .i64 cu)/\w'.cell? ⟨b2,0,none⟩=some (.int .i64 num)/\w'.cell? ⟨b2,1,none⟩=some (.int .i64 time)/\w'.cell? ⟨b2,2,none⟩=some (.slice ao al ac)/\w'.cell? ⟨b2,3,none⟩=some (.slice (some ⟨sb,so,none⟩) n cap)) W.drew:=kj.out _ (Below.refl _ W).drew
 refine bJ.begin (S:=(fun w'=>w'.cell? ⟨b1,2,none⟩=some (.int .i64 node)/\w'.cell? ⟨b1,3,none⟩=some (.int .i64 cu)/\w'.cell? ⟨b2,0,none⟩=some (.int .i64 num)/\w'.cell? ⟨b2,1,none⟩=some (.int .i64 time)/\w'.cell? ⟨b2,2,none⟩=some (.slice ao al ac)/\w'.cell? ⟨b2,3,none⟩=some (.slice (some ⟨sb,so,none⟩) n cap))) (fin:=11) (by kernel_rfl) ?_
 simp only [List.size_toArray,List.length_cons,List.length_nil,Nat.reduceAdd,Nat.zero_add]
 refine bJ.take 0 (v:=?vq0) rfl (by decide +kernel) (by decide +kernel) (by decide +kernel) (by decide +kernel) (fun c a w h=>h) (by rfl) (fun w' hS=>Go.Conc.run_eq_of ?rq0) hZ ?_
 case rq0 =>
  intro K' hK'
  clear hS
  go_simp
  exact hK'
 try walk_nrm
 refine bJ.take 1 (v:=?vq1) rfl (by decide +kernel) (by decide +kernel) (by decide +kernel) (by decide +kernel) (fun c a w h=>h) (by rfl) (fun w' hS=>Go.Conc.run_eq_of ?rq1) hZ ?_
 case rq1 =>
  intro K' hK'
  obtain ⟨y1,y2,y3,y4,y5,y6⟩:=hS
  go_simp
  exact hK'
 try walk_nrm
 refine bJ.take 2 (v:=?vq2) rfl (by decide +kernel) (by decide +kernel) (by decide +kernel) (by decide +kernel) (fun c a w h=>h) (by rfl) (fun w' hS=>Go.Conc.run_eq_of ?rq2) hZ ?_
 case rq2 =>
  intro K' hK'
  clear hS
  go_simp
  exact hK'
 try walk_nrm
 refine bJ.take 3 (v:=?vq3) rfl (by decide +kernel) (by decide +kernel) (by decide +kernel) (by decide +kernel) (fun c a w h=>h) (by rfl) (fun w' hS=>Go.Conc.run_eq_of ?rq3) hZ ?_
 case rq3 =>
  intro K' hK'
  obtain ⟨y1,y2,y3,y4,y5,y6⟩:=hS
  go_simp
  exact hK'
 try walk_nrm
 refine bJ.take 4 (v:=?vq4) rfl (by decide +kernel) (by decide +kernel) (by decide +kernel) (by decide +kernel) (fun c a w h=>h) (by rfl) (fun w' hS=>Go.Conc.run_eq_of ?rq4) hZ ?_
 case rq4 =>
  intro K' hK'
  clear hS
  go_simp
  exact hK'
 try walk_nrm
 refine bJ.take 5 (v:=?vq5) rfl (by decide +kernel) (by decide +kernel) (by decide +kernel) (by decide +kernel) (fun c a w h=>h) (by rfl) (fun w' hS=>Go.Conc.run_eq_of ?rq5) hZ ?_
 case rq5 =>
  intro K' hK'
  obtain ⟨y1,y2,y3,y4,y5,y6⟩:=hS
  go_simp
  exact hK'
 try walk_nrm
 refine bJ.take 6 (v:=?vq6) rfl (by decide +kernel) (by decide +kernel) (by decide +kernel) (by decide +kernel) (fun c a w h=>h) (by rfl) (fun w' hS=>Go.Conc.run_eq_of ?rq6) hZ ?_
 case rq6 =>
  intro K' hK'
  obtain ⟨y1,y2,y3,y4,y5,y6⟩:=hS
  go_simp
  exact hK'
 try walk_nrm
 refine bJ.take 7 (v:=?vq7) rfl (by decide +kernel) (by decide +kernel) (by decide +kernel) (by decide +kernel) (fun c a w h=>h) (by rfl) (fun w' hS=>Go.Conc.run_eq_of ?rq7) hZ ?_
 case rq7 =>
  intro K' hK'
  clear hS
  go_simp
  exact hK'
 try walk_nrm
 refine bJ.take 8 (v:=?vq8) rfl (by decide +kernel) (by decide +kernel) (by decide +kernel) (by decide +kernel) (fun c a w h=>h) (by rfl) (fun w' hS=>Go.Conc.run_eq_of ?rq8) hZ ?_
 case rq8 =>
  intro K' hK'
  obtain ⟨y1,y2,y3,y4,y5,y6⟩:=hS
  go_simp
  exact hK'
 try walk_nrm
 have hb0:Below W.heap.size W W.drew:=(Below.refl _ W).drew
 refine bJ.one (i:=9) (by decide +kernel) rfl (by rfl) ?_
 unfold Oper.wp
 rw [Go.Conc.run_call_body (f:=170) (args:=#[.tmp 11,.tmp 13]) (ats:=#[159,3]) rfl Tryz.func170 (by decide) rfl]
 simp only [Oper.upon,List.map_toArray,List.map_cons,List.map_nil]
 change Calls Tryz.prog 170 #[.agg #[.int .i64 num,.int .i64 time,.slice ao al ac,.slice (some ⟨sb,so,none⟩) n cap],.int .i64 node] W.drew _
 refine (says170 (.int .i64 num) (.int .i64 time) (.slice ao al ac) sb so n cap node v W.drew (by have:=hbW.size;show sb<W.heap.size;omega) ?hcv hi).mono ?_
 case hcv=>rw [(hbW.drew).cell (p:=⟨sb,so+node,none⟩) hsb];exact Hv.out
 rintro e V1 ⟨rfl,hbI⟩
 have qw:Below W.heap.size W V1:=hb0.tr hbI
 have hV3:V1.heap[b3]? = some (.cells #[.int .i64 0,.int .i64 0,.int .i64 0,.bool false] 59 (0,0)):=qw.aE h3
 have hwV:Below b1 w V1:=hbW.trans (qw.mono (by omega))
 refine ⟨fun _=>kj.out _ qw,?_⟩
 try walk_nrm
 refine bJ.op (i:=10) (by decide +kernel) rfl (by rfl) (fun K' hK'=>?_)
 unfold Oper.wp
 go_simp
 refine hK' _ _ ⟨fun _=>kj.out _ qw,?_⟩
 clear hK' K'
 try walk_nrm
 refine bJ.op (i:=11) (by decide +kernel) rfl (by rfl) (fun K' hK'=>?_)
 unfold Oper.wp
 have k1:=b7 (i:=0) (v:=.int .i64 num) hV3
 have k2:=b7 (i:=1) (v:=.int .i64 time) k1
 have k3:=b7 (i:=2) (v:=.int .i64 cu) k2
 have k4:=b7 (i:=3) (v:=.bool v) k3
 have hwU:Below b1 w ((((V1.setCell ⟨b3,0,none⟩ (.int .i64 num)).setCell ⟨b3,1,none⟩ (.int .i64 time)).setCell ⟨b3,2,none⟩ (.int .i64 cu)).setCell ⟨b3,3,none⟩ (.bool v)):=(((hwV.setCell (p:=⟨b3,0,none⟩) (by show b1<=b3;omega) _).setCell (p:=⟨b3,1,none⟩) (by show b1<=b3;omega) _).setCell (p:=⟨b3,2,none⟩) (by show b1<=b3;omega) _).setCell (p:=⟨b3,3,none⟩) (by show b1<=b3;omega) _
 have c0:=ae (i:=0) hV3 rfl
 have c1:=ae (i:=1) k1 rfl
 have c2:=ae (i:=2) k2 rfl
 have c3:=ae (i:=3) k3 rfl
 have f0:V1.frozen? ⟨b3,0,none⟩=false:=Lib.frozen_of_heap hV3 0
 have f1:=Lib.frozen_of_heap k1 1
 have f2:=Lib.frozen_of_heap k2 2
 have f3:=Lib.frozen_of_heap k3 3
 have d0:=ae (i:=0) k4 rfl
 have d1:=ae (i:=1) k4 rfl
 have d2:=ae (i:=2) k4 rfl
 have d3:=ae (i:=3) k4 rfl
 go_simp
 refine hK' _ _ ⟨fun h=>absurd h (by decide),?_⟩
 clear hK' K'
 refine bJ.done (by decide +kernel) ?_ _
 try walk_nrm
 clear c0 c1 c2 c3 f0 f1 f2 f3 k1 k2 k3 k4
 generalize ((((V1.setCell ⟨b3,0,none⟩ (.int .i64 num)).setCell ⟨b3,1,none⟩ (.int .i64 time)).setCell ⟨b3,2,none⟩ (.int .i64 cu)).setCell ⟨b3,3,none⟩ (.bool v))=U at *
 go_wp2_with fail
 refine bodyPost_ret (v:=.agg #[.int .i64 num,.int .i64 time,.int .i64 cu,.bool v]) (by simp [results,Tryz.results134,go_sem,d0,d1,d2,d3]) rfl ⟨rfl,hwU⟩
def backV (hold:bx->Bool) (cu:Int) (D:List bx):List Value:=D.flatMap fun c=>bO c.number c.time cu (hold c)
theorem knownF_sub {reach:Int} {C:List bx} {d:bx} (h:d∈fu reach C):d∈C:=by
 cases C with
 | nil=>simp [fu] at h
 | cons c C =>
  simp only [fu] at h
  split at h
  ·exact h
  ·exact (List.mem_filter.1 h).1
theorem knownF_len (reach:Int) (C:List bx):(fu reach C).length<=C.length:=by
 cases C with
 | nil=>exact Nat.le_refl _
 | cons c C =>
  simp only [fu]
  split
  ·exact Nat.le_refl _
  ·exact List.length_filter_le _ _
theorem backV_take {hold:bx->Bool} {cu:Int} {D:List bx} {i:Nat} {d:bx} (h:D[i]? = some d):backV hold cu (D.take (i+1))=backV hold cu (D.take i)++bO d.number d.time cu (hold d):=by
 rw [List.take_add_one,h]
 simp [backV]
theorem ver_four_new (w:World) (a b c:Int) (v:Bool) (t:TypeId):∀ j u,(bO a b c v)[j]? = some u->(w.alloc (.cells #[.int .i64 a,.int .i64 b,.int .i64 c,.bool v] t)).cell? ((⟨w.heap.size,0,none⟩:Addr).add j)=some u:=by
 intro j u hj
 have hh:=aB w (.cells #[.int .i64 a,.int .i64 b,.int .i64 c,.bool v] t (0,0)) _ rfl
 rw [Addr.add_lit,Nat.zero_add]
 refine ae hh ?_
 rcases j with _ | _ | _ | _ | j
 ·exact hj
 ·exact hj
 ·exact hj
 ·exact hj
 ·simp [bO] at hj
set_option maxRecDepth 100000 in
set_option maxHeartbeats 4000000 in
theorem backfill_at (aj:Nat) (rt rm nv:Value) (ea:Option Addr) (az:Nat) (C:List bx) (pb cap:Nat) (arr:Array Value) (np i:Nat) (ps:List bC) (p:bC) (x:BT aO) (hold:bx->Bool) (w:World) (hw:w.heap[aj]? = some (.cells #[rt,rm,nv,.slice ea C.length az,.slice (some ⟨pb,0,none⟩) np cap] 153 (0,0))) {mp:Nat×Nat} (hp:w.heap[pb]? = some (.cells arr 183 mp)) (hP:b5 arr 0 ps) (hi:ps[i]? = some p) (hnp:ps.length=np) (_:np<=1000) (hx:aC 143 0 w x (.pointer p.bV)) (hgd:Good x) (hd:aK x<=400)
  (hE:bY w (.slice ea C.length az) C) (hn:C.length<=1000) (hr:0<=ax x/\ax x<=1000000000) (hT:∀ c∈C,0<=c.time/\c.time<=1000000000000) (hH:∀ c∈C,∃ sb so,c.so=some ⟨sb,so,none⟩/\sb<w.heap.size/\p.node<c.sl/\w.cell? ⟨sb,so+p.node,none⟩=some (.bool (hold c))) :
  Calls Tryz.prog 92 #[.pointer (some ⟨aj,0,none⟩),.int .i64 (i:Int)] w fun e w'=>∃ v',e=.returned v'/\w'.ownsRow w.heap.size 59 4 v' (fu (ax x) C).length (backV hold p.cu (fu (ax x) C))/\Below w.heap.size w w':=by
 obtain ⟨a0,a1,a2,a3,a4⟩:=hP i p hi
 simp only [Nat.zero_add] at a0 a1 a2 a3 a4
 have tP:i<np:=by rw [<- hnp];exact (List.getElem?_eq_some_iff.1 hi).1
 have c4:=ae (i:=4) hw rfl
 have y0:=ae hp a0
 have y1:=ae hp a1
 have y2:=ae hp a2
 have y3:=ae hp a3
 have y4:=ae hp a4
 have hwin:=hgd.win
 have Hw:Hid (w.heap[aj]? = some (.cells #[rt,rm,nv,.slice ea C.length az,.slice (some ⟨pb,0,none⟩) np cap] 153 (0,0))):=hw
 have Hx:Hid (aC 143 0 w x (.pointer p.bV)):=hx
 have HE:Hid _:=hE
 have HT:Hid _:=hT
 have HH:Hid _:=hH
 have hkl:=knownF_len (ax x) C
 clear hw hp hP hi hnp a0 a1 a2 a3 a4 hx hE hT hH
 go_enter Tryz.func92,Tryz.ntmps92
 go_wp2_with fail
 have hbN:Below w.heap.size w (w.alloc (.cells #[.string p.name,.pointer p.bV,.int .i64 p.node,.int .i64 p.cu,.pointer p.cG] 183)):=(Below.refl _ _).al _
 have hN:(w.alloc (.cells #[.string p.name,.pointer p.bV,.int .i64 p.node,.int .i64 p.cu,.pointer p.cG] 183)).heap[w.heap.size]? = some (.cells #[.string p.name,.pointer p.bV,.int .i64 p.node,.int .i64 p.cu,.pointer p.cG] 183 (0,0)):=aB _ _ _ rfl
 generalize nY:w.heap.size=b1 at *
 generalize (w.alloc (.cells #[.string p.name,.pointer p.bV,.int .i64 p.node,.int .i64 p.cu,.pointer p.cG] 183))=W at *
 clear c4 y0 y1 y2 y3 y4
 have hZ:(fun w':World=>w'.cell? ⟨b1,1,none⟩=some (.pointer p.bV)) W.drew:=ae ((Below.refl _ W).drew.aE hN) rfl
 refine bJ.begin (S:=(fun w':World=>w'.cell? ⟨b1,1,none⟩=some (.pointer p.bV))) (fin:=9) (by kernel_rfl) ?_
 simp only [List.size_toArray,List.length_cons,List.length_nil,Nat.reduceAdd,Nat.zero_add]
 refine bJ.take 0 (v:=?vq0) rfl (by decide +kernel) (by decide +kernel) (by decide +kernel) (by decide +kernel) (fun c a w h=>h) (by rfl) (fun w' hS=>Go.Conc.run_eq_of ?rq0) hZ ?_
 case rq0 =>
  intro K' hK'
  clear hS
  go_simp
  exact hK'
 try walk_nrm
 refine bJ.take 1 (v:=?vq1) rfl (by decide +kernel) (by decide +kernel) (by decide +kernel) (by decide +kernel) (fun c a w h=>h) (by rfl) (fun w' hS=>Go.Conc.run_eq_of ?rq1) hZ ?_
 case rq1 =>
  intro K' hK'
  clear hS
  go_simp
  exact hK'
 try walk_nrm
 refine bJ.take 2 (v:=?vq2) rfl (by decide +kernel) (by decide +kernel) (by decide +kernel) (by decide +kernel) (fun c a w h=>h) (by rfl) (fun w' hS=>Go.Conc.run_eq_of ?rq2) hZ ?_
 case rq2 =>
  intro K' hK'
  clear hS
  go_simp
  exact hK'
 try walk_nrm
 refine bJ.take 3 (v:=?vq3) rfl (by decide +kernel) (by decide +kernel) (by decide +kernel) (by decide +kernel) (fun c a w h=>h) (by rfl) (fun w' hS=>Go.Conc.run_eq_of ?rq3) hZ ?_
 case rq3 =>
  intro K' hK'
  clear hS
  go_simp
  exact hK'
 try walk_nrm
 refine bJ.take 4 (v:=?vq4) rfl (by decide +kernel) (by decide +kernel) (by decide +kernel) (by decide +kernel) (fun c a w h=>h) (by rfl) (fun w' hS=>Go.Conc.run_eq_of ?rq4) hZ ?_
 case rq4 =>
  intro K' hK'
  have hS:w'.cell? ⟨b1,1,none⟩=some (.pointer p.bV):=hS
  go_simp
  exact hK'
 try walk_nrm
 refine bJ.take 8 (v:=?vq8) rfl (by decide +kernel) (by decide +kernel) (by decide +kernel) (by decide +kernel) (fun c a w h=>h) (by rfl) (fun w' hS=>Go.Conc.run_eq_of ?rq8) hZ ?_
 case rq8 =>
  intro K' hK'
  clear hS
  go_simp
  exact hK'
 try walk_nrm
 have hb0:Below W.heap.size W W.drew:=(Below.refl _ W).drew
 have hWs:b1<W.heap.size:=aw hN
 refine bJ.one (i:=5) (by decide +kernel) rfl (by rfl) ?_
 unfold Oper.wp
 rw [Go.Conc.run_call_body (f:=42) (args:=#[.tmp 20]) (ats:=#[87]) rfl Tryz.func42 (by decide) rfl]
 simp only [Oper.upon,List.map_toArray,List.map_cons,List.map_nil]
 change Calls Tryz.prog 42 #[.pointer p.bV] W.drew _
 refine (reach_any x _ 0 W.drew ?hsx hd hwin).mono ?_
 case hsx=>exact cU (fun k cs hk=>by rw [hbN.drew.block k (by rw [<- nY];exact aw hk)];exact hk) Hx.out
 rintro e V0 ⟨rfl,q,rfl⟩
 have hbV0:Below W.heap.size W (W.drew.drewN q):=hb0.tr (below_drewN _ _)
 have hwV0:Below b1 w (W.drew.drewN q):=hbN.trans (hbV0.mono (by omega))
 generalize W.drew.drewN q=V0 at *
 refine ⟨fun _=>ae (hbV0.aE hN) rfl,?_⟩
 try walk_nrm
 refine bJ.one (i:=6) (by decide +kernel) rfl (by rfl) ?_
 unfold Oper.wp
 rw [Go.Conc.run_call_body (f:=138) (args:=#[.tmp 18,.tmp 21]) (ats:=#[148,3]) rfl Tryz.func138 (by decide) rfl]
 simp only [Oper.upon,List.map_toArray,List.map_cons,List.map_nil]
 change Calls Tryz.prog 138 #[.pointer (some ⟨aj,0,none⟩),.int .i64 (ax x)] V0 _
 refine (known_any aj rt rm nv (.slice (some ⟨pb,0,none⟩) np cap) ea az C (ax x) V0 ?kw ?kE hn hr HT.out).mono ?_
 case kw=>exact (hwV0.block aj (by rw [<- nY];exact aw Hw.out)).trans Hw.out
 case kE=>exact dw HE.out (fun k hk=>hwV0.block k (by rw [<- nY];exact (HE.out.lt k hk).2))
 rintro e V1 ⟨kv,rfl,bT,hbI⟩
 have qw:Below W.heap.size W V1:=hbV0.tr hbI
 have hwV1:Below b1 w V1:=hwV0.trans (hbI.mono (by have:=hwV0.size;omega))
 refine ⟨fun _=>ae (qw.aE hN) rfl,?_⟩
 obtain ⟨ka,kcap,rfl,hkc,hkm,hka⟩:∃ (a:Option Addr) (c:Nat),kv=.slice a (fu (ax x) C).length c/\(fu (ax x) C).length<=c/\True/\(∀ j d,(fu (ax x) C)[j]? = some d->∃ g,a=some ⟨g,0,none⟩/\g<V1.heap.size/\∀ k u,(bf d)[k]? = some u->V1.cell? ⟨g,j*4+k,none⟩=some u):=by
  have hrow':=bT
  obtain ⟨h1,⟨rfl,h2⟩ | ⟨g,cp,cur,rfl,h3,h4,h5,h6,h7,h8⟩⟩:=bT
  ·exact ⟨none,0,by rw [h2],by omega,trivial,fun j d hj=>by have:=(List.getElem?_eq_some_iff.1 hj).1;omega⟩
  ·refine ⟨some ⟨g,0,none⟩,cp,rfl,h5,trivial,fun j d hj=>⟨g,rfl,aw h4,fun k u hk=>gH hrow' rfl (kn bf 4 (fun _=>rfl) _ j k d u hj hk)⟩⟩
 try walk_nrm
 refine bJ.op (i:=7) (by decide +kernel) rfl (by rfl) (fun K' hK'=>?_)
 unfold Oper.wp
 go_simp
 refine hK' _ _ ⟨fun _=>ae (qw.aE hN) rfl,?_⟩
 clear hK' K'
 try walk_nrm
 refine bJ.done (by decide +kernel) ?_ _
 try walk_nrm
 go_wp2_with fail
 clear hZ hr hwin bT
 generalize hD:fu (ax x) C=D at *
 have HD:Hid (∀ d∈D,d∈C):=fun d hd=>knownF_sub (hD▸hd)
 have HDe:Hid (fu (ax x) C=D):=hD
 have HKA:Hid _:=hka
 clear hD hka hkm
 generalize hnD:D.length=n at *
 obtain ⟨i0,hi,lr,iU,lu⟩:=info_parts Go.Proofs.YtpbbmagjhkakgaaGreatDoor.Lf.rF
 have hb1V:b1<=V1.heap.size:=by have:=hwV1.size;omega
 go_loopw [24,6] (fun iv v wr=>∃ i:Nat,iv=.int .i64 i/\i<=n/\wr.ownsRow V1.heap.size 59 4 v i (backV hold p.cu (D.take i))/\Below V1.heap.size V1 wr) (fun iv _ _=>n-(intOf iv).toNat)
 case atStart=>exact ⟨0,rfl,Nat.zero_le _,World.ownsRow_nil _ _ _ _,Below.refl _ _⟩
 case round =>
  obtain ⟨i,rfl,tP,cE,h_⟩:=hrel
  by_cases qo:i<n
  ·have fD:D[i]? = some D[i]:=List.getElem?_eq_getElem (by omega)
   have HT2:Hid _:=backV_take (hold:=hold) (cu:=p.cu) fD
   obtain ⟨g,rfl,hg,om⟩:=HKA.out i _ fD
   obtain ⟨sb,so,e1,e2,e3,e4⟩:=HH.out _ (HD.out _ (List.mem_of_getElem? fD))
   generalize D[i]=d at *
   have q0:wr.cell? ⟨g,i*4,none⟩=some (.int .i64 d.number):=by rw [h_.cell (p:=⟨g,i*4,none⟩) hg];exact om 0 _ rfl
   have q1:wr.cell? ⟨g,i*4+1,none⟩=some (.int .i64 d.time):=by rw [h_.cell (p:=⟨g,i*4+1,none⟩) hg];exact om 1 _ rfl
   have q2:wr.cell? ⟨g,i*4+2,none⟩=some (.slice d.ao d.al d.ac):=by rw [h_.cell (p:=⟨g,i*4+2,none⟩) hg];exact om 2 _ rfl
   have q3:wr.cell? ⟨g,i*4+3,none⟩=some (.slice (some ⟨sb,so,none⟩) d.sl d.sc):=by rw [h_.cell (p:=⟨g,i*4+3,none⟩) hg,<- e1];exact om 3 _ rfl
   have hNr:wr.heap[b1]? = some (.cells #[.string p.name,.pointer p.bV,.int .i64 p.node,.int .i64 p.cu,.pointer p.cG] 183 (0,0)):=h_.aE (qw.aE hN)
   have hvr:wr.cell? ⟨sb,so+p.node,none⟩=some (.bool (hold d)):=by
    rw [h_.cell (p:=⟨sb,so+p.node,none⟩) (Nat.lt_of_lt_of_le e2 hb1V),hwV1.cell (p:=⟨sb,so+p.node,none⟩) e2];exact e4
   have hsbr:sb<wr.heap.size:=Nat.lt_of_lt_of_le e2 (Nat.le_trans hb1V h_.size)
   clear fD om e1 e4
   have hba:Below wr.heap.size wr (wr.alloc (.cells #[.int .i64 d.number,.int .i64 d.time,.slice d.ao d.al d.ac,.slice (some ⟨sb,so,none⟩) d.sl d.sc] 159)):=(Below.refl _ _).al _
   have r0:(wr.alloc (.cells #[.int .i64 d.number,.int .i64 d.time,.slice d.ao d.al d.ac,.slice (some ⟨sb,so,none⟩) d.sl d.sc] 159)).cell? ⟨b1,0,none⟩=some (.string p.name):=ae (hba.aE hNr) rfl
   have r1:(wr.alloc (.cells #[.int .i64 d.number,.int .i64 d.time,.slice d.ao d.al d.ac,.slice (some ⟨sb,so,none⟩) d.sl d.sc] 159)).cell? ⟨b1,1,none⟩=some (.pointer p.bV):=ae (hba.aE hNr) rfl
   have r2:(wr.alloc (.cells #[.int .i64 d.number,.int .i64 d.time,.slice d.ao d.al d.ac,.slice (some ⟨sb,so,none⟩) d.sl d.sc] 159)).cell? ⟨b1,2,none⟩=some (.int .i64 p.node):=ae (hba.aE hNr) rfl
   have r3:(wr.alloc (.cells #[.int .i64 d.number,.int .i64 d.time,.slice d.ao d.al d.ac,.slice (some ⟨sb,so,none⟩) d.sl d.sc] 159)).cell? ⟨b1,3,none⟩=some (.int .i64 p.cu):=ae (hba.aE hNr) rfl
   have r4:(wr.alloc (.cells #[.int .i64 d.number,.int .i64 d.time,.slice d.ao d.al d.ac,.slice (some ⟨sb,so,none⟩) d.sl d.sc] 159)).cell? ⟨b1,4,none⟩=some (.pointer p.cG):=ae (hba.aE hNr) rfl
   have s0:(wr.alloc (.cells #[.int .i64 d.number,.int .i64 d.time,.slice d.ao d.al d.ac,.slice (some ⟨sb,so,none⟩) d.sl d.sc] 159)).cell? ⟨wr.heap.size,0,none⟩=some (.int .i64 d.number):=ae (aB _ _ _ rfl) rfl
   have s1:(wr.alloc (.cells #[.int .i64 d.number,.int .i64 d.time,.slice d.ao d.al d.ac,.slice (some ⟨sb,so,none⟩) d.sl d.sc] 159)).cell? ⟨wr.heap.size,1,none⟩=some (.int .i64 d.time):=ae (aB _ _ _ rfl) rfl
   have s2:(wr.alloc (.cells #[.int .i64 d.number,.int .i64 d.time,.slice d.ao d.al d.ac,.slice (some ⟨sb,so,none⟩) d.sl d.sc] 159)).cell? ⟨wr.heap.size,2,none⟩=some (.slice d.ao d.al d.ac):=ae (aB _ _ _ rfl) rfl
   have s3:(wr.alloc (.cells #[.int .i64 d.number,.int .i64 d.time,.slice d.ao d.al d.ac,.slice (some ⟨sb,so,none⟩) d.sl d.sc] 159)).cell? ⟨wr.heap.size,3,none⟩=some (.slice (some ⟨sb,so,none⟩) d.sl d.sc):=ae (aB _ _ _ rfl) rfl
   have hvA:(wr.alloc (.cells #[.int .i64 d.number,.int .i64 d.time,.slice d.ao d.al d.ac,.slice (some ⟨sb,so,none⟩) d.sl d.sc] 159)).cell? ⟨sb,so+p.node,none⟩=some (.bool (hold d)):=by rw [hba.cell (p:=⟨sb,so+p.node,none⟩) hsbr];exact hvr
   have kR:=cE.alloc (.cells #[.int .i64 d.number,.int .i64 d.time,.slice d.ao d.al d.ac,.slice (some ⟨sb,so,none⟩) d.sl d.sc] 159)
   have lh:Below V1.heap.size V1 (wr.alloc (.cells #[.int .i64 d.number,.int .i64 d.time,.slice d.ao d.al d.ac,.slice (some ⟨sb,so,none⟩) d.sl d.sc] 159)):=h_.al _
   have hvd:Hid (Calls Tryz.prog 134 #[.agg #[.string p.name,.pointer p.bV,.int .i64 p.node,.int .i64 p.cu,.pointer p.cG],.agg #[.int .i64 d.number,.int .i64 d.time,.slice d.ao d.al d.ac,.slice (some ⟨sb,so,none⟩) d.sl d.sc]] (wr.alloc (.cells #[.int .i64 d.number,.int .i64 d.time,.slice d.ao d.al d.ac,.slice (some ⟨sb,so,none⟩) d.sl d.sc] 159)) fun e w'=>e=.returned (.agg #[.int .i64 d.number,.int .i64 d.time,.int .i64 p.cu,.bool (hold d)])/\Below (wr.alloc (.cells #[.int .i64 d.number,.int .i64 d.time,.slice d.ao d.al d.ac,.slice (some ⟨sb,so,none⟩) d.sl d.sc] 159)).heap.size (wr.alloc (.cells #[.int .i64 d.number,.int .i64 d.time,.slice d.ao d.al d.ac,.slice (some ⟨sb,so,none⟩) d.sl d.sc] 159)) w'):=verdict_any _ _ _ d.ao d.al d.ac p.cu d.number d.time sb so d.sl d.sc p.node (hold d) _ (Nat.lt_of_lt_of_le hsbr hba.size) hvA e3
   clear hvA hvr hNr
   go_wp2_with fail
   refine Calls.mono hvd.out ?_
   rintro e w1 ⟨rfl,a_⟩
   have gi:=dw kR (w':=w1) fun k hk=>a_.block k (kR.lt k hk).2
   have sO:Below V1.heap.size V1 w1:=lh.tr a_
   have hws:=sO.size
   generalize hold d=hv at *
   go_wp2_with (at_builtin;refine wpList_append_own _ rfl _ _ 54 rfl V1.heap.size 59 i0 (.agg #[.int .i64 0,.int .i64 0,.int .i64 0,.bool false]) 4 32 Tryz.underlying54 hi lr iU lu rfl (by decide) _ _ _ rfl (gi.alloc _) ⟨w1.heap.size,0,none⟩ 1 1 (bO d.number d.time p.cu hv) rfl rfl ?c1 ?c2 ?c3 ?c4 ?c5 ?_)
   case c1=>exact fun j u hj=>ver_four_new w1 _ _ _ _ 59 j u hj
   case c2 =>
    intro u hu
    simp [bO] at hu
    rcases hu with rfl | rfl | rfl | rfl<;>rfl
   case c3=>unfold maxLen;omega
   case c4=>omega
   case c5=>simp;omega
   intro v' w2 dm bz _
   have cB:Below V1.heap.size V1 w2:=(sO.al _).grown bz (Nat.le_trans sO.size (by simp)) (fun k e=>(gi.lt k e).1)
   go_wp2_with fail
   go_roundw
   case rel=>exact ⟨i+1,by go_num,by omega,by rw [HT2.out];exact dm,cB⟩
   case measure=>simp only [intOf];omega
  ·obtain rfl:i=n:=by omega
   rw [List.take_of_length_le (by omega)] at cE
   go_wp2_with fail
   go_ret
   exact ⟨_,rfl,by rw [nY,HDe.out,hnD];exact oY cE hb1V,by rw [nY];exact hwV1.trans (h_.mono hb1V)⟩
end Ev
end Go.Proofs.YtpbbmagjhkakgaaGreatDoor
