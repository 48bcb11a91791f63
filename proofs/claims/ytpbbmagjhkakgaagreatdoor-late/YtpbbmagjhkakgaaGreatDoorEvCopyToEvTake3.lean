import Derived.Test.YtpbbmagjhkakgaaGreatDoorEvSinceToEvWork
import Derived.Test.YtpbbmagjhkakgaaGreatDoorTabToExpect
namespace Go.Proofs.YtpbbmagjhkakgaaGreatDoor.Ev
open Go.RowKit Go.Deep
theorem infoStr:(Tryz.prog.info? 9).map (fun i=>(i.zero,i.size,i.bytes))=some (some (.string ⟨#[]⟩),1,16):=by kernel_rfl
def strsV (L:List ByteArray):List Value:=L.map Value.string
theorem strsV_len (L:List ByteArray):(strsV L).length=L.length:=by simp [strsV]
theorem strsV_take (A:List ByteArray) (i:Nat) (h:i<A.length):strsV (A.take (i+1))=strsV (A.take i)++[.string (A.getD i ByteArray.empty)]:=by
 have e:A.getD i ByteArray.empty=A[i]:=by rw [List.getD_eq_getElem?_getD,List.getElem?_eq_getElem h];rfl
 rw [<- List.take_append_getElem h,e]
 unfold strsV
 rw [List.map_append]
 rfl
theorem strs_of_row {w:World} {B:Nat} {v:Value} {A:List ByteArray} (h:w.ownsRow B 9 1 v A.length (strsV A)):∃ ao cap,v=.slice ao A.length cap/\A.length<=cap/\StrsIn w ao A/\∀ a,ao=some a->B<=a.block/\∃ cs,w.heap[a.block]? = some (.cells cs 9 (0,0)):=by
 have hl:=h.lt
 have h':=h
 obtain ⟨h1,⟨rfl,h2⟩ | ⟨g,cap,cur,rfl,h3,h4,h5,h6,h7,h8⟩⟩:=h
 ·exact ⟨none,0,by rw [h2],by omega,fun hne=>absurd (List.length_eq_zero_iff.1 h2) hne,fun a ha=>by cases ha⟩
 ·refine ⟨some ⟨g,0,none⟩,cap,rfl,h5,fun _=>⟨g,0,rfl,(hl g rfl).2,fun j hj=>?_⟩,fun a ha=>by cases ha;exact ⟨h3,cur,h4⟩⟩
  rw [Nat.zero_add]
  refine row_cell h' rfl ?_
  simp [strsV,hj,List.getD_eq_getElem?_getD]
set_option maxHeartbeats 2000000 in
theorem copyOf_any (ao:Option Addr) (A:List ByteArray) (cap:Nat) (w:World) (h:StrsIn w ao A) (hA:A.length<=1000) (hcap:A.length<=cap) (hs:∀ j,j<A.length->(A.getD j ByteArray.empty).size<=1000) :
  Calls Tryz.prog 129 #[.slice ao A.length cap] w fun e w'=>∃ v,e=.returned v/\w'.ownsRow w.heap.size 9 1 v A.length (strsV A)/\Below w.heap.size w w':=by
 have HA:Hid (∀ w',Below w.heap.size w w'->StrsIn w' ao A):=fun w' hb=>h.below hb
 obtain ⟨i0,hi,hz0,hz1,hz2⟩:=info_parts infoStr
 generalize hlen:A.length=n at *
 clear h
 go_enter Tryz.func129,Tryz.ntmps129
 go_wp2_with fail
 go_loopw [8,3] (fun iv v wr=>∃ i:Nat,iv=.int .i64 i/\i<=n/\wr.ownsRow w.heap.size 9 1 v i (strsV (A.take i))/\Below w.heap.size w wr) (fun iv _ _=>n-(intOf iv).toNat)
 case atStart=>exact ⟨0,rfl,Nat.zero_le _,World.ownsRow_nil _ _ _ _,Below.refl _ _⟩
 case round =>
  obtain ⟨i,rfl,hin,hown,hbw⟩:=hrel
  by_cases hil:i<n
  ·obtain ⟨b,off,rfl,hb,hc⟩:=HA.out wr hbw (by intro e;rw [e] at hlen;simp at hlen;omega)
   have q0:=hc i (by omega)
   have hsz:=hs i hil
   have htake:=strsV_take A i (by omega)
   have Ht:Hid (strsV (A.take (i+1))=strsV (A.take i)++[.string (A.getD i ByteArray.empty)]):=htake
   clear hc hs htake
   generalize A.getD i ByteArray.empty=x at *
   go_wp2_with fail
   refine (clone_any x _ (by omega)).mono ?_
   rintro e w1 ⟨rfl,hb1⟩
   have hown1:=own_heap hown (w':=w1) fun k hk=>hb1.block k (hown.lt k hk).2
   have hbw1:=hbw.tr hb1
   have hws:=hbw1.size
   go_wp2_with (at_builtin;refine wpList_append_own _ rfl _ _ 31 rfl w.heap.size 9 i0 _ 1 16 Tryz.underlying31 hi hz0 hz1 hz2 rfl (by decide) _ _ _ rfl (hown1.alloc _) ⟨w1.heap.size,0,none⟩ 1 1 [.string x] rfl rfl ?c1 ?c2 ?c3 ?c4 ?c5 ?_)
   case c1=>exact cell_one_new w1 _ _
   case c2=>simp [Value.oneCell']
   case c3=>unfold maxLen;omega
   case c4=>omega
   case c5=>simp;omega
   intro v' w2 hown' hgrow _
   have hb2:Below w.heap.size w w2:=(hbw1.al _).grown hgrow (Nat.le_trans hbw1.size (by simp)) (fun k e=>(hown1.lt k e).1)
   go_wp2_with fail
   go_roundw
   case rel=>exact ⟨i+1,by go_num,by omega,by rw [Ht.out];exact hown',hb2⟩
   case measure=>simp only [intOf];omega
  ·obtain rfl:i=n:=by omega
   rw [List.take_of_length_le (by omega)] at hown
   go_wp2_with fail
   go_ret
   exact ⟨_,rfl,hown,hbw⟩
theorem delete0_any (ea:Option Addr) (n cap:Nat) (w:World) (hcap:n<=cap):Calls Tryz.prog 130 #[.slice ea n cap,.int .i64 0,.int .i64 0] w fun e w'=>e=.returned (.slice ea n cap)/\w'=w:=by
 go_enter Tryz.func130,Tryz.ntmps130
 go_wp2_with fail
 go_ret
 exact ⟨rfl,rfl⟩
structure EvT (w:World) (c:EvC):Prop where
 so:∀ a,c.so=some a->∃ cs m,w.heap[a.block]? = some (.cells cs 4 m)
 ao:∀ a,c.ao=some a->∃ cs m,w.heap[a.block]? = some (.cells cs 9 m)
theorem EvT.off {w:World} {c:EvC} {g:Nat} {cg:Array Value} {m:Nat×Nat} (h:EvT w c) (hg:w.heap[g]? = some (.cells cg 159 m)):EvOff g c :=
 ⟨fun a ha e=>(by obtain ⟨cs,m,h1⟩:=h.so a ha;rw [e,hg] at h1;cases h1),fun a ha e=>(by obtain ⟨cs,m,h1⟩:=h.ao a ha;rw [e,hg] at h1;cases h1)⟩
structure Spare (P:Nat->Prop) (w w':World):Prop where
 os:w'.os=w.os
 tape:w'.tape=w.tape
 output:w'.output=w.output
 size:w.heap.size<=w'.heap.size
 block:∀ b,b<w.heap.size->¬ P b->w'.heap[b]? = w.heap[b]?
theorem Spare.trans {P:Nat->Prop} {a b c:World} (h:Spare P a b) (k:Spare P b c):Spare P a c:=⟨k.os.trans h.os,k.tape.trans h.tape,k.output.trans h.output,Nat.le_trans h.size k.size,fun x hx hp=>(k.block x (Nat.lt_of_lt_of_le hx h.size) hp).trans (h.block x hx hp)⟩
theorem Spare.of_below {P:Nat->Prop} {a b:World} (h:Below a.heap.size a b):Spare P a b:=⟨h.os,h.tape,h.output,h.size,fun x hx _=>h.block x hx⟩
theorem Spare.of_only {P:Nat->Prop} {g:Nat} {a b:World} (h:Only g a b) (hP:∀ x,x=g->P x):Spare P a b:=⟨h.os,h.tape,h.output,h.size,fun x hx hp=>h.block x hx fun e=>hp (hP x e)⟩
theorem Spare.mono {P Q:Nat->Prop} {a b:World} (h:Spare P a b) (hP:∀ x,x<a.heap.size->P x->Q x):Spare Q a b:=⟨h.os,h.tape,h.output,h.size,fun x hx hq=>h.block x hx fun e=>hq (hP x hx e)⟩
theorem Spare.of_grown {P:Nat->Prop} {row:Option Nat} {a b:World} (h:a.grownBy b row) (hP:∀ x,row=some x->P x):Spare P a b:=⟨h.os,h.tape,h.output,h.size,fun x hx hp=>h.block x hx fun e=>hp (hP x e.symm)⟩
theorem EvIn.spare {P:Nat->Prop} {w w':World} {c:EvC} {e:Pe} (h:EvIn w c e) (hs:Spare P w w') (h1:∀ a,c.so=some a->¬ P a.block) (h2:∀ a,c.ao=some a->¬ P a.block):EvIn w' c e:=by
 obtain ⟨sb,s1,s2,s3⟩:=h.so
 refine { h with so:=⟨sb,s1,Nat.lt_of_lt_of_le s2 hs.size,fun j b hj=>?_⟩,atoms:=fun hne=>?_ }
 ·rw [World.cell?_of_block (hs.block sb s2 (h1 _ s1))];exact s3 j b hj
 ·obtain ⟨b,off,a1,a2,a3⟩:=h.atoms hne
  exact ⟨b,off,a1,Nat.lt_of_lt_of_le a2 hs.size,fun j hj=>by rw [World.cell?_of_block (hs.block b a2 (h2 _ a1))];exact a3 j hj⟩
theorem EvT.spare {P:Nat->Prop} {w w':World} {c:EvC} (h:EvT w c) (hs:Spare P w w') (h1:∀ a,c.so=some a->¬ P a.block) (h2:∀ a,c.ao=some a->¬ P a.block):EvT w' c :=
 ⟨fun a ha=>by obtain ⟨cs,m,k⟩:=h.so a ha;exact ⟨cs,m,by rw [hs.block _ (heap_lt k) (h1 a ha)];exact k⟩,fun a ha=>by obtain ⟨cs,m,k⟩:=h.ao a ha;exact ⟨cs,m,by rw [hs.block _ (heap_lt k) (h2 a ha)];exact k⟩⟩
theorem NodesIn.spare {P:Nat->Prop} {w w':World} {no:Option Addr} {K:List Key} (h:NodesIn w no K) (hs:Spare P w w') (h1:∀ a,no=some a->¬ P a.block):NodesIn w' no K:=fun hne=>by
 obtain ⟨nb,a1,a2,a3⟩:=h hne
 have hc:∀ q,w'.cell? ⟨nb,q,none⟩=w.cell? ⟨nb,q,none⟩:=fun q=>World.cell?_of_block (hs.block nb a2 (h1 _ a1))
 exact ⟨nb,a1,Nat.lt_of_lt_of_le a2 hs.size,fun i k hk=>by simp only [hc];exact a3 i k hk⟩
theorem infoEvent:(Tryz.prog.info? 159).map (fun i=>(i.zero,i.size,i.bytes))=some (some (.agg #[.int .i64 0,.int .i64 0,.slice none 0 0,.slice none 0 0]),4,64):=by kernel_rfl
theorem flatE_snoc (C:List EvC) (c:EvC):flatE (C++[c])=flatE C++evCells c:=by simp [flatE]
theorem evOne (c:EvC):∀ u∈evCells c,u.oneCell'=true:=by
 intro u hu
 simp [evCells,EvC.av,EvC.sv] at hu
 rcases hu with rfl | rfl | rfl | rfl<;>rfl
theorem cells_four_new (w:World) (c:EvC) (t:TypeId):∀ j u,(evCells c)[j]? = some u->(w.alloc (.cells #[.int .i64 c.number,.int .i64 c.time,.slice c.ao c.al c.ac,.slice c.so c.sl c.sc] t)).cell? ((⟨w.heap.size,0,none⟩:Addr).add j)=some u:=by
 intro j u hj
 have hh:=heap_new w (.cells #[.int .i64 c.number,.int .i64 c.time,.slice c.ao c.al c.ac,.slice c.so c.sl c.sc] t (0,0)) _ rfl
 have e1:(⟨w.heap.size,0,none⟩:Addr).add j=⟨w.heap.size,j,none⟩:=by simp [Addr.add];omega
 rw [e1]
 refine cell_at hh ?_
 rcases j with _ | _ | _ | _ | j
 ·exact hj
 ·exact hj
 ·exact hj
 ·exact hj
 ·simp [evCells] at hj
def nextN (C:List EvC):Int:=match C.getLast? with
 | some c=>c.number+1
 | none=>1
noncomputable def body87:Code:=Tryz.f87.body.getD .skip
noncomputable def opsT5:Array Oper:=match body87 with
 | .seq _ (.seq _ (.seq _ (.seq (.region _ x _) _)))=>x
 | _=>#[]
noncomputable def opsT6:Array Oper:=match body87 with
 | .seq _ (.seq _ (.seq _ (.seq _ (.seq (.region _ x _) _))))=>x
 | _=>#[]
set_option maxRecDepth 100000 in
set_option maxHeartbeats 8000000 in
theorem region5_any (Q:Exit->Act->World->Prop) (hQ:∀ c a d v w,Q (.panic c) (Act.put a d v) w->Q (.panic c) a w) (wtb nx:Nat) (retain:Int) (rm nvv:Value) (ea:Option Addr) (ecap:Nat) (pv:Value) (C:List EvC) (num time:Int) (ao2:Option Addr) (al2 ac2:Nat) (W:World) (x2 x3 x4 x5 x6 x8 x9 x10 x11 x12 x13 x14 x15 x16 x17 x18 x19 x20 x21 x22 x23 x24 x25 x26 x27 x28 x29 x30 u31 u32 u33 u34 u35 u36 u37 u38 u39 u40 u41 u42 u43 u44 u45 u46 u47 u48 u49 u50 u51 u52 u53:Value)
  (hw:W.heap[wtb]? = some (.cells #[.int .i64 retain,rm,nvv,.slice ea C.length ecap,pv] 153 (0,0))) (hE:EvsAt W (.slice ea C.length ecap) C) (hn:C.length<=1000) (hcap:C.length<=ecap) (ht:0<=time/\time<=1000000000000) (hr:0<=retain/\retain<=1000000000) (hold:oldF (time-retain) C=0)
  (hnx:W.heap[nx]? = some (.cells #[.int .i64 num,.int .i64 time,.slice ao2 al2 ac2,.slice none 0 0] 159 (0,0))) (hnxe:(Value.slice ea C.length ecap).ownBlock≠some nx)
  (hK:∀ (ev':Value) (W':World) (v41:Value),W'.heap[wtb]? = some (.cells #[.int .i64 retain,rm,nvv,ev',pv] 153 (0,0))->EvsAt W' ev' (C++[(⟨num,time,ao2,al2,ac2,none,0,0⟩:EvC)])->Spare (fun b=>b=wtb\/(Value.slice ea C.length ecap).ownBlock=some b) W W'->(∀ b,ev'.ownBlock=some b->(Value.slice ea C.length ecap).ownBlock=some b\/W.heap.size<=b)->
   Q .normal ⟨#[(.pointer (some ⟨wtb,0,none⟩)),(.int .i64 time),x2,x3,x4,x5,x6,(.pointer (some ⟨nx,0,none⟩)),x8,x9,x10,x11,x12,x13,x14,x15,x16,x17,x18,x19,x20,x21,x22,x23,x24,x25,x26,x27,x28,x29,x30,(.pointer (some ⟨wtb,0,none⟩)),(.pointer (some ⟨wtb,0,none⟩)),(.pointer (some ⟨wtb,0,none⟩)),(.pointer (some ⟨wtb,3,none⟩)),(.slice ea C.length ecap),(.pointer (some ⟨wtb,0,none⟩)),(.int .i64 time),(.int .i64 0),(.slice ea C.length ecap),(.agg #[.int .i64 num,.int .i64 time,.slice ao2 al2 ac2,.slice none 0 0]),v41,ev',(.pointer (some ⟨wtb,0,none⟩)),(.pointer (some ⟨wtb,3,none⟩)),u45,u46,u47,u48,u49,u50,u51,u52,u53],[]⟩ W') :
  (Code.region 5 opsT5 true).wp Tryz.prog Q ⟨#[(.pointer (some ⟨wtb,0,none⟩)),(.int .i64 time),x2,x3,x4,x5,x6,(.pointer (some ⟨nx,0,none⟩)),x8,x9,x10,x11,x12,x13,x14,x15,x16,x17,x18,x19,x20,x21,x22,x23,x24,x25,x26,x27,x28,x29,x30,u31,u32,u33,u34,u35,u36,u37,u38,u39,u40,u41,u42,u43,u44,u45,u46,u47,u48,u49,u50,u51,u52,u53],[]⟩ W:=by
 have hlt:=heap_lt hw
 have hnl:=heap_lt hnx
 obtain ⟨i0,hi,hz0,hz1,hz2⟩:=info_parts infoEvent
 have HO:Hid (∀ w',Below W.heap.size W w'->Calls Tryz.prog 131 #[.pointer (some ⟨wtb,0,none⟩),.int .i64 time] w' fun e w''=>e=.returned (.int .i64 0)/\Below w'.heap.size w' w''):=fun w' hb=>by
  have:=old_any wtb retain rm nvv (.slice ea C.length ecap) pv C time w' (hb.heapOf hw) (hE.below hb) (by omega) ht hr
  rw [hold] at this
  exact this
 have Hst:Hid (∀ w',Below W.heap.size W w'->(fun w'=>w'.cell? ⟨wtb,3,none⟩=some (.slice ea C.length ecap)/\w'.cell? ⟨nx,0,none⟩=some (.int .i64 num)/\w'.cell? ⟨nx,1,none⟩=some (.int .i64 time)/\w'.cell? ⟨nx,2,none⟩=some (.slice ao2 al2 ac2)/\w'.cell? ⟨nx,3,none⟩=some (.slice none 0 0)) w'):=fun w' hb=>⟨cell_at (hb.heapOf hw) rfl,cell_at (hb.heapOf hnx) rfl,cell_at (hb.heapOf hnx) rfl,cell_at (hb.heapOf hnx) rfl,cell_at (hb.heapOf hnx) rfl⟩
 have hS0:=Hst.out _ (Below.refl _ W).drew
 have tail5:∀ (V:World) (sl:Nat),Below W.heap.size W V->(∀ j u,(evCells (⟨num,time,ao2,al2,ac2,none,0,0⟩:EvC))[j]? = some u->V.cell? ((⟨sl,0,none⟩:Addr).add j)=some u)->
   AnyF Tryz.prog .any opsT5 Q (fun w'=>w'.cell? ⟨wtb,3,none⟩=some (.slice ea C.length ecap)/\w'.cell? ⟨nx,0,none⟩=some (.int .i64 num)/\w'.cell? ⟨nx,1,none⟩=some (.int .i64 time)/\w'.cell? ⟨nx,2,none⟩=some (.slice ao2 al2 ac2)/\w'.cell? ⟨nx,3,none⟩=some (.slice none 0 0)) 14 4 #[true,true,true,true,true,true,true,true,true,true,true,false,false,false,false] ⟨#[(.pointer (some ⟨wtb,0,none⟩)),(.int .i64 time),x2,x3,x4,x5,x6,(.pointer (some ⟨nx,0,none⟩)),x8,x9,x10,x11,x12,x13,x14,x15,x16,x17,x18,x19,x20,x21,x22,x23,x24,x25,x26,x27,x28,x29,x30,(.pointer (some ⟨wtb,0,none⟩)),(.pointer (some ⟨wtb,0,none⟩)),(.pointer (some ⟨wtb,0,none⟩)),(.pointer (some ⟨wtb,3,none⟩)),(.slice ea C.length ecap),(.pointer (some ⟨wtb,0,none⟩)),(.int .i64 time),(.int .i64 0),(.slice ea C.length ecap),(.agg #[.int .i64 num,.int .i64 time,.slice ao2 al2 ac2,.slice none 0 0]),(.slice (some ⟨sl,0,none⟩) 1 1),u42,u43,u44,u45,u46,u47,u48,u49,u50,u51,u52,u53],[]⟩ V:=by
  intro V sl hbV hcell
  have hwV:=hbV.heapOf hw
  have hnV:=hbV.heapOf hnx
  have hEV:=hE.below hbV
  simp only [opsT5,body87,Tryz.f87,Option.getD_some]
  refine AnyF.one (i:=11) (by decide +kernel) rfl (by rfl) (wp_append_own (.tmp 39) (.tmp 41) 146 rfl 0 159 i0 _ 4 64 Tryz.underlying146 hi hz0 hz1 hz2 rfl (by decide) (.slice ea C.length ecap) C.length (flatE C) rfl hEV ⟨sl,0,none⟩ 1 1 (evCells (⟨num,time,ao2,al2,ac2,none,0,0⟩:EvC)) rfl rfl hcell (evOne _) (by unfold maxLen;omega) (by omega) (Nat.zero_le _) ?_)
  intro v' w2 hown' hgrow hor
  obtain ⟨g2,c2,rfl⟩:=ownsRow_succ hown'
  have hneV:∀ b,(Value.slice ea C.length ecap).ownBlock=some b->∃ cs,V.heap[b]? = some (.cells cs 159 (0,0)):=fun b hb=>own_tag hEV hb
  have hwt2:w2.heap[wtb]? = some (.cells #[.int .i64 retain,rm,nvv,.slice ea C.length ecap,pv] 153 (0,0)):=by
   rw [hgrow.block wtb (heap_lt hwV) (fun e=>by obtain ⟨cs,h1⟩:=hneV wtb e.symm;rw [hwV] at h1;cases h1)];exact hwV
  have hc3:w2.cell? ⟨wtb,3,none⟩=some (.slice ea C.length ecap):=cell_at hwt2 rfl
  have hf3:w2.frozen? ⟨wtb,3,none⟩=false:=Lib.frozen_of_heap hwt2 _
  have hnx2:w2.heap[nx]? = some (.cells #[.int .i64 num,.int .i64 time,.slice ao2 al2 ac2,.slice none 0 0] 159 (0,0)):=by
   rw [hgrow.block nx (heap_lt hnV) (fun e=>hnxe e.symm)];exact hnV
  have hS2:(fun w'=>w'.cell? ⟨wtb,3,none⟩=some (.slice ea C.length ecap)/\w'.cell? ⟨nx,0,none⟩=some (.int .i64 num)/\w'.cell? ⟨nx,1,none⟩=some (.int .i64 time)/\w'.cell? ⟨nx,2,none⟩=some (.slice ao2 al2 ac2)/\w'.cell? ⟨nx,3,none⟩=some (.slice none 0 0)) w2:=⟨hc3,cell_at hnx2 rfl,cell_at hnx2 rfl,cell_at hnx2 rfl,cell_at hnx2 rfl⟩
  refine ⟨fun _=>hS2,?_⟩
  try walk_nrm
  refine AnyF.op (i:=12) (by decide +kernel) rfl (by rfl) (fun K' hK'=>?_)
  unfold Oper.wp
  go_simp
  refine hK' _ _ ⟨fun _=>hS2,?_⟩
  clear hK' K'
  try walk_nrm
  refine AnyF.op (i:=13) (by decide +kernel) rfl (by rfl) (fun K' hK'=>?_)
  unfold Oper.wp
  go_simp
  refine hK' _ _ ⟨fun _=>hS2,?_⟩
  clear hK' K'
  try walk_nrm
  refine AnyF.op (i:=14) (by decide +kernel) rfl (by rfl) (fun K' hK'=>?_)
  unfold Oper.wp
  go_simp
  refine hK' _ _ ⟨fun x=>absurd rfl x,?_⟩
  clear hK' K'
  refine AnyF.done (by decide +kernel) ?_ _
  try walk_nrm
  have hg2:g2≠wtb:=by
   rintro rfl
   obtain ⟨_,⟨h2,_⟩ | ⟨g',cap',cur,e1,_,e2,_⟩⟩:=hown'
   ·cases h2
   ·cases e1;rw [hwt2] at e2;cases e2
  refine hK (.slice (some ⟨g2,0,none⟩) (C.length+1) c2) _ _ (set_heap (i:=3) hwt2) ?_ ?_ ?_
  ·show World.ownsRow _ 0 159 4 _ _ _
   have el:(C++[(⟨num,time,ao2,al2,ac2,none,0,0⟩:EvC)]).length=C.length+1:=by simp
   rw [el,flatE_snoc]
   exact own_heap hown' fun b hbb=>Below.heap_setCell _ _ _ _ (by cases hbb;exact hg2)
  ·have s1:Spare (fun b=>b=wtb\/(Value.slice ea C.length ecap).ownBlock=some b) W w2:=(Spare.of_below hbV).trans (Spare.of_grown hgrow (fun x hx=>.inr hx))
   exact s1.trans (Spare.of_only ((Only.refl wtb w2).setCell (p:=⟨wtb,3,none⟩) (.inl rfl) _) (fun x hx=>.inl hx))
  ·intro b hb
   rcases hor with e | e
   ·exact .inl (e▸hb)
   ·rw [e] at hb;cases hb;exact .inr hbV.size
 simp only [opsT5,body87,Tryz.f87,Option.getD_some] at tail5 ⊢
 refine AnyF.begin (S:=(fun w'=>w'.cell? ⟨wtb,3,none⟩=some (.slice ea C.length ecap)/\w'.cell? ⟨nx,0,none⟩=some (.int .i64 num)/\w'.cell? ⟨nx,1,none⟩=some (.int .i64 time)/\w'.cell? ⟨nx,2,none⟩=some (.slice ao2 al2 ac2)/\w'.cell? ⟨nx,3,none⟩=some (.slice none 0 0))) (fin:=14) (by kernel_rfl) ?_
 simp only [List.size_toArray,List.length_cons,List.length_nil,Nat.reduceAdd,Nat.zero_add]
 refine AnyF.take 0 (v:=?vq0) rfl (by decide +kernel) (by decide +kernel) (by decide +kernel) (by decide +kernel) (fun c a w h=>hQ c a _ _ w h) (by rfl) (fun w' hS=>Go.Conc.run_eq_of ?rq0) hS0 ?_
 case rq0 =>
  intro K' hK'
  obtain ⟨y1,y2,y3,y4,y5⟩:=hS
  go_simp
  exact hK'
 try walk_nrm
 refine AnyF.take 1 (v:=?vq1) rfl (by decide +kernel) (by decide +kernel) (by decide +kernel) (by decide +kernel) (fun c a w h=>hQ c a _ _ w h) (by rfl) (fun w' hS=>Go.Conc.run_eq_of ?rq1) hS0 ?_
 case rq1 =>
  intro K' hK'
  obtain ⟨y1,y2,y3,y4,y5⟩:=hS
  go_simp
  exact hK'
 try walk_nrm
 refine AnyF.take 2 (v:=?vq2) rfl (by decide +kernel) (by decide +kernel) (by decide +kernel) (by decide +kernel) (fun c a w h=>hQ c a _ _ w h) (by rfl) (fun w' hS=>Go.Conc.run_eq_of ?rq2) hS0 ?_
 case rq2 =>
  intro K' hK'
  obtain ⟨y1,y2,y3,y4,y5⟩:=hS
  go_simp
  exact hK'
 try walk_nrm
 refine AnyF.take 3 (v:=?vq3) rfl (by decide +kernel) (by decide +kernel) (by decide +kernel) (by decide +kernel) (fun c a w h=>hQ c a _ _ w h) (by rfl) (fun w' hS=>Go.Conc.run_eq_of ?rq3) hS0 ?_
 case rq3 =>
  intro K' hK'
  obtain ⟨y1,y2,y3,y4,y5⟩:=hS
  go_simp
  exact hK'
 try walk_nrm
 refine AnyF.take 4 (v:=?vq4) rfl (by decide +kernel) (by decide +kernel) (by decide +kernel) (by decide +kernel) (fun c a w h=>hQ c a _ _ w h) (by rfl) (fun w' hS=>Go.Conc.run_eq_of ?rq4) hS0 ?_
 case rq4 =>
  intro K' hK'
  obtain ⟨y1,y2,y3,y4,y5⟩:=hS
  go_simp
  exact hK'
 try walk_nrm
 refine AnyF.take 5 (v:=?vq5) rfl (by decide +kernel) (by decide +kernel) (by decide +kernel) (by decide +kernel) (fun c a w h=>hQ c a _ _ w h) (by rfl) (fun w' hS=>Go.Conc.run_eq_of ?rq5) hS0 ?_
 case rq5 =>
  intro K' hK'
  obtain ⟨y1,y2,y3,y4,y5⟩:=hS
  go_simp
  exact hK'
 try walk_nrm
 refine AnyF.take 6 (v:=?vq6) rfl (by decide +kernel) (by decide +kernel) (by decide +kernel) (by decide +kernel) (fun c a w h=>hQ c a _ _ w h) (by rfl) (fun w' hS=>Go.Conc.run_eq_of ?rq6) hS0 ?_
 case rq6 =>
  intro K' hK'
  obtain ⟨y1,y2,y3,y4,y5⟩:=hS
  go_simp
  exact hK'
 try walk_nrm
 refine AnyF.take 9 (v:=?vq9) rfl (by decide +kernel) (by decide +kernel) (by decide +kernel) (by decide +kernel) (fun c a w h=>hQ c a _ _ w h) (by rfl) (fun w' hS=>Go.Conc.run_eq_of ?rq9) hS0 ?_
 case rq9 =>
  intro K' hK'
  obtain ⟨y1,y2,y3,y4,y5⟩:=hS
  go_simp
  exact hK'
 try walk_nrm
 refine AnyF.two (i:=7) (j:=10) (by decide +kernel) rfl (by rfl) rfl (by rfl) (fun K' hK'=>?_) (fun K' hK'=>?_)
 ·unfold Oper.wp
  rw [Go.Conc.run_call_body (f:=131) (args:=#[.tmp 36,.tmp 37]) (ats:=#[232,3]) rfl Tryz.func131 (by decide) rfl]
  simp only [Oper.upon,List.map_toArray,List.map_cons,List.map_nil]
  change Calls Tryz.prog 131 #[.pointer (some ⟨wtb,0,none⟩),.int .i64 time] W.drew _
  refine (HO.out W.drew (Below.refl W.heap.size W).drew).mono ?_
  rintro e w1 ⟨rfl,hb1⟩
  replace hb1:Below W.heap.size W w1:=((Below.refl W.heap.size W).drew).trans (hb1.mono ((Below.refl W.heap.size W).drew).size)
  refine hK' _ _ ⟨fun _=>Hst.out _ hb1,?_⟩
  clear hK' K'
  try walk_nrm
  refine AnyF.two (i:=8) (j:=10) (by decide +kernel) rfl (by rfl) rfl (by rfl) (fun K' hK'=>?_) (fun K' hK'=>?_)
  ·unfold Oper.wp
   rw [Go.Conc.run_call_body (f:=130) (args:=#[.tmp 35,.const (.int .i64 0),.tmp 38]) (ats:=#[146,3,3]) rfl Tryz.func130 (by decide) rfl]
   simp only [Oper.upon,List.map_toArray,List.map_cons,List.map_nil]
   change Calls Tryz.prog 130 #[.slice ea C.length ecap,.int .i64 0,.int .i64 0] w1 _
   refine (delete0_any ea C.length ecap w1 hcap).mono ?_
   rintro e wd ⟨rfl,hwd⟩
   have hwd:=hwd.symm
   subst hwd
   refine hK' _ _ ⟨fun _=>Hst.out _ (hb1),?_⟩
   clear hK' K'
   try walk_nrm
   refine AnyF.op (i:=10) (by decide +kernel) rfl (by rfl) (fun K' hK'=>?_)
   unfold Oper.wp
   go_simp
   refine hK' _ _ ⟨fun _=>Hst.out _ ((hb1).al _),?_⟩
   clear hK' K'
   try walk_nrm
   exact tail5 _ w1.heap.size (hb1.al _) (cells_four_new w1 (⟨num,time,ao2,al2,ac2,none,0,0⟩:EvC) 159)
  ·unfold Oper.wp
   go_simp
   refine hK' _ _ ⟨fun _=>Hst.out _ ((hb1).al _),?_⟩
   clear hK' K'
   try walk_nrm
   refine AnyF.op (i:=8) (by decide +kernel) rfl (by rfl) (fun K' hK'=>?_)
   unfold Oper.wp
   rw [Go.Conc.run_call_body (f:=130) (args:=#[.tmp 35,.const (.int .i64 0),.tmp 38]) (ats:=#[146,3,3]) rfl Tryz.func130 (by decide) rfl]
   simp only [Oper.upon,List.map_toArray,List.map_cons,List.map_nil]
   change Calls Tryz.prog 130 #[.slice ea C.length ecap,.int .i64 0,.int .i64 0] (w1.alloc (.cells #[.int .i64 num,.int .i64 time,.slice ao2 al2 ac2,.slice none 0 0] 159)) _
   refine (delete0_any ea C.length ecap (w1.alloc (.cells #[.int .i64 num,.int .i64 time,.slice ao2 al2 ac2,.slice none 0 0] 159)) hcap).mono ?_
   rintro e wd ⟨rfl,hwd⟩
   have hwd:=hwd.symm
   subst hwd
   refine hK' _ _ ⟨fun _=>Hst.out _ (hb1.al _),?_⟩
   clear hK' K'
   try walk_nrm
   exact tail5 _ w1.heap.size (hb1.al _) (cells_four_new w1 (⟨num,time,ao2,al2,ac2,none,0,0⟩:EvC) 159)
 ·unfold Oper.wp
  go_simp
  refine hK' _ _ ⟨fun _=>Hst.out _ (((Below.refl W.heap.size W).drew).al _),?_⟩
  clear hK' K'
  try walk_nrm
  refine AnyF.op (i:=7) (by decide +kernel) rfl (by rfl) (fun K' hK'=>?_)
  have hbA:Below W.heap.size W (W.drew.alloc (.cells #[.int .i64 num,.int .i64 time,.slice ao2 al2 ac2,.slice none 0 0] 159)):=((Below.refl _ W).drew.al _)
  unfold Oper.wp
  rw [Go.Conc.run_call_body (f:=131) (args:=#[.tmp 36,.tmp 37]) (ats:=#[232,3]) rfl Tryz.func131 (by decide) rfl]
  simp only [Oper.upon,List.map_toArray,List.map_cons,List.map_nil]
  change Calls Tryz.prog 131 #[.pointer (some ⟨wtb,0,none⟩),.int .i64 time] (W.drew.alloc (.cells #[.int .i64 num,.int .i64 time,.slice ao2 al2 ac2,.slice none 0 0] 159)) _
  refine (HO.out (W.drew.alloc (.cells #[.int .i64 num,.int .i64 time,.slice ao2 al2 ac2,.slice none 0 0] 159)) hbA).mono ?_
  rintro e w1 ⟨rfl,hb1⟩
  have hbB:=hb1
  replace hb1:Below W.heap.size W w1:=(hbA).trans (hb1.mono (hbA).size)
  refine hK' _ _ ⟨fun _=>Hst.out _ hb1,?_⟩
  clear hK' K'
  try walk_nrm
  refine AnyF.op (i:=8) (by decide +kernel) rfl (by rfl) (fun K' hK'=>?_)
  unfold Oper.wp
  rw [Go.Conc.run_call_body (f:=130) (args:=#[.tmp 35,.const (.int .i64 0),.tmp 38]) (ats:=#[146,3,3]) rfl Tryz.func130 (by decide) rfl]
  simp only [Oper.upon,List.map_toArray,List.map_cons,List.map_nil]
  change Calls Tryz.prog 130 #[.slice ea C.length ecap,.int .i64 0,.int .i64 0] w1 _
  refine (delete0_any ea C.length ecap w1 hcap).mono ?_
  rintro e wd ⟨rfl,hwd⟩
  have hwd:=hwd.symm
  subst hwd
  refine hK' _ _ ⟨fun _=>Hst.out _ (hb1),?_⟩
  clear hK' K'
  try walk_nrm
  have hsl:W.heap.size<(W.drew.alloc (.cells #[.int .i64 num,.int .i64 time,.slice ao2 al2 ac2,.slice none 0 0] 159)).heap.size:=heap_lt (heap_new W.drew (.cells #[.int .i64 num,.int .i64 time,.slice ao2 al2 ac2,.slice none 0 0] 159) W.heap.size rfl)
  refine tail5 _ W.heap.size hb1 (fun j u hj=>?_)
  have h1:=cells_four_new W.drew (⟨num,time,ao2,al2,ac2,none,0,0⟩:EvC) 159 j u hj
  have e1:(⟨W.heap.size,0,none⟩:Addr).add j=⟨W.heap.size,j,none⟩:=by simp [Addr.add];omega
  have e2:(⟨W.drew.heap.size,0,none⟩:Addr).add j=⟨W.heap.size,j,none⟩:=e1
  rw [e2] at h1
  rw [e1,hbB.cell (p:=⟨W.heap.size,j,none⟩) hsl]
  exact h1
theorem backL_list (L:List Pe) (d:Pe):backL (fun i=>L.getD i d) L.length=L.reverse:=by
 unfold backL
 rw [downTo_map (fun i=>L.getD i d) _ _ (Nat.le_refl _)]
 apply List.ext_getElem?
 intro i
 by_cases hi:i<L.length
 ·simp [hi]
  have:L.length-1-i<L.length:=by omega
  simp [this]
 ·simp [hi]
theorem row_array {w:World} {base size n:Nat} {e:TypeId} {v:Value} {xs:List Value} (h:w.ownsRow base e size v n xs) {g cap:Nat} (hv:v=.slice (some ⟨g,0,none⟩) n cap):∃ cur,w.heap[g]? = some (.cells cur e (0,0))/\(∀ (j:Nat) (x:Value),xs[j]? = some x->cur[j]? = some x)/\n<=cap/\cap<=maxLen/\cur.size=cap*size/\cur.toList.take (n*size)=xs:=by
 obtain ⟨h1,⟨rfl,h2⟩ | ⟨g',cap',cur,e1,h3,h4,h5,h6,h7,h8⟩⟩:=h
 ·cases hv
 ·rw [hv] at e1
  cases e1
  refine ⟨cur,h4,fun j x hx=>?_,h5,h6,h7,h8⟩
  have hj:j<n*size:=by have:=(List.getElem?_eq_some_iff.1 hx).1;omega
  rw [<- h8,List.getElem?_take,if_pos hj] at hx
  rw [<- Array.getElem?_toList];exact hx
theorem flatE_set (C:List EvC) (c:EvC) (sb sl sc:Nat):(flatE (C++[c])).set (C.length*4+3) (.slice (some ⟨sb,0,none⟩) sl sc)=flatE (C++[c.withSo sb sl sc]):=by
 have hl:(flatE C).length=C.length*4:=flat_len evCells 4 (fun _=>rfl) C
 rw [flatE_snoc,flatE_snoc,List.set_append_right _ _ (by omega),hl]
 have:C.length*4+3-C.length*4=3:=by omega
 rw [this]
 rfl
set_option maxRecDepth 100000 in
set_option maxHeartbeats 8000000 in
theorem region6_any (Q:Exit->Act->World->Prop) (hQ:∀ c a d v w,Q (.panic c) (Act.put a d v) w->Q (.panic c) a w) (wtb rb g gcap:Nat) (r1 r2:Value) (no:Option Addr) (ncap:Nat) (K:List Key) (pv:Value) (C:List EvC) (nxt:EvC) (E:List Pe) (pe:Pe) (W:World) (x1 x2 x3 x4 x5 x7 x8 x9 x10 x11 x12 x13 x14 x15 x16 x17 x18 x19 x20 x21 x22 x23 x24 x25 x26 x27 x28 x29 x30 x31 x32 x33 x34 x35 x36 x37 x38 x39 x40 x41 x42 x43 x44 u45 u46 u47 u48 u49 u50 u51 u52 u53:Value)
  (hw:W.heap[wtb]? = some (.cells #[r1,r2,.slice no K.length ncap,.slice (some ⟨g,0,none⟩) (C.length+1) gcap,pv] 153 (0,0))) (hE:EvsAt W (.slice (some ⟨g,0,none⟩) (C.length+1) gcap) (C++[nxt])) (hn:C.length<=1000) (hlen:C.length=E.length)
  (hIn:∀ (i:Nat) c e,C[i]? = some c->E[i]? = some e->EvIn W c e) (hT:∀ c∈C,EvT W c) (hM:EvPre W nxt pe) (hMt:∀ a,nxt.ao=some a->∃ cs m,W.heap[a.block]? = some (.cells cs 9 m)) (hK:K.length<=1000) (hnc:K.length<=ncap) (hN:NodesIn W no K) (hNt:∀ a,no=some a->∃ cs m,W.heap[a.block]? = some (.cells cs 226 m)) (hop:∀ k∈K,CoreOp k.op) (hAh:Ahead K) (hrow:∀ e∈E,e.so.length=K.length+1)
  (hrb:W.heap[rb]? = some (.cells #[.int .i64 0,.int .i64 0,.slice none 0 0,.slice none 0 0] 159 (0,0))) (hrg:rb≠g)
  (hk:∀ (sb sc:Nat) (cur:Array Value) (W':World),W.heap.size<=sb->W'.heap[sb]? = some (.cells cur 4 (0,0))->Spare (fun b=>b=g\/b=rb) W W'->EvsAt W' (.slice (some ⟨g,0,none⟩) (C.length+1) gcap) (C++[nxt.withSo sb (K.length+1) sc])->EvIn W' (nxt.withSo sb (K.length+1) sc) (workF E.reverse K pe.bare)->
   W'.heap[rb]? = some (.cells #[.int .i64 nxt.number,.int .i64 nxt.time,.slice nxt.ao nxt.al nxt.ac,.slice (some ⟨sb,0,none⟩) (K.length+1) sc] 159 (0,0))->Q .normal ⟨#[(.pointer (some ⟨wtb,0,none⟩)),x1,x2,x3,x4,x5,(.pointer (some ⟨rb,0,none⟩)),x7,x8,x9,x10,x11,x12,x13,x14,x15,x16,x17,x18,x19,x20,x21,x22,x23,x24,x25,x26,x27,x28,x29,x30,x31,x32,x33,x34,x35,x36,x37,x38,x39,x40,x41,x42,x43,x44,(.pointer (some ⟨wtb,0,none⟩)),(.pointer (some ⟨wtb,0,none⟩)),(.pointer (some ⟨wtb,2,none⟩)),(.slice no K.length ncap),(.pointer (some ⟨wtb,0,none⟩)),(.pointer (some ⟨wtb,0,none⟩)),(.pointer (some ⟨wtb,3,none⟩)),(.slice (some ⟨g,0,none⟩) (C.length+1) gcap),(evVal (nxt.withSo sb (K.length+1) sc))],[]⟩ W') :
  (Code.region 6 opsT6 true).wp Tryz.prog Q ⟨#[(.pointer (some ⟨wtb,0,none⟩)),x1,x2,x3,x4,x5,(.pointer (some ⟨rb,0,none⟩)),x7,x8,x9,x10,x11,x12,x13,x14,x15,x16,x17,x18,x19,x20,x21,x22,x23,x24,x25,x26,x27,x28,x29,x30,x31,x32,x33,x34,x35,x36,x37,x38,x39,x40,x41,x42,x43,x44,u45,u46,u47,u48,u49,u50,u51,u52,u53],[]⟩ W:=by
 have hlt:=heap_lt hw
 have el:(C++[nxt]).length=C.length+1:=by simp
 have hE':World.ownsRow W 0 159 4 (.slice (some ⟨g,0,none⟩) (C.length+1) gcap) (C.length+1) (flatE (C++[nxt])):=by
  have h0:=hE
  unfold EvsAt at h0
  rw [el] at h0
  exact h0
 obtain ⟨cg,hg,hcg,hgc,hgm,hgs,hgt⟩:=row_array hE' rfl
 have hW:Calls Tryz.prog 132 #[.slice no K.length ncap,.slice (some ⟨g,0,none⟩) (C.length+1) gcap] W.drew fun e W'=>∃ sb sc cur,e=.returned (evVal (nxt.withSo sb (K.length+1) sc))/\W.heap.size<=sb/\Only g W W'/\
   W'.heap[g]? = some (.cells (cg.setIfInBounds (C.length*4+3) (.slice (some ⟨sb,0,none⟩) (K.length+1) sc)) 159 (0,0))/\W'.heap[sb]? = some (.cells cur 4 (0,0))/\EvIn W' (nxt.withSo sb (K.length+1) sc) (workF E.reverse K pe.bare):=by
  have hbd:Below W.heap.size W W.drew:=(Below.refl _ W).drew
  have hcm:(C++[nxt]).getD C.length nxt=nxt:=by simp
  have hem:(E++[pe]).getD C.length pe=pe:=by rw [hlen];simp
  have hci:∀ i,i<C.length->∃ c e,(C++[nxt]).getD i nxt=c/\(E++[pe]).getD i pe=e/\C[i]? = some c/\E[i]? = some e:=fun i hi=>by
   have h1:i<E.length:=by omega
   exact ⟨C[i],E[i],by rw [List.getD_eq_getElem?_getD,List.getElem?_append_left hi,List.getElem?_eq_getElem hi];rfl,by rw [List.getD_eq_getElem?_getD,List.getElem?_append_left h1,List.getElem?_eq_getElem h1];rfl,List.getElem?_eq_getElem hi,List.getElem?_eq_getElem h1⟩
  have:=workOut_any no ncap K g gcap C.length cg (fun i=>(C++[nxt]).getD i nxt) (fun i=>(E++[pe]).getD i pe) W.drew (by omega) hgc hK hnc hg ?_ (fun hne=>hN hne) ?_ hop hAh ?_ ?_ ?_ (by simp only [hcm,hem];exact ⟨hM.number,hM.time,hM.low,hM.al,hM.alen,hM.atoms⟩) ?_
  ·simp only [hcm,hem] at this
   have hb:backL (fun i=>(E++[pe]).getD i pe) C.length=E.reverse:=by
    rw [backL_congr (F:=fun i=>E.getD i pe) (fun i hi=>by
     have h1:i<E.length:=by omega
     show (E++[pe]).getD i pe=E.getD i pe
     rw [List.getD_eq_getElem?_getD,List.getElem?_append_left h1,<- List.getD_eq_getElem?_getD]),hlen]
    exact backL_list E pe
   rw [hb] at this
   refine this.mono ?_
   rintro e W' ⟨sb,sc,cur,h1,h2,h3,h4,h5,h6⟩
   exact ⟨sb,sc,cur,h1,h2,⟨h3.os,h3.tape,h3.output,h3.size,h3.block⟩,h4,h5,h6⟩
  ·intro i k v hi hv
   have hc:(C++[nxt])[i]? = some ((C++[nxt]).getD i nxt):=by
    have:i<(C++[nxt]).length:=by omega
    rw [List.getD_eq_getElem?_getD,List.getElem?_eq_getElem this];rfl
   exact hcg _ _ (flat_get evCells 4 (fun _=>rfl) (C++[nxt]) i k _ v hc hv)
  ·intro a ha e
   obtain ⟨cs,m,h1⟩:=hNt a ha
   rw [e,hg] at h1;cases h1
  ·intro i hi
   obtain ⟨c,e,h1,h2,h3,h4⟩:=hci i hi
   simp only [h1,h2]
   exact (hIn i c e h3 h4).below hbd
  ·intro i hi
   obtain ⟨c,e,h1,h2,h3,h4⟩:=hci i hi
   simp only [h2]
   exact hrow e (List.mem_of_getElem? h4)
  ·intro i hi
   obtain ⟨c,e,h1,h2,h3,h4⟩:=hci i hi
   simp only [h1]
   exact (hT c (List.mem_of_getElem? h3)).off hg
  ·simp only [hcm]
   intro a ha e
   obtain ⟨cs,m,h1⟩:=hMt a ha
   rw [e,hg] at h1;cases h1
 have Hst:Hid (∀ w',Only g W w'->(fun w'=>w'.cell? ⟨wtb,2,none⟩=some (.slice no K.length ncap)/\w'.cell? ⟨wtb,3,none⟩=some (.slice (some ⟨g,0,none⟩) (C.length+1) gcap)) w'):=fun w' ho=>by
  have hwg:wtb≠g:=by rintro rfl;rw [hw] at hg;cases hg
  have h1:=ho.heap hw hwg
  exact ⟨cell_at h1 rfl,cell_at h1 rfl⟩
 have hS0:=Hst.out _ (Only.refl g W).drew
 clear hIn hT hM hN hNt hop hAh hrow hlen el
 simp only [opsT6,body87,Tryz.f87,Option.getD_some]
 refine AnyF.begin (S:=(fun w'=>w'.cell? ⟨wtb,2,none⟩=some (.slice no K.length ncap)/\w'.cell? ⟨wtb,3,none⟩=some (.slice (some ⟨g,0,none⟩) (C.length+1) gcap))) (fin:=9) (by kernel_rfl) ?_
 simp only [List.size_toArray,List.length_cons,List.length_nil,Nat.reduceAdd,Nat.zero_add]
 refine AnyF.take 0 (v:=?vq0) rfl (by decide +kernel) (by decide +kernel) (by decide +kernel) (by decide +kernel) (fun c a w h=>hQ c a _ _ w h) (by rfl) (fun w' hS=>Go.Conc.run_eq_of ?rq0) hS0 ?_
 case rq0 =>
  intro K' hK'
  obtain ⟨y1,y2⟩:=hS
  go_simp
  exact hK'
 try walk_nrm
 refine AnyF.take 1 (v:=?vq1) rfl (by decide +kernel) (by decide +kernel) (by decide +kernel) (by decide +kernel) (fun c a w h=>hQ c a _ _ w h) (by rfl) (fun w' hS=>Go.Conc.run_eq_of ?rq1) hS0 ?_
 case rq1 =>
  intro K' hK'
  obtain ⟨y1,y2⟩:=hS
  go_simp
  exact hK'
 try walk_nrm
 refine AnyF.take 2 (v:=?vq2) rfl (by decide +kernel) (by decide +kernel) (by decide +kernel) (by decide +kernel) (fun c a w h=>hQ c a _ _ w h) (by rfl) (fun w' hS=>Go.Conc.run_eq_of ?rq2) hS0 ?_
 case rq2 =>
  intro K' hK'
  obtain ⟨y1,y2⟩:=hS
  go_simp
  exact hK'
 try walk_nrm
 refine AnyF.take 3 (v:=?vq3) rfl (by decide +kernel) (by decide +kernel) (by decide +kernel) (by decide +kernel) (fun c a w h=>hQ c a _ _ w h) (by rfl) (fun w' hS=>Go.Conc.run_eq_of ?rq3) hS0 ?_
 case rq3 =>
  intro K' hK'
  obtain ⟨y1,y2⟩:=hS
  go_simp
  exact hK'
 try walk_nrm
 refine AnyF.take 4 (v:=?vq4) rfl (by decide +kernel) (by decide +kernel) (by decide +kernel) (by decide +kernel) (fun c a w h=>hQ c a _ _ w h) (by rfl) (fun w' hS=>Go.Conc.run_eq_of ?rq4) hS0 ?_
 case rq4 =>
  intro K' hK'
  obtain ⟨y1,y2⟩:=hS
  go_simp
  exact hK'
 try walk_nrm
 refine AnyF.take 5 (v:=?vq5) rfl (by decide +kernel) (by decide +kernel) (by decide +kernel) (by decide +kernel) (fun c a w h=>hQ c a _ _ w h) (by rfl) (fun w' hS=>Go.Conc.run_eq_of ?rq5) hS0 ?_
 case rq5 =>
  intro K' hK'
  obtain ⟨y1,y2⟩:=hS
  go_simp
  exact hK'
 try walk_nrm
 refine AnyF.take 6 (v:=?vq6) rfl (by decide +kernel) (by decide +kernel) (by decide +kernel) (by decide +kernel) (fun c a w h=>hQ c a _ _ w h) (by rfl) (fun w' hS=>Go.Conc.run_eq_of ?rq6) hS0 ?_
 case rq6 =>
  intro K' hK'
  obtain ⟨y1,y2⟩:=hS
  go_simp
  exact hK'
 try walk_nrm
 refine AnyF.take 7 (v:=?vq7) rfl (by decide +kernel) (by decide +kernel) (by decide +kernel) (by decide +kernel) (fun c a w h=>hQ c a _ _ w h) (by rfl) (fun w' hS=>Go.Conc.run_eq_of ?rq7) hS0 ?_
 case rq7 =>
  intro K' hK'
  obtain ⟨y1,y2⟩:=hS
  go_simp
  exact hK'
 try walk_nrm
 refine AnyF.one (i:=8) (by decide +kernel) rfl (by rfl) ?_
 unfold Oper.wp
 rw [Go.Conc.run_call_body (f:=132) (args:=#[.tmp 48,.tmp 52]) (ats:=#[95,146]) rfl Tryz.func132 (by decide) rfl]
 simp only [Oper.upon,List.map_toArray,List.map_cons,List.map_nil]
 change Calls Tryz.prog 132 #[.slice no K.length ncap,.slice (some ⟨g,0,none⟩) (C.length+1) gcap] W.drew _
 refine hW.mono ?_
 rintro e W1 ⟨sb,sc,cur,rfl,hsb,hO,hg1,hcur,hin⟩
 refine ⟨fun _=>Hst.out _ hO,?_⟩
 try walk_nrm
 have hrb1:=hO.heap hrb hrg
 have r0:=cell_at (i:=0) hrb1 rfl
 have r1':=cell_at (i:=1) hrb1 rfl
 have r2':=cell_at (i:=2) hrb1 rfl
 have r3':=cell_at (i:=3) hrb1 rfl
 have fz:∀ q,W1.frozen? ⟨rb,q,none⟩=false:=fun q=>Lib.frozen_of_heap hrb1 q
 refine AnyF.op (i:=9) (by decide +kernel) rfl (by rfl) (fun K' hK'=>?_)
 unfold Oper.wp
 simp only [evVal,EvC.withSo]
 go_simp
 refine hK' _ _ ⟨fun x=>absurd rfl x,?_⟩
 clear hK' K'
 refine AnyF.done (by decide +kernel) ?_ _
 try walk_nrm
 have hR:=set_heap (i:=3) (v:=.slice (some ⟨sb,0,none⟩) (K.length+1) sc) (set_heap (i:=2) (v:=.slice nxt.ao nxt.al nxt.ac) (set_heap (i:=1) (v:=.int .i64 nxt.time) (set_heap (i:=0) (v:=.int .i64 nxt.number) hrb1)))
 simp only [List.setIfInBounds_toArray,List.set_cons_zero,List.set_cons_succ] at hR
 have hO4:Only rb W1 ((((W1.setCell ⟨rb,0,none⟩ (.int .i64 nxt.number)).setCell ⟨rb,1,none⟩ (.int .i64 nxt.time)).setCell ⟨rb,2,none⟩ (.slice nxt.ao nxt.al nxt.ac)).setCell ⟨rb,3,none⟩ (.slice (some ⟨sb,0,none⟩) (K.length+1) sc)):=((((Only.refl _ W1).setCell (p:=⟨rb,0,none⟩) (.inl rfl) _).setCell (p:=⟨rb,1,none⟩) (.inl rfl) _).setCell (p:=⟨rb,2,none⟩) (.inl rfl) _).setCell (p:=⟨rb,3,none⟩) (.inl rfl) _
 generalize ((((W1.setCell ⟨rb,0,none⟩ (.int .i64 nxt.number)).setCell ⟨rb,1,none⟩ (.int .i64 nxt.time)).setCell ⟨rb,2,none⟩ (.slice nxt.ao nxt.al nxt.ac)).setCell ⟨rb,3,none⟩ (.slice (some ⟨sb,0,none⟩) (K.length+1) sc))=W4 at hR hO4 ⊢
 have hrl:=heap_lt hrb
 refine hk sb sc cur W4 hsb (hO4.heap hcur (by omega)) ⟨hO4.os.trans hO.os,hO4.tape.trans hO.tape,hO4.output.trans hO.output,Nat.le_trans hO.size hO4.size,fun b hb hp=>(hO4.block b (Nat.lt_of_lt_of_le hb hO.size) (fun e=>hp (.inr e))).trans (hO.block b hb (fun e=>hp (.inl e)))⟩ ?_ ?_ hR
 ·have el2:(C++[nxt.withSo sb (K.length+1) sc]).length=C.length+1:=by simp
  show World.ownsRow _ 0 159 4 _ _ _
  rw [el2]
  refine ⟨by rw [flatE,flat_len evCells 4 (fun _=>rfl),el2],.inr ⟨g,gcap,_,rfl,Nat.zero_le _,hO4.heap hg1 (Ne.symm hrg),hgc,hgm,by simpa using hgs,?_⟩⟩
  rw [<- flatE_set,<- hgt,Array.toList_setIfInBounds,List.take_set]
 ·refine hin.only ⟨fun a ha=>?_,fun a ha=>?_⟩ hO4
  ·have:some (⟨sb,0,none⟩:Addr)=some a:=ha
   cases this
   show sb≠rb
   omega
  ·intro e
   obtain ⟨cs,m,h1⟩:=hMt a ha
   rw [e,hrb] at h1;cases h1
def TakePost (wtb:Nat) (retain:Int) (rm:Value) (no:Option Addr) (ncap:Nat) (K:List Key) (ea:Option Addr) (ecap:Nat) (pv:Value) (C:List EvC) (E:List Pe) (time:Int) (A:List ByteArray) (w:World) (e:Ending) (W':World):Prop :=
 ∃ (c:EvC) (ev':Value) (sb:Nat) (cur:Array Value),e=.returned (evVal c)/\c.so=some ⟨sb,0,none⟩/\w.heap.size<=sb/\W'.heap[sb]? = some (.cells cur 4 (0,0))/\W'.heap[wtb]? = some (.cells #[.int .i64 retain,rm,.slice no K.length ncap,ev',pv] 153 (0,0))/\EvsAt W' ev' (C++[c])/\
  EvIn W' c (workF E.reverse K (⟨nextN C,time,A,[]⟩:Pe).bare)/\EvT W' c/\Spare (fun b=>b=wtb\/(Value.slice ea C.length ecap).ownBlock=some b) w W'/\(∀ b,ev'.ownBlock=some b->(Value.slice ea C.length ecap).ownBlock=some b\/w.heap.size<=b)
set_option maxRecDepth 100000 in
set_option maxHeartbeats 8000000 in
theorem take_any (wtb:Nat) (retain:Int) (rm:Value) (no:Option Addr) (ncap:Nat) (K:List Key) (ea:Option Addr) (ecap:Nat) (pv:Value) (C:List EvC) (E:List Pe) (time:Int) (ao:Option Addr) (A:List ByteArray) (cap:Nat) (w:World)
  (hw:w.heap[wtb]? = some (.cells #[.int .i64 retain,rm,.slice no K.length ncap,.slice ea C.length ecap,pv] 153 (0,0))) (hE:EvsAt w (.slice ea C.length ecap) C) (hlen:C.length=E.length) (hIn:∀ (i:Nat) c e,C[i]? = some c->E[i]? = some e->EvIn w c e) (hT:∀ c∈C,EvT w c) (hn:C.length<=1000) (ht:0<=time/\time<=1000000000000) (hr:0<=retain/\retain<=1000000000) (hold:oldF (time-retain) C=0)
  (hnum:∀ c,C.getLast? = some c->0<=c.number/\c.number<=1000000000000) (h:StrsIn w ao A) (hA:A.length<=1000) (hcap:A.length<=cap) (hs:∀ j,j<A.length->(A.getD j ByteArray.empty).size<=1000)
  (hK:K.length<=1000) (hnc:K.length<=ncap) (hN:NodesIn w no K) (hNt:∀ a,no=some a->∃ cs m,w.heap[a.block]? = some (.cells cs 226 m)) (hop:∀ k∈K,CoreOp k.op) (hAh:Ahead K) (hrow:∀ e∈E,e.so.length=K.length+1) :
  Calls Tryz.prog 87 #[.pointer (some ⟨wtb,0,none⟩),.int .i64 time,.slice ao A.length cap] w (TakePost wtb retain rm no ncap K ea ecap pv C E time A w):=by
 have hlt:=heap_lt hw
 have Hlen:Hid (C.length=E.length):=hlen
 clear hlen
 have hc3:w.cell? ⟨wtb,3,none⟩=some (.slice ea C.length ecap):=cell_at hw rfl
 have hecap:C.length<=ecap:=by
  rcases hE.cases with ⟨h1,rfl⟩ | ⟨g,cp,hev,h1,_,_⟩
  ·simp
  ·cases hev;exact h1
 have hCo:=copyOf_any ao A cap (w.alloc (.cells #[.int .i64 0,.int .i64 0,.slice none 0 0,.slice none 0 0] 159)) (h.below ((Below.refl _ _).al _)) hA hcap hs
 go_enter Tryz.func87,Tryz.ntmps87
 go_wp2_with fail
 refine hCo.mono ?_
 rintro e w1 ⟨v1,rfl,hrow1,hb1⟩
 obtain ⟨ao2,ac2,rfl,hac2,hst2,hao2⟩:=strs_of_row hrow1
 have hbw1:Below w.heap.size w w1:=((Below.refl _ _).al _).tr hb1
 have hres1:w1.heap[w.heap.size]? = some (.cells #[.int .i64 0,.int .i64 0,.slice none 0 0,.slice none 0 0] 159 (0,0)):=hb1.heapOf (heap_new _ _ _ rfl)
 have hlt1:wtb<w1.heap.size:=Nat.lt_of_lt_of_le hlt hbw1.size
 have hbN:Below w.heap.size w (w1.alloc (.cells #[.int .i64 1,.int .i64 time,.slice ao2 A.length ac2,.slice none 0 0] 159)):=hbw1.al _
 have y3:(w1.alloc (.cells #[.int .i64 1,.int .i64 time,.slice ao2 A.length ac2,.slice none 0 0] 159)).cell? ⟨wtb,3,none⟩=some (.slice ea C.length ecap):=(hbN.cell (p:=⟨wtb,3,none⟩) hlt).trans hc3
 have hown_lt:∀ b,(Value.slice ea C.length ecap).ownBlock=some b->b<w.heap.size:=fun b hb=>(hE.lt b hb).2
 have hnotP:∀ b cs t m,w.heap[b]? = some (.cells cs t m)->t≠153->t≠159->¬ (b=wtb\/(Value.slice ea C.length ecap).ownBlock=some b):=fun b cs t m hb h1 h2 hp=>by
  rcases hp with rfl | hp
  ·rw [hw] at hb;injection hb with hb;injection hb with _ hb _;exact h1 hb.symm
  ·obtain ⟨cur,hc⟩:=own_tag hE hp
   rw [hc] at hb;injection hb with hb;injection hb with _ hb _;exact h2 hb.symm
 have hrowN:∀ a,ao2=some a->w.heap.size+1<=a.block/\∃ cs,w1.heap[a.block]? = some (.cells cs 9 (0,0)):=fun a ha=>by have:=hao2 a ha;simpa using this
 have fin:∀ (num:Int),num=nextN C->∀ (ev':Value) (W':World),W'.heap[wtb]? = some (.cells #[.int .i64 retain,rm,.slice no K.length ncap,ev',pv] 153 (0,0))->EvsAt W' ev' (C++[(⟨num,time,ao2,A.length,ac2,none,0,0⟩:EvC)])->Spare (fun b=>b=wtb\/(Value.slice ea C.length ecap).ownBlock=some b) (w1.alloc (.cells #[.int .i64 num,.int .i64 time,.slice ao2 A.length ac2,.slice none 0 0] 159)) W'->(∀ b,ev'.ownBlock=some b->(Value.slice ea C.length ecap).ownBlock=some b\/(w1.alloc (.cells #[.int .i64 num,.int .i64 time,.slice ao2 A.length ac2,.slice none 0 0] 159)).heap.size<=b)->
   ∃ g gcap,ev'=.slice (some ⟨g,0,none⟩) (C.length+1) gcap/\(∀ (i:Nat) c e,C[i]? = some c->E[i]? = some e->EvIn W' c e)/\(∀ c∈C,EvT W' c)/\EvPre W' (⟨num,time,ao2,A.length,ac2,none,0,0⟩:EvC) (⟨nextN C,time,A,[]⟩:Pe)/\(∀ a,ao2=some a->∃ cs m,W'.heap[a.block]? = some (.cells cs 9 m))/\NodesIn W' no K/\(∀ a,no=some a->∃ cs m,W'.heap[a.block]? = some (.cells cs 226 m))/\W'.heap[w.heap.size]? = some (.cells #[.int .i64 0,.int .i64 0,.slice none 0 0,.slice none 0 0] 159 (0,0))/\w.heap.size≠g/\
   ∀ (sb sc:Nat) (cur:Array Value) (W'':World),W'.heap.size<=sb->W''.heap[sb]? = some (.cells cur 4 (0,0))->Spare (fun b=>b=g\/b=w.heap.size) W' W''->EvsAt W'' (.slice (some ⟨g,0,none⟩) (C.length+1) gcap) (C++[(⟨num,time,ao2,A.length,ac2,none,0,0⟩:EvC).withSo sb (K.length+1) sc])->EvIn W'' ((⟨num,time,ao2,A.length,ac2,none,0,0⟩:EvC).withSo sb (K.length+1) sc) (workF E.reverse K (⟨nextN C,time,A,[]⟩:Pe).bare)->
    TakePost wtb retain rm no ncap K ea ecap pv C E time A w (.returned (evVal ((⟨num,time,ao2,A.length,ac2,none,0,0⟩:EvC).withSo sb (K.length+1) sc))) W'':=by
  intro num hnumE ev' W' f1 f2 f3 f4
  have hbW:Below w.heap.size w (w1.alloc (.cells #[.int .i64 num,.int .i64 time,.slice ao2 A.length ac2,.slice none 0 0] 159)):=hbw1.al _
  have hWs:(w1.alloc (.cells #[.int .i64 num,.int .i64 time,.slice ao2 A.length ac2,.slice none 0 0] 159)).heap.size=w1.heap.size+1:=by simp
  have hW1:∀ b o,w1.heap[b]? = some o->(w1.alloc (.cells #[.int .i64 num,.int .i64 time,.slice ao2 A.length ac2,.slice none 0 0] 159)).heap[b]? = some o:=fun b o hb=>(Below.heap_alloc _ _ _ (heap_lt hb)).trans hb
  generalize (w1.alloc (.cells #[.int .i64 num,.int .i64 time,.slice ao2 A.length ac2,.slice none 0 0] 159))=W at *
  have hws:=hbw1.size
  have hrl:=heap_lt hres1
  have sp:Spare (fun b=>b=wtb\/(Value.slice ea C.length ecap).ownBlock=some b) w W':=(Spare.of_below hbW).trans f3
  have el:(C++[(⟨num,time,ao2,A.length,ac2,none,0,0⟩:EvC)]).length=C.length+1:=by simp
  obtain ⟨g,gcap,rfl⟩:∃ g gcap,ev'=.slice (some ⟨g,0,none⟩) (C.length+1) gcap:=by
   rcases f2.cases with ⟨_,h2⟩ | ⟨g,cp,hev,_⟩
   ·simp at h2
   ·rw [el] at hev;exact ⟨g,cp,hev⟩
  have hgt:∃ cg,W'.heap[g]? = some (.cells cg 159 (0,0)):=own_tag f2 rfl
  obtain ⟨cg,hgt⟩:=hgt
  have hgf:=f4 g rfl
  have hao3:∀ a,ao2=some a->∃ cs m,W'.heap[a.block]? = some (.cells cs 9 m):=fun a ha=>by
   obtain ⟨h1,cs,h2⟩:=hrowN a ha
   refine ⟨cs,(0,0),(f3.block _ (heap_lt (hW1 _ _ h2)) (fun hp=>?_)).trans (hW1 _ _ h2)⟩
   rcases hp with e | e
   ·omega
   ·have:=hown_lt _ e;omega
  refine ⟨g,gcap,rfl,fun i c e h1 h2=>?_,fun c hc=>?_,⟨hnumE,rfl,⟨by show -1000000000000<=time;omega,ht.2⟩,rfl,by show A.length<=_;omega,fun hne=>?_⟩,hao3,hN.spare sp (fun a ha=>?_),fun a ha=>?_,?_,?_,?_⟩
  ·have ht:=hT c (List.mem_of_getElem? h1)
   exact (hIn i c e h1 h2).spare sp (fun a ha=>by obtain ⟨cs,m,k⟩:=ht.so a ha;exact hnotP _ _ _ _ k (by decide) (by decide)) (fun a ha=>by obtain ⟨cs,m,k⟩:=ht.ao a ha;exact hnotP _ _ _ _ k (by decide) (by decide))
  ·have ht:=hT c hc
   exact ht.spare sp (fun a ha=>by obtain ⟨cs,m,k⟩:=ht.so a ha;exact hnotP _ _ _ _ k (by decide) (by decide)) (fun a ha=>by obtain ⟨cs,m,k⟩:=ht.ao a ha;exact hnotP _ _ _ _ k (by decide) (by decide))
  ·obtain ⟨b,off,h1,h2,h3⟩:=hst2 hne
   obtain ⟨k1,cs,k2⟩:=hrowN _ h1
   have hb:W'.heap[b]? = w1.heap[b]?:=((f3.block b (by omega) (fun hp=>by
    rcases hp with e | e
    ·have:w.heap.size+1<=b:=k1;omega
    ·have:=hown_lt _ e;have:w.heap.size+1<=b:=k1;omega)).trans (hW1 b _ k2)).trans k2.symm
   exact ⟨b,off,h1,by have:=f3.size;omega,fun j hj=>by rw [World.cell?_of_block hb];exact h3 j hj⟩
  ·obtain ⟨cs,m,k⟩:=hNt a ha;exact hnotP _ _ _ _ k (by decide) (by decide)
  ·obtain ⟨cs,m,k⟩:=hNt a ha;exact ⟨cs,m,(sp.block _ (heap_lt k) (hnotP _ _ _ _ k (by decide) (by decide))).trans k⟩
  ·refine (f3.block _ (by omega) (fun hp=>?_)).trans (hW1 _ _ hres1)
   rcases hp with e | e
   ·omega
   ·have:=hown_lt _ e;omega
  ·rcases hgf with e | e
   ·have:=hown_lt _ e;omega
   ·omega
  ·intro sb sc cur W'' a1 a2 a3 a4 a5
   have hss:=f3.size
   have hgw:g≠wtb:=by rintro rfl;rw [f1] at hgt;cases hgt
   refine ⟨_,_,sb,cur,rfl,rfl,by omega,a2,(a3.block wtb (heap_lt f1) (fun hp=>hp.elim (fun e=>hgw e.symm) (fun e=>by omega))).trans f1,a4,a5,⟨fun a ha=>?_,fun a ha=>?_⟩,⟨a3.os.trans sp.os,a3.tape.trans sp.tape,a3.output.trans sp.output,Nat.le_trans sp.size a3.size,fun b hb hp=>(a3.block b (Nat.lt_of_lt_of_le hb sp.size) (fun e=>?_)).trans (sp.block b hb hp)⟩,fun b hb=>?_⟩
   ·have:some (⟨sb,0,none⟩:Addr)=some a:=ha
    cases this
    exact ⟨cur,(0,0),a2⟩
   ·obtain ⟨cs,m,k⟩:=hao3 a ha
    obtain ⟨k1,_⟩:=hrowN a ha
    refine ⟨cs,m,(a3.block _ (heap_lt k) (fun hp=>?_)).trans k⟩
    rcases hp with e | e
    ·rw [e,hgt] at k;cases k
    ·omega
   ·rcases e with e | e
    ·rcases hgf with e2 | e2
     ·exact hp (.inr (e▸e2))
     ·omega
    ·omega
   ·exact (f4 b hb).imp id (fun x=>by omega)
 rcases List.eq_nil_or_concat C with rfl | ⟨C0,cl,rfl⟩
 ·go_wp2_with fail
  refine region5_any _ ?hq5a wtb w1.heap.size retain rm (.slice no K.length ncap) _ _ pv _ _ time ao2 A.length ac2 _ _ _ _ _ _ _ _ _ _ _ _ _ _ _ _ _ _ _ _ _ _ _ _ _ _ _ _ _ _ _ _ _ _ _ _ _ _ _ _ _ _ _ _ _ _ _ _ _ _ _ _ ((hbw1.al _).heapOf hw) (hE.below (hbw1.al _)) hn hecap ht hr hold (heap_new _ _ _ rfl) (fun e=>by have:=hown_lt _ e;have:=hbw1.size;omega) ?_
  case hq5a=>exact fun _ _ d _ _ h=>by cases d<;>exact h
  intro ev' W' v41 f1 f2 f3 f4
  obtain ⟨g,gcap,rfl,k1,k2,k3,k4,k5,k6,k7,k8,k9⟩:=fin 1 rfl _ _ f1 f2 f3 f4
  go_wp2_with fail
  refine region6_any _ ?hq6a wtb w.heap.size g gcap (.int .i64 retain) rm no ncap K pv _ _ E _ W' _ _ _ _ _ _ _ _ _ _ _ _ _ _ _ _ _ _ _ _ _ _ _ _ _ _ _ _ _ _ _ _ _ _ _ _ _ _ _ _ _ _ _ _ _ _ _ _ _ _ _ _ f1 f2 hn Hlen.out k1 k2 k3 k4 hK hnc k5 k6 hop hAh hrow k7 k8 ?_
  case hq6a=>exact fun _ _ d _ _ h=>by cases d<;>exact h
  intro sb sc cur W'' a1 a2 a3 a4 a5 a6
  have q0:=cell_at (i:=0) a6 rfl
  have q1:=cell_at (i:=1) a6 rfl
  have q2:=cell_at (i:=2) a6 rfl
  have q3:=cell_at (i:=3) a6 rfl
  have K9:=k9 sb sc cur W'' a1 a2 a3 a4 a5
  clear k1 k2 k3 k4 k5 k6 k7 k9 f1 f2 f3 f4 a1 a2 a3 a4 a5
  go_wp2_with fail
  refine ⟨rfl,_,?_,K9⟩
  simp [results,Tryz.f87,go_sem,loadVar,evVal,EvC.withSo,q0,q1,q2,q3]
 ·rw [List.concat_eq_append] at *
  have hcl:(C0++[cl])[C0.length]? = some cl:=by simp
  have hlen1:(C0++[cl]).length=C0.length+1:=by simp
  rcases hE.cases with ⟨_,h2⟩ | ⟨g0,cp,hev,_,_,hgl⟩
  ·simp at h2
  cases hev
  have hq:=hE.cell (k:=0) hcl rfl
  have y0:(w1.alloc (.cells #[.int .i64 1,.int .i64 time,.slice ao2 A.length ac2,.slice none 0 0] 159)).cell? ⟨g0,C0.length*4,none⟩=some (.int .i64 cl.number):=(hbN.cell (p:=⟨g0,C0.length*4,none⟩) hgl).trans hq
  have hnb:=hnum cl (by simp)
  have hnn:cl.number+1=nextN (C0++[cl]):=by simp [nextN]
  rw [hlen1] at y3
  go_wp2_with fail
  refine region5_any _ ?hq5b wtb w1.heap.size retain rm (.slice no K.length ncap) _ _ pv _ _ time ao2 A.length ac2 _ _ _ _ _ _ _ _ _ _ _ _ _ _ _ _ _ _ _ _ _ _ _ _ _ _ _ _ _ _ _ _ _ _ _ _ _ _ _ _ _ _ _ _ _ _ _ _ _ _ _ _ ((hbw1.al _).heapOf hw) (hE.below (hbw1.al _)) hn hecap ht hr hold (heap_new _ _ _ rfl) (fun e=>by have:=hown_lt _ e;have:=hbw1.size;omega) ?_
  case hq5b=>exact fun _ _ d _ _ h=>by cases d<;>exact h
  intro ev' W' v41 f1 f2 f3 f4
  obtain ⟨g,gcap,rfl,k1,k2,k3,k4,k5,k6,k7,k8,k9⟩:=fin (nextN (C0++[cl])) rfl _ _ f1 f2 f3 f4
  go_wp2_with fail
  refine region6_any _ ?hq6b wtb w.heap.size g gcap (.int .i64 retain) rm no ncap K pv _ _ E _ W' _ _ _ _ _ _ _ _ _ _ _ _ _ _ _ _ _ _ _ _ _ _ _ _ _ _ _ _ _ _ _ _ _ _ _ _ _ _ _ _ _ _ _ _ _ _ _ _ _ _ _ _ f1 f2 hn Hlen.out k1 k2 k3 k4 hK hnc k5 k6 hop hAh hrow k7 k8 ?_
  case hq6b=>exact fun _ _ d _ _ h=>by cases d<;>exact h
  intro sb sc cur W'' a1 a2 a3 a4 a5 a6
  have q0:=cell_at (i:=0) a6 rfl
  have q1:=cell_at (i:=1) a6 rfl
  have q2:=cell_at (i:=2) a6 rfl
  have q3:=cell_at (i:=3) a6 rfl
  have K9:=k9 sb sc cur W'' a1 a2 a3 a4 a5
  clear k1 k2 k3 k4 k5 k6 k7 k9 f1 f2 f3 f4 a1 a2 a3 a4 a5
  go_wp2_with fail
  refine ⟨rfl,_,?_,K9⟩
  simp [results,Tryz.f87,go_sem,loadVar,evVal,EvC.withSo,q0,q1,q2,q3]
end Go.Proofs.YtpbbmagjhkakgaaGreatDoor.Ev
