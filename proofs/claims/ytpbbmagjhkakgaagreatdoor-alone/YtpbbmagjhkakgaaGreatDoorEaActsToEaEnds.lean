import Derived.Test.YtpbbmagjhkakgaaGreatDoorSnWatchToEaStep
import Derived.Test.YtpbbmagjhkakgaaGreatDoorEaInsToEaPol
import Derived.Test.YtpbbmagjhkakgaaGreatDoorEvAdd2ToEaDel
import Derived.Test.YtpbbmagjhkakgaaGreatDoorSnAtomsToEdEvent
import Derived.Test.YtpbbmagjhkakgaaGreatDoorLfRestAnyToWindow
namespace Go.Proofs.YtpbbmagjhkakgaaGreatDoor
namespace Ev
open Go.RowKit Go.Deep Go.Maps Lf
theorem dM.move {R:Int} {x:BT aO} {L:List (Int×Int)} {B0 mb aj i v m:Nat} {w w':World} (h:dM R x L B0 mb aj i v m w) (hs:au (fun _=>False) w w'):dM R x L B0 mb aj i v m w':=by
 obtain ⟨⟨no,aI,ea,az,C,E,pa,aM,ps,ss,xs,dr,h1,h2,h3,h4,h5,h6,h7,h8,h9,qF,h11⟩,hm,hw⟩:=h
 exact ⟨⟨no,aI,ea,az,C,E,pa,aM,ps,ss,xs,dr,h1.move hs (dn.none _ _),h2,h3,h4,h5,h6,h7,h8,h9,⟨qF.len,fun j p y a b=>cU (fun k cs hk=>(hs.block k (aw hk) id).trans hk) (qF.each j p y a b),qF.fine⟩,h11⟩,hs.get hm id,hw⟩
theorem vM {ps:List bC} (h:bL ps):(ps.map (·.name)).Nodup:=by
 refine List.pairwise_map.2 (h.imp fun {a b} hab e=>?_)
 have:=(lY a.name b.name).2 e
 omega
theorem kz.few {x:BT aO} {L:List (Int×Int)} {B0 i v:Nat} {ps:List bC} {ss:List bt} {xs:List (BT aO)} (h:kz x L B0 i v ps ss xs):ps.length<=3:=by
 have:=nodup_le _ others (vM h.sorted) (fun t ht=>by
  obtain ⟨p,hp,rfl⟩:=List.mem_map.1 ht
  exact h.names p hp)
 simpa [others] using this
def pX (name:ByteArray):Prop:=name=⟨#[113,114]⟩\/name=⟨#[113,115]⟩
theorem pX.ok {name:ByteArray} (h:pX name):eR name/\name.size<=1000/\name∈others/\name≠nP:=by
 rcases h with rfl | rfl
 ·exact ⟨⟨by decide,by decide,by decide +kernel,by decide +kernel,by decide +kernel⟩,by decide,by simp [others],by decide⟩
 ·exact ⟨⟨by decide,by decide,by decide +kernel,by decide +kernel,by decide +kernel⟩,by decide,by simp [others],by decide⟩
theorem ins_old {α:Type} {l:List α} {a b:α} {i j:Nat} (hi:i<=l.length) (h:l[j]? = some b):(l.take i++a::l.drop i)[if j<i then j else j+1]? = some b:=by
 have hl:(l.take i).length=i:=by simp;omega
 split
 ·rename_i h1
  rw [List.getElem?_append_left (by omega),List.getElem?_take,if_pos h1]
  exact h
 ·rename_i h1
  rw [List.getElem?_append_right (by omega),hl,show j+1-i=(j-i)+1 by omega,List.getElem?_cons_succ,List.getElem?_drop,show i+(j-i)=j by omega]
  exact h
theorem polInv_ins {x y:BT aO} {L:List (Int×Int)} {B0 i v k:Nat} {ps:List bC} {ss:List bt} {xs:List (BT aO)} (h:kz x L B0 i v ps ss xs) {q:bC} (hv:1<=v) (hq:q.cu=1) (hn:q.name∈others) (hk:bq q.name ps=k) (gQ:b8 q.name ps=false) (hl1:ss.length=ps.length) (hl2:xs.length=ps.length) {cj:Nat} (df:B0<=cj):kz x L B0 i v (ps.take k++q::ps.drop k) (ss.take k++⟨cj,.slice none 0 0,0,[]⟩::ss.drop k) (xs.take k++y::xs.drop k):=by
 have hkl:k<=ps.length:=by rw [<- hk];exact jW _ _
 have sP:∀ p∈ps.take k++q::ps.drop k,p=q\/p∈ps:=fun p hp=>by
  rcases List.mem_append.1 hp with hp | hp
  ·exact .inr (List.mem_of_mem_take hp)
  ·rcases List.mem_cons.1 hp with hp | hp
   ·exact .inl hp
   ·exact .inr (List.mem_of_mem_drop hp)
 refine ⟨by rw [<- hk];exact h.sorted.insert gQ,fun p hp=>?_,fun p hp=>?_,?_,fun s hs=>?_⟩
 ·rcases sP p hp with rfl | hp
  ·exact hn
  ·exact h.names p hp
 ·rcases sP p hp with rfl | hp
  ·omega
  ·exact h.cu p hp
 ·obtain ⟨j,p,s,a1,a2,a3,a4,a5,a6⟩:=h.the
  exact ⟨_,p,s,ins_old hkl a1,a2,a3,ins_old (by omega) a4,ins_old (by omega) a5,a6⟩
 ·rcases List.mem_append.1 hs with hs | hs
  ·exact h.cG s (List.mem_of_mem_take hs)
  ·rcases List.mem_cons.1 hs with rfl | hs
   ·exact ⟨Nat.zero_le _,df,fun g hg=>by cases hg⟩
   ·exact h.cG s (List.mem_of_mem_drop hs)
theorem dM.add {x y:BT aO} {L:List (Int×Int)} {B0 mb aj i v m:Nat} {w:World} (h:dM 1000 x L B0 mb aj i v m w) (hv:1<=v) (name s:ByteArray) (hn:pX name) (hz:s.size<=maxLen) (hg:eF w) (pg:jz w) (l9:14<=w.heap.size) (hr:cI s=(some y,0)) (hX:aV (ak y)<=1000000) (hR:0<=ax y/\ax y<=1000) :
  Calls Tryz.prog 27 #[.pointer (some ⟨mb,0,none⟩),.string name,.string s] w fun e w'=>∃ r z m',e=.returned (.tuple #[r,.int .i64 z])/\(z=0\/z=5\/z=8)/\dM 1000 x L B0 mb aj i v m' w'/\au (fun b=>B0<=b) w w':=by
 have H:=h
 obtain ⟨⟨no,aI,ea,az,C,E,pa,aM,ps,ss,xs,dr,h1,h2,h3,h4,h5,h6,h7,h8,h9,qF,⟨h11,h11b⟩,h12⟩,hm,hwt⟩:=h
 obtain ⟨n1,n2,n3,n4⟩:=hn.ok
 have hfew:=h9.few
 have hwl:=aw h1.cell
 have kT:∀ w',Below w.heap.size w w'->au (fun b=>B0<=b) w w':=fun w' hb=>au.aL hb
 cases gQ:b8 name ps with
 | true =>
  refine (monAdd_twice mb name s y hm h1 h9.sorted n1 hz hg pg l9 hr hR.2 gQ).mono ?_
  rintro e w' ⟨rfl,hb⟩
  exact ⟨_,5,m,rfl,.inr (.inl rfl),H.move (au.aL hb),kT w' hb⟩
 | false =>
  obtain ⟨k,hk⟩:∃ k,bq name ps=k:=⟨_,rfl⟩
  rcases Nat.lt_or_ge 40 (dN (ef (xs.take k++y::xs.drop k)) (ps.length+1)).length with hK | hK
  ·refine (monAdd_many mb name s y hm h1 h9.sorted qF n1 hz hg pg l9 hr hX hR.2 (by omega) n2 k hk gQ hK).mono ?_
   rintro e w' ⟨rfl,hb⟩
   exact ⟨_,8,m,rfl,.inr (.inr rfl),H.move (au.aL hb),kT w' hb⟩
  ·refine (monAdd_ok mb name s y hm h1 h9.sorted qF n1 hz hg l9 hr hX hR h7 (by omega) n2 k hk gQ hK).mono ?_
   rintro e w' ⟨r,rfl,sp,cj,df,no',ncap',Cs,pb',vw,hold,a1,a2,a3,a4,a5,a6,_,_⟩
   have hkl:k<=ps.length:=by rw [<- hk];exact jW _ _
   have hl:(ps.take k++fresh name sp cj::ps.drop k).length=ps.length+1:=by simp;omega
   have:=dM.after h1 h2 h3 h4 h5 h6 h7 h8 hm hwt ⟨no',ncap',Cs,pb',vw,a1,a2,a3,a4,a5,a6⟩ (polInv_ins (y:=y) (q:=fresh name sp cj) h9 hv rfl n3 hk gQ h1.vz qF.len (by omega:B0<=cj)) (by rw [hl];exact hK)
   exact ⟨r,0,_,rfl,.inl rfl,this.1,this.2⟩
theorem streamOf_any (name:ByteArray) {aj:Nat} {ai room:Int} {no:Option Addr} {aI:Nat} {K:List Key} {ea:Option Addr} {az:Nat} {C:List bx} {E:List Pe} {pa:Option Addr} {aM:Nat} {ps:List bC} {ss:List bt} {w:World} (h:bj w aj ai room no aI K ea az C E pa aM ps ss) (jh:bL ps) (i:Nat) (hi:bq name ps=i) (gQ:b8 name ps=true) (s:bt) (hs:ss[i]? = some s) :
  Calls Tryz.prog 93 #[.pointer (some ⟨aj,0,none⟩),.string name] w fun e w'=>e=.returned (.tuple #[.pointer (some ⟨s.cj,0,none⟩),.nilIface])/\Below w.heap.size w w':=by
 have hpf:=h.tW
 have hf:=mC aj (.int .i64 ai) (.int .i64 room) _ _ pa aM ps name w h.cell h.oX jh (by omega)
 rw [hi,gQ] at hf
 obtain ⟨p,hp,_⟩:=(jY name ps).1 gQ
 rw [hi] at hp
 have qo:i<ps.length:=(List.getElem?_eq_some_iff.1 hp).1
 have df:=h.pstr i s p hs hp
 obtain ⟨_,e,_⟩ | ⟨pb,po,arr,m,rfl,h2,h3⟩:=h.oX
 ·subst e;simp at hp
 obtain ⟨_,_,_,_,a4⟩:=h3 i p hp
 rw [df] at a4
 have Hw:Hid (∀ W,Below w.heap.size w W->W.cell? ⟨aj,4,none⟩=some (.slice (some ⟨pb,po,none⟩) ps.length aM)/\W.cell? ⟨pb,po+i*5+4,none⟩=some (.pointer (some ⟨s.cj,0,none⟩))):=fun W hb=>⟨ae (hb.aE h.cell) rfl,ae (hb.aE h2) a4⟩
 clear h jh hi gQ hp df h2 h3 a4
 generalize ps.length=n at *
 go_enter Tryz.func93,Tryz.ntmps93
 go_wp2_with fail
 refine hf.mono ?_
 rintro e w1 ⟨rfl,hb⟩
 obtain ⟨c4,y4⟩:=Hw.out w1 hb
 clear hf
 go_wp2_with fail
 go_ret2
 exact ⟨rfl,hb⟩
theorem watchStream_of (name:ByteArray) (aj:Nat) (s:bt) (w:World) (hf:Calls Tryz.prog 93 #[.pointer (some ⟨aj,0,none⟩),.string name] w fun e w'=>e=.returned (.tuple #[.pointer (some ⟨s.cj,0,none⟩),.nilIface])/\Below w.heap.size w w') (h:eG w s) (hn:s.n<=1000000) (h1:∀ u∈s.xs,u.oneCell'=true) :
  Calls Tryz.prog 49 #[.pointer (some ⟨aj,0,none⟩),.string name] w fun e w'=>∃ v,e=.returned (.tuple #[v,.nilIface])/\w'.ownsRow w.heap.size 59 4 v s.n s.xs/\Below w.heap.size w w':=by
 have Hs:Hid (w.heap[s.cj]? = some (.cells #[s.sv] 177 (0,0))/\w.ownsRow 0 59 4 s.sv s.n s.xs):=h
 clear h
 obtain ⟨cj,sv,n,xs⟩:=s
 simp only at *
 go_enter Tryz.func49,Tryz.ntmps49
 go_wp2_with fail
 refine hf.mono ?_
 rintro e w1 ⟨rfl,hb⟩
 have df:=hb.aE Hs.out.1
 have bT:w1.ownsRow 0 59 4 sv n xs:=dw Hs.out.2 (fun k hk=>hb.block k (Hs.out.2.lt k hk).2)
 have hrow0:=bT
 have c0:=ae (i:=0) df rfl
 have oK:=hb.size
 clear hf
 obtain ⟨e1,⟨rfl,e2⟩ | ⟨g,cap,cur,rfl,_⟩⟩:=bT
 ·go_wp2_with fail
  refine (cloneVer_nil 0 0 w1).mono ?_
  rintro e w2 ⟨rfl,rfl⟩
  go_wp2_with fail
  go_ret2
  refine ⟨_,rfl,?_,hb⟩
  rw [e2] at e1 ⊢
  simp at e1
  subst e1
  exact World.ownsRow_nil _ _ _ _
 ·have om:=cloneVer_some g 0 n cap xs w1 e1 hn (fun j u hj=>by rw [Nat.zero_add];exact gH hrow0 rfl hj) h1
  clear hrow0 e1
  go_wp2_with fail
  refine om.mono ?_
  rintro e w2 ⟨v,rfl,hr,cB⟩
  go_wp2_with fail
  go_ret2
  exact ⟨_,rfl,oY hr oK,hb.tr cB⟩
theorem monStream_any (mb:Nat) (name:ByteArray) {aj:Nat} {ai room:Int} {no:Option Addr} {aI:Nat} {K:List Key} {ea:Option Addr} {az:Nat} {C:List bx} {E:List Pe} {pa:Option Addr} {aM:Nat} {ps:List bC} {ss:List bt} {w:World} (hmb:w.heap[mb]? = some (.cells #[.pointer (some ⟨aj,0,none⟩)] 104 (0,0))) (h:bj w aj ai room no aI K ea az C E pa aM ps ss) (jh:bL ps) (i:Nat) (hi:bq name ps=i) (gQ:b8 name ps=true) (s:bt) (hs:ss[i]? = some s) (hn:s.n<=1000000) (h1:∀ u∈s.xs,u.oneCell'=true) :
  Calls Tryz.prog 28 #[.pointer (some ⟨mb,0,none⟩),.string name] w fun e w'=>∃ v,e=.returned (.tuple #[v,.int .i64 0])/\w'.ownsRow w.heap.size 59 4 v s.n s.xs/\Below w.heap.size w w':=by
 have hf:=watchStream_of name aj s w (streamOf_any name h jh i hi gQ s hs) (h.sok s (List.mem_of_getElem? hs)) hn h1
 have c0:=ae (i:=0) hmb rfl
 clear hmb h jh hi gQ hs
 go_enter Tryz.func28,Tryz.ntmps28
 go_wp2_with fail
 refine hf.mono ?_
 rintro e w1 ⟨v,rfl,hr,hb⟩
 go_wp2_with fail
 refine (ow w1).mono ?_
 rintro e w2 ⟨rfl,rfl⟩
 go_wp2_with fail
 go_ret2
 exact ⟨v,rfl,hr,hb⟩
theorem pastWork (aj:Nat) (n rm ev pv:Value) (no:Option Addr) (m aI:Nat) (w:World) (h:w.heap[aj]? = some (.cells #[n,rm,.slice no m aI,ev,pv] 153 (0,0))):Calls Tryz.prog 95 #[.pointer (some ⟨aj,0,none⟩)] w fun e w'=>e=.returned (.int .i64 (m:Int))/\w'=w:=by
 have c2:w.cell? ⟨aj,2,none⟩=some (.slice no m aI):=ae h rfl
 go_enter Tryz.func95,Tryz.ntmps95
 go_wp2_with fail
 go_ret
 exact ⟨rfl,rfl⟩
theorem watchWork (aj:Nat) (n rm ev pv:Value) (no:Option Addr) (m aI:Nat) (w:World) (h:w.heap[aj]? = some (.cells #[n,rm,.slice no m aI,ev,pv] 153 (0,0))):Calls Tryz.prog 50 #[.pointer (some ⟨aj,0,none⟩)] w fun e w'=>e=.returned (.int .i64 (m:Int))/\w'=w:=by
 have hp:=pastWork aj n rm ev pv no m aI w h
 go_enter Tryz.func50,Tryz.ntmps50
 go_wp2_with fail
 refine hp.mono ?_
 rintro e w1 ⟨rfl,rfl⟩
 go_wp2_with fail
 go_ret
 exact ⟨rfl,rfl⟩
theorem monWork (mb aj:Nat) (n rm ev pv:Value) (no:Option Addr) (m aI:Nat) (w:World) (hm:w.heap[mb]? = some (.cells #[.pointer (some ⟨aj,0,none⟩)] 104 (0,0))) (h:w.heap[aj]? = some (.cells #[n,rm,.slice no m aI,ev,pv] 153 (0,0))):Calls Tryz.prog 30 #[.pointer (some ⟨mb,0,none⟩)] w fun e w'=>e=.returned (.int .i64 (m:Int))/\w'=w:=by
 have hp:=watchWork aj n rm ev pv no m aI w h
 have c0:w.cell? ⟨mb,0,none⟩=some (.pointer (some ⟨aj,0,none⟩)):=ae hm rfl
 go_enter Tryz.func30,Tryz.ntmps30
 go_wp2_with fail
 refine hp.mono ?_
 rintro e w1 ⟨rfl,rfl⟩
 go_wp2_with fail
 go_ret
 exact ⟨rfl,rfl⟩
def dv (ps:List bC):List ByteArray:=ps.map (·.name)
set_option maxRecDepth 100000 in
set_option maxHeartbeats 4000000 in
theorem watchList {aj:Nat} {ai room:Int} {no:Option Addr} {aI:Nat} {K:List Key} {ea:Option Addr} {az:Nat} {C:List bx} {E:List Pe} {pa:Option Addr} {aM:Nat} {ps:List bC} {ss:List bt} {w:World} (h:bj w aj ai room no aI K ea az C E pa aM ps ss) :
  Calls Tryz.prog 53 #[.pointer (some ⟨aj,0,none⟩)] w fun e w'=>∃ v,e=.returned v/\w'.ownsRow w.heap.size 9 1 v ps.length (fH (dv ps))/\Below w.heap.size w w':=by
 have hpf:=h.tW
 have c4:=ae (i:=4) h.cell rfl
 obtain ⟨i0,hi,lr,iU,lu⟩:=info_parts infoStr
 have Hp:Hid (∀ W (j:Nat) p,Below w.heap.size w W->ps[j]? = some p->∃ pb po,pa=some ⟨pb,po,none⟩/\W.cell? ⟨pb,po+j*5,none⟩=some (.string p.name)/\W.cell? ⟨pb,po+j*5+1,none⟩=some (.pointer p.bV)/\W.cell? ⟨pb,po+j*5+2,none⟩=some (.int .i64 p.node)/\W.cell? ⟨pb,po+j*5+3,none⟩=some (.int .i64 p.cu)/\W.cell? ⟨pb,po+j*5+4,none⟩=some (.pointer p.cG)):=fun W j p hb hj=>by
  obtain ⟨_,e,_⟩ | ⟨pb,po,arr,m,rfl,h2,h3⟩:=h.oX
  ·subst e;simp at hj
  obtain ⟨a0,a1,a2,a3,a4⟩:=h3 j p hj
  have hh:=hb.aE h2
  exact ⟨pb,po,rfl,ae hh a0,ae hh a1,ae hh a2,ae hh a3,ae hh a4⟩
 have Hg:Hid (∀ j,j<ps.length->∃ p,ps[j]? = some p/\dv (ps.take (j+1))=dv (ps.take j)++[p.name]):=fun j hj=>⟨ps[j],List.getElem?_eq_getElem hj,by unfold dv;rw [List.take_add_one,List.getElem?_eq_getElem hj,List.map_append];rfl⟩
 have Hl:Hid (∀ j,j<=ps.length->(dv (ps.take j)).length=j):=fun j hj=>by simp [dv];omega
 have Hf:Hid (dv (ps.take ps.length)=dv ps):=by show _=_;rw [List.take_length]
 clear h
 generalize hfp:dv ps=full at *
 generalize hnp:ps.length=n at *
 have HN:Hid (ps.length=n):=hnp
 clear hfp hnp
 go_enter Tryz.func53,Tryz.ntmps53
 go_wp2_with fail
 go_loopw [3,11] (fun v iv wr=>∃ j:Nat,iv=.int .i64 j/\j<=n/\wr.ownsRow w.heap.size 9 1 v j (fH (dv (ps.take j)))/\Below w.heap.size w wr) (fun _ iv _=>n-(intOf iv).toNat)
 case atStart=>exact ⟨0,rfl,Nat.zero_le _,World.ownsRow_nil _ _ _ _,Below.refl _ _⟩
 case round =>
  obtain ⟨j,rfl,hjn,cE,h_⟩:=hrel
  by_cases hj:j<n
  ·obtain ⟨p,hp,df⟩:=Hg.out j hj
   obtain ⟨pb,po,rfl,y0,y1,y2,y3,y4⟩:=Hp.out wr j p h_ hp
   have hll:Hid ((fH (dv (ps.take j))).length=j):=by show _=_;rw [strsV_len];exact Hl.out j (by omega)
   have df:Hid (dv (ps.take (j+1))=dv (ps.take j)++[p.name]):=df
   have hws:=h_.size
   have Hb:Hid (Below w.heap.size w wr):=h_
   clear h_ hp
   generalize dv (ps.take j)=A at *
   go_wp2_with (at_builtin;refine wpList_append_own _ rfl _ _ 31 rfl w.heap.size 9 i0 _ 1 16 Tryz.underlying31 hi lr iU lu rfl (by decide) _ _ _ rfl ((cE.alloc _).alloc _) ⟨wr.heap.size+1,0,none⟩ 1 1 [.string p.name] rfl rfl ?c1 ?c2 ?c3 ?c4 ?c5 ?_)
   case c1 =>
    intro k u hk
    have:=cell_one_new (wr.alloc (.cells #[.string p.name,.pointer p.bV,.int .i64 p.node,.int .i64 p.cu,.pointer p.cG] 183)) (.string p.name) 9 k u hk
    simpa using this
   case c2=>simp [Value.oneCell']
   case c3=>unfold maxLen;omega
   case c4=>omega
   case c5=>simp;omega
   intro v' w2 dm bz _
   have cB:Below w.heap.size w w2:=((Hb.out.al _).al _).grown bz (Nat.le_trans Hb.out.size (by simp;omega)) (fun k e=>(cE.lt k e).1)
   go_wp2_with fail
   go_roundw
   case rel=>exact ⟨j+1,by go_num,by omega,by rw [df.out];simpa [fH] using dm,cB⟩
   case measure=>simp only [intOf];omega
  ·obtain rfl:j=n:=by omega
   rw [show dv (ps.take j)=full from Hf.out] at cE
   go_wp2_with fail
   go_ret
   exact ⟨_,rfl,cE,h_⟩
theorem monList (mb:Nat) {aj:Nat} {ai room:Int} {no:Option Addr} {aI:Nat} {K:List Key} {ea:Option Addr} {az:Nat} {C:List bx} {E:List Pe} {pa:Option Addr} {aM:Nat} {ps:List bC} {ss:List bt} {w:World} (hm:w.heap[mb]? = some (.cells #[.pointer (some ⟨aj,0,none⟩)] 104 (0,0))) (h:bj w aj ai room no aI K ea az C E pa aM ps ss) :
  Calls Tryz.prog 33 #[.pointer (some ⟨mb,0,none⟩)] w fun e w'=>∃ v,e=.returned v/\w'.ownsRow w.heap.size 9 1 v ps.length (fH (dv ps))/\Below w.heap.size w w':=by
 have hp:=watchList h
 have c0:w.cell? ⟨mb,0,none⟩=some (.pointer (some ⟨aj,0,none⟩)):=ae hm rfl
 clear h
 go_enter Tryz.func33,Tryz.ntmps33
 go_wp2_with fail
 refine hp.mono ?_
 rintro e w1 ⟨v,rfl,h1,h2⟩
 go_wp2_with fail
 go_ret
 exact ⟨v,rfl,h1,h2⟩
theorem sorted_set {ps:List bC} {k:Nat} {p q:bC} (h:bL ps) (hp:ps[k]? = some p) (hn:q.name=p.name):bL (ps.set k q):=by
 have hg:∀ (j:Nat) (hj:j<(ps.set k q).length),((ps.set k q)[j]).name=(ps[j]'(by simpa using hj)).name:=fun j hj=>by
  rw [List.getElem_set]
  split
  ·rename_i e
   subst e
   rw [hn,<- (List.getElem?_eq_some_iff.1 hp).2]
  ·rfl
 refine List.pairwise_iff_getElem.2 fun a b ha hb hab=>?_
 rw [hg a ha,hg b hb]
 exact List.pairwise_iff_getElem.1 h a b _ _ hab
theorem polInv_set {x y:BT aO} {L:List (Int×Int)} {B0 i v k:Nat} {ps:List bC} {ss:List bt} {xs:List (BT aO)} (h:kz x L B0 i v ps ss xs) {p q:bC} (hp:ps[k]? = some p) (hn:q.name=p.name) (hne:p.name≠nP) (hq:0<=q.cu/\q.cu<=v+1):kz x L B0 i (v+1) (ps.set k q) ss (xs.set k y):=by
 refine ⟨sorted_set h.sorted hp hn,fun r hr=>?_,fun r hr=>?_,?_,h.cG⟩
 ·rcases List.mem_or_eq_of_mem_set hr with hr | rfl
  ·exact h.names r hr
  ·rw [hn];exact h.names p (List.mem_of_getElem? hp)
 ·rcases List.mem_or_eq_of_mem_set hr with hr | rfl
  ·have:=h.cu r hr;omega
  ·omega
 ·obtain ⟨j,r,s,a1,a2,a3,a4,a5,a6⟩:=h.the
  have n9:k≠j:=by
   rintro rfl
   rw [hp] at a1
   cases a1
   exact hne a2
  exact ⟨j,r,s,by rw [List.getElem?_set_ne n9];exact a1,a2,a3,by rw [List.getElem?_set_ne n9];exact a4,a5,a6⟩
theorem erase_old {α:Type} {l:List α} {b:α} {k j:Nat} (hj:j≠k) (h:l[j]? = some b):(l.take k++l.drop (k+1))[if j<k then j else j-1]? = some b:=by
 rw [<- List.eraseIdx_eq_take_drop_succ,List.getElem?_eraseIdx]
 by_cases h1:j<k
 ·simp only [h1,if_true]
  exact h
 ·simp only [h1,if_false]
  rw [if_neg (by omega),show j-1+1=j by omega]
  exact h
theorem polInv_erase {x:BT aO} {L:List (Int×Int)} {B0 i v k:Nat} {ps:List bC} {ss:List bt} {xs:List (BT aO)} (h:kz x L B0 i v ps ss xs) {p:bC} (hp:ps[k]? = some p) (hne:p.name≠nP):kz x L B0 i v (ps.take k++ps.drop (k+1)) (ss.take k++ss.drop (k+1)) (xs.take k++xs.drop (k+1)):=by
 have hm:∀ {α:Type} (l:List α) (a:α),a∈l.take k++l.drop (k+1)->a∈l:=fun l a ha=>by
  rcases List.mem_append.1 ha with ha | ha
  ·exact List.mem_of_mem_take ha
  ·exact List.mem_of_mem_drop ha
 refine ⟨h.sorted.erase k,fun r hr=>h.names r (hm _ _ hr),fun r hr=>h.cu r (hm _ _ hr),?_,fun s hs=>h.cG s (hm _ _ hs)⟩
 obtain ⟨j,r,s,a1,a2,a3,a4,a5,a6⟩:=h.the
 have n9:j≠k:=by
  rintro rfl
  rw [hp] at a1
  cases a1
  exact hne a2
 exact ⟨_,r,s,erase_old n9 a1,a2,a3,erase_old n9 a4,erase_old n9 a5,a6⟩
theorem dM.more {x:BT aO} {L:List (Int×Int)} {B0 mb aj i v m:Nat} {w:World} (h:dM 1000 x L B0 mb aj i v m w):dM 1000 x L B0 mb aj i (v+1) m w:=by
 obtain ⟨⟨no,aI,ea,az,C,E,pa,aM,ps,ss,xs,dr,h1,h2,h3,h4,h5,h6,h7,h8,h9,qF⟩,hm,hw⟩:=h
 exact ⟨⟨no,aI,ea,az,C,E,pa,aM,ps,ss,xs,dr,h1,h2,h3,h4,h5,h6,h7,h8,⟨h9.sorted,h9.names,fun p hp=>by have:=h9.cu p hp;omega,h9.the,h9.cG⟩,qF⟩,hm,hw⟩
theorem dM.amend {x y:BT aO} {L:List (Int×Int)} {B0 mb aj i v m:Nat} {w:World} (h:dM 1000 x L B0 mb aj i v m w) (hv:v<=1000) (name s:ByteArray) (hn:pX name) (hz:s.size<=maxLen) (hg:eF w) (pg:jz w) (l9:14<=w.heap.size) (hr:cI s=(some y,0)) (hX:aV (ak y)<=1000000) (hR:0<=ax y/\ax y<=1000) :
  Calls Tryz.prog 31 #[.pointer (some ⟨mb,0,none⟩),.string name,.string s] w fun e w'=>∃ r z m',e=.returned (.tuple #[r,.int .i64 z])/\(z=0\/z=6\/z=8)/\dM 1000 x L B0 mb aj i (v+1) m' w'/\au (fun b=>B0<=b) w w':=by
 have H:=h.more
 obtain ⟨⟨no,aI,ea,az,C,E,pa,aM,ps,ss,xs,dr,h1,h2,h3,h4,h5,h6,h7,h8,h9,qF,⟨h11,h11b⟩,h12⟩,hm,hwt⟩:=h
 obtain ⟨n1,n2,n3,n4⟩:=hn.ok
 have kT:∀ w',Below w.heap.size w w'->au (fun b=>B0<=b) w w':=fun w' hb=>au.aL hb
 cases gQ:b8 name ps with
 | false =>
  refine (monAmend_none mb name s y hm h1 h9.sorted n1 hz hg pg l9 hr hR.2 gQ).mono ?_
  rintro e w' ⟨rfl,hb⟩
  exact ⟨_,6,m,rfl,.inr (.inl rfl),H.move (au.aL hb),kT w' hb⟩
 | true =>
  obtain ⟨p,hp,hpn⟩:=(jY name ps).1 gQ
  obtain ⟨k,hk⟩:∃ k,bq name ps=k:=⟨_,rfl⟩
  rw [hk] at hp
  have hver:∀ p∈ps,0<=p.cu/\p.cu<=1000000:=fun p hp=>by have:=h9.cu p hp;omega
  rcases Nat.lt_or_ge 40 (dN (ef (xs.set k y)) ps.length).length with hK | hK
  ·refine (monAmend_many mb name s y hm h1 h9.sorted qF n1 hz hg pg l9 hr hX hR.2 hver k hk p hp gQ hK).mono ?_
   rintro e w' ⟨rfl,hb⟩
   exact ⟨_,8,m,rfl,.inr (.inr rfl),H.move (au.aL hb),kT w' hb⟩
  ·refine (monAmend_ok mb name s y hm h1 h9.sorted qF n1 hz hg l9 hr hX hR h7 hver k hk p hp gQ hK).mono ?_
   rintro e w' ⟨r,rfl,sp,no',ncap',Cs,pb',vw,hold,a1,a2,a3,a4,a5,a6,_,_⟩
   have hl:(ps.set k (ld sp p)).length=ps.length:=by simp
   have hpv:=h9.cu p (List.mem_of_getElem? hp)
   have:=dM.after h1 h2 h3 h4 h5 h6 h7 h8 hm hwt ⟨no',ncap',Cs,pb',vw,a1,a2,a3,a4,a5,a6⟩ (polInv_set (y:=y) (q:=ld sp p) h9 hp rfl (by rw [hpn];exact n4) (by show 0<=p.cu+1/\p.cu+1<=_;omega)) (by rw [hl];exact hK)
   exact ⟨r,0,_,rfl,.inl rfl,this.1,this.2⟩
theorem dM.remove {x:BT aO} {L:List (Int×Int)} {B0 mb aj i v m:Nat} {w:World} (h:dM 1000 x L B0 mb aj i v m w) (name:ByteArray) (hn:pX name) (hg:eF w) (pg:jz w) :
  Calls Tryz.prog 32 #[.pointer (some ⟨mb,0,none⟩),.string name] w fun e w'=>∃ z m',e=.returned (.int .i64 z)/\(z=0\/z=6)/\m'<=m/\dM 1000 x L B0 mb aj i v m' w'/\au (fun b=>B0<=b) w w':=by
 have H:=h
 obtain ⟨⟨no,aI,ea,az,C,E,pa,aM,ps,ss,xs,dr,h1,h2,h3,h4,h5,h6,h7,h8,h9,qF,⟨h11,h11b⟩,h12⟩,hm,hwt⟩:=h
 obtain ⟨n1,n2,n3,n4⟩:=hn.ok
 cases gQ:b8 name ps with
 | false =>
  refine (monRemove_none mb name hm h1 h9.sorted gQ hg pg).mono ?_
  rintro e w' ⟨rfl,hb⟩
  exact ⟨6,m,rfl,.inr rfl,Nat.le_refl _,H.move (au.aL hb),au.aL hb⟩
 | true =>
  obtain ⟨p,hp,hpn⟩:=(jY name ps).1 gQ
  obtain ⟨k,hk⟩:∃ k,bq name ps=k:=⟨_,rfl⟩
  rw [hk] at hp
  have hkl:=(List.getElem?_eq_some_iff.1 hp).1
  refine (vn mb name hm h1 h9.sorted qF (by omega) k hk gQ).mono ?_
  rintro e w' ⟨rfl,hA⟩
  have hxl:=qF.len
  have bH:∀ y∈xs.take k++xs.drop (k+1),dx y:=fun y hy=>by
   rcases List.mem_append.1 hy with hy | hy
   ·exact (qF.fine y (List.mem_of_mem_take hy)).1
   ·exact (qF.fine y (List.mem_of_mem_drop hy)).1
  have hql:(ps.take k++ps.drop (k+1)).length=ps.length-1:=by simp;omega
  have hxq:(xs.take k++xs.drop (k+1)).length=ps.length-1:=by simp;omega
  have hK:(dN (ef (xs.take k++xs.drop (k+1))) (ps.take k++ps.drop (k+1)).length).length<=m:=by
   rw [<- h11,hql]
   refine KAt_sub _ _ _ _ (fun j hj=>?_) (fun j hj=>qF.fineAt j (by omega)) fun j hj=>?_
   ·obtain ⟨y,hy⟩:∃ y,(xs.take k++xs.drop (k+1))[j]? = some y:=⟨_,List.getElem?_eq_getElem (by omega)⟩
    rw [xAt_get hy]
    exact bH y (List.mem_of_getElem? hy)
   ·obtain ⟨y,hy⟩:∃ y,(xs.take k++xs.drop (k+1))[j]? = some y:=⟨_,List.getElem?_eq_getElem (by omega)⟩
    refine ⟨if j<k then j else j+1,by split<;>omega,?_⟩
    rw [xAt_get hy,xAt_get (dZ hy)]
  have:=dM.after h1 h2 h3 h4 h5 h6 h7 h8 hm hwt hA (polInv_erase h9 hp (by rw [hpn];exact n4)) (by omega)
  exact ⟨0,_,rfl,.inl rfl,hK,this.1,this.2⟩
theorem dM.work {x:BT aO} {L:List (Int×Int)} {B0 mb aj i v m:Nat} {w:World} (h:dM 1000 x L B0 mb aj i v m w):Calls Tryz.prog 30 #[.pointer (some ⟨mb,0,none⟩)] w fun e w'=>e=.returned (.int .i64 (m:Int))/\w'=w:=by
 obtain ⟨⟨no,aI,ea,az,C,E,pa,aM,ps,ss,xs,dr,h1,h2,h3,h4,h5,h6,h7,h8,h9,qF,⟨h11,h11b⟩,h12⟩,hm,hwt⟩:=h
 have:=monWork mb aj _ _ _ _ no (dN (ef xs) ps.length).length aI w hm h1.cell
 rw [h11] at this
 exact this
theorem there_name {ps:List bC} {k:Nat} {p:bC} (h:bL ps) (hp:ps[k]? = some p):bq p.name ps=k/\b8 p.name ps=true:=by
 have gQ:=(thereN_mem h).2 ⟨p,List.mem_of_getElem? hp,rfl⟩
 obtain ⟨q,hq,hqn⟩:=(jY p.name ps).1 gQ
 have hn:=vM h
 have l1:=(List.getElem?_eq_some_iff.1 hp).1
 have l2:=(List.getElem?_eq_some_iff.1 hq).1
 refine ⟨?_,gQ⟩
 rcases Nat.lt_trichotomy (bq p.name ps) k with cz | rfl | cz
 ·have:=List.pairwise_iff_getElem.1 h _ _ l2 l1 cz
  rw [(List.getElem?_eq_some_iff.1 hq).2,(List.getElem?_eq_some_iff.1 hp).2,(lY _ _).2 hqn] at this
  omega
 ·rfl
 ·have:=List.pairwise_iff_getElem.1 h _ _ l1 l2 cz
  rw [(List.getElem?_eq_some_iff.1 hq).2,(List.getElem?_eq_some_iff.1 hp).2,(lY _ _).2 hqn.symm] at this
  omega
theorem dM.stream {R:Int} {x:BT aO} {L:List (Int×Int)} {B0 mb aj i v m:Nat} {w:World} (h:dM R x L B0 mb aj i v m w) (hi:i<=25):Calls Tryz.prog 28 #[.pointer (some ⟨mb,0,none⟩),.string nP] w fun e w'=>∃ v,e=.returned (.tuple #[v,.int .i64 0])/\w'.ownsRow w.heap.size 59 4 v i (nO x L i)/\Below w.heap.size w w':=by
 obtain ⟨⟨no,aI,ea,az,C,E,pa,aM,ps,ss,xs,dr,h1,h2,h3,h4,h5,h6,h7,h8,h9,qF,⟨h11,h11b⟩,h12⟩,hm,hwt⟩:=h
 obtain ⟨k,p,s,a1,a2,a3,a4,a5,a6,a7⟩:=h9.the
 obtain ⟨e1,e2⟩:=there_name h9.sorted a1
 rw [a2] at e1 e2
 have:=monStream_any mb nP hm h1 h9.sorted k e1 e2 s a5 (by omega) (by rw [a7];exact versL_one x L i)
 rw [a6,a7] at this
 exact this
theorem dM.start {R:Int} (hRR:0<=R/\R<=1000000000) {x:BT aO} {L:List (Int×Int)} {B0 mb aj:Nat} {w:World} (s:ByteArray) (hm:w.heap[mb]? = some (.cells #[.pointer (some ⟨aj,0,none⟩)] 104 (0,0))) (hc:w.heap[aj]? = some (.cells #[.int .i64 R,.int .i64 60,.slice none 0 0,.slice none 0 0,.slice none 0 0] 153 (0,0))) (hB:B0<=aj) (hz:s.size<=maxLen) (hg:eF w) (l9:14<=w.heap.size) (hr:cI s=(some x,0)) (hX:aV (ak x)<=1000000) (hR:0<=ax x/\ax x<=R) (hK:(dN (fun _=>x) 1).length<=40) :
  Calls Tryz.prog 27 #[.pointer (some ⟨mb,0,none⟩),.string nP,.string s] w fun e w'=>∃ r m,e=.returned (.tuple #[r,.int .i64 0])/\dM R x L B0 mb aj 0 1 m w'/\au (fun b=>B0<=b) w w':=by
 obtain ⟨⟨ea,az,C,E,dr,h1,h2,h3,_,h4,h5,h6,h8,_⟩,_,_⟩:=YInv.start (L:=L) (B0:=B0) (n:=R) hRR hm hc hB
 have h1':bj w aj R 60 none 0 (dN (ef []) ([]:List bC).length) ea az C E none 0 [] []:=h1
 have hC:C=[]:=List.length_eq_zero_iff.1 (by omega)
 subst hC
 have jh:bL []:=List.Pairwise.nil
 have hwl:=aw hc
 refine (monAdd_ok mb nP s x (xs:=[]) hm h1' jh ⟨rfl,fun j p y hj=>by simp at hj,fun y hy=>by simp at hy⟩ name_p hz hg l9 hr hX hR (fun c hc=>by simp at hc) (by decide) (by decide) 0 rfl rfl (by exact hK)).mono ?_
 rintro e w' ⟨r,rfl,sp,cj,df,no',ncap',Cs,pb',vw,hold,a1,a2,a3,a4,a5,a6,_,_⟩
 have:=dM.after (x:=x) (v:=1) (mb:=mb) h1' h2 h3 h4 h5 h6 (fun c hc=>by simp at hc) h8 hm hB ⟨no',ncap',Cs,pb',vw,a1,a2,a3,a4,a5,a6⟩ ⟨List.pairwise_singleton _ _,fun p hp=>?_,fun p hp=>?_,⟨0,fresh nP sp cj,⟨cj,.slice none 0 0,0,[]⟩,rfl,rfl,rfl,rfl,rfl,rfl,rfl⟩,fun t ht=>?_⟩ (by exact hK)
 ·exact ⟨r,_,rfl,this.1,this.2⟩
 ·simp at hp;subst hp;simp [fresh,others,nP]
 ·simp at hp;subst hp;exact ⟨by show (0:Int)<=1;decide,by show (1:Int)<=1;decide⟩
 ·simp at ht;subst ht;exact ⟨Nat.le_refl _,by show B0<=cj;omega,fun g hg=>by cases hg⟩
structure mZ (B0 mb aj:Nat) (names:List ByteArray) (m:Nat) (w:World):Prop where
 ex:∃ no aI ea az C E pa aM ps ss xs,bj w aj 1000 60 no aI (dN (ef xs) ps.length) ea az C E pa aM ps ss/\bL ps/\bP w ps xs/\((dN (ef xs) ps.length).length=m/\m<=40)/\dv ps=names/\∀ a,ea=some a->B0<=a.block
 mon:w.heap[mb]? = some (.cells #[.pointer (some ⟨aj,0,none⟩)] 104 (0,0))
 wt:B0<=aj
theorem mZ.move {B0 mb aj:Nat} {names:List ByteArray} {m:Nat} {w w':World} (h:mZ B0 mb aj names m w) (hs:au (fun _=>False) w w'):mZ B0 mb aj names m w':=by
 obtain ⟨⟨no,aI,ea,az,C,E,pa,aM,ps,ss,xs,h1,h2,h3,h4⟩,hm,hw⟩:=h
 exact ⟨⟨no,aI,ea,az,C,E,pa,aM,ps,ss,xs,h1.move hs (dn.none _ _),h2,⟨h3.len,fun j p y a b=>cU (fun k cs hk=>(hs.block k (aw hk) id).trans hk) (h3.each j p y a b),h3.fine⟩,h4⟩,hs.get hm id,hw⟩
theorem mZ.work {B0 mb aj:Nat} {names:List ByteArray} {m:Nat} {w:World} (h:mZ B0 mb aj names m w):Calls Tryz.prog 30 #[.pointer (some ⟨mb,0,none⟩)] w fun e w'=>e=.returned (.int .i64 (m:Int))/\w'=w:=by
 obtain ⟨⟨no,aI,ea,az,C,E,pa,aM,ps,ss,xs,h1,h2,h3,⟨h4,_⟩,h5⟩,hm,hw⟩:=h
 have:=monWork mb aj _ _ _ _ no (dN (ef xs) ps.length).length aI w hm h1.cell
 rw [h4] at this
 exact this
theorem mZ.gone {B0 mb aj m:Nat} {w:World} (h:mZ B0 mb aj [] m w):m=0:=by
 obtain ⟨⟨no,aI,ea,az,C,E,pa,aM,ps,ss,xs,h1,h2,h3,⟨h4,_⟩,h5,_⟩,hm,hw⟩:=h
 have hp:ps=[]:=by simpa [dv] using h5
 subst hp
 rw [<- h4]
 rfl
theorem mZ.remove {B0 mb aj:Nat} {name:ByteArray} {names:List ByteArray} {m:Nat} {w:World} (h:mZ B0 mb aj (name::names) m w) :
  Calls Tryz.prog 32 #[.pointer (some ⟨mb,0,none⟩),.string name] w fun e w'=>∃ m',e=.returned (.int .i64 0)/\mZ B0 mb aj names m' w'/\au (fun b=>B0<=b) w w'/\∀ (b:Nat) (cs:Array Value) (t:TypeId) (m:Nat×Nat),w.heap[b]? = some (.cells cs t m)->t≠153->t≠159->w'.heap[b]? = some (.cells cs t m):=by
 obtain ⟨⟨no,aI,ea,az,C,E,pa,aM,ps,ss,xs,h1,h2,h3,⟨h4,h4b⟩,h5,h8⟩,hm,hw⟩:=h
 cases ps with
 | nil=>simp [dv] at h5
 | cons p ps =>
  simp only [dv,List.map_cons,List.cons.injEq] at h5
  obtain ⟨rfl,h5⟩:=h5
  obtain ⟨e1,e2⟩:=there_name (k:=0) h2 rfl
  refine (vn mb p.name hm h1 h2 h3 (by omega) 0 e1 e2).mono ?_
  rintro e w' ⟨rfl,no',ncap',Cs,pb',vw,a1,a2,a3,a4,a5,a6⟩
  have hxl:=h3.len
  cases xs with
  | nil=>simp at hxl
  | cons x xs =>
   have hpl:(dR (ef xs) ps).length=ps.length:=by simp [dR]
   have ko:bP w' (dR (ef xs) ps) xs:=a3
   have hKl:(dN (ef xs) ps.length).length<=40:=by
    refine Nat.le_trans (KAt_sub _ (ef (x::xs)) _ (p::ps).length (fun j hj=>ko.fineAt j (by rw [ko.len,hpl];exact hj)) (fun j hj=>h3.fineAt j (by omega)) fun j hj=>⟨j+1,by simp;omega,rfl⟩) (by omega)
   refine ⟨_,rfl,⟨⟨no',ncap',ea,az,Cs,_,_,vw,dR (ef xs) ps,_,xs,by rw [hpl];exact a1,vN _ (List.pairwise_cons.1 h2).2,ko,⟨rfl,by rw [hpl];exact hKl⟩,?_,h8⟩,?_,hw⟩,?_,fun b cs t mm hb n1 n2=>?_⟩
   ·rw [<- h5]
    unfold dv dR
    apply List.ext_getElem?
    intro j
    simp only [List.getElem?_map,List.getElem?_mapIdx]
    cases ps[j]?<;>rfl
   ·refine (a6.block mb (aw hm) ?_).trans hm
    rintro (e | ⟨a,ha,e⟩)
    ·subst e;rw [h1.cell] at hm;cases hm
    ·subst ha
     obtain ⟨cg,hcg⟩:=dG h1.uC (g:=a.block) rfl
     rw [e,hm] at hcg
     cases hcg
   ·exact (au.rL a6).mono fun b _ hb=>by
     rcases hb with e | ⟨a,ha,e⟩
     ·rw [e];exact hw
     ·rw [<- e];exact h8 a ha
   ·refine (a6.block b (aw hb) ?_).trans hb
    rintro (e | ⟨a,ha,e⟩)
    ·subst e;rw [h1.cell] at hb;cases hb;exact n1 rfl
    ·subst ha
     obtain ⟨cg,hcg⟩:=dG h1.uC (g:=a.block) rfl
     rw [e,hb] at hcg
     cases hcg
     exact n2 rfl
theorem putK_pos {x:BT aO} (hg:Good x) (K:List Key):0<(aX K x).2.length:=by
 cases x with
 | nil=>exact absurd hg (by simp [Good])
 | node b o a l r =>
  have h:=(addK_num (aX (aX K l).2 r).2 ⟨a.op,a.name,a.lo,a.hi,(aX K l).1,(aX (aX K l).2 r).1⟩)
  obtain ⟨_,i,e,h2⟩:=addK_spec (aX (aX K l).2 r).2 ⟨a.op,a.name,a.lo,a.hi,(aX K l).1,(aX (aX K l).2 r).1⟩
  show 0<(mo _ _).2.length
  have:=(List.getElem?_eq_some_iff.1 h2).1
  omega
theorem dM.rest {x:BT aO} {L:List (Int×Int)} {B0 mb aj i v m:Nat} {w:World} (h:dM 1000 x L B0 mb aj i v m w):∃ names,mZ B0 mb aj names m w/\0<names.length/\names.length<=3/\0<m:=by
 obtain ⟨⟨no,aI,ea,az,C,E,pa,aM,ps,ss,xs,dr,h1,h2,h3,h4,h5,h6,h7,h8,h9,qF,⟨h11,h11b⟩,h12⟩,hm,hwt⟩:=h
 obtain ⟨k,p,s,a1,_⟩:=h9.the
 have hkl:=(List.getElem?_eq_some_iff.1 a1).1
 have hfew:=h9.few
 refine ⟨dv ps,⟨⟨no,aI,ea,az,C,E,pa,aM,ps,ss,xs,h1,h9.sorted,qF,⟨h11,h11b⟩,rfl,h8⟩,hm,hwt⟩,by simp [dv];omega,by simp [dv];omega,?_⟩
 have hm1:=KAt_mono (ef xs) 1 (ps.length-1)
 rw [show 1+(ps.length-1)=ps.length by omega] at hm1
 have hg0:Good (ef xs 0):=(qF.fineAt 0 (by rw [qF.len];omega)).1
 have:=putK_pos (cA hg0) (dN (ef xs) 0)
 have e:(dN (ef xs) 1)=(aX (dN (ef xs) 0) (ak (ef xs 0))).2:=rfl
 rw [<- e] at this
 omega
theorem mZ.list {B0 mb aj:Nat} {names:List ByteArray} {m:Nat} {w:World} (h:mZ B0 mb aj names m w):Calls Tryz.prog 33 #[.pointer (some ⟨mb,0,none⟩)] w fun e w'=>∃ v,e=.returned v/\w'.ownsRow w.heap.size 9 1 v names.length (fH names)/\Below w.heap.size w w':=by
 obtain ⟨⟨no,aI,ea,az,C,E,pa,aM,ps,ss,xs,h1,h2,h3,⟨h4,_⟩,h5,_⟩,hm,hw⟩:=h
 subst h5
 have:=monList mb hm h1
 have hl:(dv ps).length=ps.length:=by simp [dv]
 rw [hl]
 exact this
end Ev
end Go.Proofs.YtpbbmagjhkakgaaGreatDoor
