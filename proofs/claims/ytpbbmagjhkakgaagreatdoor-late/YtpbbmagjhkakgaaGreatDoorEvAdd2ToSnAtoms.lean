import Derived.Test.YtpbbmagjhkakgaaGreatDoorEvSettleToEvAdd
import Derived.Test.YtpbbmagjhkakgaaGreatDoorLfPiecesToPureGood
import Derived.Laws.IdiomStrings
namespace Go.Proofs.YtpbbmagjhkakgaaGreatDoor.Ev
open Go.RowKit Go.Deep Go.Maps Go.Proofs.YtpbbmagjhkakgaaGreatDoor.Lf
set_option maxHeartbeats 1000000 in
theorem known0 (wtb:Nat) (rt rm nv pv:Value) (reach:Int) (w:World) (hw:w.heap[wtb]? = some (.cells #[rt,rm,nv,.slice none 0 0,pv] 153 (0,0))) :
  Calls Tryz.prog 138 #[.pointer (some ⟨wtb,0,none⟩),.int .i64 reach] w fun e w'=>e=.returned (.slice none 0 0)/\w'=w:=by
 have c3:=cell_at (i:=3) hw rfl
 have hcl:=cloneEv_nil 0 0 w
 go_enter Tryz.func138,Tryz.ntmps138
 go_wp2_with fail
 refine hcl.mono ?_
 rintro e w1 ⟨rfl,rfl⟩
 go_wp2_with fail
 go_ret
 exact ⟨rfl,rfl⟩
set_option maxRecDepth 100000 in
set_option maxHeartbeats 2000000 in
theorem backfill0 (wtb:Nat) (rt rm nv:Value) (pb cap:Nat) (arr:Array Value) (p:Pol) (x:BT Pay) (w:World) (hw:w.heap[wtb]? = some (.cells #[rt,rm,nv,.slice none 0 0,.slice (some ⟨pb,0,none⟩) 1 cap] 153 (0,0))) (hp:w.heap[pb]? = some (.cells arr 183 (0,0))) (hP:PolsAt arr 0 [p]) (hx:SentAt 143 0 w x (.pointer p.sent)) (hgd:Good x) (hd:depthT x<=400) :
  Calls Tryz.prog 92 #[.pointer (some ⟨wtb,0,none⟩),.int .i64 0] w fun e w'=>e=.returned (.slice none 0 0)/\Below w.heap.size w w':=by
 obtain ⟨a0,a1,a2,a3,a4⟩:=hP 0 p rfl
 simp only [Nat.zero_mul,Nat.add_zero] at a0 a1 a2 a3 a4
 have c4:=cell_at (i:=4) hw rfl
 have y0:=cell_at hp a0
 have y1:=cell_at hp a1
 have y2:=cell_at hp a2
 have y3:=cell_at hp a3
 have y4:=cell_at hp a4
 have hwin:=hgd.win
 have Hw:Hid (w.heap[wtb]? = some (.cells #[rt,rm,nv,.slice none 0 0,.slice (some ⟨pb,0,none⟩) 1 cap] 153 (0,0))):=hw
 have Hx:Hid (SentAt 143 0 w x (.pointer p.sent)):=hx
 clear hw hp hP a0 a1 a2 a3 a4 hx
 go_enter Tryz.func92,Tryz.ntmps92
 go_wp2_with fail
 have hbN:Below w.heap.size w (w.alloc (.cells #[.string p.name,.pointer p.sent,.int .i64 p.node,.int .i64 p.ver,.pointer p.strm] 183)):=(Below.refl _ _).al _
 go_quiet (first
  | (go_at_call_of 42 (Value.pointer p.sent);exact Calls.quiet_of (reach_any x _ _ _ ((SentAt.below Hx.out hbN).drewN _) hd hwin))
  | (go_at_call_of 138 (Value.pointer (some ⟨wtb,0,none⟩));exact Calls.quiet_of ((known0 wtb rt rm nv (.slice (some ⟨pb,0,none⟩) 1 cap) _ _ (by exact hbN.heapOf Hw.out)).mono (fun e w' h=>⟨h.1,0,h.2⟩))))
 go_wp2_with fail
 all_goals
  go_loopw [24,6] (fun iv v wr=>iv=.int .i64 0/\v=.slice none 0 0/\Below w.heap.size w wr) (fun _ _ _=>0)
  case atStart=>exact ⟨rfl,rfl,hbN.tr (below_drewN _ _)⟩
  case round =>
   obtain ⟨rfl,rfl,hb⟩:=hrel
   go_wp2_with fail
   go_ret
   exact ⟨rfl,hb⟩
set_option maxRecDepth 100000 in
set_option maxHeartbeats 2000000 in
theorem watchAdd0 (wtb:Nat) (retain:Int) (rm:Value) (no:Option Addr) (nl nc:Nat) (name s:ByteArray) (x:BT Pay) (w:World) (hw:w.heap[wtb]? = some (.cells #[.int .i64 retain,rm,.slice no nl nc,.slice none 0 0,.slice none 0 0] 153 (0,0))) (hN:NameOK name) (hNs:name.size<=1000) (hm:s.size<=maxLen) (hg:Glob w) (hw7:14<=w.heap.size) (hr:readF s=(some x,0)) (hR:reachT x<=retain) (hK:(KAt (fun _=>x) 1).length<=40) (hX:nodesT (coreT x)<=1000000) :
  Calls Tryz.prog 48 #[.pointer (some ⟨wtb,0,none⟩),.string name,.string s] w fun e w'=>e=.returned (.tuple #[.slice none 0 0,.nilIface])/\AddPost wtb (.int .i64 retain) rm name x w w':=by
 have hA:=add0_ok wtb retain rm no nl nc name s x w hw hN hNs hm hg hw7 hr hR hK hX
 obtain ⟨hgd,_,hdx,_⟩:=readF_sound hr
 go_enter Tryz.func48,Tryz.ntmps48
 go_wp2_with fail
 refine hA.mono ?_
 rintro e w1 ⟨rfl,nn,pb,pcap,stb,sp,arr,h1,h2,h3,h4,h5,h6,h7,h8,h9,h10⟩
 have hB:=backfill0 wtb (.int .i64 retain) rm nn pb pcap arr _ x w1 h1 h4 h5 h9 hgd (by omega)
 go_wp2_with fail
 refine hB.mono ?_
 rintro e w2 ⟨rfl,hb⟩
 go_wp2_with fail
 go_ret2
 exact ⟨rfl,nn,pb,pcap,stb,sp,arr,hb.heapOf h1,h2,h3,hb.heapOf h4,h5,own_heap h6 (fun k hk=>hb.block k (h6.lt k hk).2),h7,hb.heapOf h8,SentAt.below h9 hb,h10.trans (Spare.of_below hb)⟩
set_option maxRecDepth 100000 in
set_option maxHeartbeats 2000000 in
theorem monAdd0 (mb wtb:Nat) (retain:Int) (rm:Value) (no:Option Addr) (nl nc:Nat) (name s:ByteArray) (x:BT Pay) (w:World) (hmb:w.heap[mb]? = some (.cells #[.pointer (some ⟨wtb,0,none⟩)] 104 (0,0))) (hw:w.heap[wtb]? = some (.cells #[.int .i64 retain,rm,.slice no nl nc,.slice none 0 0,.slice none 0 0] 153 (0,0))) (hN:NameOK name) (hNs:name.size<=1000) (hm:s.size<=maxLen) (hg:Glob w) (hw7:14<=w.heap.size) (hr:readF s=(some x,0)) (hR:reachT x<=retain) (hK:(KAt (fun _=>x) 1).length<=40) (hX:nodesT (coreT x)<=1000000) :
  Calls Tryz.prog 27 #[.pointer (some ⟨mb,0,none⟩),.string name,.string s] w fun e w'=>e=.returned (.tuple #[.slice none 0 0,.int .i64 0])/\AddPost wtb (.int .i64 retain) rm name x w w':=by
 have hA:=watchAdd0 wtb retain rm no nl nc name s x w hw hN hNs hm hg hw7 hr hR hK hX
 have c0:=cell_at (i:=0) hmb rfl
 clear hw
 go_enter Tryz.func27,Tryz.ntmps27
 go_wp2_with fail
 refine hA.mono ?_
 rintro e w1 ⟨rfl,hP⟩
 go_wp2_with fail
 refine (errno_nil w1).mono ?_
 rintro e w2 ⟨rfl,rfl⟩
 go_wp2_with fail
 go_ret2
 exact ⟨rfl,hP⟩
theorem cored_ops:∀ (x:BT Pay) (K:List Key),Cored x->(Good x\/x=.nil)->(∀ k∈K,CoreOp k.op)->∀ k∈(putK K x).2,CoreOp k.op
 | .nil,_,_,_,hK=>hK
 | .node b o a l r,K,hc,hg,hK=>by
  have hg:Good (.node b o a l r):=by
   rcases hg with hg | hg
   ·exact hg
   ·cases hg
  have hop:CoreOp a.op/\(Good l\/l=.nil)/\(Good r\/r=.nil):=by
   obtain ⟨c1,c2,_,_⟩:=hc
   rcases hg with ⟨h1,_,_,_,h5,h6⟩ | ⟨h1,_,_,_,h5,h6⟩ | ⟨h1,_,_,_,gl,gr⟩ | ⟨h1,_,_,_,gl,gr⟩
   ·exact ⟨.inl h1,.inr h5,.inr h6⟩
   ·exact ⟨.inr (.inl h1),.inr h5,.inr h6⟩
   ·refine ⟨?_,.inl gl,.inl gr⟩
    unfold CoreOp
    omega
   ·refine ⟨?_,.inl gl,.inr gr⟩
    unfold CoreOp
    omega
  have h1:=cored_ops l K hc.2.2.1 hop.2.1 hK
  have h2:=cored_ops r (putK K l).2 hc.2.2.2 hop.2.2 h1
  intro k hk
  simp only [putK,addK] at hk
  split at hk
  ·exact h2 k hk
  ·rcases List.mem_append.1 hk with h | h
   ·exact h2 k h
   ·simp at h;subst h;exact hop.1
def polOf (name:ByteArray) (sp:Option Addr) (stb:Nat) (x:BT Pay):Pol:=⟨name,sp,some ⟨stb,0,none⟩,(nAt (fun _=>x) 0).toNat,1,false⟩
theorem nodes_of_row {w:World} {B:Nat} {nn:Value} {K:List Key} (h:w.ownsRow B 226 6 nn K.length (flatK K)):∃ no ncap,nn=.slice no K.length ncap/\K.length<=ncap/\NodesIn w no K/\∀ a,no=some a->B<=a.block/\∃ cs m,w.heap[a.block]? = some (.cells cs 226 m):=by
 have h0:=h
 have hl:=h.lt
 obtain ⟨h1,⟨rfl,h2⟩ | ⟨g,cap,cur,rfl,h3,h4,h5,h6,h7,h8⟩⟩:=h
 ·exact ⟨none,0,by rw [h2],by omega,fun hne=>absurd (List.length_eq_zero_iff.1 h2) hne,fun a ha=>by cases ha⟩
 ·refine ⟨some ⟨g,0,none⟩,cap,rfl,h5,fun _=>⟨g,rfl,(hl g rfl).2,fun i k hk=>?_⟩,fun a ha=>by cases ha;exact ⟨h3,cur,_,h4⟩⟩
  have hc:∀ q u,(keyCells k)[q]? = some u->w.cell? ⟨g,i*6+q,none⟩=some u:=fun q u hu=>row_cell h0 rfl (flat_get keyCells 6 (fun _=>rfl) K i q k u hk hu)
  exact ⟨hc 0 _ rfl,hc 1 _ rfl,hc 2 _ rfl,hc 3 _ rfl,hc 4 _ rfl,hc 5 _ rfl⟩
theorem AddPost.watch {wtb:Nat} {retain room:Int} {name:ByteArray} {x:BT Pay} {w w':World} (h:AddPost wtb (.int .i64 retain) (.int .i64 room) name x w w') (hg:Good x) (hr:0<=retain/\retain<=1000000000) (hK:(KAt (fun _=>x) 1).length<=40) :
  ∃ no ncap pa pcap sp stb,WatchAt w' wtb retain room no ncap (KAt (fun _=>x) 1) none 0 [] [] pa pcap [polOf name sp stb x] [⟨stb,.slice none 0 0,0,[]⟩]/\w.heap.size<=stb:=by
 obtain ⟨nn,pb,pcap,stb,sp,arr,h1,h2,h3,h4,h5,h6,h7,h8,h9,h10⟩:=h
 obtain ⟨no,ncap,rfl,n1,n2,n3⟩:=nodes_of_row h6
 have hA0:Ahead []:=fun i k hk=>by simp at hk
 obtain ⟨p1,p2⟩:=putK_num (coreT x) [] hA0
 have hp3:=NumT.le p2
 have hps:polsN (fun _=>x) [⟨name,sp,some ⟨stb,0,none⟩,0,1,false⟩]=[polOf name sp stb x]:=rfl
 rw [hps] at h5
 refine ⟨no,ncap,some ⟨pb,0,none⟩,pcap,sp,stb,?_,h7⟩
 exact {
  cell:=h1
  evs:=World.ownsRow_nil _ _ _ _
  len:=rfl
  ins:=fun i c e hc=>by simp at hc
  typed:=fun c hc=>by simp at hc
  few:=by simp
  ret:=hr
  nums:=fun c hc=>by simp at hc
  nfew:=by omega
  ncp:=n1
  nodes:=n2
  ntyped:=fun a ha=>(n3 a ha).2
  core:=cored_ops (coreT x) [] (cored_core hg) (.inl (good_core hg)) (fun k hk=>by simp at hk)
  ahead:=p1
  rows:=fun e he=>by simp at he
  pols:=.inr ⟨pb,0,arr,(0,0),rfl,h4,h5⟩
  pfew:=by simp
  pcp:=h2
  plen:=rfl
  pstr:=fun i s p hs hp=>by
   rcases i with _ | i
   ·cases hs;cases hp;rfl
   ·simp at hs
  sok:=fun s hs=>by
   simp at hs
   subst hs
   exact ⟨h8,World.ownsRow_nil _ _ _ _⟩
  apart:=fun i j s t hs ht hij=>by
   rcases i with _ | i
   ·rcases j with _ | j
    ·exact absurd rfl hij
    ·simp at ht
   ·simp at hs
  pnode:=fun p hp=>by
   simp at hp
   subst hp
   have:(nAt (fun _=>x) 0)<=((KAt (fun _=>x) 1).length:Int):=hp3.2
   show (nAt (fun _=>x) 0).toNat<=_
   omega }
structure OneAt (w:World) (wtb:Nat) (p:Pol) (s:Strm):Prop where
 pols:∃ (rt rm nv ev:Value) (pb po cap:Nat) (arr:Array Value) (m:Nat×Nat),w.heap[wtb]? = some (.cells #[rt,rm,nv,ev,.slice (some ⟨pb,po,none⟩) 1 cap] 153 (0,0))/\w.heap[pb]? = some (.cells arr 183 m)/\PolsAt arr po [p]
 strm:p.strm=some ⟨s.stb,0,none⟩
 str:StrOK w s
theorem WatchAt.one {w:World} {wtb:Nat} {retain room:Int} {no:Option Addr} {ncap:Nat} {K:List Key} {ea:Option Addr} {ecap:Nat} {C:List EvC} {E:List Pe} {pa:Option Addr} {pcap:Nat} {p:Pol} {s:Strm} (h:WatchAt w wtb retain room no ncap K ea ecap C E pa pcap [p] [s]):OneAt w wtb p s:=by
 refine ⟨?_,h.pstr 0 s p rfl rfl,h.sok s (by simp)⟩
 rcases h.pols with ⟨_,h2,_⟩ | ⟨pb,po,arr,m,rfl,h3,h4⟩
 ·cases h2
 ·exact ⟨_,_,_,_,pb,po,pcap,arr,m,h.cell,h3,h4⟩
theorem streamOf1 (wtb:Nat) (p:Pol) (s:Strm) (w:World) (h:OneAt w wtb p s) :
  Calls Tryz.prog 93 #[.pointer (some ⟨wtb,0,none⟩),.string p.name] w fun e w'=>e=.returned (.tuple #[.pointer (some ⟨s.stb,0,none⟩),.nilIface])/\Below w.heap.size w w':=by
 obtain ⟨⟨rt,rm,nv,ev,pb,po,cap,arr,m,h1,h2,h3⟩,h4,_⟩:=h
 have hf:=find1 wtb rt rm nv ev pb po cap arr m p w h1 h2 h3
 obtain ⟨_,_,_,_,a4⟩:=h3 0 p rfl
 simp only [Nat.zero_mul,Nat.add_zero] at a4
 rw [h4] at a4
 have Hw:Hid (w.heap[wtb]? = some (.cells #[rt,rm,nv,ev,.slice (some ⟨pb,po,none⟩) 1 cap] 153 (0,0))/\w.heap[pb]? = some (.cells arr 183 m)/\arr[po+4]? = some (.pointer (some ⟨s.stb,0,none⟩))):=⟨h1,h2,a4⟩
 clear h1 h2 h3 h4 a4
 go_enter Tryz.func93,Tryz.ntmps93
 go_wp2_with fail
 refine hf.mono ?_
 rintro e w1 ⟨rfl,hb⟩
 have c4:=cell_at (i:=4) (hb.heapOf Hw.out.1) rfl
 have y4:=cell_at (hb.heapOf Hw.out.2.1) Hw.out.2.2
 clear hf
 go_wp2_with fail
 go_ret2
 exact ⟨rfl,hb⟩
theorem watchStream1 (wtb:Nat) (p:Pol) (s:Strm) (w:World) (h:OneAt w wtb p s) (hn:s.n<=1000000) (h1:∀ u∈s.xs,u.oneCell'=true) :
  Calls Tryz.prog 49 #[.pointer (some ⟨wtb,0,none⟩),.string p.name] w fun e w'=>∃ v,e=.returned (.tuple #[v,.nilIface])/\w'.ownsRow w.heap.size 59 4 v s.n s.xs/\Below w.heap.size w w':=by
 have hf:=streamOf1 wtb p s w h
 obtain ⟨hs1,hs2⟩:=h.str
 have Hs:Hid (w.heap[s.stb]? = some (.cells #[s.sv] 177 (0,0))/\w.ownsRow 0 59 4 s.sv s.n s.xs):=⟨hs1,hs2⟩
 clear hs1 hs2 h
 obtain ⟨stb,sv,n,xs⟩:=s
 simp only at *
 go_enter Tryz.func49,Tryz.ntmps49
 go_wp2_with fail
 refine hf.mono ?_
 rintro e w1 ⟨rfl,hb⟩
 have hst:=hb.heapOf Hs.out.1
 have hrow:w1.ownsRow 0 59 4 sv n xs:=own_heap Hs.out.2 (fun k hk=>hb.block k (Hs.out.2.lt k hk).2)
 have hrow0:=hrow
 have c0:=cell_at (i:=0) hst rfl
 have hsz:=hb.size
 clear hf
 obtain ⟨e1,⟨rfl,e2⟩ | ⟨g,cap,cur,rfl,_⟩⟩:=hrow
 ·go_wp2_with fail
  refine (cloneVer_nil 0 0 w1).mono ?_
  rintro e w2 ⟨rfl,rfl⟩
  go_wp2_with fail
  go_ret2
  refine ⟨_,rfl,?_,hb⟩
  rw [e2] at e1 ⊢
  simp at e1
  subst e1
  exact World.ownsRow_nil _ _ _ _
 ·have hcl:=cloneVer_some g 0 n cap xs w1 e1 hn (fun j u hj=>by rw [Nat.zero_add];exact row_cell hrow0 rfl hj) h1
  clear hrow0 e1
  go_wp2_with fail
  refine hcl.mono ?_
  rintro e w2 ⟨v,rfl,hr,hb2⟩
  go_wp2_with fail
  go_ret2
  exact ⟨_,rfl,row_mono hr hsz,hb.tr hb2⟩
theorem monStream1 (mb wtb:Nat) (p:Pol) (s:Strm) (w:World) (hmb:w.heap[mb]? = some (.cells #[.pointer (some ⟨wtb,0,none⟩)] 104 (0,0))) (h:OneAt w wtb p s) (hn:s.n<=1000000) (h1:∀ u∈s.xs,u.oneCell'=true) :
  Calls Tryz.prog 28 #[.pointer (some ⟨mb,0,none⟩),.string p.name] w fun e w'=>∃ v,e=.returned (.tuple #[v,.int .i64 0])/\w'.ownsRow w.heap.size 59 4 v s.n s.xs/\Below w.heap.size w w':=by
 have hf:=watchStream1 wtb p s w h hn h1
 have c0:=cell_at (i:=0) hmb rfl
 clear hmb
 go_enter Tryz.func28,Tryz.ntmps28
 go_wp2_with fail
 refine hf.mono ?_
 rintro e w1 ⟨v,rfl,hr,hb⟩
 go_wp2_with fail
 refine (errno_nil w1).mono ?_
 rintro e w2 ⟨rfl,rfl⟩
 go_wp2_with fail
 go_ret2
 exact ⟨v,rfl,hr,hb⟩
end Go.Proofs.YtpbbmagjhkakgaaGreatDoor.Ev
namespace Go.Proofs.YtpbbmagjhkakgaaGreatDoor.Ev
open Go.RowKit Go.Deep
def preD (m:Nat):List UInt8:=if m<10 then [] else Lib.decDigits (m/10)
def digD (m:Nat):UInt8:=UInt8.ofNat (48+m % 10)
theorem digD_int (m:Nat):((digD m).toNat:Int)=48+(m:Int) % 10:=by
 unfold digD
 rw [UInt8.toNat_ofNat']
 omega
theorem dec_pre (m:Nat):Lib.decDigits m=preD m++[digD m]:=by
 unfold preD digD
 rw [Lib.decDigits]
 split
 ·rename_i h
  rw [show m % 10=m by omega]
  rfl
 ·rfl
theorem conv_one (W:World) (b:Nat) (k:Int) (c:UInt8) (hk:(c.toNat:Int)=k) (hW:W.cell? ⟨b,0,none⟩=some (.int .u8 k)):(convert 99 9 (.slice (some ⟨b,0,none⟩) 1 1)).run Tryz.prog W=.ok (.string ⟨#[c]⟩) W :=
 run_convert_bytes_back W 99 9 5 ⟨b,0,none⟩ 1 [c] Tryz.underlying99 Tryz.underlying5 Tryz.underlying9 (fun j hj=>by
  have hj0:j=0:=by simpa using hj
  subst hj0
  rw [<- hk] at hW
  simpa [Addr.add] using hW)
set_option maxHeartbeats 2000000 in
set_option maxRecDepth 100000 in
theorem digits_any (n:Nat) (w:World) (hn:n<=1000000) :
  Calls Tryz.prog 20 #[.int .i64 (n:Int)] w fun e w'=>Below w.heap.size w w'/\∃ d,e=.returned (.string d)/\d.data.toList=Lib.decDigits n:=by
 have hcv0:=conv_one (w.alloc (.cells #[.int .u8 (48+(n:Int) % 10)] 5)) w.heap.size (48+(n:Int) % 10) (digD n) (digD_int n) (by rw [World.cell?_alloc_at _ _ _ _ rfl];rfl)
 have hmod:0<=(n:Int) % 10/\(n:Int) % 10<10:=by omega
 go_enter Tryz.func20,Tryz.ntmps20
 go_wp2_with fail
 go_loopw [0,3] (fun nv sv wr=>∃ (m:Nat) (d:ByteArray),nv=.int .i64 (m:Int)/\sv=.string d/\m<=1000000/\d.size+m<=1000001/\Below w.heap.size w wr/\Hid (Lib.decDigits n=preD m++d.data.toList)) (fun nv _ _=>(intOf nv).toNat)
 case atStart=>exact ⟨n,_,rfl,rfl,hn,by show 1+n<=_;omega,(Below.refl _ _).al _,dec_pre n⟩
 case round =>
  clear hcv0 hmod
  obtain ⟨m,d,rfl,rfl,hm,hds,hbw,hD⟩:=hrel
  by_cases h10:m<10
  ·have hge:decide ((10:Int)<=(m:Int))=false:=by simp;omega
   have hD2:Hid (d.data.toList=Lib.decDigits n):=by
    show _=_
    rw [hD.out]
    unfold preD
    rw [if_pos h10]
    rfl
   clear hD
   go_wp2_with fail
   go_ret
   exact ⟨hbw,d,rfl,hD2.out⟩
  ·have hge:decide ((10:Int)<=(m:Int))=true:=by simp;omega
   have hcv:=conv_one (wr.alloc (.cells #[.int .u8 (48+(m:Int)/10 % 10)] 5)) wr.heap.size (48+(m:Int)/10 % 10) (digD (m/10)) (by have:=digD_int (m/10);omega) (by rw [World.cell?_alloc_at _ _ _ _ rfl];rfl)
   have hno:¬ 9223372036854775807<1+d.size:=by omega
   have hmod:0<=(m:Int)/10 % 10/\(m:Int)/10 % 10<10:=by omega
   have hD2:Hid (Lib.decDigits n=preD (m/10)++((⟨#[digD (m/10)]⟩:ByteArray)++d).data.toList):=by
    show _=_
    rw [hD.out]
    have e:preD m=Lib.decDigits (m/10):=by unfold preD;rw [if_neg h10]
    rw [e,dec_pre (m/10)]
    simp [ByteArray.data_append]
   clear hD
   go_wp2_with fail
   go_roundw
   case rel=>exact ⟨m/10,_,by go_num,rfl,by omega,by rw [ByteArray.size_append];show 1+d.size+m/10<=_;omega,hbw.al _,hD2⟩
   case measure=>simp only [intOf];omega
def pickZ (c n:Int):Int:=(if c<0 then -(c+1) else c) % n
def I64 (c:Int):Prop:=-9223372036854775808<=c/\c<=9223372036854775807
theorem pickZ_range (c n:Int) (hn:0<n):0<=pickZ c n/\pickZ c n<n:=⟨Int.emod_nonneg _ (by omega),Int.emod_lt_of_pos _ hn⟩
set_option maxHeartbeats 1000000 in
theorem pick_any (c n:Int) (w:World) (hc:I64 c) (hn:0<n/\n<=1000000):Calls Tryz.prog 19 #[.int .i64 c,.int .i64 n] w fun e w'=>e=.returned (.int .i64 (pickZ c n))/\w'=w:=by
 obtain ⟨h1,h2⟩:=hc
 have hne:n≠0:=by omega
 unfold pickZ
 by_cases h:c<0
 ·have hm:0<=(-(c+1)) % n/\(-(c+1)) % n<n:=⟨Int.emod_nonneg _ hne,Int.emod_lt_of_pos _ hn.1⟩
  have ht:Int.tmod (-(c+1)) n=(-(c+1)) % n:=Int.tmod_eq_emod_of_nonneg (by omega)
  simp only [h,if_true]
  go_enter Tryz.func19,Tryz.ntmps19
  go_wp2_with fail
  go_ret
  exact ⟨rfl,rfl⟩
 ·have hm:0<=c % n/\c % n<n:=⟨Int.emod_nonneg _ hne,Int.emod_lt_of_pos _ hn.1⟩
  have ht:Int.tmod c n=c % n:=Int.tmod_eq_emod_of_nonneg (by omega)
  simp only [h,if_false]
  go_enter Tryz.func19,Tryz.ntmps19
  go_wp2_with fail
  go_ret
  exact ⟨rfl,rfl⟩
def laterZ (c:Int):Int:=1+pickZ c 12
theorem laterZ_range (c:Int):1<=laterZ c/\laterZ c<=12:=by have:=pickZ_range c 12 (by decide);unfold laterZ;omega
theorem later_any (c:Int) (w:World) (hc:I64 c):Calls Tryz.prog 22 #[.int .i64 c] w fun e w'=>e=.returned (.int .i64 (laterZ c))/\w'=w:=by
 have hp:=pick_any c 12 w hc (by decide)
 have hr:=pickZ_range c 12 (by decide)
 unfold laterZ
 generalize pickZ c 12=k at *
 go_enter Tryz.func22,Tryz.ntmps22
 go_wp2_with fail
 refine hp.mono ?_
 rintro e w1 ⟨rfl,rfl⟩
 go_wp2_with fail
 go_ret
 exact ⟨rfl,rfl⟩
def ltrB (i:Nat):ByteArray:=⟨#[(97+i).toUInt8]⟩
def bitN (n i:Nat):Bool:=(n/2 ^ i) % 2==1
def atomsTo (n:Nat):Nat->List ByteArray
 | 0=>[]
 | i+1=>if bitN n i then atomsTo n i++[ltrB i] else atomsTo n i
def atomsL (n:Nat):List ByteArray:=atomsTo n 3
theorem atomsTo_len (n:Nat):∀ i,(atomsTo n i).length<=i
 | 0=>Nat.le_refl _
 | i+1=>by
  have:=atomsTo_len n i
  unfold atomsTo
  split
  ·simp;omega
  ·omega
theorem bit_at (n i:Nat) (hn:n<8) (hi:i<3):bits BinOp.and IntKind.i64 ((n:Int)/2 ^ i) 1=if bitN n i then 1 else 0:=by
 have h1:n=0\/n=1\/n=2\/n=3\/n=4\/n=5\/n=6\/n=7:=by omega
 have h2:i=0\/i=1\/i=2:=by omega
 rcases h1 with rfl | rfl | rfl | rfl | rfl | rfl | rfl | rfl<;>rcases h2 with rfl | rfl | rfl<;>decide
theorem ltr_at (i:Nat) (hi:i<3):(⟨#[97,98,99]⟩:ByteArray).extract i (i+1)=ltrB i:=by
 have h2:i=0\/i=1\/i=2:=by omega
 rcases h2 with rfl | rfl | rfl<;>decide
set_option maxRecDepth 100000 in
set_option maxHeartbeats 4000000 in
theorem atoms_any (c:Int) (w:World) (hc:I64 c):Calls Tryz.prog 25 #[.int .i64 c] w fun e w'=>∃ v,e=.returned v/\w'.ownsRow w.heap.size 9 1 v (atomsL (pickZ c 8).toNat).length (strsV (atomsL (pickZ c 8).toNat))/\Below w.heap.size w w':=by
 have hp:=pick_any c 8 w hc (by decide)
 have hr:=pickZ_range c 8 (by decide)
 obtain ⟨n,hn⟩:∃ n:Nat,pickZ c 8=n:=⟨(pickZ c 8).toNat,by omega⟩
 rw [hn] at hp hr ⊢
 have hn8:n<8:=by omega
 simp only [Int.toNat_natCast]
 obtain ⟨i0,hi,hz0,hz1,hz2⟩:=info_parts infoStr
 clear hn hr
 go_enter Tryz.func25,Tryz.ntmps25
 go_wp2_with fail
 refine hp.mono ?_
 rintro e w1 ⟨rfl,rfl⟩
 clear hp
 go_wp2_with fail
 go_loopw [5,3] (fun iv v wr=>∃ i:Nat,iv=.int .i64 i/\i<=3/\wr.ownsRow w1.heap.size 9 1 v (atomsTo n i).length (strsV (atomsTo n i))/\Below w1.heap.size w1 wr) (fun iv _ _=>3-(intOf iv).toNat)
 case atStart=>exact ⟨0,rfl,Nat.zero_le _,World.ownsRow_nil _ _ _ _,Below.refl _ _⟩
 case round =>
  obtain ⟨i,rfl,hin,hown,hbw⟩:=hrel
  by_cases hil:i<3
  ·have hbit:=bit_at n i hn8 hil
   have hle:=atomsTo_len n i
   have hws:=hbw.size
   by_cases hbt:bitN n i=true
   ·rw [if_pos hbt] at hbit
    have hltr:=ltr_at i hil
    have hstep:Hid (atomsTo n (i+1)=atomsTo n i++[ltrB i]):=by show _=_;rw [atomsTo,if_pos hbt]
    clear hbt
    have hll:Hid ((strsV (atomsTo n i)).length=(atomsTo n i).length):=strsV_len _
    generalize hA:atomsTo n i=A at *
    generalize ltrB i=lt at *
    go_wp2_with (at_builtin;refine wpList_append_own _ rfl _ _ 31 rfl w1.heap.size 9 i0 _ 1 16 Tryz.underlying31 hi hz0 hz1 hz2 rfl (by decide) _ _ _ rfl (hown.alloc _) ⟨wr.heap.size,0,none⟩ 1 1 [.string lt] rfl rfl ?c1 ?c2 ?c3 ?c4 ?c5 ?_)
    case c1=>exact cell_one_new wr _ _
    case c2=>simp [Value.oneCell']
    case c3=>unfold maxLen;omega
    case c4=>omega
    case c5=>simp;omega
    intro v' w2 hown' hgrow _
    have hb2:Below w1.heap.size w1 w2:=(hbw.al _).grown hgrow (Nat.le_trans hbw.size (by simp)) (fun k e=>(hown.lt k e).1)
    go_wp2_with fail
    go_roundw
    case rel=>exact ⟨i+1,by go_num,by omega,by rw [hstep.out];simpa [strsV] using hown',hb2⟩
    case measure=>simp only [intOf];omega
   ·rw [if_neg hbt] at hbit
    have hstep:Hid (atomsTo n (i+1)=atomsTo n i):=by show _=_;rw [atomsTo,if_neg hbt]
    clear hbt
    generalize atomsTo n i=A at *
    go_wp2_with fail
    go_roundw
    case rel=>exact ⟨i+1,by go_num,by omega,by rw [hstep.out];exact hown,hbw⟩
    case measure=>simp only [intOf];omega
  ·obtain rfl:i=3:=by omega
   go_wp2_with fail
   go_ret
   exact ⟨_,rfl,hown,hbw⟩
end Go.Proofs.YtpbbmagjhkakgaaGreatDoor.Ev
