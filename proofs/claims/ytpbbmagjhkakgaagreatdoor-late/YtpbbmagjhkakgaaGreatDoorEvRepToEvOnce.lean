import Derived.Test.YtpbbmagjhkakgaaGreatDoorPureEndsToPureSem
import Derived.Test.YtpbbmagjhkakgaaGreatDoorPut
import Derived.Test.YtpbbmagjhkakgaaGreatDoorWindowToScan
import Derived.RegionTactic
import Derived.Deep.RegionHeld
import Derived.ChangeAlike
import Derived.RangeFuncNested
import Derived.RangeFuncBound
import Derived.RangeFuncCalls
import Derived.RangeFuncLeaves
import Derived.Shelf.Abstract
import Derived.Shelf.RegionOpen
import Derived.WalkKit
import Derived.OwnWalkIn
import Derived.TacticsInMore
import Derived.LoopNIn
import Derived.LoopIn
namespace Go.Proofs.YtpbbmagjhkakgaaGreatDoor.Ev
open Go.RowKit Go.Deep Go.Maps
structure EvC where
 number:Int
 time:Int
 ao:Option Addr
 al:Nat
 ac:Nat
 so:Option Addr
 sl:Nat
 sc:Nat
def EvC.av (e:EvC):Value:=.slice e.ao e.al e.ac
def EvC.sv (e:EvC):Value:=.slice e.so e.sl e.sc
def evCells (e:EvC):List Value:=[.int .i64 e.number,.int .i64 e.time,e.av,e.sv]
def flatE (E:List EvC):List Value:=(E.map evCells).flatten
def EvsAt (w:World) (ev:Value) (E:List EvC):Prop:=w.ownsRow 0 159 4 ev E.length (flatE E)
theorem flat_get {α:Type} (f:α->List Value) (n:Nat) (hf:∀ a,(f a).length=n):∀ (L:List α) (i k:Nat) (a:α) (v:Value),L[i]? = some a->(f a)[k]? = some v->(L.map f).flatten[i*n+k]? = some v
 | [],i,_,_,_,h,_=>by simp at h
 | x::L,0,k,a,v,h,hv=>by
  simp at h;subst h
  have hk:=(List.getElem?_eq_some_iff.1 hv).1
  simp only [List.map_cons,List.flatten_cons,Nat.zero_mul,Nat.zero_add]
  rw [List.getElem?_append_left hk];exact hv
 | x::L,i+1,k,a,v,h,hv=>by
  simp at h
  have ih:=flat_get f n hf L i k a v h hv
  simp only [List.map_cons,List.flatten_cons]
  rw [List.getElem?_append_right (by rw [hf,Nat.succ_mul];omega),hf]
  have:(i+1)*n+k-n=i*n+k:=by rw [Nat.succ_mul];omega
  rw [this];exact ih
theorem flat_len {α:Type} (f:α->List Value) (n:Nat) (hf:∀ a,(f a).length=n):∀ (L:List α),(L.map f).flatten.length=L.length*n
 | []=>by simp
 | x::L=>by simp only [List.map_cons,List.flatten_cons,List.length_append,hf,flat_len f n hf L,List.length_cons,Nat.succ_mul];omega
theorem row_cell {w:World} {base size n:Nat} {e:TypeId} {v:Value} {xs:List Value} (h:w.ownsRow base e size v n xs) {g cap:Nat} (hv:v=.slice (some ⟨g,0,none⟩) n cap) {j:Nat} {x:Value} (hx:xs[j]? = some x):w.cell? ⟨g,j,none⟩=some x:=by
 obtain ⟨h1,⟨rfl,h2⟩ | ⟨g',cap',cur,e1,h3,h4,h5,h6,h7,h8⟩⟩:=h
 ·cases hv
 ·rw [hv] at e1
  cases e1
  have hj:j<n*size:=by have:=(List.getElem?_eq_some_iff.1 hx).1;omega
  rw [<- h8,List.getElem?_take,if_pos hj] at hx
  exact cell_at h4 (by rw [<- Array.getElem?_toList];exact hx)
theorem EvsAt.cases {w:World} {ev:Value} {E:List EvC} (h:EvsAt w ev E):(ev=.slice none 0 0/\E=[])\/∃ g cap,ev=.slice (some ⟨g,0,none⟩) E.length cap/\E.length<=cap/\cap<=maxLen/\g<w.heap.size:=by
 have hl:=h.lt
 obtain ⟨h1,⟨rfl,h2⟩ | ⟨g,cap,cur,rfl,h3,h4,h5,h6,_⟩⟩:=h
 ·exact .inl ⟨rfl,List.length_eq_zero_iff.1 h2⟩
 ·exact .inr ⟨g,cap,rfl,h5,h6,(hl g rfl).2⟩
theorem EvsAt.cell {w:World} {E:List EvC} {g cap:Nat} (h:EvsAt w (.slice (some ⟨g,0,none⟩) E.length cap) E) {i k:Nat} {e:EvC} {v:Value} (he:E[i]? = some e) (hv:(evCells e)[k]? = some v):w.cell? ⟨g,i*4+k,none⟩=some v :=
 row_cell h rfl (flat_get evCells 4 (fun _=>rfl) E i k e v he hv)
theorem EvsAt.below {w w':World} {ev:Value} {E:List EvC} (h:EvsAt w ev E) (hb:Below w.heap.size w w'):EvsAt w' ev E:=own_heap h fun k hk=>hb.block k (h.lt k hk).2
def oldF (t:Int):List EvC->Nat
 | []=>0
 | e::E=>if e.time>=t then 0 else oldF t E+1
theorem oldF_at (t:Int) (E:List EvC) (i:Nat) (e:EvC) (h:E[i]? = some e):oldF t (E.drop i)=if e.time>=t then 0 else oldF t (E.drop (i+1))+1:=by
 obtain ⟨hi,rfl⟩:=List.getElem?_eq_some_iff.1 h
 rw [List.drop_eq_getElem_cons hi]
 rfl
theorem oldF_le (t:Int):∀ E:List EvC,oldF t E<=E.length
 | []=>Nat.le_refl _
 | e::E=>by have:=oldF_le t E;simp only [oldF];split<;>simp<;>omega
theorem EvsAt.form {w:World} {ev:Value} {E:List EvC} (h:EvsAt w ev E):∃ ea cap,ev=.slice ea E.length cap/\E.length<=cap/\cap<=maxLen/\(E≠[]->∃ g,ea=some ⟨g,0,none⟩/\g<w.heap.size):=by
 rcases h.cases with ⟨rfl,rfl⟩ | ⟨g,cap,rfl,h1,h2,h3⟩
 ·exact ⟨none,0,rfl,Nat.le_refl _,by simp [maxLen],fun h=>absurd rfl h⟩
 ·exact ⟨_,cap,rfl,h1,h2,fun _=>⟨g,rfl,h3⟩⟩
set_option maxHeartbeats 1000000 in
theorem old_any (wtb:Nat) (retain:Int) (rm nv ev pv:Value) (E:List EvC) (time:Int) (w:World) (hw:w.heap[wtb]? = some (.cells #[.int .i64 retain,rm,nv,ev,pv] 153 (0,0))) (hE:EvsAt w ev E) (hn:E.length<=1000000) (ht:0<=time/\time<=1000000000000) (hr:0<=retain/\retain<=1000000000) :
  Calls Tryz.prog 131 #[.pointer (some ⟨wtb,0,none⟩),.int .i64 time] w fun e w'=>e=.returned (.int .i64 (oldF (time-retain) E))/\Below w.heap.size w w':=by
 have hlt:=heap_lt hw
 have hc0:w.cell? ⟨wtb,0,none⟩=some (.int .i64 retain):=cell_at hw rfl
 have hc3:w.cell? ⟨wtb,3,none⟩=some ev:=cell_at hw rfl
 generalize hres:oldF (time-retain) E=res
 obtain ⟨ea,cap,rfl,hcap,hcm,hea⟩:=hE.form
 generalize hlen:E.length=n at *
 go_enter Tryz.func131,Tryz.ntmps131
 go_wp2_with fail
 go_loopw [12] (fun iv wr=>∃ i:Nat,iv=.int .i64 i/\i<=n/\Below w.heap.size w wr/\Hid (i+oldF (time-retain) (E.drop i)=res)) (fun iv _=>n-(intOf iv).toNat)
 case atStart=>exact ⟨0,rfl,Nat.zero_le _,Below.refl _ _,show _=_ by simpa using hres⟩
 case round =>
  clear hres
  obtain ⟨i,rfl,hin,hbw,hR⟩:=hrel
  have hd0:wr.cell? ⟨wtb,0,none⟩=some (.int .i64 retain):=by rw [hbw.cell (p:=⟨wtb,0,none⟩) hlt];exact hc0
  have hd3:wr.cell? ⟨wtb,3,none⟩=some (.slice ea n cap):=by rw [hbw.cell (p:=⟨wtb,3,none⟩) hlt];exact hc3
  by_cases hi:i<n
  ·have hie:i<E.length:=by omega
   have hget:E[i]? = some E[i]:=List.getElem?_eq_getElem hie
   obtain ⟨g,rfl,hg⟩:=hea (by intro h;rw [h] at hie;simp at hie)
   have hE':EvsAt w (.slice (some ⟨g,0,none⟩) E.length cap) E:=by rw [hlen];exact hE
   have hR2:=oldF_at (time-retain) E i _ hget
   generalize E[i]=x at *
   have q0:wr.cell? ⟨g,i*4,none⟩=some (.int .i64 x.number):=by rw [hbw.cell (p:=⟨g,i*4,none⟩) hg];exact hE'.cell (k:=0) hget rfl
   have q1:wr.cell? ⟨g,i*4+1,none⟩=some (.int .i64 x.time):=by rw [hbw.cell (p:=⟨g,i*4+1,none⟩) hg];exact hE'.cell (k:=1) hget rfl
   have q2:wr.cell? ⟨g,i*4+2,none⟩=some (.slice x.ao x.al x.ac):=by rw [hbw.cell (p:=⟨g,i*4+2,none⟩) hg];exact hE'.cell (k:=2) hget rfl
   have q3:wr.cell? ⟨g,i*4+3,none⟩=some (.slice x.so x.sl x.sc):=by rw [hbw.cell (p:=⟨g,i*4+3,none⟩) hg];exact hE'.cell (k:=3) hget rfl
   have HR2:Hid (res=i+if x.time>=time-retain then 0 else oldF (time-retain) (E.drop (i+1))+1):=by rw [<- hR2];exact hR.out.symm
   clear hR2 hR hE hE' hget
   go_wp2_with fail
   have hb2:Below w.heap.size w (wr.alloc (.cells #[.int .i64 x.number,.int .i64 x.time,.slice x.ao x.al x.ac,.slice x.so x.sl x.sc] 159)):=hbw.al _
   have z0:(wr.alloc (.cells #[.int .i64 x.number,.int .i64 x.time,.slice x.ao x.al x.ac,.slice x.so x.sl x.sc] 159)).cell? ⟨wtb,0,none⟩=some (.int .i64 retain):=by rw [hb2.cell (p:=⟨wtb,0,none⟩) hlt];exact hc0
   have z1:(wr.alloc (.cells #[.int .i64 x.number,.int .i64 x.time,.slice x.ao x.al x.ac,.slice x.so x.sl x.sc] 159)).cell? ⟨wr.heap.size,1,none⟩=some (.int .i64 x.time):=cell_at (heap_new _ _ _ rfl) rfl
   generalize (wr.alloc (.cells #[.int .i64 x.number,.int .i64 x.time,.slice x.ao x.al x.ac,.slice x.so x.sl x.sc] 159))=w2 at hb2 z0 z1 ⊢
   go_region
   by_cases hx:x.time>=time-retain
   ·go_wp2_with fail
    go_ret
    exact ⟨by rw [HR2.out,if_pos hx];rfl,by first | exact hb2 | exact hb2.drew⟩
   ·go_wp2_with fail
    go_roundw
    case rel=>exact ⟨i+1,by go_num,by omega,by first | exact hb2 | exact hb2.drew,show _=_ by rw [HR2.out,if_neg hx];omega⟩
    case measure=>simp only [intOf];omega
  ·obtain rfl:i=n:=by omega
   have HR3:Hid (res=i):=by show _=_;rw [<- hR.out,List.drop_of_length_le (by omega)];rfl
   clear hR
   go_wp2_with fail
   go_ret
   exact ⟨by rw [HR3.out];rfl,hbw⟩
theorem isFull_any (stb:Nat) (o:Option Addr) (n cap:Nat) (w:World) (h:w.heap[stb]? = some (.cells #[.slice o n cap] 177 (0,0))) :
  Calls Tryz.prog 127 #[.pointer (some ⟨stb,0,none⟩)] w fun e w'=>e=.returned (.bool (decide ((n:Int)>=30)))/\w'=w:=by
 have hc:w.cell? ⟨stb,0,none⟩=some (.slice o n cap):=cell_at h rfl
 go_enter Tryz.func127,Tryz.ntmps127
 go_wp2_with fail
 go_ret
 exact ⟨rfl,rfl⟩
theorem checkTime_ok (wtb:Nat) (rt rm nv ev pv:Value) (E:List EvC) (time:Int) (w:World) (hw:w.heap[wtb]? = some (.cells #[rt,rm,nv,ev,pv] 153 (0,0))) (hE:EvsAt w ev E) (hn:E.length<=1000000) (ht:0<=time/\time<=1000000000000) (hl:∀ e,E.getLast? = some e->e.time<time) :
  Calls Tryz.prog 125 #[.pointer (some ⟨wtb,0,none⟩),.int .i64 time] w fun e w'=>e=.returned .nilIface/\w'=w:=by
 have hlt:=heap_lt hw
 have hc3:w.cell? ⟨wtb,3,none⟩=some ev:=cell_at hw rfl
 rcases hE.cases with ⟨rfl,rfl⟩ | ⟨g,cap,rfl,hcap,hcm,hg⟩
 ·go_enter Tryz.func125,Tryz.ntmps125
  go_wp2_with fail
  go_ret
  exact ⟨rfl,rfl⟩
 ·cases hlen:E.length with
  | zero =>
   rw [hlen] at hc3
   go_enter Tryz.func125,Tryz.ntmps125
   go_wp2_with fail
   go_ret
   exact ⟨rfl,rfl⟩
  | succ m =>
   have hget:E[m]? = some E[m]:=List.getElem?_eq_getElem (by omega)
   have hlast:E[m].time<time:=hl _ (by rw [List.getLast?_eq_getElem?,show E.length-1=m by omega];exact hget)
   have q1:w.cell? ⟨g,m*4+1,none⟩=some (.int .i64 E[m].time):=hE.cell (k:=1) hget rfl
   rw [hlen] at hc3 hcap
   generalize E[m].time=t1 at *
   go_enter Tryz.func125,Tryz.ntmps125
   go_wp2_with fail
   go_ret
   exact ⟨rfl,rfl⟩
theorem checkRoom_ok (wtb:Nat) (retain room:Int) (nv ev pv:Value) (E:List EvC) (time:Int) (w:World) (hw:w.heap[wtb]? = some (.cells #[.int .i64 retain,.int .i64 room,nv,ev,pv] 153 (0,0))) (hE:EvsAt w ev E) (hn:E.length<=1000000) (ht:0<=time/\time<=1000000000000) (hr:0<=retain/\retain<=1000000000)
  (hroom:(E.length:Int)-oldF (time-retain) E+1<=room) :
  Calls Tryz.prog 128 #[.pointer (some ⟨wtb,0,none⟩),.int .i64 time] w fun e w'=>e=.returned .nilIface/\Below w.heap.size w w':=by
 have hO:∀ w',Below w.heap.size w w'->Calls Tryz.prog 131 #[.pointer (some ⟨wtb,0,none⟩),.int .i64 time] w' fun e w''=>e=.returned (.int .i64 (oldF (time-retain) E))/\Below w'.heap.size w' w'':=fun w' hb=>old_any wtb retain (.int .i64 room) nv ev pv E time w' (hb.heapOf hw) (hE.below hb) hn ht hr
 have hle:=oldF_le (time-retain) E
 generalize oldF (time-retain) E=k at *
 obtain ⟨ea,cap,rfl,hcap,hcm,hea⟩:=hE.form
 generalize hlen:E.length=n at *
 have hc1:w.cell? ⟨wtb,1,none⟩=some (.int .i64 room):=cell_at hw rfl
 have hc3:w.cell? ⟨wtb,3,none⟩=some (.slice ea n cap):=cell_at hw rfl
 have hst:∀ w',Below w.heap.size w w'->w'.cell? ⟨wtb,1,none⟩=some (.int .i64 room)/\w'.cell? ⟨wtb,3,none⟩=some (.slice ea n cap):=fun w' h=>⟨cell_at (h.heapOf hw) rfl,cell_at (h.heapOf hw) rfl⟩
 have Hst:Hid (∀ w',Below w.heap.size w w'->w'.cell? ⟨wtb,1,none⟩=some (.int .i64 room)/\w'.cell? ⟨wtb,3,none⟩=some (.slice ea n cap)):=hst
 have HO:Hid (∀ w',Below w.heap.size w w'->Calls Tryz.prog 131 #[.pointer (some ⟨wtb,0,none⟩),.int .i64 time] w' fun e w''=>e=.returned (.int .i64 k)/\Below w'.heap.size w' w''):=hO
 clear hst hO hw hE hea
 go_enter Tryz.func128,Tryz.ntmps128
 go_wp2_with fail
 go_region_held (fun w'=>w'.cell? ⟨wtb,1,none⟩=some (.int .i64 room)/\w'.cell? ⟨wtb,3,none⟩=some (.slice ea n cap))
  ((refine Hst.out _ ?_;first | exact (Below.refl _ _).drew | exact (Below.refl w.heap.size w).drew.trans hb1))
  ((go_at_call 131;refine (HO.out _ ?_).mono ?_;exact (Below.refl _ _).drew;rintro e w1 ⟨rfl,hb1⟩))
 all_goals (obtain ⟨z1,z3⟩:=Hst.out w1 ((Below.refl w.heap.size w).drew.trans hb1))
 all_goals go_wp2_with fail
 all_goals go_ret
 all_goals exact ⟨rfl,(Below.refl w.heap.size w).drew.trans hb1⟩
end Go.Proofs.YtpbbmagjhkakgaaGreatDoor.Ev
namespace Go.Proofs.YtpbbmagjhkakgaaGreatDoor.Ev
open Go.RowKit Go.Deep
structure NameOK (s:ByteArray):Prop where
 low:1<=s.size
 high:s.size<=8
 full:(s.toList==[])=false
 other:(s.toList==[116,114,117,101])=false
 all:∀ pos,pos<s.size->97<=((Utf8.decode s pos).1:Int)/\((Utf8.decode s pos).1:Int)<=122
set_option maxHeartbeats 1000000 in
theorem isName_ok (s:ByteArray) (hs:NameOK s) (w:World):Calls Tryz.prog 167 #[.string s] w fun e w'=>e=.returned (.bool true)/\Below w.heap.size w w':=by
 obtain ⟨hl,hh,he,ho,hall⟩:=hs
 go_enter Tryz.func167,Tryz.ntmps167
 go_wp2_with fail
 go_loopw [4] (fun _ wr=>∃ pos:Nat,wr.heap[w.heap.size]? = some (.stringIter s pos)/\Below w.heap.size w wr) (fun _ wr=>s.size-wr.iterPos w.heap.size)
 case atStart=>exact ⟨0,World.iter_heap w s 0,(Below.refl _ _).al (.stringIter s 0)⟩
 case round =>
  obtain ⟨pos,hit,hbw⟩:=hrel
  by_cases hp:pos<s.size
  ·have hnx:∀ ty,(Instr.next (.pointer (some ⟨w.heap.size,0,none⟩)) true ty).run Tryz.prog wr=_:=fun ty=>Lib.run_next_any_at wr w.heap.size s pos ty hit hp
   have hwd:=width_pos s pos hp
   have hit2:=Lib.iterAt_heap wr w.heap.size s pos (pos+(Utf8.decode s pos).2) hit
   have hbw2:=Lib.below_iterAt hbw (k:=w.heap.size) (Nat.le_refl _) s (pos+(Utf8.decode s pos).2)
   have hm:Hid (wr.iterPos w.heap.size=pos):=iterPos_of hit
   have ha:=hall pos hp
   clear hall
   go_wp2_with fail
   generalize wr.iterAt w.heap.size s (pos+(Utf8.decode s pos).2)=W at *
   go_roundw
   case rel=>exact ⟨_,hit2,hbw2⟩
   case measure=>rw [hm.out,iterPos_of hit2];omega
  ·have hnx:∀ ty,(Instr.next (.pointer (some ⟨w.heap.size,0,none⟩)) true ty).run Tryz.prog wr=_:=fun ty=>Lib.run_next_end_at wr w.heap.size s pos ty hit hp
   go_wp2_with fail
   go_ret
   exact ⟨rfl,hbw⟩
def StrsIn (w:World) (ao:Option Addr) (A:List ByteArray):Prop:=A≠[]->∃ b off,ao=some ⟨b,off,none⟩/\b<w.heap.size/\∀ j,j<A.length->w.cell? ⟨b,off+j,none⟩=some (.string (A.getD j ByteArray.empty))
theorem StrsIn.below {w w':World} {ao:Option Addr} {A:List ByteArray} (h:StrsIn w ao A) (hb:Below w.heap.size w w'):StrsIn w' ao A:=fun hne=>by
 obtain ⟨b,off,h1,h2,h3⟩:=h hne
 exact ⟨b,off,h1,Nat.lt_of_lt_of_le h2 hb.size,fun j hj=>by rw [hb.cell (p:=⟨b,off+j,none⟩) h2];exact h3 j hj⟩
theorem contains_any (w:World) (ao:Option Addr) (A:List ByteArray) (cap n:Nat) (x:ByteArray) (h:StrsIn w ao A) (hn:n<=A.length) (hA:A.length<=1000000):Calls Tryz.prog 168 #[.slice ao n cap,.string x] w fun e w'=>e=.returned (.bool (Lib.containsS (A.take n) x))/\w'=w:=by
 cases n with
 | zero=>exact (Tryz.slices_Contains_string_empty ao cap x w).mono fun e w' ⟨h1,h2⟩=>⟨by rw [h1];rfl,h2⟩
 | succ n =>
  obtain ⟨b,off,rfl,_,hc⟩:=h (by intro e;rw [e] at hn;simp at hn)
  exact Tryz.slices_Contains_string b off (n+1) cap A x w hn (by omega) hc
set_option maxHeartbeats 1000000 in
theorem checkAtoms_ok (ao:Option Addr) (A:List ByteArray) (cap:Nat) (w:World) (h:StrsIn w ao A) (hA:A.length<=10) (hcap:A.length<=cap) (hN:∀ j,j<A.length->NameOK (A.getD j ByteArray.empty)) (hD:∀ j,j<A.length->Lib.containsS (A.take j) (A.getD j ByteArray.empty)=false) :
  Calls Tryz.prog 126 #[.slice ao A.length cap] w fun e w'=>e=.returned .nilIface/\Below w.heap.size w w':=by
 have HA:Hid (∀ w',Below w.heap.size w w'->StrsIn w' ao A):=fun w' hb=>h.below hb
 generalize hlen:A.length=n at *
 clear h
 go_enter Tryz.func126,Tryz.ntmps126
 go_wp2_with fail
 go_loopw [13] (fun iv wr=>∃ i:Nat,iv=.int .i64 i/\i<=n/\Below w.heap.size w wr) (fun iv _=>n-(intOf iv).toNat)
 case atStart=>exact ⟨0,rfl,Nat.zero_le _,Below.refl _ _⟩
 case round =>
  obtain ⟨i,rfl,hin,hbw⟩:=hrel
  by_cases hi:i<n
  ·obtain ⟨b,off,rfl,hb,hc⟩:=HA.out wr hbw (by intro e;rw [e] at hlen;simp at hlen;omega)
   have q0:=hc i (by omega)
   have hNi:=hN i hi
   have hDi:=hD i hi
   have HC:=fun w' hb'=>contains_any w' (some ⟨b,off,none⟩) A cap i (A.getD i ByteArray.empty) (HA.out w' hb') (by omega) (by omega)
   rw [hDi] at HC
   have HC:Hid (∀ w',Below w.heap.size w w'->Calls Tryz.prog 168 #[.slice (some ⟨b,off,none⟩) i cap,.string (A.getD i ByteArray.empty)] w' fun e w''=>e=.returned (.bool false)/\w''=w'):=HC
   clear hc hN hD hDi
   generalize A.getD i ByteArray.empty=x at *
   go_wp2_with fail
   refine (isName_ok x hNi _).mono ?_
   rintro e w1 ⟨rfl,hb1⟩
   go_wp2_with fail
   refine (HC.out _ (hbw.tr hb1)).mono ?_
   rintro e w2 ⟨rfl,rfl⟩
   go_wp2_with fail
   go_roundw
   case rel=>exact ⟨i+1,by go_num,by omega,hbw.tr hb1⟩
   case measure=>simp only [intOf];omega
  ·obtain rfl:i=n:=by omega
   go_wp2_with fail
   go_ret
   exact ⟨rfl,hbw⟩
end Go.Proofs.YtpbbmagjhkakgaaGreatDoor.Ev
namespace Go.Proofs.YtpbbmagjhkakgaaGreatDoor.Ev
open Go.RowKit Go.Shelf
attribute [local go_sem] Oper.semAt_some
def downTo (n:Nat):Nat->List { j:Nat // j<n }
 | 0=>[]
 | k+1=>downTo n k++(if h:k<n then [⟨n-1-k,by omega⟩] else [])
theorem downTo_succ {n k:Nat} (h:k<n):downTo n (k+1)=downTo n k++[⟨n-1-k,by omega⟩]:=by simp [downTo,h]
theorem downTo_len {n:Nat}:∀ k,k<=n->(downTo n k).length=k
 | 0,_=>rfl
 | k+1,h=>by rw [downTo_succ (by omega),List.length_append,downTo_len k (by omega)];rfl
def evVal (e:EvC):Value:=.agg #[.int .i64 e.number,.int .i64 e.time,.slice e.ao e.al e.ac,.slice e.so e.sl e.sc]
set_option maxRecDepth 100000 in
set_option maxHeartbeats 2000000 in
theorem back1_in (F:Fence) (n:Nat) (h8:F.fn 215) (hro:F.round=none) (hn:1<=n) (l Bs n₀ g cap len:Nat) (f:Nat->EvC) (hreach:len<=1000000) (hb:g<n₀) (hBn:Bs<n₀) (J Jx:List { j:Nat // j<len }->World->Prop)
  (hY:∀ pre x W,J pre W->pre.length<len->YieldAt F (n-1) Tryz.prog l #[.int .i64 (x.1:Int),evVal (f x.1)] W fun e W' =>
   (e=.returned (.bool true)/\J (pre++[x]) W'/\Below n₀ W W')\/(e=.returned (.bool false)/\Jx (pre++[x]) W'))
  (W:World) (hBs:W.cell? ⟨Bs,0,none⟩=some (.slice (some ⟨g,0,none⟩) len cap)) (hcap:len<=cap) (hc:∀ i k v,i<len->(evCells (f i))[k]? = some v->W.cell? ⟨g,i*4+k,none⟩=some v) (h0:J [] W) :
  CallsIn F n Tryz.prog 215 #[.func (.yield l) #[] #[],.pointer (some ⟨Bs,0,none⟩)] W fun e W'=>(∃ v,e=.returned v)/\
   ((∃ ys,ys=downTo len len/\J ys W')\/(∃ pre,(∃ k,k<=len/\pre=downTo len k)/\Jx pre W')):=by
 refine callsIn_of_wp Tryz.func215 rfl h8 ?_ hro
 simp only [Tryz.ntmps215,List.size_toArray,List.length_cons,List.length_nil,Nat.reduceAdd,Nat.reduceSub,Array.replicate_succ,Array.replicate_zero,List.push_toArray,List.append_toArray,List.nil_append,List.cons_append]
 gi_wp2
 gi_loopw [3] (fun i wr=>∃ k:Nat,k<=len/\i=.int .i64 ((len:Int)-1-k)/\J (downTo len k) wr/\Below n₀ W wr)
  (fun i _=>((intOf i)+1).toNat)
 case atStart=>exact ⟨0,Nat.zero_le _,by go_num,h0,Below.refl _ _⟩
 case round =>
  obtain ⟨k,hk,rfl,hJs,hnx⟩:=hrel
  have hs0:wr.cell? ⟨Bs,0,none⟩=some (.slice (some ⟨g,0,none⟩) len cap):=(hnx.cell (p:=⟨Bs,0,none⟩) hBn).trans hBs
  by_cases hlt:k<len
  ·have hj:len-1-k<len:=by omega
   have hR2:=downTo_succ hlt
   obtain ⟨i,hi,hie⟩:∃ i:Nat,i=len-1-k/\((len:Int)-1-k=(i:Int)):=⟨_,rfl,by omega⟩
   obtain ⟨fn,tmps,assign,body,hy,hR⟩:=hY _ ⟨len-1-k,hj⟩ wr hJs (by rw [downTo_len k hk];exact hlt)
   rw [<- hR2] at hR
   simp only [<- hi] at hy
   rw [<- hi] at hj
   have q0:wr.cell? ⟨g,i*4,none⟩=some (.int .i64 (f i).number):=(hnx.cell (p:=⟨g,i*4,none⟩) hb).trans (hc i 0 _ hj rfl)
   have q1:wr.cell? ⟨g,i*4+1,none⟩=some (.int .i64 (f i).time):=(hnx.cell (p:=⟨g,i*4+1,none⟩) hb).trans (hc i 1 _ hj rfl)
   have q2:wr.cell? ⟨g,i*4+2,none⟩=some (.slice (f i).ao (f i).al (f i).ac):=(hnx.cell (p:=⟨g,i*4+2,none⟩) hb).trans (hc i 2 _ hj rfl)
   have q3:wr.cell? ⟨g,i*4+3,none⟩=some (.slice (f i).so (f i).sl (f i).sc):=(hnx.cell (p:=⟨g,i*4+3,none⟩) hb).trans (hc i 3 _ hj rfl)
   dsimp only [evVal] at hy
   clear hY hc hR2
   generalize f i=x at *
   rw [hie]
   have Hie:Hid ((len:Int)-1-k=(i:Int)):=hie
   have Hlt:Hid (k<len):=hlt
   clear hi hie hlt hk hJs
   gi_wp2
   refine hR.mono ?_
   rintro e W3 (⟨rfl,hJ3,hk3⟩ | ⟨rfl,hJx3⟩)
   ·gi_wp2
    go_roundw
    case rel=>exact ⟨k+1,Hlt.out,by have:=Hie.out;go_num,hJ3,hnx.trans hk3⟩
    case measure=>have:=Hie.out;simp only [intOf];omega
   ·gi_wp2
    refine bodyPost_ret (results_none rfl _ _ _) rfl ?_
    exact ⟨⟨_,rfl⟩,.inr ⟨_,⟨k+1,Hlt.out,rfl⟩,hJx3⟩⟩
  ·obtain rfl:k=len:=by omega
   gi_wp2
   go_end0
   exact ⟨⟨_,rfl⟩,.inl ⟨_,rfl,hJs⟩⟩
theorem backward_in (F:Fence) (n:Nat) (h7:F.fn 207) (hro:F.round=none) (o:Option Addr) (len cap:Nat) (w:World) :
  CallsIn F n Tryz.prog 207 #[.slice o len cap] w fun e w'=>e=.returned (.func (.func 215) #[] #[.pointer (some ⟨w.heap.size,0,none⟩)])/\w'=w.alloc (.cells #[.slice o len cap] 146):=by
 refine callsIn_of_wp Tryz.func207 rfl h7 ?_ hro
 simp only [Tryz.ntmps207,List.size_toArray,List.length_cons,List.length_nil,Nat.reduceAdd,Nat.reduceSub,Array.replicate_succ,Array.replicate_zero,List.push_toArray,List.append_toArray,List.nil_append,List.cons_append]
 gi_wp2
 go_ret
 exact ⟨rfl,rfl⟩
theorem back_stops (F:Fence) (n:Nat) (h8:F.fn 215) (hro:F.round=none) (hn:1<=n) (Bs n₀ g cap len:Nat) (f:Nat->EvC) (hreach:len<=1000000) (hb:g<n₀) (hBn:Bs<n₀) (w:World) (hn₀:n₀<=w.heap.size)
  (hBs:w.cell? ⟨Bs,0,none⟩=some (.slice (some ⟨g,0,none⟩) len cap)) (hcap:len<=cap) (hc:∀ i k v,i<len->(evCells (f i))[k]? = some v->w.cell? ⟨g,i*4+k,none⟩=some v) :
  SeqStopsK F n Tryz.prog 215 #[.pointer (some ⟨Bs,0,none⟩)] (fun x:{ j:Nat // j<len }=>#[Value.int .i64 (x.1:Int),evVal (f x.1)]) (Below n₀) (fun ys=>ys=downTo len len) (fun pre=>∃ k,k<=len/\pre=downTo len k) len w:=fun l J Jx W hW _ _ hY h0 =>
 back1_in F n h8 hro hn l Bs n₀ g cap len f hreach hb hBn J Jx hY W ((hW.cell (p:=⟨Bs,0,none⟩) (show Bs<_ by omega)).trans hBs) hcap (fun i k v hi hv=>(hW.cell (p:=⟨g,i*4+k,none⟩) (by show g<_;omega)).trans (hc i k v hi hv)) h0
end Go.Proofs.YtpbbmagjhkakgaaGreatDoor.Ev
namespace Go.Proofs.YtpbbmagjhkakgaaGreatDoor.Ev
open Go.RowKit Go.Shelf
attribute [local go_sem] Oper.semAt_some
def firstD (f:Pe->Option Bool):List Pe->Bool
 | []=>false
 | e::es=>match f e with
  | some b=>b
  | none=>firstD f es
theorem firstD_none {f:Pe->Option Bool}:∀ {L:List Pe},(∀ e∈L,f e=none)->firstD f L=false
 | [],_=>rfl
 | e::es,h=>by simp only [firstD,h e (.head _)];exact firstD_none fun x hx=>h x (.tail _ hx)
theorem firstD_some {f:Pe->Option Bool} {e:Pe} {b:Bool} (he:f e=some b) (M:List Pe):∀ {L:List Pe},(∀ e∈L,f e=none)->firstD f (L++e::M)=b
 | [],_=>by simp [firstD,he]
 | x::es,h=>by simp only [List.cons_append,firstD,h x (.head _)];exact firstD_some he M fun y hy=>h y (.tail _ hy)
def decO (t lo hi j:Int) (e:Pe):Option Bool:=if t-e.time > hi then some false else if t-e.time>=lo/\e.at j=true then some true else none
def decS (t lo hi j k:Int) (e:Pe):Option Bool:=if t-e.time > hi then some false else if t-e.time>=lo/\e.at k=true then some true else if e.at j=false then some false else none
theorem onceF_first (t lo hi j:Int):∀ L,onceF t lo hi j L=firstD (decO t lo hi j) L
 | []=>rfl
 | e::es=>by
  simp only [onceF,firstD,decO,onceF_first t lo hi j es]
  by_cases h1:t-e.time > hi
  ·simp [h1]
  ·by_cases h2:t-e.time>=lo/\e.at j=true
   ·simp [h1,h2]
   ·simp [h1,h2]
theorem sinceF_first (t lo hi j k:Int):∀ L,sinceF t lo hi j k L=firstD (decS t lo hi j k) L
 | []=>rfl
 | e::es=>by
  simp only [sinceF,firstD,decS,sinceF_first t lo hi j k es]
  by_cases h1:t-e.time > hi
  ·simp [h1]
  ·by_cases h2:t-e.time>=lo/\e.at k=true
   ·simp [h1,h2]
   ·by_cases h3:e.at j=false
    ·simp [h1,h2,h3]
    ·simp [h1,h2,h3]
theorem downTo_pre (n:Nat):∀ (d k:Nat),k+d<=n->∃ M,downTo n (k+d)=downTo n k++M
 | 0,k,_=>⟨[],by simp⟩
 | d+1,k,h=>by
  obtain ⟨M,hM⟩:=downTo_pre n d k (by omega)
  exact ⟨M++[⟨n-1-(k+d),by omega⟩],by rw [<- Nat.add_assoc,downTo_succ (by omega),hM];simp⟩
def backL (E:Nat->Pe) (len:Nat):List Pe:=(downTo len len).map fun x=>E x.1
structure EvIn (w:World) (c:EvC) (e:Pe):Prop where
 number:c.number=e.number
 time:c.time=e.time
 low : -1000000000000<=e.time/\e.time<=1000000000000
 sl:c.sl=e.so.length
 slen:e.so.length<=1000000
 so:∃ sb,c.so=some ⟨sb,0,none⟩/\sb<w.heap.size/\∀ j b,e.so[j]? = some b->w.cell? ⟨sb,j,none⟩=some (.bool b)
 al:c.al=e.atoms.length
 alen:e.atoms.length<=1000000
 atoms:StrsIn w c.ao e.atoms
theorem EvIn.below {w w':World} {c:EvC} {e:Pe} (h:EvIn w c e) (hb:Below w.heap.size w w'):EvIn w' c e:=by
 obtain ⟨sb,s1,s2,s3⟩:=h.so
 exact { h with so:=⟨sb,s1,Nat.lt_of_lt_of_le s2 hb.size,fun j b hj=>by rw [hb.cell (p:=⟨sb,j,none⟩) s2];exact s3 j b hj⟩,atoms:=h.atoms.below hb }
theorem EvIn.bit {w:World} {e:Pe} {sb:Nat} (hs:∀ j b,e.so[j]? = some b->w.cell? ⟨sb,j,none⟩=some (.bool b)) {j:Nat} (hj:j<e.so.length):w.cell? ⟨sb,j,none⟩=some (.bool (e.at (j:Int))) :=
 hs _ _ (by rw [List.getElem?_eq_getElem hj];simp [Pe.at,hj])
theorem heapIs_own {β:Type} (B:Nat) (cs:Array Value) (t:TypeId) (m:Nat×Nat):Own (fun (_:β) (W:World)=>W.heap[B]? = some (.cells cs t m)):=fun _ W W' row h hg hr=>by
 show W'.heap[B]? = _
 have h':W.heap[B]? = some (.cells cs t m):=h
 rw [hg.block B (Array.getElem?_eq_some_iff.1 h').1 (fun e=>by obtain ⟨o,h1,h2⟩:=hr B e.symm;rw [h'] at h1;cases h1;cases h2)]
 exact h'
def lastD {n:Nat} (f:Pe->Option Bool) (E:Nat->Pe) (pre:List { j:Nat // j<n }):Bool:=match pre.getLast? with
 | some x=>(f (E x.1)).getD false
 | none=>false
theorem lastD_snoc {n:Nat} (f:Pe->Option Bool) (E:Nat->Pe) (pre:List { j:Nat // j<n }) (x:{ j:Nat // j<n }) {b:Bool} (h:f (E x.1)=some b):lastD f E (pre++[x])=b:=by
 simp [lastD,h]
def NoneD {n:Nat} (f:Pe->Option Bool) (E:Nat->Pe) (pre:List { j:Nat // j<n }):Prop:=∀ x∈pre,f (E x.1)=none
def StopD {n:Nat} (f:Pe->Option Bool) (E:Nat->Pe) (c:Code) (pre:List { j:Nat // j<n }):Prop:=c=.ret/\∃ pre' x b,pre=pre'++[x]/\NoneD f E pre'/\f (E x.1)=some b
theorem NoneD.snoc {n:Nat} {f:Pe->Option Bool} {E:Nat->Pe} {pre:List { j:Nat // j<n }} (h:NoneD f E pre) {x:{ j:Nat // j<n }} (hx:f (E x.1)=none):NoneD f E (pre++[x]):=fun z hz=>by
 rcases List.mem_append.1 hz with hz | hz
 ·exact h z hz
 ·simp at hz;subst hz;exact hx
theorem first_of_stop {n:Nat} (f:Pe->Option Bool) (E:Nat->Pe) {pre pre':List { j:Nat // j<n }} {x:{ j:Nat // j<n }} {b:Bool} {k:Nat} (hk:k<=n) (hpre:pre=downTo n k) (he:pre=pre'++[x]) (hn:∀ y∈pre',f (E y.1)=none) (hx:f (E x.1)=some b):firstD f (backL E n)=b:=by
 obtain ⟨M,hM⟩:=downTo_pre n (n-k) k (by omega)
 have hM':downTo n n=pre'++x::M:=by
  have:downTo n n=downTo n k++M:=by rw [<- hM];congr 1;omega
  rw [this,<- hpre,he];simp
 unfold backL
 rw [hM',List.map_append,List.map_cons]
 exact firstD_some hx _ (by intro e he;obtain ⟨y,hy,rfl⟩:=List.mem_map.1 he;exact hn y hy)
theorem first_of_done {n:Nat} (f:Pe->Option Bool) (E:Nat->Pe) (h:∀ y∈downTo n n,f (E y.1)=none):firstD f (backL E n)=false :=
 firstD_none (by intro e he;obtain ⟨y,hy,rfl⟩:=List.mem_map.1 he;exact h y hy)
set_option maxRecDepth 100000 in
set_option maxHeartbeats 8000000 in
theorem once_in (F:Fence) (n:Nat) (hfn:F.fn 194) (h207:F.fn 207) (h215:F.fn 215) (hro:F.round=none) (hn:6<=n) (op:Int) (name:ByteArray) (lo hi:Int) (l r:Nat) (g cap m:Nat) (C:Nat->EvC) (E:Nat->Pe) (w:World) (hm:m+1<=1000000) (hg:g<w.heap.size) (hcap:m+1<=cap)
  (hc:∀ i k v,i<m+1->(evCells (C i))[k]? = some v->w.cell? ⟨g,i*4+k,none⟩=some v) (hE:∀ i,i<m+1->EvIn w (C i) (E i)) (hlE:∀ i,i<m+1->l<(E i).so.length) :
  CallsIn F n Tryz.prog 194 #[.agg #[.int .i32 op,.string name,.int .i64 lo,.int .i64 hi,.int .i64 (l:Int),.int .i64 (r:Int)],.slice (some ⟨g,0,none⟩) (m+1) cap] w fun e W'=>e=.returned (.bool (onceF (E m).time lo hi l (backL E (m+1))))/\Below w.heap.size w W':=by
 have h1:1<=n:=by omega
 rw [onceF_first]
 have q1:w.cell? ⟨g,m*4+1,none⟩=some (.int .i64 (E m).time):=by rw [<- (hE m (by omega)).time];exact hc m 1 _ (by omega) rfl
 have hlow:=(hE m (by omega)).low
 refine callsIn_of_wp_marks Tryz.func194 rfl hfn ?_ hro
 simp only [Tryz.ntmps194,List.size_toArray,List.length_cons,List.length_nil,Nat.reduceAdd,Nat.reduceSub,Array.replicate_succ,Array.replicate_zero,List.push_toArray,List.append_toArray,List.nil_append,List.cons_append]
 generalize hNow:(E m).time=now at *
 gi_wp2_with (gi_at_call 207;refine (backward_in F (n-1) h207 hro _ _ _ _).mono ?_;rintro e w' ⟨rfl,rfl⟩)
 have hB0:Below w.heap.size w ((((w.alloc (.cells #[.int .i32 op,.string name,.int .i64 lo,.int .i64 hi,.int .i64 (l:Int),.int .i64 (r:Int)] 226)).alloc (.cells #[.bool false] 4)).alloc (.cells #[.int .i64 now] 3)).alloc (.cells #[.slice (some ⟨g,0,none⟩) (m+1) cap] 146)):=((((Below.refl _ w).alloc (Nat.le_refl _) _).alloc (by simp) _).alloc (by simp;omega) _).alloc (by simp;omega) _
 have nB:((((w.alloc (.cells #[.int .i32 op,.string name,.int .i64 lo,.int .i64 hi,.int .i64 (l:Int),.int .i64 (r:Int)] 226)).alloc (.cells #[.bool false] 4)).alloc (.cells #[.int .i64 now] 3)).alloc (.cells #[.slice (some ⟨g,0,none⟩) (m+1) cap] 146)).heap[w.heap.size]? = some (.cells #[.int .i32 op,.string name,.int .i64 lo,.int .i64 hi,.int .i64 (l:Int),.int .i64 (r:Int)] 226 (0,0)):=by
  rw [Below.heap_alloc _ _ _ (by simp;omega),Below.heap_alloc _ _ _ (by simp;omega),Below.heap_alloc _ _ _ (by simp)];exact heap_new _ _ _ rfl
 have bR:=((Boxed.new (w.alloc (.cells #[.int .i32 op,.string name,.int .i64 lo,.int .i64 hi,.int .i64 (l:Int),.int .i64 (r:Int)] 226)) 4 (.bool false)).alloc (.cells #[.int .i64 now] 3)).alloc (.cells #[.slice (some ⟨g,0,none⟩) (m+1) cap] 146)
 have bN:=(Boxed.new ((w.alloc (.cells #[.int .i32 op,.string name,.int .i64 lo,.int .i64 hi,.int .i64 (l:Int),.int .i64 (r:Int)] 226)).alloc (.cells #[.bool false] 4)) 3 (.int .i64 now)).alloc (.cells #[.slice (some ⟨g,0,none⟩) (m+1) cap] 146)
 have bS:=Boxed.new (((w.alloc (.cells #[.int .i32 op,.string name,.int .i64 lo,.int .i64 hi,.int .i64 (l:Int),.int .i64 (r:Int)] 226)).alloc (.cells #[.bool false] 4)).alloc (.cells #[.int .i64 now] 3)) 146 (.slice (some ⟨g,0,none⟩) (m+1) cap)
 simp only [World.size_alloc] at bR bN bS
 have hsz:((((w.alloc (.cells #[.int .i32 op,.string name,.int .i64 lo,.int .i64 hi,.int .i64 (l:Int),.int .i64 (r:Int)] 226)).alloc (.cells #[.bool false] 4)).alloc (.cells #[.int .i64 now] 3)).alloc (.cells #[.slice (some ⟨g,0,none⟩) (m+1) cap] 146)).heap.size=w.heap.size+4:=by simp
 obtain ⟨W0,hW0⟩:∃ W0,(((w.alloc (.cells #[.int .i32 op,.string name,.int .i64 lo,.int .i64 hi,.int .i64 (l:Int),.int .i64 (r:Int)] 226)).alloc (.cells #[.bool false] 4)).alloc (.cells #[.int .i64 now] 3)).alloc (.cells #[.slice (some ⟨g,0,none⟩) (m+1) cap] 146)=W0:=⟨_,rfl⟩
 rw [hW0] at hB0 nB bR bN bS hsz ⊢
 clear hW0
 refine wpIn_rangeFunc_ownH hro h1 (gf:=215) (lb:=#[.pointer (some ⟨w.heap.size+1+1+1,0,none⟩)]) rfl h215 (enters_of Tryz.func215 (by kernel_rfl) rfl)
  (back_stops F (n-1) h215 hro (by omega) (w.heap.size+1+1+1) W0.heap.size g cap (m+1) C hm (by omega) (by omega) W0 (Nat.le_refl _) bS.cell hcap (fun i k v hi hv=>(hB0.cell (p:=⟨g,i*4+k,none⟩) hg).trans (hc i k v hi hv))) belowK_t (belowK_b (Nat.le_refl _)) (Below.refl _ _) (fun _=>rfl)
  (fun pre W=>((NoneD (decO now lo hi l) E pre/\Boxed W (w.heap.size+1) 4 (.bool false))/\(W.heap[w.heap.size]? = some (.cells #[.int .i32 op,.string name,.int .i64 lo,.int .i64 hi,.int .i64 (l:Int),.int .i64 (r:Int)] 226 (0,0))/\(Boxed W (w.heap.size+1+1) 3 (.int .i64 now)/\Boxed W (w.heap.size+1+1+1) 146 (.slice (some ⟨g,0,none⟩) (m+1) cap))))/\Below w.heap.size w W)
  (fun c pre W=>(StopD (decO now lo hi l) E c pre/\Boxed W (w.heap.size+1) 4 (.bool (lastD (decO now lo hi l) E pre)))/\Below w.heap.size w W)
  (OwnFrom.and (OwnFrom.and (OwnFrom.and (ownFrom_pure _ _) (Own.from (boxed_own _ _ _) _)) (OwnFrom.and (Own.from (heapIs_own _ _ _ _) _) (OwnFrom.and (Own.from (boxed_own _ _ _) _) (Own.from (boxed_own _ _ _) _)))) (ownFrom_below (Nat.le_refl _) (by omega)))
  (fun c=>OwnFrom.and (OwnFrom.and (ownFrom_pure _ _) (Own.from (boxed_own _ _ (fun pre=>Value.bool (lastD (decO now lo hi l) E pre))) _)) (ownFrom_below (Nat.le_refl _) (by omega)))
  ⟨⟨⟨fun _ h=>by simp at h,bR⟩,nB,bN,bS⟩,hB0⟩
  (fun x a' W=>∃ Bx,w.heap.size+1+1<Bx/\W.heap[Bx]? = some (.cells #[.int .i64 (C x.1).number,.int .i64 (C x.1).time,.slice (C x.1).ao (C x.1).al (C x.1).ac,.slice (C x.1).so (C x.1).sl (C x.1).sc] 159 (0,0))/\a'={ tmps:=#[.agg #[.int .i32 op,.string name,.int .i64 lo,.int .i64 hi,.int .i64 (l:Int),.int .i64 (r:Int)],.slice (some ⟨g,0,none⟩) (m+1) cap,.pointer (some ⟨w.heap.size,0,none⟩),undef,.pointer (some ⟨w.heap.size+1,0,none⟩),.pointer (some ⟨w.heap.size+1+1,0,none⟩),undef,.pointer (some ⟨Bx,0,none⟩),undef,.slice (some ⟨g,0,none⟩) (m+1) cap,.slice (some ⟨g,0,none⟩) (m+1) cap,.int .i64 ((m:Int)+1),.int .i64 (m:Int),.pointer (some ⟨g,m*4,none⟩),.pointer (some ⟨g,m*4+1,none⟩),.int .i64 now,.slice (some ⟨g,0,none⟩) (m+1) cap,.func (.func 215) #[] #[.pointer (some ⟨w.heap.size+1+1+1,0,none⟩)],.int .i64 (x.1:Int),evVal (C x.1),undef,undef,undef,undef,undef,undef,undef,undef,undef,undef,undef,undef,undef,undef,undef,undef,undef,undef,undef,undef,undef,undef],defers:=[] })
  (fun x a' _ X Y row hs hg hr=>by obtain ⟨Bx,e1,e2,e3⟩:=hs;exact ⟨Bx,e1,heapIs_own Bx _ 159 (0,0) () X Y row e2 hg (fun r e=>(hr r e).2),e3⟩)
  ?assign ?body ?done ?stop
 case assign =>
  rintro lp pre x W K ⟨⟨⟨hp,bR1⟩,nB1,bN1,bS1⟩,hB1⟩ hK
  have hlt1:=bS1.lt
  simp only [evVal]
  gi_wp2
  exact hK _ _ ((KeepsOthers.alloc _ _).from _) ((Below.refl _ W).alloc (by omega) _) ⟨⟨⟨hp,bR1.alloc _⟩,(Below.heap_alloc _ _ _ (by omega)).trans nB1,bN1.alloc _,bS1.alloc _⟩,hB1.alloc hB1.size _⟩ ⟨W.heap.size,by omega,heap_new _ _ _ rfl,rfl⟩
 case body =>
  rintro lp pre x a' W hlp ⟨rr,hrr⟩ ⟨⟨⟨hp,bR1⟩,nB1,bN1,bS1⟩,hB1⟩ ⟨Bx,hBx,hX,rfl⟩ hlt
  have hEx:=hE x.1 x.2
  obtain ⟨sb,s1,s2,s3⟩:=hEx.so
  have hlx:=hlE x.1 x.2
  have bl:W.cell? ⟨sb,l,none⟩=some (.bool ((E x.1).at (l:Int))):=(hB1.cell (p:=⟨sb,l,none⟩) s2).trans (EvIn.bit s3 hlx)
  have tE:=hEx.time
  have tl:=hEx.low
  have sE:=hEx.sl
  have sle:=hEx.slen
  rw [tE,s1,sE] at hX
  have cN:=bN1.cell
  have cR:=bR1.cell
  have fR:=bR1.frozen
  have cX1:=cell_at (i:=1) hX rfl
  have cX3:=cell_at (i:=3) hX rfl
  have k2:=cell_at (i:=2) nB1 rfl
  have k3:=cell_at (i:=3) nB1 rfl
  have k4:=cell_at (i:=4) nB1 rfl
  have k5:=cell_at (i:=5) nB1 rfl
  have hdec:decO now lo hi l (E x.1)=(if now-(E x.1).time > hi then some false else if now-(E x.1).time>=lo/\(E x.1).at (l:Int)=true then some true else none):=rfl
  have Hn:Hid (∀ b,decO now lo hi l (E x.1)=some b->lastD (decO now lo hi l) E (pre++[x])=b):=fun b hb=>lastD_snoc _ _ _ _ hb
  have Hw:Hid (∀ b W',decO now lo hi l (E x.1)=some b->KeepsFrom W0.heap.size W W'->Boxed W' (w.heap.size+1) 4 (.bool b)->Below w.heap.size w W'->KeepsFrom W0.heap.size W W'/\(StopD (decO now lo hi l) E .ret (pre++[x])/\Boxed W' (w.heap.size+1) 4 (.bool (lastD (decO now lo hi l) E (pre++[x]))))/\Below w.heap.size w W'):=fun b W' hb h1 h2 h3=>⟨h1,⟨⟨rfl,pre,x,b,rfl,hp,hb⟩,by rw [lastD_snoc _ _ _ _ hb];exact h2⟩,h3⟩
  have Hg:Hid (NoneD (decO now lo hi l) E pre):=hp
  have Hv:=Hw
  rw [hsz] at Hv
  clear hE hc hp tE s1 sE s3 hX hEx nB hB0 bS bN bR q1
  generalize (E x.1).time=t1 at *
  generalize (E x.1).so.length=sl at *
  generalize hbl:(E x.1).at (l:Int)=b1 at *
  by_cases d1:now-t1 > hi
  ·have hd:decO now lo hi l (E x.1)=some false:=by rw [hdec,if_pos d1]
   clear hdec hbl
   gi_wp2
   first | exact Hw.out false _ hd ((KeepsOthers.setCell _ _ _).from _) (bR1.set _) (hB1.setCell (p:=⟨w.heap.size+1,0,none⟩) (by simp) _) | exact Hv.out false _ hd ((KeepsOthers.setCell _ _ _).from _) (bR1.set _) (hB1.setCell (p:=⟨w.heap.size+1,0,none⟩) (by simp) _)
  ·by_cases d2:now-t1>=lo
   ·cases b1 with
    | true =>
     have hd:decO now lo hi l (E x.1)=some true:=by rw [hdec,if_neg d1,if_pos ⟨d2,rfl⟩]
     clear hdec hbl
     gi_wp2
     first | exact Hw.out true _ hd ((KeepsOthers.setCell _ _ _).from _) (bR1.set _) (hB1.setCell (p:=⟨w.heap.size+1,0,none⟩) (by simp) _) | exact Hv.out true _ hd ((KeepsOthers.setCell _ _ _).from _) (bR1.set _) (hB1.setCell (p:=⟨w.heap.size+1,0,none⟩) (by simp) _)
    | false =>
     have hd:decO now lo hi l (E x.1)=none:=by rw [hdec,if_neg d1,if_neg (fun h=>by cases h.2)]
     clear hdec hbl
     gi_wp2
     exact ⟨KeepsFrom.refl _ _,Below.refl _ _,⟨⟨Hg.out.snoc hd,bR1⟩,nB1,bN1,bS1⟩,hB1⟩
   ·have hd:decO now lo hi l (E x.1)=none:=by rw [hdec,if_neg d1,if_neg (fun h=>d2 h.1)]
    clear hdec hbl
    gi_wp2
    exact ⟨KeepsFrom.refl _ _,Below.refl _ _,⟨⟨Hg.out.snoc hd,bR1⟩,nB1,bN1,bS1⟩,hB1⟩
 case done =>
  rintro D zs W hD rfl ⟨⟨⟨hp,bR1⟩,nB1,bN1,bS1⟩,hB1⟩ hK
  have cR:=bR1.cell
  have fR:=bR1.frozen
  gi_wp2
  have hK':=(KeepsOthers.setCell W ⟨w.heap.size+1,0,none⟩ (.bool false)).same D _ hK rfl
  refine ⟨by simp,.inl ⟨_,_,rfl,run_takeDeferred hK',?_⟩⟩
  have hc5:=cell_kept (bR1.set (.bool false)).cell (grownBy_putObj' _ D (.deferred none)) (fun r e=>by cases e;exact ⟨_,hK',rfl⟩)
  refine ⟨.bool false,?_,by rw [first_of_done _ _ hp],(hB1.setCell (p:=⟨w.heap.size+1,0,none⟩) (by simp) _).trans (belowK_b (w:=w) (Nat.le_refl _) _ D _ _ (by omega) hK' rfl rfl)⟩
  simp [results,Tryz.f194,go_sem,hc5]
 case stop =>
  rintro D c pre W hD ⟨k,hk,hpre⟩ ⟨⟨⟨rfl,pre',x,b,e1,e2,e3⟩,bR1⟩,hB1⟩ hK
  rw [e1,lastD_snoc _ _ _ _ e3] at bR1
  gi_wp2
  refine ⟨by simp,.inl ⟨_,_,rfl,run_takeDeferred hK,?_⟩⟩
  have hc5:=cell_kept bR1.cell (grownBy_putObj' _ D (.deferred none)) (fun r e=>by cases e;exact ⟨_,hK,rfl⟩)
  refine ⟨.bool b,?_,by rw [first_of_stop _ _ hk hpre e1 e2 e3],hB1.trans (belowK_b (w:=w) (Nat.le_refl _) W D _ _ (by omega) hK rfl rfl)⟩
  simp [results,Tryz.f194,go_sem,hc5]
end Go.Proofs.YtpbbmagjhkakgaaGreatDoor.Ev
