import Derived.Test.YtpbbmagjhkakgaaGreatDoorPureTabToTab
import Derived.Test.YtpbbmagjhkakgaaGreatDoorPut
import Derived.Test.YtpbbmagjhkakgaaGreatDoorPureToPurePrint
import Derived.RegionTactic
import Derived.Deep.RegionHeld
import Derived.ChangeAlike
import Derived.Test.YtpbbmagjhkakgaaGreatDoorProg
import Derived.Shelf.Strings.Builder1
import Derived.Shelf.Small.Strs
import Derived.Shelf.Strings.BuilderF
import Derived.Shelf.Strings.BuilderK
import Derived.Shelf.Strings.BuilderRune
import Derived.Shelf.Strconv.Atoi
import Derived.Shelf.Strconv.Itoa0
import Derived.Shelf.Strconv.Itoa1
import Derived.Shelf.LaysM
import Derived.Shelf.Strconv.Itoa2
import Derived.Shelf.Strconv.Itoa3
import Derived.Shelf.Strconv.AtoiErrFast
import Derived.Shelf.Strconv.ParseIntEmpty
import Derived.Shelf.Strconv.AtoiFail
import Derived.Shelf.Strconv.Clone
import Derived.Shelf.Strconv.SyntaxError
import Derived.Shelf.LaysC
import Derived.Shelf.Strconv.ToError
import Derived.Shelf.Strconv.Lower
import Derived.Shelf.Strconv.ParseUint10
import Derived.Shelf.Strconv.ParseUint10Empty
import Derived.Shelf.Strconv.ParseUint10Any
import Derived.Shelf.Strconv.ParseInt10
import Derived.Shelf.Strconv.AtoiLong
import Derived.Shelf.Strconv.AtoiInnerAll
import Derived.Shelf.Strconv.RangeError
import Derived.Shelf.Strconv.ToErrorRange
import Derived.Shelf.Strconv.AtoiAll
import Derived.Shelf.Strconv.ErrVarAll
import Derived.Shelf.Strings.Prefix
import Derived.Shelf.Slices.Turned
namespace Go.Proofs.YtpbbmagjhkakgaaGreatDoor.Ev
open Go.RowKit Go.Deep Go.Maps
structure bx where
 number:Int
 time:Int
 ao:Option Addr
 al:Nat
 ac:Nat
 so:Option Addr
 sl:Nat
 sc:Nat
def bx.av (e:bx):Value:=.slice e.ao e.al e.ac
def bx.sv (e:bx):Value:=.slice e.so e.sl e.sc
def bf (e:bx):List Value:=[.int .i64 e.number,.int .i64 e.time,e.av,e.sv]
def dk (E:List bx):List Value:=(E.map bf).flatten
def bY (w:World) (ev:Value) (E:List bx):Prop:=w.ownsRow 0 159 4 ev E.length (dk E)
theorem kn {α:Type} (f:α->List Value) (n:Nat) (hf:∀ a,(f a).length=n):∀ (L:List α) (i k:Nat) (a:α) (v:Value),L[i]? = some a->(f a)[k]? = some v->(L.map f).flatten[i*n+k]? = some v
 | [],i,_,_,_,h,_=>by simp at h
 | x::L,0,k,a,v,h,hv=>by
  simp at h;subst h
  have hk:=(List.getElem?_eq_some_iff.1 hv).1
  simp only [List.map_cons,List.flatten_cons,Nat.zero_mul,Nat.zero_add]
  rw [List.getElem?_append_left hk];exact hv
 | x::L,i+1,k,a,v,h,hv=>by
  simp at h
  have ih:=kn f n hf L i k a v h hv
  simp only [List.map_cons,List.flatten_cons]
  rw [List.getElem?_append_right (by rw [hf,Nat.succ_mul];omega),hf]
  have:(i+1)*n+k-n=i*n+k:=by rw [Nat.succ_mul];omega
  rw [this];exact ih
theorem ft {α:Type} (f:α->List Value) (n:Nat) (hf:∀ a,(f a).length=n):∀ (L:List α),(L.map f).flatten.length=L.length*n
 | []=>by simp
 | x::L=>by simp only [List.map_cons,List.flatten_cons,List.length_append,hf,ft f n hf L,List.length_cons,Nat.succ_mul];omega
theorem gH {w:World} {base size n:Nat} {e:TypeId} {v:Value} {xs:List Value} (h:w.ownsRow base e size v n xs) {g cap:Nat} (hv:v=.slice (some ⟨g,0,none⟩) n cap) {j:Nat} {x:Value} (hx:xs[j]? = some x):w.cell? ⟨g,j,none⟩=some x:=by
 obtain ⟨h1,⟨rfl,h2⟩ | ⟨g',mq,cur,e1,h3,h4,h5,h6,h7,h8⟩⟩:=h
 ·cases hv
 ·rw [hv] at e1
  cases e1
  have hj:j<n*size:=by have:=(List.getElem?_eq_some_iff.1 hx).1;omega
  rw [<- h8,List.getElem?_take,if_pos hj] at hx
  exact ae h4 (by rw [<- Array.getElem?_toList];exact hx)
theorem bY.cases {w:World} {ev:Value} {E:List bx} (h:bY w ev E):(ev=.slice none 0 0/\E=[])\/∃ g cap,ev=.slice (some ⟨g,0,none⟩) E.length cap/\E.length<=cap/\cap<=maxLen/\g<w.heap.size:=by
 have hl:=h.lt
 obtain ⟨h1,⟨rfl,h2⟩ | ⟨g,cap,cur,rfl,h3,h4,h5,h6,_⟩⟩:=h
 ·exact .inl ⟨rfl,List.length_eq_zero_iff.1 h2⟩
 ·exact .inr ⟨g,cap,rfl,h5,h6,(hl g rfl).2⟩
theorem bY.cell {w:World} {E:List bx} {g cap:Nat} (h:bY w (.slice (some ⟨g,0,none⟩) E.length cap) E) {i k:Nat} {e:bx} {v:Value} (he:E[i]? = some e) (hv:(bf e)[k]? = some v):w.cell? ⟨g,i*4+k,none⟩=some v :=
 gH h rfl (kn bf 4 (fun _=>rfl) E i k e v he hv)
theorem bY.below {w w':World} {ev:Value} {E:List bx} (h:bY w ev E) (hb:Below w.heap.size w w'):bY w' ev E:=dw h fun k hk=>hb.block k (h.lt k hk).2
def nj (t:Int):List bx->Nat
 | []=>0
 | e::E=>if e.time>=t then 0 else nj t E+1
theorem oldF_at (t:Int) (E:List bx) (i:Nat) (e:bx) (h:E[i]? = some e):nj t (E.drop i)=if e.time>=t then 0 else nj t (E.drop (i+1))+1:=by
 obtain ⟨hi,rfl⟩:=List.getElem?_eq_some_iff.1 h
 rw [List.drop_eq_getElem_cons hi]
 rfl
theorem oldF_le (t:Int):∀ E:List bx,nj t E<=E.length
 | []=>Nat.le_refl _
 | e::E=>by have:=oldF_le t E;simp only [nj];split<;>simp<;>omega
theorem bY.form {w:World} {ev:Value} {E:List bx} (h:bY w ev E):∃ ea cap,ev=.slice ea E.length cap/\E.length<=cap/\cap<=maxLen/\(E≠[]->∃ g,ea=some ⟨g,0,none⟩/\g<w.heap.size):=by
 rcases h.cases with ⟨rfl,rfl⟩ | ⟨g,cap,rfl,h1,h2,h3⟩
 ·exact ⟨none,0,rfl,Nat.le_refl _,by simp [maxLen],fun h=>absurd rfl h⟩
 ·exact ⟨_,cap,rfl,h1,h2,fun _=>⟨g,rfl,h3⟩⟩
set_option maxHeartbeats 1000000 in
theorem old_any (aj:Nat) (ai:Int) (rm nv ev pv:Value) (E:List bx) (time:Int) (w:World) (hw:w.heap[aj]? = some (.cells #[.int .i64 ai,rm,nv,ev,pv] 153 (0,0))) (hE:bY w ev E) (hn:E.length<=1000000) (ht:0<=time/\time<=1000000000000) (hr:0<=ai/\ai<=1000000000) :
  Calls Tryz.prog 131 #[.pointer (some ⟨aj,0,none⟩),.int .i64 time] w fun e w'=>e=.returned (.int .i64 (nj (time-ai) E))/\Below w.heap.size w w':=by
 have cz:=aw hw
 have lj:w.cell? ⟨aj,0,none⟩=some (.int .i64 ai):=ae hw rfl
 have r_:w.cell? ⟨aj,3,none⟩=some ev:=ae hw rfl
 generalize oH:nj (time-ai) E=res
 obtain ⟨ea,cap,rfl,cW,sa,hea⟩:=hE.form
 generalize hlen:E.length=n at *
 go_enter Tryz.func131,Tryz.ntmps131
 go_wp2_with fail
 go_loopw [12] (fun iv wr=>∃ i:Nat,iv=.int .i64 i/\i<=n/\Below w.heap.size w wr/\Hid (i+nj (time-ai) (E.drop i)=res)) (fun iv _=>n-(intOf iv).toNat)
 case atStart=>exact ⟨0,rfl,Nat.zero_le _,Below.refl _ _,show _=_ by simpa using oH⟩
 case round =>
  clear oH
  obtain ⟨i,rfl,tP,h_,hR⟩:=hrel
  have hd0:wr.cell? ⟨aj,0,none⟩=some (.int .i64 ai):=by rw [h_.cell (p:=⟨aj,0,none⟩) cz];exact lj
  have hd3:wr.cell? ⟨aj,3,none⟩=some (.slice ea n cap):=by rw [h_.cell (p:=⟨aj,3,none⟩) cz];exact r_
  by_cases hi:i<n
  ·have hie:i<E.length:=by omega
   have fD:E[i]? = some E[i]:=List.getElem?_eq_getElem hie
   obtain ⟨g,rfl,hg⟩:=hea (by intro h;rw [h] at hie;simp at hie)
   have hE':bY w (.slice (some ⟨g,0,none⟩) E.length cap) E:=by rw [hlen];exact hE
   have hR2:=oldF_at (time-ai) E i _ fD
   generalize E[i]=x at *
   have q0:wr.cell? ⟨g,i*4,none⟩=some (.int .i64 x.number):=by rw [h_.cell (p:=⟨g,i*4,none⟩) hg];exact hE'.cell (k:=0) fD rfl
   have q1:wr.cell? ⟨g,i*4+1,none⟩=some (.int .i64 x.time):=by rw [h_.cell (p:=⟨g,i*4+1,none⟩) hg];exact hE'.cell (k:=1) fD rfl
   have q2:wr.cell? ⟨g,i*4+2,none⟩=some (.slice x.ao x.al x.ac):=by rw [h_.cell (p:=⟨g,i*4+2,none⟩) hg];exact hE'.cell (k:=2) fD rfl
   have q3:wr.cell? ⟨g,i*4+3,none⟩=some (.slice x.so x.sl x.sc):=by rw [h_.cell (p:=⟨g,i*4+3,none⟩) hg];exact hE'.cell (k:=3) fD rfl
   have HR2:Hid (res=i+if x.time>=time-ai then 0 else nj (time-ai) (E.drop (i+1))+1):=by rw [<- hR2];exact hR.out.symm
   clear hR2 hR hE hE' fD
   go_wp2_with fail
   have cB:Below w.heap.size w (wr.alloc (.cells #[.int .i64 x.number,.int .i64 x.time,.slice x.ao x.al x.ac,.slice x.so x.sl x.sc] 159)):=h_.al _
   have z0:(wr.alloc (.cells #[.int .i64 x.number,.int .i64 x.time,.slice x.ao x.al x.ac,.slice x.so x.sl x.sc] 159)).cell? ⟨aj,0,none⟩=some (.int .i64 ai):=by rw [cB.cell (p:=⟨aj,0,none⟩) cz];exact lj
   have z1:(wr.alloc (.cells #[.int .i64 x.number,.int .i64 x.time,.slice x.ao x.al x.ac,.slice x.so x.sl x.sc] 159)).cell? ⟨wr.heap.size,1,none⟩=some (.int .i64 x.time):=ae (aB _ _ _ rfl) rfl
   generalize (wr.alloc (.cells #[.int .i64 x.number,.int .i64 x.time,.slice x.ao x.al x.ac,.slice x.so x.sl x.sc] 159))=w2 at cB z0 z1 ⊢
   go_region
   by_cases hx:x.time>=time-ai
   ·go_wp2_with fail
    go_ret
    exact ⟨by rw [HR2.out,if_pos hx];rfl,by first | exact cB | exact cB.drew⟩
   ·go_wp2_with fail
    go_roundw
    case rel=>exact ⟨i+1,by go_num,by omega,by first | exact cB | exact cB.drew,show _=_ by rw [HR2.out,if_neg hx];omega⟩
    case measure=>simp only [intOf];omega
  ·obtain rfl:i=n:=by omega
   have HR3:Hid (res=i):=by show _=_;rw [<- hR.out,List.drop_of_length_le (by omega)];rfl
   clear hR
   go_wp2_with fail
   go_ret
   exact ⟨by rw [HR3.out];rfl,h_⟩
theorem isFull_any (cj:Nat) (o:Option Addr) (n cap:Nat) (w:World) (h:w.heap[cj]? = some (.cells #[.slice o n cap] 177 (0,0))) :
  Calls Tryz.prog 127 #[.pointer (some ⟨cj,0,none⟩)] w fun e w'=>e=.returned (.bool (decide ((n:Int)>=30)))/\w'=w:=by
 have hc:w.cell? ⟨cj,0,none⟩=some (.slice o n cap):=ae h rfl
 go_enter Tryz.func127,Tryz.ntmps127
 go_wp2_with fail
 go_ret
 exact ⟨rfl,rfl⟩
theorem checkTime_ok (aj:Nat) (rt rm nv ev pv:Value) (E:List bx) (time:Int) (w:World) (hw:w.heap[aj]? = some (.cells #[rt,rm,nv,ev,pv] 153 (0,0))) (hE:bY w ev E) (hn:E.length<=1000000) (ht:0<=time/\time<=1000000000000) (hl:∀ e,E.getLast? = some e->e.time<time) :
  Calls Tryz.prog 125 #[.pointer (some ⟨aj,0,none⟩),.int .i64 time] w fun e w'=>e=.returned .nilIface/\w'=w:=by
 have cz:=aw hw
 have r_:w.cell? ⟨aj,3,none⟩=some ev:=ae hw rfl
 rcases hE.cases with ⟨rfl,rfl⟩ | ⟨g,cap,rfl,cW,sa,hg⟩
 ·go_enter Tryz.func125,Tryz.ntmps125
  go_wp2_with fail
  go_ret
  exact ⟨rfl,rfl⟩
 ·cases hlen:E.length with
  | zero =>
   rw [hlen] at r_
   go_enter Tryz.func125,Tryz.ntmps125
   go_wp2_with fail
   go_ret
   exact ⟨rfl,rfl⟩
  | succ m =>
   have fD:E[m]? = some E[m]:=List.getElem?_eq_getElem (by omega)
   have hlast:E[m].time<time:=hl _ (by rw [List.getLast?_eq_getElem?,show E.length-1=m by omega];exact fD)
   have q1:w.cell? ⟨g,m*4+1,none⟩=some (.int .i64 E[m].time):=hE.cell (k:=1) fD rfl
   rw [hlen] at r_ cW
   generalize E[m].time=t1 at *
   go_enter Tryz.func125,Tryz.ntmps125
   go_wp2_with fail
   go_ret
   exact ⟨rfl,rfl⟩
theorem checkRoom_ok (aj:Nat) (ai room:Int) (nv ev pv:Value) (E:List bx) (time:Int) (w:World) (hw:w.heap[aj]? = some (.cells #[.int .i64 ai,.int .i64 room,nv,ev,pv] 153 (0,0))) (hE:bY w ev E) (hn:E.length<=1000000) (ht:0<=time/\time<=1000000000000) (hr:0<=ai/\ai<=1000000000)
  (oI:(E.length:Int)-nj (time-ai) E+1<=room) :
  Calls Tryz.prog 128 #[.pointer (some ⟨aj,0,none⟩),.int .i64 time] w fun e w'=>e=.returned .nilIface/\Below w.heap.size w w':=by
 have hO:∀ w',Below w.heap.size w w'->Calls Tryz.prog 131 #[.pointer (some ⟨aj,0,none⟩),.int .i64 time] w' fun e w''=>e=.returned (.int .i64 (nj (time-ai) E))/\Below w'.heap.size w' w'':=fun w' hb=>old_any aj ai (.int .i64 room) nv ev pv E time w' (hb.aE hw) (hE.below hb) hn ht hr
 have hle:=oldF_le (time-ai) E
 generalize nj (time-ai) E=k at *
 obtain ⟨ea,cap,rfl,cW,sa,hea⟩:=hE.form
 generalize hlen:E.length=n at *
 have kJ:w.cell? ⟨aj,1,none⟩=some (.int .i64 room):=ae hw rfl
 have r_:w.cell? ⟨aj,3,none⟩=some (.slice ea n cap):=ae hw rfl
 have df:∀ w',Below w.heap.size w w'->w'.cell? ⟨aj,1,none⟩=some (.int .i64 room)/\w'.cell? ⟨aj,3,none⟩=some (.slice ea n cap):=fun w' h=>⟨ae (h.aE hw) rfl,ae (h.aE hw) rfl⟩
 have kj:Hid (∀ w',Below w.heap.size w w'->w'.cell? ⟨aj,1,none⟩=some (.int .i64 room)/\w'.cell? ⟨aj,3,none⟩=some (.slice ea n cap)):=df
 have HO:Hid (∀ w',Below w.heap.size w w'->Calls Tryz.prog 131 #[.pointer (some ⟨aj,0,none⟩),.int .i64 time] w' fun e w''=>e=.returned (.int .i64 k)/\Below w'.heap.size w' w''):=hO
 clear df hO hw hE hea
 go_enter Tryz.func128,Tryz.ntmps128
 go_wp2_with fail
 go_region_held (fun w'=>w'.cell? ⟨aj,1,none⟩=some (.int .i64 room)/\w'.cell? ⟨aj,3,none⟩=some (.slice ea n cap))
  ((refine kj.out _ ?_;first | exact (Below.refl _ _).drew | exact (Below.refl w.heap.size w).drew.trans a_))
  ((go_at_call 131;refine (HO.out _ ?_).mono ?_;exact (Below.refl _ _).drew;rintro e w1 ⟨rfl,a_⟩))
 all_goals (obtain ⟨z1,z3⟩:=kj.out w1 ((Below.refl w.heap.size w).drew.trans a_))
 all_goals go_wp2_with fail
 all_goals go_ret
 all_goals exact ⟨rfl,(Below.refl w.heap.size w).drew.trans a_⟩
end Go.Proofs.YtpbbmagjhkakgaaGreatDoor.Ev
namespace Go.Proofs.YtpbbmagjhkakgaaGreatDoor
open Go.RowKit
set_option maxHeartbeats 400000 in
theorem joins_any (s:Int) (w:World) :
  Calls Tryz.prog 153 #[.int .i32 s] w fun e w'=>e=.returned (.bool (gR s))/\w'=w:=by
 go_enter Tryz.func153,Tryz.ntmps153
 go_wp2
 all_goals go_ret
 all_goals exact ⟨by simp_all [gR],rfl⟩
set_option maxHeartbeats 400000 in
theorem sY (s:Int) (w:World) :
  Calls Tryz.prog 165 #[.int .i32 s] w fun e w'=>e=.returned (.bool (lC s))/\w'=w:=by
 go_enter Tryz.func165,Tryz.ntmps165
 go_wp2
 all_goals go_ret
 all_goals exact ⟨by simp_all [lC],rfl⟩
set_option maxHeartbeats 1000000 in
theorem signOf_any (r:Int) (w:World) :
  Calls Tryz.prog 151 #[.int .i32 r] w fun e w'=>e=.returned (.int .i32 (bM r))/\w'=w:=by
 go_enter Tryz.func151,Tryz.ntmps151
 go_wp2
 all_goals go_ret
 all_goals refine ⟨ret_int ?_,rfl⟩
 all_goals (try simp_all [bM])
 all_goals ((repeat' split)<;>intros<;>omega)
end Go.Proofs.YtpbbmagjhkakgaaGreatDoor
namespace Go.Proofs
open Go.Shelf
def Tryz.lays213_ren:Go.Shelf.Ren:=⟨fun | 213=>176 | 265=>197 | n=>n,fun | 9=>9 | 3=>3 | n=>n,fun | n=>n⟩
def Tryz.lays106_ren:Go.Shelf.Ren:=⟨fun | 106=>141 | 213=>176 | 265=>197 | n=>n,fun | 9=>9 | 3=>3 | n=>n,fun | n=>n⟩
theorem Tryz.lays106:Go.Proofs.Lays.n106 Tryz.prog Tryz.lays106_ren:={
 mixed:=by kernel_rfl
 f106:=Tryz.func141.trans (congrArg some (by kernel_rfl))
 f213:=Tryz.func176.trans (congrArg some (by kernel_rfl))
 f265:=Tryz.func197.trans (congrArg some (by kernel_rfl))
 t3:=Tryz.underlying3
 a3:=Tryz.isAgg3
 z3:=Tryz.sizeOf3
 v3:=Tryz.zeroValue3
 t9:=Tryz.underlying9
 a9:=Tryz.isAgg9
 z9:=Tryz.sizeOf9
 v9:=Tryz.zeroValue9 }
open Go.RowKit in
theorem Tryz.strings_Compare (a b:ByteArray) (w:World) :
  Calls Tryz.prog 141 #[.string a,.string b] w fun e w'=>e=.returned (.int .i64 (Lib.compareBytes a.data.toList b.data.toList))/\w'=w:=Any.strings_Compare Tryz.lays106 a b w
def Tryz.lays172_ren:Go.Shelf.Ren:=⟨fun | 172=>210 | 244=>216 | 245=>217 | 247=>223 | 279=>224 | 280=>225 | 281=>226 | 282=>227 | 287=>230 | 316=>172 | 171=>166 | 205=>231 | 321=>232 | 322=>233 | 243=>191 | 246=>206 | 283=>211 | 284=>212 | 285=>213 | 286=>214 | 129=>219 | 317=>218 | 318=>220 | 319=>221 | 320=>222 | 337=>228 | 338=>229 | n=>n,fun | 9=>9 | 3=>3 | 75=>89 | 76=>167 | 4=>4 | 5=>5 | 167=>343 | 37=>99 | 0=>0 | 85=>344 | 2=>2 | 168=>346 | 53=>332 | 175=>350 | 46=>200 | 210=>353 | 127=>224 | 145=>359 | 143=>357 | 21=>21 | 171=>331 | 173=>335 | 212=>340 | 51=>325 | 20=>20 | 213=>341 | 232=>354 | 233=>355 | 80=>93 | n=>n,fun | 15=>10 | 16=>11 | 17=>9 | 18=>12 | 19=>13 | n=>n⟩
def Tryz.laysM316_ren:Go.Shelf.Ren:=⟨fun | 316=>172 | n=>n,fun | 9=>9 | 3=>3 | 4=>4 | 37=>99 | 0=>0 | 127=>224 | 5=>5 | n=>n,fun | n=>n⟩
theorem Tryz.laysM316:Go.Proofs.LaysM.n316 Tryz.prog Tryz.laysM316_ren:={
 mixed:=by kernel_rfl
 f316:=Tryz.func172.trans (congrArg some (by kernel_rfl))
 t0:=Tryz.underlying0
 a0:=Tryz.isAgg0
 z0:=Tryz.sizeOf0
 v0:=Tryz.zeroValue0
 t3:=Tryz.underlying3
 a3:=Tryz.isAgg3
 z3:=Tryz.sizeOf3
 v3:=Tryz.zeroValue3
 t4:=Tryz.underlying4
 a4:=Tryz.isAgg4
 z4:=Tryz.sizeOf4
 v4:=Tryz.zeroValue4
 t9:=Tryz.underlying9
 a9:=Tryz.isAgg9
 z9:=Tryz.sizeOf9
 v9:=Tryz.zeroValue9
 t37:=Tryz.underlying99
 a37:=Tryz.isAgg99
 z37:=Tryz.sizeOf99
 v37:=Tryz.zeroValue99
 t127:=Tryz.underlying224
 a127:=Tryz.isAgg224
 z127:=Tryz.sizeOf224
 v127:=Tryz.zeroValue224
 t5:=Tryz.underlying5
 a5:=Tryz.isAgg5
 z5:=Tryz.sizeOf5
 v5:=Tryz.zeroValue5
 i0:=by kernel_rfl
 i3:=by kernel_rfl
 i4:=by kernel_rfl
 i5:=by kernel_rfl
 i9:=by kernel_rfl
 i37:=by kernel_rfl
 i127:=by kernel_rfl }
open Go.RowKit in
theorem Tryz.stringslite_Clone (s:ByteArray) (w:World) (hlim:s.size<=281474976710656) :
  Calls Tryz.prog 172 #[.string s] w fun e w'=>e=.returned (.string s)/\Below w.heap.size w w':=Any.stringslite_Clone Tryz.laysM316 s w hlim
def Tryz.laysC172_ren:Go.Shelf.Ren:=⟨fun | 172=>210 | 244=>216 | 245=>217 | 247=>223 | 279=>224 | 280=>225 | 281=>226 | 282=>227 | 287=>230 | 316=>172 | 171=>166 | 205=>231 | 321=>232 | 322=>233 | 243=>191 | 246=>206 | 283=>211 | 284=>212 | 285=>213 | 286=>214 | 129=>219 | 317=>218 | 318=>220 | 319=>221 | 320=>222 | 337=>228 | 338=>229 | n=>n,fun | 9=>9 | 3=>3 | 75=>89 | 76=>167 | 4=>4 | 5=>5 | 167=>343 | 37=>99 | 0=>0 | 85=>344 | 2=>2 | 168=>346 | 53=>332 | 175=>350 | 46=>200 | 210=>353 | 127=>224 | 145=>359 | 143=>357 | 21=>21 | 171=>331 | 173=>335 | 212=>340 | 51=>325 | 20=>20 | 213=>341 | 232=>354 | 233=>355 | 80=>93 | n=>n,fun | 15=>10 | 16=>11 | 17=>9 | 18=>12 | 19=>13 | n=>n⟩
theorem Tryz.laysC172:Go.Proofs.LaysC.n172 Tryz.prog Tryz.laysC172_ren:={
 mixed:=by kernel_rfl
 f129:=Tryz.func219.trans (congrArg some (by kernel_rfl))
 f171:=Tryz.func166.trans (congrArg some (by kernel_rfl))
 f172:=Tryz.func210.trans (congrArg some (by kernel_rfl))
 f205:=Tryz.func231.trans (congrArg some (by kernel_rfl))
 f243:=Tryz.func191.trans (congrArg some (by kernel_rfl))
 f244:=Tryz.func216.trans (congrArg some (by kernel_rfl))
 f245:=Tryz.func217.trans (congrArg some (by kernel_rfl))
 f246:=Tryz.func206.trans (congrArg some (by kernel_rfl))
 f247:=Tryz.func223.trans (congrArg some (by kernel_rfl))
 f279:=Tryz.func224.trans (congrArg some (by kernel_rfl))
 f280:=Tryz.func225.trans (congrArg some (by kernel_rfl))
 f281:=Tryz.func226.trans (congrArg some (by kernel_rfl))
 f282:=Tryz.func227.trans (congrArg some (by kernel_rfl))
 f283:=Tryz.func211.trans (congrArg some (by kernel_rfl))
 f284:=Tryz.func212.trans (congrArg some (by kernel_rfl))
 f285:=Tryz.func213.trans (congrArg some (by kernel_rfl))
 f286:=Tryz.func214.trans (congrArg some (by kernel_rfl))
 f287:=Tryz.func230.trans (congrArg some (by kernel_rfl))
 f316:=Tryz.func172.trans (congrArg some (by kernel_rfl))
 f317:=Tryz.func218.trans (congrArg some (by kernel_rfl))
 f318:=Tryz.func220.trans (congrArg some (by kernel_rfl))
 f319:=Tryz.func221.trans (congrArg some (by kernel_rfl))
 f320:=Tryz.func222.trans (congrArg some (by kernel_rfl))
 f321:=Tryz.func232.trans (congrArg some (by kernel_rfl))
 f322:=Tryz.func233.trans (congrArg some (by kernel_rfl))
 f337:=Tryz.func228.trans (congrArg some (by kernel_rfl))
 f338:=Tryz.func229.trans (congrArg some (by kernel_rfl))
 t0:=Tryz.underlying0
 a0:=Tryz.isAgg0
 z0:=Tryz.sizeOf0
 v0:=Tryz.zeroValue0
 t2:=Tryz.underlying2
 a2:=Tryz.isAgg2
 z2:=Tryz.sizeOf2
 v2:=Tryz.zeroValue2
 t3:=Tryz.underlying3
 a3:=Tryz.isAgg3
 z3:=Tryz.sizeOf3
 v3:=Tryz.zeroValue3
 t4:=Tryz.underlying4
 a4:=Tryz.isAgg4
 z4:=Tryz.sizeOf4
 v4:=Tryz.zeroValue4
 t5:=Tryz.underlying5
 a5:=Tryz.isAgg5
 z5:=Tryz.sizeOf5
 v5:=Tryz.zeroValue5
 t9:=Tryz.underlying9
 a9:=Tryz.isAgg9
 z9:=Tryz.sizeOf9
 v9:=Tryz.zeroValue9
 t20:=Tryz.underlying20
 a20:=Tryz.isAgg20
 z20:=Tryz.sizeOf20
 v20:=Tryz.zeroValue20
 t21:=Tryz.underlying21
 a21:=Tryz.isAgg21
 z21:=Tryz.sizeOf21
 v21:=Tryz.zeroValue21
 t37:=Tryz.underlying99
 a37:=Tryz.isAgg99
 z37:=Tryz.sizeOf99
 v37:=Tryz.zeroValue99
 t46:=Tryz.underlying200
 a46:=Tryz.isAgg200
 z46:=Tryz.sizeOf200
 v46:=Tryz.zeroValue200
 t51:=Tryz.underlying325
 a51:=Tryz.isAgg325
 z51:=Tryz.sizeOf325
 v51:=Tryz.zeroValue325
 t53:=Tryz.underlying332
 a53:=Tryz.isAgg332
 z53:=Tryz.sizeOf332
 v53:=Tryz.zeroValue332
 t75:=Tryz.underlying89
 a75:=Tryz.isAgg89
 z75:=Tryz.sizeOf89
 v75:=Tryz.zeroValue89
 t76:=Tryz.underlying167
 a76:=Tryz.isAgg167
 z76:=Tryz.sizeOf167
 v76:=Tryz.zeroValue167
 t85:=Tryz.underlying344
 a85:=Tryz.isAgg344
 z85:=Tryz.sizeOf344
 v85:=Tryz.zeroValue344
 t127:=Tryz.underlying224
 a127:=Tryz.isAgg224
 z127:=Tryz.sizeOf224
 v127:=Tryz.zeroValue224
 t143:=Tryz.underlying357
 a143:=Tryz.isAgg357
 z143:=Tryz.sizeOf357
 v143:=Tryz.zeroValue357
 t145:=Tryz.underlying359
 a145:=Tryz.isAgg359
 z145:=Tryz.sizeOf359
 v145:=Tryz.zeroValue359
 t167:=Tryz.underlying343
 a167:=Tryz.isAgg343
 z167:=Tryz.sizeOf343
 v167:=Tryz.zeroValue343
 t168:=Tryz.underlying346
 a168:=Tryz.isAgg346
 z168:=Tryz.sizeOf346
 v168:=Tryz.zeroValue346
 t171:=Tryz.underlying331
 a171:=Tryz.isAgg331
 z171:=Tryz.sizeOf331
 v171:=Tryz.zeroValue331
 t173:=Tryz.underlying335
 a173:=Tryz.isAgg335
 z173:=Tryz.sizeOf335
 v173:=Tryz.zeroValue335
 t175:=Tryz.underlying350
 a175:=Tryz.isAgg350
 z175:=Tryz.sizeOf350
 v175:=Tryz.zeroValue350
 t210:=Tryz.underlying353
 a210:=Tryz.isAgg353
 z210:=Tryz.sizeOf353
 v210:=Tryz.zeroValue353
 t212:=Tryz.underlying340
 a212:=Tryz.isAgg340
 z212:=Tryz.sizeOf340
 v212:=Tryz.zeroValue340
 t213:=Tryz.underlying341
 a213:=Tryz.isAgg341
 z213:=Tryz.sizeOf341
 t232:=Tryz.underlying354
 a232:=Tryz.isAgg354
 z232:=Tryz.sizeOf354
 v232:=Tryz.zeroValue354
 t233:=Tryz.underlying355
 a233:=Tryz.isAgg355
 z233:=Tryz.sizeOf355
 v233:=Tryz.zeroValue355
 g15:=by kernel_rfl
 g16:=by kernel_rfl
 g17:=by kernel_rfl
 g18:=by kernel_rfl
 g19:=by kernel_rfl
 t80:=Tryz.underlying93
 a80:=Tryz.isAgg93
 z80:=Tryz.sizeOf93
 v80:=Tryz.zeroValue93
 i0:=by kernel_rfl
 i2:=by kernel_rfl
 i3:=by kernel_rfl
 i4:=by kernel_rfl
 i5:=by kernel_rfl
 i9:=by kernel_rfl
 i20:=by kernel_rfl
 i21:=by kernel_rfl
 i37:=by kernel_rfl
 i46:=by kernel_rfl
 i51:=by kernel_rfl
 i53:=by kernel_rfl
 i75:=by kernel_rfl
 i76:=by kernel_rfl
 i80:=by kernel_rfl
 i85:=by kernel_rfl
 i127:=by kernel_rfl
 i143:=by kernel_rfl
 i145:=by kernel_rfl
 i167:=by kernel_rfl
 i168:=by kernel_rfl
 i171:=by kernel_rfl
 i173:=by kernel_rfl
 i175:=by kernel_rfl
 i210:=by kernel_rfl
 i212:=by kernel_rfl
 i232:=by kernel_rfl
 i233:=by kernel_rfl
 m15:=by kernel_rfl
 m16:=by kernel_rfl
 m17:=by kernel_rfl
 m18:=by kernel_rfl
 m19:=by kernel_rfl
 c0:=by kernel_rfl
 c2:=by kernel_rfl
 c3:=by kernel_rfl
 c4:=by kernel_rfl
 c5:=by kernel_rfl
 c9:=by kernel_rfl
 c20:=by kernel_rfl
 c21:=by kernel_rfl
 c37:=by kernel_rfl
 c46:=by kernel_rfl
 c51:=by kernel_rfl
 c53:=by kernel_rfl
 c75:=by kernel_rfl
 c76:=by kernel_rfl
 c80:=by kernel_rfl
 c85:=by kernel_rfl
 c127:=by kernel_rfl
 c143:=by kernel_rfl
 c145:=by kernel_rfl
 c167:=by kernel_rfl
 c168:=by kernel_rfl
 c171:=by kernel_rfl
 c173:=by kernel_rfl
 c175:=by kernel_rfl
 c210:=by kernel_rfl
 c212:=by kernel_rfl
 c213:=by kernel_rfl
 c232:=by kernel_rfl
 c233:=by kernel_rfl }
open Go.RowKit in
theorem Tryz.strconv_Atoi_ok (s:ByteArray) (hmax:s.size<=9223372036854775806) (v:Int) (h:Lib.atoiAll s.data.toList=.ok v) (w:World) :
  Calls Tryz.prog 210 #[.string s] w fun e w'=>e=.returned (.tuple #[.int .i64 v,.nilIface])/\(w'=w\/∃ t,w'=Lib.bytesWorld w 5 t):=Any.strconv_Atoi_ok Tryz.laysC172 s hmax v h w
open Go.RowKit in
theorem Tryz.strconv_Atoi_syntax (s:ByteArray) (hlim:s.size<=281474976710656) (h:Lib.atoiAll s.data.toList=.«syntax») (ev:Value) (w:World) (hv:w.cell? ⟨10,0,none⟩=some ev) (js:ev=.nilIface\/∃ te pe,ev=.iface te pe) :
  Calls Tryz.prog 210 #[.string s] w fun e w'=>∃ N,e=.returned (.tuple #[.int .i64 (0),.iface 346 (.pointer (some ⟨N,0,none⟩))])/\w.heap.size<=N/\w'.heap[N]? = some (.cells #[.string ⟨#[65,116,111,105]⟩,.string s,ev] 353 (0,0))/\Below w.heap.size w w':=Any.strconv_Atoi_syntax Tryz.laysC172 s hlim h ev w hv js
open Go.RowKit in
theorem Tryz.strconv_Atoi_range (s:ByteArray) (hlim:s.size<=281474976710656) (h:Lib.atoiAll s.data.toList=.range) (ev:Value) (w:World) (hv:w.cell? ⟨11,0,none⟩=some ev) (js:ev=.nilIface\/∃ te pe,ev=.iface te pe) :
  Calls Tryz.prog 210 #[.string s] w fun e w'=>∃ N,e=.returned (.tuple #[.int .i64 (Lib.atoiSat s.data.toList),.iface 346 (.pointer (some ⟨N,0,none⟩))])/\w.heap.size<=N/\w'.heap[N]? = some (.cells #[.string ⟨#[65,116,111,105]⟩,.string s,ev] 353 (0,0))/\Below w.heap.size w w':=Any.strconv_Atoi_range Tryz.laysC172 s hlim h ev w hv js
def Tryz.lays206_ren:Go.Shelf.Ren:=⟨fun | 206=>203 | n=>n,fun | 9=>9 | 4=>4 | 3=>3 | n=>n,fun | n=>n⟩
def Tryz.lays99_ren:Go.Shelf.Ren:=⟨fun | 99=>185 | 206=>203 | n=>n,fun | 9=>9 | 4=>4 | 3=>3 | n=>n,fun | n=>n⟩
theorem Tryz.lays99:Go.Proofs.Lays.n99 Tryz.prog Tryz.lays99_ren:={
 mixed:=by kernel_rfl
 f99:=Tryz.func185.trans (congrArg some (by kernel_rfl))
 f206:=Tryz.func203.trans (congrArg some (by kernel_rfl))
 t3:=Tryz.underlying3
 a3:=Tryz.isAgg3
 z3:=Tryz.sizeOf3
 v3:=Tryz.zeroValue3
 t4:=Tryz.underlying4
 a4:=Tryz.isAgg4
 z4:=Tryz.sizeOf4
 v4:=Tryz.zeroValue4
 t9:=Tryz.underlying9
 a9:=Tryz.isAgg9
 z9:=Tryz.sizeOf9
 v9:=Tryz.zeroValue9 }
open Go.RowKit Go.Lib in
theorem Tryz.strings_HasPrefix (s p:ByteArray) (w:World) :
  Calls Tryz.prog 185 #[.string s,.string p] w fun e w'=>e=.returned (.bool (Lib.hasPrefix s.data.toList p.data.toList))/\w'=w:=Any.strings_HasPrefix Tryz.lays99 s p w
def Tryz.lays110_ren:Go.Shelf.Ren:=⟨fun | 110=>168 | 109=>192 | n=>n,fun | 31=>31 | 9=>9 | 4=>4 | 3=>3 | 0=>0 | n=>n,fun | n=>n⟩
theorem Tryz.lays110:Go.Proofs.Lays.n110 Tryz.prog Tryz.lays110_ren:={
 mixed:=by kernel_rfl
 f109:=Tryz.func192.trans (congrArg some (by kernel_rfl))
 f110:=Tryz.func168.trans (congrArg some (by kernel_rfl))
 t0:=Tryz.underlying0
 a0:=Tryz.isAgg0
 z0:=Tryz.sizeOf0
 v0:=Tryz.zeroValue0
 t3:=Tryz.underlying3
 a3:=Tryz.isAgg3
 z3:=Tryz.sizeOf3
 v3:=Tryz.zeroValue3
 t4:=Tryz.underlying4
 a4:=Tryz.isAgg4
 z4:=Tryz.sizeOf4
 v4:=Tryz.zeroValue4
 t9:=Tryz.underlying9
 a9:=Tryz.isAgg9
 z9:=Tryz.sizeOf9
 v9:=Tryz.zeroValue9
 t31:=Tryz.underlying31
 a31:=Tryz.isAgg31
 z31:=Tryz.sizeOf31
 v31:=Tryz.zeroValue31 }
open Go.Lib in
theorem Tryz.slices_Contains_string (b off n c:Nat) (zs:List ByteArray) (x:ByteArray) (w:World) (hz:n<=zs.length) (hbig:n<=9223372036854775807) (hc:∀ j,j<zs.length->w.cell? ⟨b,off+j,none⟩=some (.string (zs.getD j ByteArray.empty))) :
  Calls Tryz.prog 168 #[.slice (some ⟨b,off,none⟩) n c,.string x] w fun e w'=>e=.returned (.bool (Lib.containsS (zs.take n) x))/\w'=w:=Any.slices_Contains_string Tryz.lays110 b off n c zs x w hz hbig hc
open Go.Lib in
theorem Tryz.slices_Contains_string_empty (a:Option Addr) (c:Nat) (x:ByteArray) (w:World) :
  Calls Tryz.prog 168 #[.slice a 0 c,.string x] w fun e w'=>e=.returned (.bool false)/\w'=w:=Any.slices_Contains_string_empty Tryz.lays110 a c x w
end Go.Proofs
namespace Go.Proofs.YtpbbmagjhkakgaaGreatDoor
open Go.RowKit
set_option maxHeartbeats 400000 in
theorem whyNoSign_any (rest:ByteArray) (r:Int) (w:World) :
  Calls Tryz.prog 152 #[.string rest,.int .i32 r] w fun e w'=>(∃ s,e=.returned (.string s))/\w'=w:=by
 by_cases hr:r=65533
 ·subst hr
  go_enter Tryz.func152,Tryz.ntmps152
  go_wp2_with (go_at_call 185;refine (Tryz.strings_HasPrefix _ _ _).mono ?_;rintro e w' ⟨rfl,rfl⟩)
  all_goals go_ret
  all_goals exact ⟨⟨_,rfl⟩,rfl⟩
 ·have hr':(r==65533)=false:=by simp [hr]
  go_enter Tryz.func152,Tryz.ntmps152
  go_wp2_with fail
  go_ret
  exact ⟨⟨_,rfl⟩,rfl⟩
theorem infoTok:(Tryz.prog.info? 260).map (fun i=>(i.zero,i.size,i.bytes))=some (some (.agg #[.int .i32 0,.int .i64 0,.string ⟨#[]⟩]),3,32):=by kernel_rfl
theorem kB (w:World) (t:Tok) (e:TypeId):∀ j u,(cq t)[j]? = some u->(w.alloc (.cells #[.int .i32 t.sign,.int .i64 t.place,.string t.word] e)).cell? ((⟨w.heap.size,0,none⟩:Addr).add j)=some u:=by
 intro j u hj
 have hh:=aB w (.cells #[.int .i32 t.sign,.int .i64 t.place,.string t.word] e (0,0)) _ rfl
 have:(⟨w.heap.size,0,none⟩:Addr).add j=⟨w.heap.size,j,none⟩:=by simp [Addr.add];omega
 rw [this]
 exact ae hh (by simpa [cq] using hj)
theorem tok_one (t:Tok):∀ u,u∈cq t->u.oneCell'=true:=by
 intro u hu
 simp [cq] at hu
 rcases hu with rfl | rfl | rfl<;>rfl
theorem jT (ts:List Tok) (t:Tok):((ts++[t]).map cq).flatten=(ts.map cq).flatten++cq t:=by simp
theorem ft (ts:List Tok):(ts.map cq).flatten.length=ts.length*3:=by
 induction ts with
 | nil=>rfl
 | cons a l ih=>simp only [List.map_cons,List.flatten_cons,List.length_append,ih,List.length_cons];simp [cq];omega
theorem own_slice {w:World} {base size n:Nat} {e:TypeId} {v:Value} {xs:List Value} (h:w.ownsRow base e size v n xs) (hn:0<n):∃ g cap,v=.slice (some ⟨g,0,none⟩) n cap/\base<=g/\g<w.heap.size/\n<=cap/\cap<=maxLen:=by
 obtain ⟨_,⟨_,hz⟩ | ⟨g,cap,cur,hv,hg,hh,hn,hm,hs,ht⟩⟩:=h
 ·omega
 ·exact ⟨g,cap,hv,hg,aw hh,hn,hm⟩
theorem iter_grown {w W w2:World} {o:Obj} {s:ByteArray} {p n:Nat} {e:TypeId} {size:Nat} {v:Value} {xs:List Value} (hit:W.heap[w.heap.size]? = some (.stringIter s p)) (cE:W.ownsRow (w.heap.size+1) e size v n xs) (hg:(W.alloc o).grownBy w2 v.ownBlock) :
  w2.heap[w.heap.size]? = some (.stringIter s p):=by
 have hl:=aw hit
 rw [hg.block _ (by simp;omega) (fun h=>by have:=(cE.lt _ h.symm).1;omega),Lib.alloc_old W o _ hl]
 exact hit
theorem toks_of_own {base:Nat} {w:World} {v:Value} {ts:List Tok} (h:w.ownsRow base 260 3 v ts.length (ts.map cq).flatten) (hne:ts≠[]):qK w.heap.size w v ts:=by
 obtain ⟨hl,⟨_,hz⟩ | ⟨g,cap,cur,hv,hg,hh,hn,hm,hs,ht⟩⟩:=h
 ·exact absurd (List.length_eq_zero_iff.1 hz) hne
 ·refine ⟨g,0,cap,cur,_,_,cur.toList.drop (ts.length*3),hv,aw hh,hh,hn,hm,?_⟩
  rw [<- ht,List.drop_zero,List.take_append_drop]
def ScanEnd (w:World) (res:Option (List Tok)) (e:Ending) (w':World):Prop :=
 Below w.heap.size w w'/\((∃ ts v,res=some ts/\e=.returned (.tuple #[v,.nilIface])/\qK w'.heap.size w' v ts/\Ends ts/\ts.length<=305)
  \/(res=none/\∃ fa,e=.returned (.tuple #[.slice none 0 0,.iface 201 (.pointer (some fa))])))
set_option maxHeartbeats 4000000 in
set_option maxRecDepth 100000 in
theorem scan_any (s:ByteArray) (w:World) (hs:s.size<=300) :
  Calls Tryz.prog 113 #[.string s] w (ScanEnd w (cJ s s.size 0 32 [])):=by
 generalize oH:cJ s s.size 0 32 []=res
 go_enter Tryz.func113,Tryz.ntmps113
 go_wp2
 go_loopw [4,5] (fun v l wr=>∃ (pos b:Nat) (last:Int) (bp:List Tok),wr.heap[w.heap.size]? = some (.stringIter s pos)/\wr.ownsRow (w.heap.size+1) 260 3 v bp.length (bp.map cq).flatten/\l=.int .i32 last/\Below w.heap.size w wr/\Hid (cJ s b pos last bp=res)/\s.size<=pos+b/\Mid pos last bp/\pos<=304) (fun _ _ wr=>s.size-wr.iterPos w.heap.size)
 case atStart =>
  refine ⟨0,s.size,32,[],?_,World.ownsRow_nil _ _ _ _,rfl,?_,oH,by omega,Mid.start,by omega⟩
  ·exact World.iter_heap w s 0
  ·exact (Below.refl _ _).al (.stringIter s 0)
 case round =>
  clear oH
  obtain ⟨pos,b,last,bp,hit,cE,rfl,h_,hsc,hfu,hmid,fE⟩:=hrel
  have hlen:=hmid.len
  by_cases hp:pos<s.size
  ·have nh:∀ ty,(Instr.next (.pointer (some ⟨w.heap.size,0,none⟩)) true ty).run Tryz.prog wr=_:=fun ty=>Lib.run_next_any_at wr w.heap.size s pos ty hit hp
   have hwd:=width_pos s pos hp
   have hwl:=width_le s pos
   obtain ⟨f,rfl⟩:∃ f,b=f+1:=⟨b-1,by omega⟩
   have hit2:=Lib.iterAt_heap wr w.heap.size s pos (pos+(Utf8.decode s pos).2) hit
   have sO:=Lib.below_iterAt h_ (k:=w.heap.size) (Nat.le_refl _) s (pos+(Utf8.decode s pos).2)
   have gi:=ownsRow_iterAt cE (k:=w.heap.size) (by omega) s (pos+(Utf8.decode s pos).2)
   have hS:Hid (res=(if bM (Utf8.decode s pos).1 = -2 then none
    else if bM (Utf8.decode s pos).1=last/\gR (bM (Utf8.decode s pos).1)=true then
     cJ s f (pos+(Utf8.decode s pos).2) (bM (Utf8.decode s pos).1) (growF s pos bp)
    else if bM (Utf8.decode s pos).1=32 then cJ s f (pos+(Utf8.decode s pos).2) (bM (Utf8.decode s pos).1) bp
    else cJ s f (pos+(Utf8.decode s pos).2) (bM (Utf8.decode s pos).1) (bp++[⟨bM (Utf8.decode s pos).1,pos,Utf8.encode (Utf8.decode s pos).1⟩]))):=by
    show _=_
    rw [<- hsc.out]
    show cJ s (f+1) pos last bp=_
    rw [cJ,if_pos hp]
   have hm:Hid (wr.iterPos w.heap.size=pos):=iterPos_of hit
   have hsg:=signF_ne (Utf8.decode s pos).1
   go_wp2_with fail
   refine (signOf_any _ _).mono ?_
   rintro e w1 ⟨rfl,rfl⟩
   clear nh hit cE h_ hsc
   generalize wr.iterAt w.heap.size s (pos+(Utf8.decode s pos).2)=W at *
   generalize ((Utf8.decode s pos).1:Int)=r at *
   generalize (Utf8.decode s pos).2=wid at *
   generalize bM r=sg at *
   by_cases h2:sg = -2
   ·have hR:Hid (res=none):=by show _=_;rw [hS.out,if_pos h2]
    subst h2
    clear hS
    go_wp2_with fail
    refine (whyNoSign_any _ _ _).mono ?_
    rintro e w1 ⟨⟨str,rfl⟩,rfl⟩
    go_wp2_with fail
    go_ret2
    exact ⟨sO.al _,.inr ⟨hR.out,_,rfl⟩⟩
   ·have q1:(sg==-2)=false:=by simp [h2]
    have kS:sg≠-1:=by omega
    by_cases hj:sg=last/\gR sg=true
    ·have hR:Hid (res=cJ s f (pos+wid) sg (growF s pos bp)):=by show _=_;rw [hS.out,if_neg h2,if_pos hj]
     obtain ⟨hl,hjb⟩:=hj
     subst hl
     obtain ⟨ts,t,rfl⟩:∃ ts t,bp=ts++[t]:=⟨bp.dropLast,bp.getLast (hmid.join hjb),(List.dropLast_concat_getLast (hmid.join hjb)).symm⟩
     rw [pT] at hR
     obtain ⟨g,cap,hv,hg1,hg2,cW,hmax⟩:=own_slice gi (by simp)
     subst hv
     simp only [List.length_append,List.length_cons,List.length_nil,Nat.zero_add] at *
     have cp:W.cell? ⟨g,ts.length*3+1,none⟩=some (.int .i64 t.place):=by
      rw [gi.cellAt _ (by omega),jT,List.getElem?_append_right (by rw [ft];omega),ft]
      simp [cq]
     have cw:W.cell? ⟨g,ts.length*3+2,none⟩=some (.string t.word):=by
      rw [gi.cellAt _ (by omega),jT,List.getElem?_append_right (by rw [ft];omega),ft]
      simp [cq]
     have fw:W.frozen? ⟨g,ts.length*3+2,none⟩=false:=gi.frozenAt _
     have htp:=hmid.each t (by simp)
     obtain ⟨_,_,hp0,hp1⟩:=htp
     unfold maxLen at hmax
     go_wp2_with fail
     refine (joins_any _ _).mono ?_
     rintro e w1 ⟨rfl,rfl⟩
     clear hS h2 hsg
     go_wp2_with fail
     have hR':Hid (cJ s f (pos+wid) sg (ts++[⟨t.sign,t.place,s.extract t.place.toNat (pos+1)⟩])=res):=hR.out.symm
     have hit3:(w1.setCell ⟨g,ts.length*3+2,none⟩ (.string (s.extract t.place.toNat (pos+1)))).heap[w.heap.size]? = some (.stringIter s (pos+wid)):=by
      rw [Below.heap_setCell _ _ _ _ (by show w.heap.size≠g;omega)];exact hit2
     refine ⟨⟨pos+wid,f,sg,ts++[⟨t.sign,t.place,s.extract t.place.toNat (pos+1)⟩],hit3,?_,rfl,?_,hR',by omega,hmid.grow (by omega) hs,by omega⟩,?_⟩
     ·have:=(gi.stored (ts.length*3+2) (.string (s.extract t.place.toNat (pos+1)))).1
      rw [jT] at this
      rw [jT]
      rw [List.set_append_right _ _ (by rw [ft];omega),ft] at this
      have e2:ts.length*3+2-ts.length*3=2:=by omega
      rw [e2] at this
      simpa [cq] using this
     ·exact sO.setCell (p:=⟨g,ts.length*3+2,none⟩) (by show w.heap.size<=g;omega) _
     ·rw [iterPos_of hit3,hm.out];omega
    ·have hR:Hid (res=if sg=32 then cJ s f (pos+wid) sg bp else cJ s f (pos+wid) sg (bp++[⟨sg,pos,Utf8.encode r⟩])):=by show _=_;rw [hS.out,if_neg h2,if_neg hj]
     clear hS h2 hsg
     have hj2:(sg==last)=false\/((sg==last)=true/\gR sg=false):=by
      by_cases hl:sg=last
      ·exact .inr ⟨by simp [hl],by cases hb:gR sg with | true=>exact absurd ⟨hl,hb⟩ hj | false=>rfl⟩
      ·exact .inl (by simp [hl])
     clear hj
     obtain ⟨i0,hi,lr,iU,lu⟩:=info_parts infoTok
     by_cases h32:sg=32
     ·have hR2:Hid (cJ s f (pos+wid) 32 bp=res):=by show _=_;rw [hR.out,if_pos h32,h32]
      subst h32
      clear hR
      have hm3:=hmid.blank (p2:=pos+wid) (by omega)
      rcases hj2 with hj2 | ⟨hj2,hj3⟩
      ·go_wp2_with fail
       exact ⟨⟨pos+wid,f,32,bp,hit2,gi,rfl,sO,hR2,by omega,hm3,by omega⟩,by rw [iterPos_of hit2,hm.out];omega⟩
      ·go_wp2_with fail
       refine (joins_any _ _).mono ?_
       rintro e w1 ⟨rfl,rfl⟩
       go_wp2_with fail
       exact ⟨⟨pos+wid,f,32,bp,hit2,gi,rfl,sO,hR2,by omega,hm3,by omega⟩,by rw [iterPos_of hit2,hm.out];omega⟩
     ·have hR2:Hid (cJ s f (pos+wid) sg (bp++[⟨sg,pos,Utf8.encode r⟩])=res):=by show _=_;rw [hR.out,if_neg h32]
      have q3:(sg != 32)=true:=by simp [h32]
      clear hR h32
      rcases hj2 with hj2 | ⟨hj2,hj3⟩
      ·go_wp2_with (at_builtin;refine wpList_append_own _ rfl _ _ 204 rfl (w.heap.size+1) 260 i0 _ 3 32 Tryz.underlying204 hi lr iU lu rfl (by decide) _ _ _ rfl (gi.alloc _) ⟨W.heap.size,0,none⟩ 1 1 (cq ⟨sg,pos,Utf8.encode r⟩) rfl rfl ?c1 ?c2 ?c3 ?c4 ?c5 ?_)
       case c1=>exact kB W ⟨sg,pos,Utf8.encode r⟩ _
       case c2=>exact tok_one _
       case c3=>unfold maxLen;omega
       case c4=>omega
       case c5=>have:=sO.size;have:=aw hit2;simp;omega
       intro v' w2 dm bz _
       go_wp2_with fail
       have hit3:=iter_grown hit2 gi bz
       refine ⟨⟨pos+wid,f,sg,bp++[⟨sg,pos,Utf8.encode r⟩],hit3,?_,rfl,?_,hR2,by omega,hmid.more (by omega) kS,by omega⟩,?_⟩
       ·rw [jT];simpa using dm
       ·exact (sO.al _).grown bz (by have:=sO.size;simp;omega) (fun k hk=>by have:=(gi.lt k hk).1;omega)
       ·rw [iterPos_of hit3,hm.out];omega
      ·go_wp2_with fail
       refine (joins_any _ _).mono ?_
       rintro e w1 ⟨rfl,rfl⟩
       go_wp2_with (at_builtin;refine wpList_append_own _ rfl _ _ 204 rfl (w.heap.size+1) 260 i0 _ 3 32 Tryz.underlying204 hi lr iU lu rfl (by decide) _ _ _ rfl (gi.alloc _) ⟨w1.heap.size,0,none⟩ 1 1 (cq ⟨sg,pos,Utf8.encode r⟩) rfl rfl ?c1 ?c2 ?c3 ?c4 ?c5 ?_)
       case c1=>exact kB w1 ⟨sg,pos,Utf8.encode r⟩ _
       case c2=>exact tok_one _
       case c3=>unfold maxLen;omega
       case c4=>omega
       case c5=>have:=sO.size;have:=aw hit2;simp;omega
       intro v' w2 dm bz _
       go_wp2_with fail
       have hit3:=iter_grown hit2 gi bz
       refine ⟨⟨pos+wid,f,sg,bp++[⟨sg,pos,Utf8.encode r⟩],hit3,?_,rfl,?_,hR2,by omega,hmid.more (by omega) kS,by omega⟩,?_⟩
       ·rw [jT];simpa using dm
       ·exact (sO.al _).grown bz (by have:=sO.size;simp;omega) (fun k hk=>by have:=(gi.lt k hk).1;omega)
       ·rw [iterPos_of hit3,hm.out];omega
  ·have nh:∀ ty,(Instr.next (.pointer (some ⟨w.heap.size,0,none⟩)) true ty).run Tryz.prog wr=_:=fun ty=>Lib.run_next_end_at wr w.heap.size s pos ty hit hp
   have hR:Hid (res=some (bp++[eS s])):=by show _=_;rw [<- hsc.out,mg s b pos last bp hp]
   have hends:=hmid.ends s
   obtain ⟨i0,hi,lr,iU,lu⟩:=info_parts infoTok
   clear hsc
   go_wp2_with (at_builtin;refine wpList_append_own _ rfl _ _ 204 rfl (w.heap.size+1) 260 i0 _ 3 32 Tryz.underlying204 hi lr iU lu rfl (by decide) _ _ _ rfl (cE.alloc _) ⟨wr.heap.size,0,none⟩ 1 1 (cq (eS s)) rfl rfl ?c1 ?c2 ?c3 ?c4 ?c5 ?_)
   case c1=>exact kB wr (eS s) _
   case c2=>exact tok_one _
   case c3=>unfold maxLen;omega
   case c4=>omega
   case c5=>have:=aw hit;simp;omega
   intro v' w2 dm bz _
   go_wp2_with fail
   go_ret2
   have hown3:w2.ownsRow (w.heap.size+1) 260 3 v' (bp++[eS s]).length ((bp++[eS s]).map cq).flatten:=by rw [jT];simpa using dm
   refine ⟨?_,.inl ⟨_,_,hR.out,rfl,toks_of_own hown3 (by simp),hends,by simp;omega⟩⟩
   exact (h_.al _).grown bz (by have:=h_.size;simp;omega) (fun k hk=>by have:=(cE.lt k hk).1;omega)
end Go.Proofs.YtpbbmagjhkakgaaGreatDoor
namespace Go.Proofs.YtpbbmagjhkakgaaGreatDoor.Ev
open Go.RowKit Go.Deep
structure eR (s:ByteArray):Prop where
 low:1<=s.size
 high:s.size<=8
 full:(s.toList==[])=false
 other:(s.toList==[116,114,117,101])=false
 all:∀ pos,pos<s.size->97<=((Utf8.decode s pos).1:Int)/\((Utf8.decode s pos).1:Int)<=122
set_option maxHeartbeats 1000000 in
theorem isName_ok (s:ByteArray) (hs:eR s) (w:World):Calls Tryz.prog 167 #[.string s] w fun e w'=>e=.returned (.bool true)/\Below w.heap.size w w':=by
 obtain ⟨hl,hh,he,ho,nc⟩:=hs
 go_enter Tryz.func167,Tryz.ntmps167
 go_wp2_with fail
 go_loopw [4] (fun _ wr=>∃ pos:Nat,wr.heap[w.heap.size]? = some (.stringIter s pos)/\Below w.heap.size w wr) (fun _ wr=>s.size-wr.iterPos w.heap.size)
 case atStart=>exact ⟨0,World.iter_heap w s 0,(Below.refl _ _).al (.stringIter s 0)⟩
 case round =>
  obtain ⟨pos,hit,h_⟩:=hrel
  by_cases hp:pos<s.size
  ·have nh:∀ ty,(Instr.next (.pointer (some ⟨w.heap.size,0,none⟩)) true ty).run Tryz.prog wr=_:=fun ty=>Lib.run_next_any_at wr w.heap.size s pos ty hit hp
   have hwd:=width_pos s pos hp
   have hit2:=Lib.iterAt_heap wr w.heap.size s pos (pos+(Utf8.decode s pos).2) hit
   have sO:=Lib.below_iterAt h_ (k:=w.heap.size) (Nat.le_refl _) s (pos+(Utf8.decode s pos).2)
   have hm:Hid (wr.iterPos w.heap.size=pos):=iterPos_of hit
   have ha:=nc pos hp
   clear nc
   go_wp2_with fail
   generalize wr.iterAt w.heap.size s (pos+(Utf8.decode s pos).2)=W at *
   go_roundw
   case rel=>exact ⟨_,hit2,sO⟩
   case measure=>rw [hm.out,iterPos_of hit2];omega
  ·have nh:∀ ty,(Instr.next (.pointer (some ⟨w.heap.size,0,none⟩)) true ty).run Tryz.prog wr=_:=fun ty=>Lib.run_next_end_at wr w.heap.size s pos ty hit hp
   go_wp2_with fail
   go_ret
   exact ⟨rfl,h_⟩
def eI (w:World) (ao:Option Addr) (A:List ByteArray):Prop:=A≠[]->∃ b off,ao=some ⟨b,off,none⟩/\b<w.heap.size/\∀ j,j<A.length->w.cell? ⟨b,off+j,none⟩=some (.string (A.getD j ByteArray.empty))
theorem eI.below {w w':World} {ao:Option Addr} {A:List ByteArray} (h:eI w ao A) (hb:Below w.heap.size w w'):eI w' ao A:=fun hne=>by
 obtain ⟨b,off,h1,h2,h3⟩:=h hne
 exact ⟨b,off,h1,Nat.lt_of_lt_of_le h2 hb.size,fun j hj=>by rw [hb.cell (p:=⟨b,off+j,none⟩) h2];exact h3 j hj⟩
theorem uw (w:World) (ao:Option Addr) (A:List ByteArray) (cap n:Nat) (x:ByteArray) (h:eI w ao A) (hn:n<=A.length) (hA:A.length<=1000000):Calls Tryz.prog 168 #[.slice ao n cap,.string x] w fun e w'=>e=.returned (.bool (Lib.containsS (A.take n) x))/\w'=w:=by
 cases n with
 | zero=>exact (Tryz.slices_Contains_string_empty ao cap x w).mono fun e w' ⟨h1,h2⟩=>⟨by rw [h1];rfl,h2⟩
 | succ n =>
  obtain ⟨b,off,rfl,_,hc⟩:=h (by intro e;rw [e] at hn;simp at hn)
  exact Tryz.slices_Contains_string b off (n+1) cap A x w hn (by omega) hc
set_option maxHeartbeats 1000000 in
theorem checkAtoms_ok (ao:Option Addr) (A:List ByteArray) (cap:Nat) (w:World) (h:eI w ao A) (hA:A.length<=10) (cW:A.length<=cap) (hN:∀ j,j<A.length->eR (A.getD j ByteArray.empty)) (hD:∀ j,j<A.length->Lib.containsS (A.take j) (A.getD j ByteArray.empty)=false) :
  Calls Tryz.prog 126 #[.slice ao A.length cap] w fun e w'=>e=.returned .nilIface/\Below w.heap.size w w':=by
 have HA:Hid (∀ w',Below w.heap.size w w'->eI w' ao A):=fun w' hb=>h.below hb
 generalize hlen:A.length=n at *
 clear h
 go_enter Tryz.func126,Tryz.ntmps126
 go_wp2_with fail
 go_loopw [13] (fun iv wr=>∃ i:Nat,iv=.int .i64 i/\i<=n/\Below w.heap.size w wr) (fun iv _=>n-(intOf iv).toNat)
 case atStart=>exact ⟨0,rfl,Nat.zero_le _,Below.refl _ _⟩
 case round =>
  obtain ⟨i,rfl,tP,h_⟩:=hrel
  by_cases hi:i<n
  ·obtain ⟨b,off,rfl,hb,hc⟩:=HA.out wr h_ (by intro e;rw [e] at hlen;simp at hlen;omega)
   have q0:=hc i (by omega)
   have hNi:=hN i hi
   have hDi:=hD i hi
   have HC:=fun w' hb'=>uw w' (some ⟨b,off,none⟩) A cap i (A.getD i ByteArray.empty) (HA.out w' hb') (by omega) (by omega)
   rw [hDi] at HC
   have HC:Hid (∀ w',Below w.heap.size w w'->Calls Tryz.prog 168 #[.slice (some ⟨b,off,none⟩) i cap,.string (A.getD i ByteArray.empty)] w' fun e w''=>e=.returned (.bool false)/\w''=w'):=HC
   clear hc hN hD hDi
   generalize A.getD i ByteArray.empty=x at *
   go_wp2_with fail
   refine (isName_ok x hNi _).mono ?_
   rintro e w1 ⟨rfl,a_⟩
   go_wp2_with fail
   refine (HC.out _ (h_.tr a_)).mono ?_
   rintro e w2 ⟨rfl,rfl⟩
   go_wp2_with fail
   go_roundw
   case rel=>exact ⟨i+1,by go_num,by omega,h_.tr a_⟩
   case measure=>simp only [intOf];omega
  ·obtain rfl:i=n:=by omega
   go_wp2_with fail
   go_ret
   exact ⟨rfl,h_⟩
end Go.Proofs.YtpbbmagjhkakgaaGreatDoor.Ev
