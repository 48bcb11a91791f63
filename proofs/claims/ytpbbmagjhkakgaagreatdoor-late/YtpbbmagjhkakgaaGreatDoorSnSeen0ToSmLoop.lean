import Derived.Test.YtpbbmagjhkakgaaGreatDoorSnSemToPureLoose
import Derived.Test.YtpbbmagjhkakgaaGreatDoorSmSentToSnOps
import Derived.Test.YtpbbmagjhkakgaaGreatDoorEdTake3ToEdWatch
import Derived.Test.YtpbbmagjhkakgaaGreatDoorSnFxToEdTake
namespace Go.Proofs.YtpbbmagjhkakgaaGreatDoor.Ev
open Go.RowKit Go.Deep Go.Maps Go.Proofs.YtpbbmagjhkakgaaGreatDoor.Lf Go.Conc
def bitS (x:Bool):ByteArray:=if x then ⟨#[49]⟩ else ⟨#[48]⟩
theorem bitS_size (x:Bool):(bitS x).size=1:=by cases x<;>rfl
theorem verS_at (x:BT Pay) (L:List (Int×Int)):∀ (n i:Nat),i<n->(verS x L n).extract i (i+1)=bitS (verZ x L i)
 | 0,_,h=>absurd h (Nat.not_lt_zero _)
 | n+1,i,h=>by
  have hs:=verS_size x L n
  have e:verS x L (n+1)=verS x L n++bitS (verZ x L n):=rfl
  rw [e]
  by_cases hi:i<n
  ·rw [<- verS_at x L n i hi]
   apply ByteArray.ext
   simp only [ByteArray.data_extract,ByteArray.data_append]
   rw [Array.extract_append]
   have h1:i+1-(verS x L n).data.size=0:=by have:(verS x L n).data.size=n:=hs;omega
   rw [h1]
   simp
  ·obtain rfl:i=n:=by omega
   apply ByteArray.ext
   simp only [ByteArray.data_extract,ByteArray.data_append]
   have h2:(verS x L i).data.size=i:=hs
   rw [Array.extract_append,h2]
   have h3:(bitS (verZ x L i)).data.size=1:=bitS_size _
   have h4:(verS x L i).data.extract i (i+1)=#[]:=by
    apply Array.eq_empty_of_size_eq_zero
    simp [h2]
   have h5:i+1-i=1:=by omega
   rw [h4,Nat.sub_self,h5]
   simp [h3]
def LawPost (w0:World) (e:Ending) (w':World):Prop:=e=.returned (.bool true)/\SpareR (fun _=>False) w0 w'
theorem LawPost.tapeR {w0:World}:∀ e w τ d,LawPost w0 e w->LawPost w0 e (re w τ d):=fun _ _ τ d h=>⟨h.1,h.2.tapeR τ d⟩
theorem LawPost.out {w0:World}:∀ w,¬ LawPost w0 .outgrown w:=fun _ h=>by cases h.1
theorem glob_spare {w w':World} (hg:Glob w) (hs:SpareR (fun _=>False) w w'):Glob w' :=
 glob_tape (hg.below (⟨hs.os,rfl,hs.output,hs.size,fun k hk=>hs.block k hk id⟩:Below w.heap.size w (re w' w.tape w'.drawn))) w'.tape w'.drawn
theorem pick_H (c n:Int) (w:World) (hc:I64 c) (hn:0<n/\n<=1000000):HCalls Tryz.prog 19 #[.int .i64 c,.int .i64 n] w fun e w'=>e=.returned (.int .i64 (pickZ c n))/\SpareR (fun _=>False) w w':=by
 refine lift (fun e w' τ d x=>⟨x.1,x.2.tapeR τ d⟩) (fun w x=>by cases x.1) fun τ d=>(pick_any c n (re w τ d) hc hn).mono ?_
 rintro e w' ⟨rfl,rfl⟩
 exact ⟨rfl,(SpareR.refl _ w).tapeR τ d⟩
noncomputable def body17:Code:=Tryz.f17.body.getD .skip
noncomputable def rest17:Code:=match body17 with
 | .seq _ (.seq _ x)=>x
 | _=>.skip
noncomputable def one17:Code:=match body17 with
 | .seq _ (.seq x _)=>x
 | _=>.skip
noncomputable def zero17:Code:=match body17 with
 | .seq x _=>x
 | _=>.skip
def L17:List (Int×Int):=[(0,1),(0,2),(0,3)]
theorem ver17:verS (atomT 97) L17 (min L17.length 25)=⟨#[49,48,49]⟩:=by decide +kernel
theorem i64_17:∀ p∈L17,I64 p.1/\I64 p.2:=by
 intro p hp
 simp [L17] at hp
 rcases hp with rfl | rfl | rfl<;>exact ⟨⟨by decide,by decide⟩,by decide,by decide⟩
set_option maxRecDepth 100000 in
set_option maxHeartbeats 4000000 in
theorem works_H (w:World) (hg:Glob w) (hw7:14<=w.heap.size):HCalls Tryz.prog 17 #[] w (LawPost w):=by
 have hP:=plain_prog
 have hi0:∀ it∈([]:List Item),okItem it:=by simp
 have hi1:∀ (c:Code),∀ it∈[Item.code c],okItem it:=fun c=>okItems_cons trivial (by simp)
 have hb:Tryz.f17.body=some body17:=rfl
 have e0:body17=.seq zero17 (.seq one17 rest17):=rfl
 refine HCalls.of_lead Tryz.func17 hb fun cs hcs=>?_
 rw [e0]
 refine LeadsR.seq hP hi0 hcs ?_
 have ea:({ tmps:=#[]++Array.replicate (Tryz.f17.ntmps-(#[]:Array Value).size) undef,defers:=[] }:Act)=⟨#[undef,undef,undef,undef,undef,undef,undef,undef,undef,undef,undef,undef,undef,undef,undef,undef],[]⟩:=rfl
 rw [ea]
 refine LeadsR.piece hP (fun a w'=>a=⟨#[.bool false,undef,undef,undef,undef,undef,undef,undef,undef,undef,undef,undef,undef,undef,undef,undef],[]⟩/\∃ τ d,w'=re w τ d) (fun _ _ τ d x=>⟨x.1,by obtain ⟨τ',d',rfl⟩:=x.2;exact ⟨τ,d,rfl⟩⟩) (hi1 _) hcs (fun τ d=>?_) ?_
 ·simp only [zero17,body17,Tryz.f17,Option.getD_some]
  go_wp2_with fail
  first | exact ⟨τ,d,rfl⟩ | exact ⟨rfl,τ,d,rfl⟩ | exact ⟨rfl,rfl,τ,d,rfl⟩
 rintro a w' ⟨rfl,τ0,d0,rfl⟩
 refine LeadsR.other ?_ τ0 d0
 refine LeadsR.seq hP hi0 hcs ?_
 simp only [one17,body17,Tryz.f17,Option.getD_some]
 refine LeadsR.region hP (hi1 _) hcs ?_
 simp only [List.size_toArray,List.length_cons,List.length_nil,Nat.reduceAdd,Nat.zero_add,List.range,List.range.loop]
 refine LeadsR.val hP (w':=w) (v:=?v0) rfl (by rfl) (fun τ d=>run_eq_of ?r0) (hi1 _) hcs ?_
 case r0=>intro K hK;go_simp;exact hK
 try walk_nrm
 refine LeadsR.val hP (w':=w) (v:=?v1) rfl (by rfl) (fun τ d=>run_eq_of ?r1) (hi1 _) hcs ?_
 case r1=>intro K hK;go_simp;exact hK
 try walk_nrm
 refine LeadsR.val hP (w':=w) (v:=?v2) rfl (by rfl) (fun τ d=>run_eq_of ?r2) (hi1 _) hcs ?_
 case r2=>intro K hK;go_simp;exact hK
 try walk_nrm
 refine LeadsR.val hP (w':=w.alloc (.cells #[.int .i64 0,.int .i64 1,.int .i64 0,.int .i64 2,.int .i64 0,.int .i64 3] 45)) (v:=.slice (some ⟨w.heap.size,0,none⟩) 3 3) rfl (by rfl) (fun τ d=>run_eq_of ?r3) (hi1 _) hcs ?_
 case r3=>intro K hK;go_simp;exact hK
 try walk_nrm
 generalize hW:w.alloc (.cells #[.int .i64 0,.int .i64 1,.int .i64 0,.int .i64 2,.int .i64 0,.int .i64 3] 45)=W
 have hs1:SpareR (fun _=>False) w W:=by rw [<- hW];exact SpareR.of_below ((Below.refl _ w).al _)
 have hsz:W.heap.size=w.heap.size+1:=by rw [<- hW];simp
 have hC:ComesAt W (some ⟨w.heap.size,0,none⟩) L17:=fun _=>⟨w.heap.size,0,rfl,by omega,fun j hj=>by
  have:j=0\/j=1\/j=2:=by have:L17.length=3:=rfl;omega
  rw [<- hW]
  rcases this with rfl | rfl | rfl<;>exact ⟨(World.cell?_alloc_at _ _ _ _ rfl).trans rfl,(World.cell?_alloc_at _ _ _ _ rfl).trans rfl⟩⟩
 have hwt:=watched_any ⟨#[97]⟩ (atomT 97) L17 5 (some ⟨w.heap.size,0,none⟩) 3 W (glob_spare hg hs1) (by omega) (by decide) read_atom (by decide) (few_nodes (Nat.le_trans nodes_atom (by decide))) (Nat.le_trans nodes_atom (by decide)) (by decide) (by decide) i64_17 hC
 refine watch_tail (X:=atomT 97) (L:=L17) ⟨_,rfl,rfl,rfl,rfl⟩ ⟨_,rfl,rfl,rfl,rfl⟩ ⟨_,rfl,rfl,rfl,rfl⟩ ⟨_,rfl,rfl,rfl,rfl⟩ ⟨_,rfl,rfl,rfl,rfl⟩ ⟨_,rfl,rfl,rfl,rfl⟩ (by simp) (by decide) rfl rfl rfl (hi1 _) hcs hwt ?_
 intro A' w2 hz hd hA hB _ hs2
 rw [ver17] at hA
 have hz:A'.tmps.size=16:=hz
 have hd:A'.defers=[]:=hd
 refine LeadsR.last hP hcs Tryz.func17 LawPost.tapeR LawPost.out fun τ d=>?_
 have hfin:LawPost w (.returned (.bool true)) (re w2 τ d):=⟨rfl,(hs1.trans hs2).tapeR τ d⟩
 have hfin:Hid _:=hfin
 obtain ⟨t,d⟩:=A'
 simp only at hz hd hA hB
 subst hd
 have e:=arr_get t 16 hz
 have k1:t.getD 1 undef=.string ⟨#[49,48,49]⟩:=by rw [Array.getD_eq_getD_getElem?,hA];rfl
 have k2:t.getD 2 undef=.bool true:=by rw [Array.getD_eq_getD_getElem?,hB];rfl
 simp only [List.range,List.range.loop,List.map_cons,List.map_nil,k1,k2] at e
 rw [e]
 clear e k1 k2 hA hB hz hs1 hs2 hC hwt hsz
 generalize hQ:bodyPost Tryz.prog Tryz.f17 (LawPost w)=Q
 simp only [rest17,body17,Tryz.f17,Option.getD_some]
 go_wp2_with fail
 rw [<- hQ]
 go_ret
 exact ⟨rfl,hfin.out.2⟩
section
variable {K : Goroutine → World → Prop} {b : Frame} {k : List Item} {cs : List Frame} {A : Act} {w : World} {ops : Array Oper} {i d N : Nat} {rest : List Nat} {v : Value} {l : List (Nat × Value)}
end
theorem RawAt.move {w w':World} {o:Option Addr} {R:List Int} (h:RawAt w o R) (hs:SpareR (fun _=>False) w w'):RawAt w' o R:=fun hne=>by
 obtain ⟨b,off,h1,h2,h3⟩:=h hne
 exact ⟨b,off,h1,Nat.lt_of_lt_of_le h2 hs.size,fun j hj=>by rw [World.cell?_of_block (hs.block b h2 id)];exact h3 j hj⟩
theorem sent_H (R:List Int) (o:Option Addr) (cap d:Nat) (w:World) (hlen:R.length<=4611686018427387904) (hI:∀ r∈R,I64 r) (hd:d<=3) (hR:RawAt w o R) (i:Nat) (hi:i<=5000000000000000000):HCalls Tryz.prog 18 #[.slice o R.length cap,.int .i64 (i:Int),.int .i64 (d:Int)] w fun e w'=>(∃ s,e=.returned (.tuple #[.string s,.int .i64 ((sentF R d i).next:Int)])/\s.data.toList=(sentF R d i).txt)/\SpareR (fun _=>False) w w':=by
 have hp8:2 ^ d<=8:=Nat.pow_le_pow_right (n:=2) (by omega) hd
 refine lift (fun e w' τ d x=>⟨x.1,x.2.tapeR τ d⟩) (fun w x=>by obtain ⟨s,x,_⟩:=x.1;cases x) fun τ δ=>(sent_any R o cap hlen hI d hd i (re w τ δ) hR (by omega)).mono ?_
 rintro e w' ⟨h1,hb⟩
 exact ⟨h1,hb.os,hb.output,hb.size,fun x hx _=>hb.block x hx⟩
structure TextOK (s:ByteArray) (x:BT Pay):Prop where
 size:s.size<=300
 read:readF s=(some x,0)
 reach:reachT x<=1000
 nodes:nodesT (coreT x)<=40
theorem MadeOK.text {len dep nod:Nat} {rea:Int} {l:List UInt8} {x:BT Pay} (h:MadeOK len dep nod rea l x) (h1:len<=300) (h2:dep<=12) (h3:nod<=40) (h4:rea<=1000) {s:ByteArray} (hs:s.data.toList=l):TextOK s x :=
 ⟨by rw [str_len hs];exact Nat.le_trans h.len h1,h.read h1 h2 hs,Int.le_trans h.rea h4,Nat.le_trans h.nod h3⟩
theorem TextOK.watched {s:ByteArray} {x:BT Pay} (h:TextOK s x) (L:List (Int×Int)) (eo:Option Addr) (cap:Nat) (w:World) (hg:Glob w) (hw7:14<=w.heap.size) (hLm:L.length<=9223372036854775807) (hL:∀ p∈L,I64 p.1/\I64 p.2) (hC:ComesAt w eo L):HCalls Tryz.prog 21 #[.string s,.int .i64 1000,.slice eo L.length cap] w (WatchedPost x L w) :=
 watched_any s x L 1000 eo cap w hg hw7 (Nat.le_trans h.size (by decide)) h.read h.reach (few_nodes h.nodes) (Nat.le_trans h.nodes (by decide)) (by decide) hLm hL hC
end Go.Proofs.YtpbbmagjhkakgaaGreatDoor.Ev
namespace Go.Proofs.YtpbbmagjhkakgaaGreatDoor.Ev
open Go.RowKit Go.Deep Go.Maps Go.Proofs.YtpbbmagjhkakgaaGreatDoor.Lf Go.Conc
noncomputable def seqC:Code->Nat->Code
 | .seq x _,0=>x
 | .seq _ y,n+1=>seqC y n
 | c,_=>c
noncomputable def opsR:Code->Array Oper
 | .region _ o _=>o
 | _=>#[]
theorem Fx.of {N:Nat} {l:List (Nat×Value)} {A:Act} (h1:A.tmps.size=N) (h2:A.defers=[]) (h3:∀ p∈l,A.tmps[p.1]? = some p.2):Fx N l A:=(Fx.mk (l:=[]) h1 h2 (fun _ _ h=>by cases h)).adds h3
end Go.Proofs.YtpbbmagjhkakgaaGreatDoor.Ev
