import Derived.Test.YtpbbmagjhkakgaaGreatDoorEaListToSnWorks
import Derived.Test.YtpbbmagjhkakgaaGreatDoorSmNumToSmRec
import Derived.Test.YtpbbmagjhkakgaaGreatDoorEdInvToSmSent
import Derived.Test.YtpbbmagjhkakgaaGreatDoorSnSeen0
import Derived.Test.YtpbbmagjhkakgaaGreatDoorPureEndsToFace2
namespace Go.Proofs.YtpbbmagjhkakgaaGreatDoor
namespace Ev
open Go.RowKit Go.Deep Go.Maps Lf Go.Conc
section
variable {K : Goroutine → World → Prop} {b : Frame} {k : List Item} {cs : List Frame} {A : Act} {w : World} {ops : Array Oper} {i d N : Nat} {rest : List Nat} {v : Value} {l : List (Nat × Value)}
end
theorem iD.move {w w':World} {o:Option Addr} {R:List Int} (h:iD w o R) (hs:au (fun _=>False) w w'):iD w' o R:=fun hne=>by
 obtain ⟨b,off,h1,h2,h3⟩:=h hne
 exact ⟨b,off,h1,Nat.lt_of_lt_of_le h2 hs.size,fun j hj=>by rw [World.cell?_of_block (hs.block b h2 id)];exact h3 j hj⟩
theorem sent_H (R:List Int) (o:Option Addr) (cap d:Nat) (w:World) (hlen:R.length<=4611686018427387904) (hI:∀ r∈R,mj r) (hd:d<=3) (hR:iD w o R) (i:Nat) (hi:i<=5000000000000000000):bZ Tryz.prog 18 #[.slice o R.length cap,.int .i64 (i:Int),.int .i64 (d:Int)] w fun e w'=>(∃ s,e=.returned (.tuple #[.string s,.int .i64 ((ay R d i).next:Int)])/\s.data.toList=(ay R d i).txt)/\au (fun _=>False) w w':=by
 have hp8:2 ^ d<=8:=Nat.pow_le_pow_right (n:=2) (by omega) hd
 refine lift (fun e w' τ d x=>⟨x.1,x.2.aU τ d⟩) (fun w x=>by obtain ⟨s,x,_⟩:=x.1;cases x) fun τ δ=>(sent_any R o cap hlen hI d hd i (re w τ δ) hR (by omega)).mono ?_
 rintro e w' ⟨h1,hb⟩
 exact ⟨h1,hb.os,hb.output,hb.size,fun x hx _=>hb.block x hx⟩
structure pw (s:ByteArray) (x:BT aO):Prop where
 size:s.size<=300
 read:cI s=(some x,0)
 reach:ax x<=1000
 nodes:aV (ak x)<=40
theorem cV.text {len dep s9:Nat} {sS:Int} {l:List UInt8} {x:BT aO} (h:cV len dep s9 sS l x) (h1:len<=300) (h2:dep<=12) (h3:s9<=40) (h4:sS<=1000) {s:ByteArray} (hs:s.data.toList=l):pw s x :=
 ⟨by rw [nM hs];exact Nat.le_trans h.len h1,h.read h1 h2 hs,Int.le_trans h.sS h4,Nat.le_trans h.s9 h3⟩
end Ev
namespace Ev
open Go.RowKit Go.Deep Go.Maps Lf Go.Conc
noncomputable def rP:Code->Nat->Code
 | .seq x _,0=>x
 | .seq _ y,n+1=>rP y n
 | c,_=>c
noncomputable def opsR:Code->Array Oper
 | .region _ o _=>o
 | _=>#[]
theorem Fx.of {N:Nat} {l:List (Nat×Value)} {A:Act} (h1:A.tmps.size=N) (h2:A.defers=[]) (h3:∀ p∈l,A.tmps[p.1]? = some p.2):Fx N l A:=(Fx.mk (l:=[]) h1 h2 (fun _ _ h=>by cases h)).adds h3
section
variable {K : Goroutine → World → Prop} {b : Frame} {k : List Item} {cs : List Frame} {A : Act} {w : World} {ops : Array Oper} {i d N : Nat} {rest : List Nat} {v : Value} {l : List (Nat × Value)}
theorem idxC {x y:Operand} {g off n cp j:Nat} (h:kY ops i d (.indexAddr 34 x y)) (hA:Fx N l A) (hx:evl l x=some (.slice (some ⟨g,off,none⟩) n cp)) (hy:evl l y=some (.int .i64 (j:Int))) (hj:j<n) (hn:n<=9223372036854775807) (hd:d<N) (hi:∀ it∈k,aR it) (hc:∀ fr∈cs,aA fr)
  (hk:∀ A',Fx N ((d,.pointer (some ⟨g,off+j*2,none⟩))::l) A'->af Tryz.prog K (G (b.at A' (.inRegion ops rest::k)) cs) w):af Tryz.prog K (G (b.at A (.inRegion ops (i::rest)::k)) cs) w :=
 af.isVal bk h (fun o ho w=>by
  refine run_eq_of fun K hK=>?_
  have e0:=hA.ev hx
  have e1:=hA.ev hy
  have hn1:=hn
  unfold execOp
  rw [ho]
  simp only [e0,e1]
  go_simp
  exact hK) hi hc (hk _ (hA.put hd _))
theorem fldC {x:Operand} {g off:Nat} (h:kY ops i d (.fieldAddr 45 x 1)) (hA:Fx N l A) (hx:evl l x=some (.pointer (some ⟨g,off,none⟩))) (hd:d<N) (hi:∀ it∈k,aR it) (hc:∀ fr∈cs,aA fr)
  (hk:∀ A',Fx N ((d,.pointer (some ⟨g,off+1,none⟩))::l) A'->af Tryz.prog K (G (b.at A' (.inRegion ops rest::k)) cs) w):af Tryz.prog K (G (b.at A (.inRegion ops (i::rest)::k)) cs) w :=
 af.isVal bk h (fun o ho w=>by
  refine run_eq_of fun K hK=>?_
  have e0:=hA.ev hx
  unfold execOp
  rw [ho]
  simp only [e0]
  go_simp
  exact hK) hi hc (hk _ (hA.put hd _))
theorem loadI {x:Operand} {g j:Nat} {z:Int} (h:kY ops i d (.load 3 x)) (hA:Fx N l A) (hx:evl l x=some (.pointer (some ⟨g,j,none⟩))) (hs:w.cell? ⟨g,j,none⟩=some (.int .i64 z)) (hd:d<N) (hi:∀ it∈k,aR it) (hc:∀ fr∈cs,aA fr)
  (hk:∀ A',Fx N ((d,.int .i64 z)::l) A'->af Tryz.prog K (G (b.at A' (.inRegion ops rest::k)) cs) w):af Tryz.prog K (G (b.at A (.inRegion ops (i::rest)::k)) cs) w:=by
 obtain ⟨o,o1,o2,o3,o4⟩:=h
 refine af.val bk (w':=w) (v:=.int .i64 z) o1 (rG o4) (fun τ d=>run_eq_of ?_) hi hc (by rw [o2];exact hk _ (hA.put hd _))
 intro K hK
 have e0:=hA.ev hx
 have c1:(re w τ d).cell? ⟨g,j,none⟩=some (.int .i64 z):=hs
 unfold execOp
 rw [o3]
 simp only [e0]
 go_simp
 exact hK
end
end Ev
namespace Ev
open Go.RowKit Go.Deep Go.Maps Lf Go.Conc
theorem new_H (n:Int) (w:World) (hn:0<=n/\n<=100000):bZ Tryz.prog 23 #[.int .i64 n,.int .i64 60] w fun e w'=>∃ mb aj,e=.returned (.tuple #[.pointer (some ⟨mb,0,none⟩),.int .i64 0])/\w.heap.size<=mb/\w.heap.size<=aj/\w'.heap[mb]? = some (.cells #[.pointer (some ⟨aj,0,none⟩)] 104 (0,0))/\w'.heap[aj]? = some (.cells #[.int .i64 n,.int .i64 60,.slice none 0 0,.slice none 0 0,.slice none 0 0] 153 (0,0))/\au (fun _=>False) w w':=by
 refine lift ?_ ?_ fun τ d=>(new_ok n 60 (re w τ d) hn (by decide)).mono ?_
 ·rintro e w' τ d ⟨mb,aj,h1,h2,h3,h4,h5,h6⟩
  exact ⟨mb,aj,h1,h2,h3,h4,h5,h6.aU τ d⟩
 ·rintro w' ⟨mb,aj,h1,_⟩
  cases h1
 ·rintro e w' ⟨mb,aj,h1,h2,h3,h4,h5,hb⟩
  exact ⟨mb,aj,h1,h2,h3,h4,h5,hb.os,hb.output,hb.size,fun x hx _=>hb.block x hx⟩
end Ev
end Go.Proofs.YtpbbmagjhkakgaaGreatDoor
