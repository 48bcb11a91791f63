import Derived.Test.YtpbbmagjhkakgaaGreatDoorSnSemToSnOps
import Derived.Test.YtpbbmagjhkakgaaGreatDoorSnWatchToEaStep
import Derived.Test.YtpbbmagjhkakgaaGreatDoorEdInvToSnRound
import Derived.Test.YtpbbmagjhkakgaaGreatDoorSnFxToSmRec
namespace Go.Proofs.YtpbbmagjhkakgaaGreatDoor
namespace Ev
open Go.RowKit Go.Deep Go.Maps Lf Go.Conc
theorem mM {w w':World} (hg:eF w) (hs:au (fun _=>False) w w'):eF w' :=
 glob_tape (hg.below (⟨hs.os,rfl,hs.output,hs.size,fun k hk=>hs.block k hk id⟩:Below w.heap.size w (re w' w.tape w'.drawn))) w'.tape w'.drawn
noncomputable def qP:Code:=Tryz.f17.body.getD .skip
noncomputable def rest17:Code:=match qP with
 | .seq _ (.seq _ x)=>x
 | _=>.skip
noncomputable def one17:Code:=match qP with
 | .seq _ (.seq x _)=>x
 | _=>.skip
noncomputable def zero17:Code:=match qP with
 | .seq x _=>x
 | _=>.skip
def L17:List (Int×Int):=[(0,1),(0,2),(0,3)]
theorem ver17:eL (atomT 97) L17 (min L17.length 25)=⟨#[49,48,49]⟩:=by decide +kernel
theorem i64_17:∀ p∈L17,mj p.1/\mj p.2:=by
 intro p hp
 simp [L17] at hp
 rcases hp with rfl | rfl | rfl<;>exact ⟨⟨by decide,by decide⟩,by decide,by decide⟩
section
variable {K : Goroutine → World → Prop} {b : Frame} {k : List Item} {cs : List Frame} {A : Act} {w : World} {ops : Array Oper} {i d N : Nat} {rest : List Nat} {v : Value} {l : List (Nat × Value)}
end
theorem iD.move {w w':World} {o:Option Addr} {R:List Int} (h:iD w o R) (hs:au (fun _=>False) w w'):iD w' o R:=fun hne=>by
 obtain ⟨b,off,h1,h2,h3⟩:=h hne
 exact ⟨b,off,h1,Nat.lt_of_lt_of_le h2 hs.size,fun j hj=>by rw [World.cell?_of_block (hs.block b h2 id)];exact h3 j hj⟩
theorem sent_H (R:List Int) (o:Option Addr) (cap d:Nat) (w:World) (hlen:R.length<=4611686018427387904) (hI:∀ r∈R,mj r) (hd:d<=3) (hR:iD w o R) (i:Nat) (hi:i<=5000000000000000000):bZ Tryz.prog 18 #[.slice o R.length cap,.int .i64 (i:Int),.int .i64 (d:Int)] w fun e w'=>(∃ s,e=.returned (.tuple #[.string s,.int .i64 ((ay R d i).next:Int)])/\s.data.toList=(ay R d i).txt)/\au (fun _=>False) w w':=by
 have hp8:2 ^ d<=8:=Nat.pow_le_pow_right (n:=2) (by omega) hd
 refine lift (fun e w' τ d x=>⟨x.1,x.2.aU τ d⟩) (fun w x=>by obtain ⟨s,x,_⟩:=x.1;cases x) fun τ δ=>(sent_any R o cap hlen hI d hd i (re w τ δ) hR (by omega)).mono ?_
 rintro e w' ⟨h1,hb⟩
 exact ⟨h1,hb.os,hb.output,hb.size,fun x hx _=>hb.block x hx⟩
structure pw (s:ByteArray) (x:BT aO):Prop where
 size:s.size<=300
 read:cI s=(some x,0)
 reach:ax x<=1000
 nodes:aV (ak x)<=40
theorem cV.text {len dep s9:Nat} {sS:Int} {l:List UInt8} {x:BT aO} (h:cV len dep s9 sS l x) (h1:len<=300) (h2:dep<=12) (h3:s9<=40) (h4:sS<=1000) {s:ByteArray} (hs:s.data.toList=l):pw s x :=
 ⟨by rw [nM hs];exact Nat.le_trans h.len h1,h.read h1 h2 hs,Int.le_trans h.sS h4,Nat.le_trans h.s9 h3⟩
end Ev
namespace Ev
open Go.RowKit Go.Deep Go.Maps Lf Go.Conc
noncomputable def rP:Code->Nat->Code
 | .seq x _,0=>x
 | .seq _ y,n+1=>rP y n
 | c,_=>c
noncomputable def opsR:Code->Array Oper
 | .region _ o _=>o
 | _=>#[]
theorem Fx.of {N:Nat} {l:List (Nat×Value)} {A:Act} (h1:A.tmps.size=N) (h2:A.defers=[]) (h3:∀ p∈l,A.tmps[p.1]? = some p.2):Fx N l A:=(Fx.mk (l:=[]) h1 h2 (fun _ _ h=>by cases h)).adds h3
section
variable {K : Goroutine → World → Prop} {b : Frame} {k : List Item} {cs : List Frame} {A : Act} {w : World} {ops : Array Oper} {i d N : Nat} {rest : List Nat} {v : Value} {l : List (Nat × Value)}
theorem idxC {x y:Operand} {g off n cp j:Nat} (h:kY ops i d (.indexAddr 34 x y)) (hA:Fx N l A) (hx:evl l x=some (.slice (some ⟨g,off,none⟩) n cp)) (hy:evl l y=some (.int .i64 (j:Int))) (hj:j<n) (hn:n<=9223372036854775807) (hd:d<N) (hi:∀ it∈k,aR it) (hc:∀ fr∈cs,aA fr)
  (hk:∀ A',Fx N ((d,.pointer (some ⟨g,off+j*2,none⟩))::l) A'->af Tryz.prog K (G (b.at A' (.inRegion ops rest::k)) cs) w):af Tryz.prog K (G (b.at A (.inRegion ops (i::rest)::k)) cs) w :=
 af.isVal bk h (fun o ho w=>by
  refine run_eq_of fun K hK=>?_
  have e0:=hA.ev hx
  have e1:=hA.ev hy
  have hn1:=hn
  unfold execOp
  rw [ho]
  simp only [e0,e1]
  go_simp
  exact hK) hi hc (hk _ (hA.put hd _))
theorem fldC {x:Operand} {g off:Nat} (h:kY ops i d (.fieldAddr 45 x 1)) (hA:Fx N l A) (hx:evl l x=some (.pointer (some ⟨g,off,none⟩))) (hd:d<N) (hi:∀ it∈k,aR it) (hc:∀ fr∈cs,aA fr)
  (hk:∀ A',Fx N ((d,.pointer (some ⟨g,off+1,none⟩))::l) A'->af Tryz.prog K (G (b.at A' (.inRegion ops rest::k)) cs) w):af Tryz.prog K (G (b.at A (.inRegion ops (i::rest)::k)) cs) w :=
 af.isVal bk h (fun o ho w=>by
  refine run_eq_of fun K hK=>?_
  have e0:=hA.ev hx
  unfold execOp
  rw [ho]
  simp only [e0]
  go_simp
  exact hK) hi hc (hk _ (hA.put hd _))
theorem loadI {x:Operand} {g j:Nat} {z:Int} (h:kY ops i d (.load 3 x)) (hA:Fx N l A) (hx:evl l x=some (.pointer (some ⟨g,j,none⟩))) (hs:w.cell? ⟨g,j,none⟩=some (.int .i64 z)) (hd:d<N) (hi:∀ it∈k,aR it) (hc:∀ fr∈cs,aA fr)
  (hk:∀ A',Fx N ((d,.int .i64 z)::l) A'->af Tryz.prog K (G (b.at A' (.inRegion ops rest::k)) cs) w):af Tryz.prog K (G (b.at A (.inRegion ops (i::rest)::k)) cs) w:=by
 obtain ⟨o,o1,o2,o3,o4⟩:=h
 refine af.val bk (w':=w) (v:=.int .i64 z) o1 (rG o4) (fun τ d=>run_eq_of ?_) hi hc (by rw [o2];exact hk _ (hA.put hd _))
 intro K hK
 have e0:=hA.ev hx
 have c1:(re w τ d).cell? ⟨g,j,none⟩=some (.int .i64 z):=hs
 unfold execOp
 rw [o3]
 simp only [e0]
 go_simp
 exact hK
end
end Ev
namespace Ev
open Go.RowKit Go.Deep Go.Maps Lf Go.Conc
theorem p9 {A:Act} {l:List (Nat×Value)} (h:Fx 113 l A):∃ u:Nat->Value,(∀ j v,look l j=some v->u j=v)/\A=⟨#[u 0,u 1,u 2,u 3,u 4,u 5,u 6,u 7,u 8,u 9,u 10,u 11,u 12,u 13,u 14,u 15,u 16,u 17,u 18,u 19,u 20,u 21,u 22,u 23,u 24,u 25,u 26,u 27,u 28,u 29,u 30,u 31,u 32,u 33,u 34,u 35,u 36,u 37,u 38,u 39,u 40,u 41,u 42,u 43,u 44,u 45,u 46,u 47,u 48,u 49,u 50,u 51,u 52,u 53,u 54,u 55,u 56,u 57,u 58,u 59,u 60,u 61,u 62,u 63,u 64,u 65,u 66,u 67,u 68,u 69,u 70,u 71,u 72,u 73,u 74,u 75,u 76,u 77,u 78,u 79,u 80,u 81,u 82,u 83,u 84,u 85,u 86,u 87,u 88,u 89,u 90,u 91,u 92,u 93,u 94,u 95,u 96,u 97,u 98,u 99,u 100,u 101,u 102,u 103,u 104,u 105,u 106,u 107,u 108,u 109,u 110,u 111,u 112],[]⟩:=by
 obtain ⟨oK,hd,hg⟩:=h
 refine ⟨fun j=>A.tmps.getD j undef,fun j v h=>by show A.tmps.getD j undef=v;rw [Array.getD_eq_getD_getElem?,hg j v h];rfl,?_⟩
 have e:=arr_get A.tmps 113 oK
 obtain ⟨t,d⟩:=A
 simp only at *
 subst hd
 rw [Act.mk.injEq]
 exact ⟨e.trans rfl,rfl⟩
section
variable (eo : Option Addr) (ln cap mb : Nat) (now : Int)
def F21 (i:Int):List (Nat×Value):=[(2,.slice eo ln cap),(8,.pointer (some ⟨mb,0,none⟩)),(12,.bool true),(13,.int .i64 now),(14,.int .i64 i)]
variable (A : Act) (w : World) (Q : Act → World → Prop) (i : Nat)
set_option maxRecDepth 100000
set_option maxHeartbeats 4000000
theorem head21_A (_:ln<=9223372036854775807) (h1:i<25) (h2:i<ln) (hA:Fx 113 (F21 eo ln cap mb now i) A) (hQ:∀ A',Fx 113 (F21 eo ln cap mb now i) A'->Q A' w):head21.wp Tryz.prog (fun e A' w'=>e=.normal/\Q A' w') A w:=by
 replace hQ:Hid _:=hQ
 obtain ⟨u,hu,rfl⟩:=p9 hA
 simp only [hu 2 _ rfl,hu 8 _ rfl,hu 12 _ rfl,hu 13 _ rfl,hu 14 _ rfl]
 clear hu hA
 simp only [head21,jV,iZ,Tryz.f21,Option.getD_some]
 go_wp2_with fail
 first | refine hQ.out _ (Fx.of rfl rfl ?_) | refine ⟨rfl,hQ.out _ (Fx.of rfl rfl ?_)⟩
 simp only [F21,List.forall_mem_cons,List.not_mem_nil,false_implies,implies_true,and_true]
 exact ⟨rfl,rfl,rfl,rfl,rfl⟩
theorem end21_A (h1:i<=25) (h2:i<=ln) (h3:i=25\/i=ln) (hA:Fx 113 (F21 eo ln cap mb now i) A) (hQ:∀ A',Fx 113 (F21 eo ln cap mb now i) A'->Q A' w):head21.wp Tryz.prog (fun e A' w'=>e=.exit 0/\Q A' w') A w:=by
 replace hQ:Hid _:=hQ
 obtain ⟨u,hu,rfl⟩:=p9 hA
 simp only [hu 2 _ rfl,hu 8 _ rfl,hu 12 _ rfl,hu 13 _ rfl,hu 14 _ rfl]
 clear hu hA
 simp only [head21,jV,iZ,Tryz.f21,Option.getD_some]
 by_cases cz:i<ln
 ·obtain rfl:i=25:=by omega
  go_wp2_with fail
  first | refine hQ.out _ (Fx.of rfl rfl ?_) | refine ⟨rfl,hQ.out _ (Fx.of rfl rfl ?_)⟩
  simp only [F21,List.forall_mem_cons,List.not_mem_nil,false_implies,implies_true,and_true]
  exact ⟨rfl,rfl,rfl,rfl,rfl⟩
 ·obtain rfl:i=ln:=by omega
  go_wp2_with fail
  first | refine hQ.out _ (Fx.of rfl rfl ?_) | refine ⟨rfl,hQ.out _ (Fx.of rfl rfl ?_)⟩
  simp only [F21,List.forall_mem_cons,List.not_mem_nil,false_implies,implies_true,and_true]
  exact ⟨rfl,rfl,rfl,rfl,rfl⟩
theorem ok21_A (hA:Fx 113 ((15,.int .i64 0)::F21 eo ln cap mb now i) A) (hQ:∀ A',Fx 113 (F21 eo ln cap mb now i) A'->Q A' w):ok21.wp Tryz.prog (fun e A' w'=>e=.normal/\Q A' w') A w:=by
 replace hQ:Hid _:=hQ
 obtain ⟨u,hu,rfl⟩:=p9 hA
 simp only [hu 2 _ rfl,hu 8 _ rfl,hu 12 _ rfl,hu 13 _ rfl,hu 14 _ rfl,hu 15 _ rfl]
 clear hu hA
 simp only [ok21,jV,iZ,Tryz.f21,Option.getD_some]
 go_wp2_with fail
 first | refine hQ.out _ (Fx.of rfl rfl ?_) | refine ⟨rfl,hQ.out _ (Fx.of rfl rfl ?_)⟩
 simp only [F21,List.forall_mem_cons,List.not_mem_nil,false_implies,implies_true,and_true]
 exact ⟨rfl,rfl,rfl,rfl,rfl⟩
theorem next21_A (h1:i<25) (hA:Fx 113 (F21 eo ln cap mb now i) A) (hQ:∀ A',Fx 113 (F21 eo ln cap mb now ((i+1:Nat):Int)) A'->Q A' w):next21.wp Tryz.prog (fun e A' w'=>e=.normal/\Q A' w') A w:=by
 replace hQ:Hid _:=hQ
 obtain ⟨u,hu,rfl⟩:=p9 hA
 simp only [hu 2 _ rfl,hu 8 _ rfl,hu 12 _ rfl,hu 13 _ rfl,hu 14 _ rfl]
 clear hu hA
 simp only [next21,jV,iZ,Tryz.f21,Option.getD_some]
 go_wp2_with fail
 first | refine hQ.out _ (Fx.of rfl rfl ?_) | refine ⟨rfl,hQ.out _ (Fx.of rfl rfl ?_)⟩
 simp only [F21,List.forall_mem_cons,List.not_mem_nil,false_implies,implies_true,and_true]
 exact ⟨rfl,rfl,rfl,rfl,rfl⟩
theorem zero21_A (hA:Fx 113 [(2,.slice eo ln cap),(8,.pointer (some ⟨mb,0,none⟩)),(12,.bool true),(13,.int .i64 0)] A) (hQ:∀ A',Fx 113 (F21 eo ln cap mb 0 0) A'->Q A' w):zero21.wp Tryz.prog (fun e A' w'=>e=.normal/\Q A' w') A w:=by
 replace hQ:Hid _:=hQ
 obtain ⟨u,hu,rfl⟩:=p9 hA
 simp only [hu 2 _ rfl,hu 8 _ rfl,hu 12 _ rfl,hu 13 _ rfl]
 clear hu hA
 simp only [zero21,iZ,Tryz.f21,Option.getD_some]
 go_wp2_with fail
 first | refine hQ.out _ (Fx.of rfl rfl ?_) | refine ⟨rfl,hQ.out _ (Fx.of rfl rfl ?_)⟩
 simp only [F21,List.forall_mem_cons,List.not_mem_nil,false_implies,implies_true,and_true]
 exact ⟨rfl,rfl,rfl,rfl,rfl⟩
theorem later21_A (L:List (Int×Int)) (_:L.length<=9223372036854775807) (hL:∀ p∈L,mj p.1/\mj p.2) (hC:gJ w eo L) (h1:i<25) (h2:i<L.length) (hA:Fx 113 (F21 eo L.length cap mb (aW L i) i) A) (hQ:∀ A',Fx 113 (F21 eo L.length cap mb (aW L (i+1)) i) A'->Q A' w):later21.wp Tryz.prog (fun e A' w'=>e=.normal/\Q A' w') A w:=by
 obtain ⟨b,off,rfl,hbl,pV⟩:=hC (by intro e;rw [e] at h2;simp at h2)
 have c1:=(pV i h2).1
 have sP:L.getD i (0,0)∈L:=by rw [List.getD_eq_getElem?_getD,List.getElem?_eq_getElem h2];exact List.getElem_mem h2
 have cz:=later_any (L.getD i (0,0)).1 w (hL _ sP).1
 have hTr:=nN L i
 have hlr:=pY (L.getD i (0,0)).1
 rw [show aW L (i+1)=aW L i+ob (L.getD i (0,0)).1 from rfl] at hQ
 clear pV hC hL sP
 obtain ⟨u,hu,rfl⟩:=p9 hA
 simp only [hu 2 _ rfl,hu 8 _ rfl,hu 12 _ rfl,hu 13 _ rfl,hu 14 _ rfl]
 clear hu hA
 simp only [later21,jV,iZ,Tryz.f21,Option.getD_some]
 generalize (L.getD i (0,0)).1=lc at *
 generalize ob lc=lz at *
 generalize aW L i=tz at *
 generalize L.length=ln at *
 replace hQ:Hid _:=hQ
 go_wp2_with fail
 refine cz.mono ?_
 rintro e w2 ⟨rfl,tR⟩
 obtain rfl:=tR.symm
 go_wp2_with fail
 first | refine hQ.out _ (Fx.of rfl rfl ?_) | refine ⟨rfl,hQ.out _ (Fx.of rfl rfl ?_)⟩
 simp only [F21,List.forall_mem_cons,List.not_mem_nil,false_implies,implies_true,and_true]
 exact ⟨rfl,rfl,rfl,rfl,rfl⟩
end
theorem vers_row {w:World} {B n:Nat} {x:BT aO} {L:List (Int×Int)} {v:Value} (h:w.ownsRow B 59 4 v n (nO x L n)):∃ o c,v=.slice o n c/\∀ j,j<n->∃ g,o=some ⟨g,0,none⟩/\w.cell? ⟨g,j*4,none⟩=some (.int .i64 ((j:Int)+1))/\w.cell? ⟨g,j*4+2,none⟩=some (.int .i64 1)/\w.cell? ⟨g,j*4+3,none⟩=some (.bool (verZ x L j)):=by
 have h0:=h
 obtain ⟨e1,⟨rfl,e2⟩ | ⟨g,c,cur,rfl,_⟩⟩:=h
 ·subst e2
  exact ⟨none,0,rfl,fun j hj=>absurd hj (Nat.not_lt_zero _)⟩
 ·refine ⟨_,c,rfl,fun j hj=>?_⟩
  obtain ⟨y0,y2,y3⟩:=versL_get x L n j hj
  exact ⟨g,rfl,gH h0 rfl y0,gH h0 rfl y2,gH h0 rfl y3⟩
def S21 (R:Int) (x:BT aO) (L:List (Int×Int)) (eo:Option Addr) (cap mb aj:Nat) (w0:World) (now:Int) (iv i:Nat) (A:Act) (w:World):Prop:=Fx 113 (F21 eo L.length cap mb now iv) A/\(∃ m,dM R x L w0.heap.size mb aj i 1 m w)/\au (fun _=>False) w0 w
section
variable {R : Int} {x : BT aO} {L : List (Int × Int)} {eo : Option Addr} {cap mb aj : Nat} {w0 : World} {A : Act} {w : World} {now : Int} {iv i : Nat}
theorem S21.aU (h:S21 R x L eo cap mb aj w0 now iv i A w) (τ:Tape) (d:Nat):S21 R x L eo cap mb aj w0 now iv i A (re w τ d):=by
 obtain ⟨h1,⟨m,h2⟩,h3⟩:=h
 exact ⟨h1,⟨m,h2.aU τ d⟩,h3.aU τ d⟩
noncomputable def ope21:Array Oper:=match event21 with
 | .region _ x _=>x
 | _=>#[]
theorem re21:∃ n,event21=.region n ope21 false:=⟨_,rfl⟩
theorem ze21:ope21.size=10:=rfl
set_option maxRecDepth 100000 in
theorem ev21_A (hLm:L.length<=9223372036854775807) (hL:∀ p∈L,mj p.1/\mj p.2) (hC:gJ w0 eo L) (h1:i<25) (h2:i<L.length) (gG:ax (ak x)<=R) (h:S21 R x L eo cap mb aj w0 (aW L (i+1)) i i A w) :
  e_ Tryz.prog event21 (fun e A' w'=>e=.normal/\Fx 113 ((15,.int .i64 0)::F21 eo L.length cap mb (aW L (i+1)) i) A'/\(∃ m,dM R x L w0.heap.size mb aj (i+1) 1 m w')/\au (fun _=>False) w0 w') A w:=by
 have hP:=bk
 obtain ⟨hA,⟨m,h⟩,hs0⟩:=h
 obtain ⟨bb,off,rfl,hbl,pV⟩:=hC.move hs0 (by intro e;rw [e] at h2;simp at h2)
 have sP:L.getD i (0,0)∈L:=by rw [List.getD_eq_getElem?_getD,List.getElem?_eq_getElem h2];exact List.getElem_mem h2
 unfold F21 at hA
 refine e_.nJ fun b k cs ix bn=>?_
 obtain ⟨n,e0⟩:=re21
 rw [e0]
 refine af.region hP ix bn ?_
 rw [ze21]
 simp only [List.range,List.range.loop]
 refine mvF ⟨_,rfl,rfl,rfl,rfl⟩ hA rfl (by decide) ix bn fun A hA=>?_
 refine mvF ⟨_,rfl,rfl,rfl,rfl⟩ hA rfl (by decide) ix bn fun A hA=>?_
 refine mvF ⟨_,rfl,rfl,rfl,rfl⟩ hA rfl (by decide) ix bn fun A hA=>?_
 refine mvF ⟨_,rfl,rfl,rfl,rfl⟩ hA rfl (by decide) ix bn fun A hA=>?_
 refine idxC ⟨_,rfl,rfl,rfl,rfl⟩ hA rfl rfl h2 hLm (by decide) ix bn fun A hA=>?_
 refine fldC ⟨_,rfl,rfl,rfl,rfl⟩ hA rfl (by decide) ix bn fun A hA=>?_
 refine loadI ⟨_,rfl,rfl,rfl,rfl⟩ hA rfl (pV i h2).2 (by decide) ix bn fun A hA=>?_
 refine qQ ⟨_,rfl,rfl,rfl,rfl⟩ Tryz.func25 (by decide) rfl hA rfl (by decide) ix bn (atoms_H _ w (hL _ sP).2) (fun e w' x=>by obtain ⟨ao,cp,x1,_⟩:=x;exact ⟨_,x1⟩) ?_
 rintro v1 w1 A ⟨ao,acap,hv,hcp,df,kS⟩ hA
 cases hv
 refine qQ ⟨_,rfl,rfl,rfl,rfl⟩ Tryz.func24 (by decide) rfl hA rfl (by decide) ix bn ((h.move kS).event gG h1 ao acap df hcp) (fun e w' x=>⟨_,x.1⟩) ?_
 rintro v2 w2 A ⟨hv,hI,oJ⟩ hA
 cases hv
 refine asgF ⟨_,rfl,rfl,rfl,rfl⟩ hA rfl (by decide) ix bn fun A hA=>?_
 refine af.nil hP ix bn (af.here fun τ d=>⟨A,⟨hA.less ?_,⟨m,hI.aU τ d⟩,(iM (hs0.trans kS) oJ).aU τ d⟩,rfl⟩)
 simp only [F21,List.forall_mem_cons,List.not_mem_nil,false_implies,implies_true,and_true]
 exact ⟨rfl,rfl,rfl,rfl,rfl,rfl⟩
theorem round21_A (hLm:L.length<=9223372036854775807) (hL:∀ p∈L,mj p.1/\mj p.2) (hC:gJ w0 eo L) (gG:ax (ak x)<=R) (h:S21 R x L eo cap mb aj w0 (aW L i) i i A w) (h1:i<=25) (h2:i<=L.length) :
  e_ Tryz.prog jV (fun e A' w'=>(e=.normal/\i<25/\i<L.length/\S21 R x L eo cap mb aj w0 (aW L (i+1)) (i+1) (i+1) A' w')\/(e=.exit 0/\(i=25\/i=L.length)/\S21 R x L eo cap mb aj w0 (aW L i) i i A' w')) A w:=by
 have hP:=bk
 have e0:jV=.seq head21 (.seq (.block 1 (.seq later21 (.seq event21 ok21))) next21):=rfl
 rw [e0]
 by_cases tP:i<25/\i<L.length
 ·obtain ⟨h3,h4⟩:=tP
  refine e_.seqL hP (S21 R x L eo cap mb aj w0 (aW L i) i i) (fun _ _ τ d x=>x.aU τ d) (fun τ d=>head21_A eo L.length cap mb _ A _ _ i hLm h3 h4 h.1 fun A' sN=>⟨sN,(h.aU τ d).2⟩) fun A w h=>?_
  refine e_.seqH hP (S21 R x L eo cap mb aj w0 (aW L (i+1)) i (i+1)) (e_.blockN hP (fun _ _ τ d x=>x.aU τ d) ?_) fun A w h=>?_
  ·refine e_.seqL hP (S21 R x L eo cap mb aj w0 (aW L (i+1)) i i) (fun _ _ τ d x=>x.aU τ d) (fun τ d=>later21_A eo cap mb A _ _ i L hLm hL (hC.move (h.aU τ d).2.2) h3 h4 h.1 fun A' sN=>⟨sN,(h.aU τ d).2⟩) fun A w h=>?_
   refine e_.seqH hP _ (ev21_A hLm hL hC h3 h4 gG h) fun A w h=>?_
   exact e_.loneN hP (fun _ _ τ d x=>x.aU τ d) fun τ d=>ok21_A eo L.length cap mb _ A _ _ i h.1 fun A' sN=>S21.aU ⟨sN,h.2⟩ τ d
  ·refine (e_.loneN hP (J:=S21 R x L eo cap mb aj w0 (aW L (i+1)) (i+1) (i+1)) (fun _ _ τ d x=>x.aU τ d) fun τ d=>next21_A eo L.length cap mb _ A _ _ i h3 h.1 fun A' sN=>⟨sN,(h.aU τ d).2⟩).mono ?_
   rintro e a w ⟨rfl,h⟩
   exact .inl ⟨rfl,h3,h4,h⟩
 ·have h3:i=25\/i=L.length:=by omega
  refine e_.seq hP ((e_.of_wp hP (Q:=fun e a' w'=>e=.exit 0/\S21 R x L eo cap mb aj w0 (aW L i) i i a' w') (fun _ _ _ τ d x=>⟨x.1,x.2.aU τ d⟩) (fun _ _ x=>by cases x.1) (fun τ d=>end21_A eo L.length cap mb _ A _ _ i h1 h2 h3 h.1 fun A' sN=>⟨sN,(h.aU τ d).2⟩)).mono ?_)
  rintro e a w ⟨rfl,h⟩
  exact .inr ⟨rfl,h3,h⟩
end
end Ev
end Go.Proofs.YtpbbmagjhkakgaaGreatDoor
