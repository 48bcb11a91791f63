import Derived.Test.YtpbbmagjhkakgaaGreatDoorSnInvToRowKeep
import Derived.Test.YtpbbmagjhkakgaaGreatDoorPureEndsToPureSem
namespace Go.Proofs.YtpbbmagjhkakgaaGreatDoor.Ev
open Go.Deep (BT)
def atomT (c:UInt8):BT Pay:=mk 97 ⟨#[c]⟩ 0 0 .nil .nil
theorem good_atom (c:UInt8) (h:97<=c.toNat/\c.toNat<=122):Good (atomT c):=by
 refine .inr (.inl ⟨rfl,⟨by show 1<=1;omega,by show 1<=8;omega,?_,?_⟩,rfl,rfl,rfl,rfl⟩)
 ·intro e
  have:=congrArg ByteArray.size e
  exact absurd this (show (1:Nat)≠4 by decide)
 ·intro d hd
  have:d=c:=by simpa using hd
  subst this
  exact h
theorem read_atom:readF ⟨#[97]⟩=(some (atomT 97),0) :=
 read_print (atomT 97) (good_atom 97 (by decide)) ⟨rfl,rfl,trivial,trivial⟩ (by decide) (by decide)
theorem few_nodes {x:BT Pay} {n:Nat} (h:nodesT (coreT x)<=n):(KAt (fun _=>x) 1).length<=n:=by
 have:=(putK_len (coreT x) []).2.1
 simp at this
 exact Nat.le_trans this h
theorem nodes_atom:nodesT (coreT (atomT 97))<=4:=nodes_core _
section
variable (L : List (Int × Int)) (i : Nat) (a b : Int)
end
section
variable {L : List (Int × Int)} {i : Nat} {a b : Int}
end
end Go.Proofs.YtpbbmagjhkakgaaGreatDoor.Ev
namespace Go.Proofs.YtpbbmagjhkakgaaGreatDoor.Ev
open Go.RowKit Go.Deep Go.Maps Go.Proofs.YtpbbmagjhkakgaaGreatDoor.Lf Go.Conc
def StW (text:ByteArray) (x:BT Pay) (L:List (Int×Int)) (retain:Int) (eo:Option Addr) (cap mb wtb:Nat) (w0:World) (now iv:Int) (i:Nat) (a:Act) (w:World):Prop:=ActW text retain eo L cap mb now iv a/\WInv x ⟨#[112]⟩ L w0.heap.size mb wtb retain i w/\SpareR (fun _=>False) w0 w
def StX (text:ByteArray) (x:BT Pay) (L:List (Int×Int)) (retain:Int) (eo:Option Addr) (cap mb wtb:Nat) (w0:World) (now iv:Int) (i:Nat) (a:Act) (w:World):Prop:=ActX text retain eo L cap mb now iv a/\WInv x ⟨#[112]⟩ L w0.heap.size mb wtb retain i w/\SpareR (fun _=>False) w0 w
section
variable {text : ByteArray} {x : BT Pay} {L : List (Int × Int)} {retain : Int} {eo : Option Addr} {cap mb wtb : Nat} {w0 : World} {now iv : Int} {i : Nat} {a : Act} {w : World}
theorem StW.tapeR (h:StW text x L retain eo cap mb wtb w0 now iv i a w) (τ:Tape) (d:Nat):StW text x L retain eo cap mb wtb w0 now iv i a (re w τ d):=⟨h.1,h.2.1.tapeR τ d,h.2.2.tapeR τ d⟩
theorem StX.tapeR (h:StX text x L retain eo cap mb wtb w0 now iv i a w) (τ:Tape) (d:Nat):StX text x L retain eo cap mb wtb w0 now iv i a (re w τ d):=⟨h.1,h.2.1.tapeR τ d,h.2.2.tapeR τ d⟩
end
noncomputable def head21:Code:=match loop21 with
 | .seq x _=>x
 | _=>.skip
noncomputable def later21:Code:=match loop21 with
 | .seq _ (.seq (.block _ (.seq x _)) _)=>x
 | _=>.skip
noncomputable def event21:Code:=match loop21 with
 | .seq _ (.seq (.block _ (.seq _ (.seq x _))) _)=>x
 | _=>.skip
noncomputable def ok21:Code:=match loop21 with
 | .seq _ (.seq (.block _ (.seq _ (.seq _ x))) _)=>x
 | _=>.skip
noncomputable def next21:Code:=match loop21 with
 | .seq _ (.seq _ x)=>x
 | _=>.skip
set_option maxRecDepth 100000 in
set_option maxHeartbeats 4000000 in
theorem head21_go (text:ByteArray) (x:BT Pay) (L:List (Int×Int)) (retain:Int) (eo:Option Addr) (cap mb wtb:Nat) (w0:World) (i:Nat) (a:Act) (w:World) (hLm:L.length<=9223372036854775807) (h:StW text x L retain eo cap mb wtb w0 (timeZ L i) i i a w) (h1:i<25) (h2:i<L.length):head21.wp Tryz.prog (fun e a' w'=>e=.normal/\StW text x L retain eo cap mb wtb w0 (timeZ L i) i i a' w') a w:=by
 obtain ⟨hA,hW,hs⟩:=h
 obtain ⟨u,rfl⟩:=hA.open
 have hI:Hid (WInv x ⟨#[112]⟩ L w0.heap.size mb wtb retain i w/\SpareR (fun _=>False) w0 w):=⟨hW,hs⟩
 clear hW hs hA
 simp only [head21,loop21,body21,Tryz.f21,Option.getD_some]
 generalize hl:L.length=ln at *
 go_wp2_with fail
 subst hl
 first | exact ⟨⟨rfl,rfl,rfl,rfl,rfl,rfl,rfl,rfl,rfl⟩,hI.out⟩ | exact ⟨rfl,⟨rfl,rfl,rfl,rfl,rfl,rfl,rfl,rfl,rfl⟩,hI.out⟩
set_option maxRecDepth 100000 in
set_option maxHeartbeats 4000000 in
theorem head21_end (text:ByteArray) (x:BT Pay) (L:List (Int×Int)) (retain:Int) (eo:Option Addr) (cap mb wtb:Nat) (w0:World) (i:Nat) (a:Act) (w:World) (hLm:L.length<=9223372036854775807) (h:StW text x L retain eo cap mb wtb w0 (timeZ L i) i i a w) (h1:i<=25) (h2:i<=L.length) (h3:i=25\/i=L.length):head21.wp Tryz.prog (fun e a' w'=>e=.exit 0/\StW text x L retain eo cap mb wtb w0 (timeZ L i) i i a' w') a w:=by
 obtain ⟨hA,hW,hs⟩:=h
 obtain ⟨u,rfl⟩:=hA.open
 have hI:Hid (WInv x ⟨#[112]⟩ L w0.heap.size mb wtb retain i w/\SpareR (fun _=>False) w0 w):=⟨hW,hs⟩
 clear hW hs hA
 simp only [head21,loop21,body21,Tryz.f21,Option.getD_some]
 generalize hl:L.length=ln at *
 by_cases hlt:i<ln
 ·obtain rfl:i=25:=by omega
  go_wp2_with fail
  subst hl
  first | exact ⟨⟨rfl,rfl,rfl,rfl,rfl,rfl,rfl,rfl,rfl⟩,hI.out⟩ | exact ⟨rfl,⟨rfl,rfl,rfl,rfl,rfl,rfl,rfl,rfl,rfl⟩,hI.out⟩
 ·obtain rfl:i=ln:=by omega
  go_wp2_with fail
  subst hl
  first | exact ⟨⟨rfl,rfl,rfl,rfl,rfl,rfl,rfl,rfl,rfl⟩,hI.out⟩ | exact ⟨rfl,⟨rfl,rfl,rfl,rfl,rfl,rfl,rfl,rfl,rfl⟩,hI.out⟩
set_option maxRecDepth 100000 in
set_option maxHeartbeats 4000000 in
theorem later21_go (text:ByteArray) (x:BT Pay) (L:List (Int×Int)) (retain:Int) (eo:Option Addr) (cap mb wtb:Nat) (w0:World) (i:Nat) (a:Act) (w:World) (hLm:L.length<=9223372036854775807) (hL:∀ p∈L,I64 p.1/\I64 p.2) (hC:ComesAt w0 eo L) (h:StW text x L retain eo cap mb wtb w0 (timeZ L i) i i a w) (h1:i<25) (h2:i<L.length):later21.wp Tryz.prog (fun e a' w'=>e=.normal/\StW text x L retain eo cap mb wtb w0 (timeZ L (i+1)) i i a' w') a w:=by
 obtain ⟨hA,hW,hs⟩:=h
 obtain ⟨u,rfl⟩:=hA.open
 have hI:Hid (WInv x ⟨#[112]⟩ L w0.heap.size mb wtb retain i w/\SpareR (fun _=>False) w0 w):=⟨hW,hs⟩
 obtain ⟨b,off,rfl,hbl,hcells⟩:=(hC.move hs) (by intro e;rw [e] at h2;simp at h2)
 have c1:=(hcells i h2).1
 have hmem:L.getD i (0,0)∈L:=by rw [List.getD_eq_getElem?_getD,List.getElem?_eq_getElem h2];exact List.getElem_mem h2
 have hlt:=later_any (L.getD i (0,0)).1 w (hL _ hmem).1
 have hTr:=timeZ_range L i
 have hlr:=laterZ_range (L.getD i (0,0)).1
 have hTe:Hid (timeZ L i+laterZ (L.getD i (0,0)).1=timeZ L (i+1)):=rfl
 clear hW hs hA hcells hC hL hmem
 simp only [later21,loop21,body21,Tryz.f21,Option.getD_some]
 generalize (L.getD i (0,0)).1=lc at *
 generalize laterZ lc=lz at *
 generalize timeZ L i=tz at *
 generalize hl:L.length=ln at *
 go_wp2_with fail
 refine hlt.mono ?_
 rintro e w2 ⟨rfl,hw2⟩
 have hw2:=hw2.symm
 subst hw2
 go_wp2_with fail
 subst hl
 rw [hTe.out]
 first | exact ⟨⟨rfl,rfl,rfl,rfl,rfl,rfl,rfl,rfl,rfl⟩,hI.out⟩ | exact ⟨rfl,⟨rfl,rfl,rfl,rfl,rfl,rfl,rfl,rfl,rfl⟩,hI.out⟩
set_option maxRecDepth 100000 in
set_option maxHeartbeats 4000000 in
theorem ok21_go (text:ByteArray) (x:BT Pay) (L:List (Int×Int)) (retain:Int) (eo:Option Addr) (cap mb wtb:Nat) (w0:World) (now iv:Int) (i:Nat) (a:Act) (w:World) (h:StX text x L retain eo cap mb wtb w0 now iv i a w):ok21.wp Tryz.prog (fun e a' w'=>e=.normal/\StW text x L retain eo cap mb wtb w0 now iv i a' w') a w:=by
 obtain ⟨hA,hW,hs⟩:=h
 obtain ⟨u,rfl⟩:=hA.open
 have hI:Hid (WInv x ⟨#[112]⟩ L w0.heap.size mb wtb retain i w/\SpareR (fun _=>False) w0 w):=⟨hW,hs⟩
 clear hW hs hA
 simp only [ok21,loop21,body21,Tryz.f21,Option.getD_some]
 go_wp2_with fail
 first | exact ⟨⟨rfl,rfl,rfl,rfl,rfl,rfl,rfl,rfl,rfl⟩,hI.out⟩ | exact ⟨rfl,⟨rfl,rfl,rfl,rfl,rfl,rfl,rfl,rfl,rfl⟩,hI.out⟩
set_option maxRecDepth 100000 in
set_option maxHeartbeats 4000000 in
theorem next21_go (text:ByteArray) (x:BT Pay) (L:List (Int×Int)) (retain:Int) (eo:Option Addr) (cap mb wtb:Nat) (w0:World) (i:Nat) (a:Act) (w:World) (h1:i<25) (h:StW text x L retain eo cap mb wtb w0 (timeZ L (i+1)) i (i+1) a w):next21.wp Tryz.prog (fun e a' w'=>e=.normal/\StW text x L retain eo cap mb wtb w0 (timeZ L (i+1)) ((i+1:Nat):Int) (i+1) a' w') a w:=by
 obtain ⟨hA,hW,hs⟩:=h
 obtain ⟨u,rfl⟩:=hA.open
 have hI:Hid (WInv x ⟨#[112]⟩ L w0.heap.size mb wtb retain (i+1) w/\SpareR (fun _=>False) w0 w):=⟨hW,hs⟩
 clear hW hs hA
 simp only [next21,loop21,body21,Tryz.f21,Option.getD_some]
 go_wp2_with fail
 first | exact ⟨⟨rfl,rfl,rfl,rfl,rfl,rfl,rfl,rfl,rfl⟩,hI.out⟩ | exact ⟨rfl,⟨rfl,rfl,rfl,rfl,rfl,rfl,rfl,rfl,rfl⟩,hI.out⟩
end Go.Proofs.YtpbbmagjhkakgaaGreatDoor.Ev
namespace Go.Proofs.YtpbbmagjhkakgaaGreatDoor.Ev
open Go.RowKit Go.Deep Go.Maps Go.Proofs.YtpbbmagjhkakgaaGreatDoor.Lf Go.Conc
def ActY (text:ByteArray) (retain:Int) (eo:Option Addr) (L:List (Int×Int)) (cap mb:Nat) (now:Int) (a:Act):Prop:=a.defers=[]/\a.tmps.size=113/\a.tmps[0]? = some (.string text)/\a.tmps[1]? = some (.int .i64 retain)/\a.tmps[2]? = some (.slice eo L.length cap)/\a.tmps[8]? = some (.pointer (some ⟨mb,0,none⟩))/\a.tmps[12]? = some (.bool true)/\a.tmps[13]? = some (.int .i64 now)
theorem ActY.open {text:ByteArray} {retain:Int} {eo:Option Addr} {L:List (Int×Int)} {cap mb:Nat} {now:Int} {a:Act} (h:ActY text retain eo L cap mb now a):∃ u:Nat->Value,a=⟨#[(.string text),(.int .i64 retain),(.slice eo L.length cap),u 3,u 4,u 5,u 6,u 7,(.pointer (some ⟨mb,0,none⟩)),u 9,u 10,u 11,(.bool true),(.int .i64 now),u 14,u 15,u 16,u 17,u 18,u 19,u 20,u 21,u 22,u 23,u 24,u 25,u 26,u 27,u 28,u 29,u 30,u 31,u 32,u 33,u 34,u 35,u 36,u 37,u 38,u 39,u 40,u 41,u 42,u 43,u 44,u 45,u 46,u 47,u 48,u 49,u 50,u 51,u 52,u 53,u 54,u 55,u 56,u 57,u 58,u 59,u 60,u 61,u 62,u 63,u 64,u 65,u 66,u 67,u 68,u 69,u 70,u 71,u 72,u 73,u 74,u 75,u 76,u 77,u 78,u 79,u 80,u 81,u 82,u 83,u 84,u 85,u 86,u 87,u 88,u 89,u 90,u 91,u 92,u 93,u 94,u 95,u 96,u 97,u 98,u 99,u 100,u 101,u 102,u 103,u 104,u 105,u 106,u 107,u 108,u 109,u 110,u 111,u 112],[]⟩:=by
 obtain ⟨hd,hsz,h0,h1,h2,h8,h12,h13⟩:=h
 have g0:a.tmps.getD 0 undef=.string text:=by rw [Array.getD_eq_getD_getElem?,h0];rfl
 have g1:a.tmps.getD 1 undef=.int .i64 retain:=by rw [Array.getD_eq_getD_getElem?,h1];rfl
 have g2:a.tmps.getD 2 undef=.slice eo L.length cap:=by rw [Array.getD_eq_getD_getElem?,h2];rfl
 have g8:a.tmps.getD 8 undef=.pointer (some ⟨mb,0,none⟩):=by rw [Array.getD_eq_getD_getElem?,h8];rfl
 have g12:a.tmps.getD 12 undef=.bool true:=by rw [Array.getD_eq_getD_getElem?,h12];rfl
 have g13:a.tmps.getD 13 undef=.int .i64 now:=by rw [Array.getD_eq_getD_getElem?,h13];rfl
 refine ⟨fun j=>a.tmps.getD j undef,?_⟩
 have e:a.tmps=#[a.tmps.getD 0 undef,a.tmps.getD 1 undef,a.tmps.getD 2 undef,a.tmps.getD 3 undef,a.tmps.getD 4 undef,a.tmps.getD 5 undef,a.tmps.getD 6 undef,a.tmps.getD 7 undef,a.tmps.getD 8 undef,a.tmps.getD 9 undef,a.tmps.getD 10 undef,a.tmps.getD 11 undef,a.tmps.getD 12 undef,a.tmps.getD 13 undef,a.tmps.getD 14 undef,a.tmps.getD 15 undef,a.tmps.getD 16 undef,a.tmps.getD 17 undef,a.tmps.getD 18 undef,a.tmps.getD 19 undef,a.tmps.getD 20 undef,a.tmps.getD 21 undef,a.tmps.getD 22 undef,a.tmps.getD 23 undef,a.tmps.getD 24 undef,a.tmps.getD 25 undef,a.tmps.getD 26 undef,a.tmps.getD 27 undef,a.tmps.getD 28 undef,a.tmps.getD 29 undef,a.tmps.getD 30 undef,a.tmps.getD 31 undef,a.tmps.getD 32 undef,a.tmps.getD 33 undef,a.tmps.getD 34 undef,a.tmps.getD 35 undef,a.tmps.getD 36 undef,a.tmps.getD 37 undef,a.tmps.getD 38 undef,a.tmps.getD 39 undef,a.tmps.getD 40 undef,a.tmps.getD 41 undef,a.tmps.getD 42 undef,a.tmps.getD 43 undef,a.tmps.getD 44 undef,a.tmps.getD 45 undef,a.tmps.getD 46 undef,a.tmps.getD 47 undef,a.tmps.getD 48 undef,a.tmps.getD 49 undef,a.tmps.getD 50 undef,a.tmps.getD 51 undef,a.tmps.getD 52 undef,a.tmps.getD 53 undef,a.tmps.getD 54 undef,a.tmps.getD 55 undef,a.tmps.getD 56 undef,a.tmps.getD 57 undef,a.tmps.getD 58 undef,a.tmps.getD 59 undef,a.tmps.getD 60 undef,a.tmps.getD 61 undef,a.tmps.getD 62 undef,a.tmps.getD 63 undef,a.tmps.getD 64 undef,a.tmps.getD 65 undef,a.tmps.getD 66 undef,a.tmps.getD 67 undef,a.tmps.getD 68 undef,a.tmps.getD 69 undef,a.tmps.getD 70 undef,a.tmps.getD 71 undef,a.tmps.getD 72 undef,a.tmps.getD 73 undef,a.tmps.getD 74 undef,a.tmps.getD 75 undef,a.tmps.getD 76 undef,a.tmps.getD 77 undef,a.tmps.getD 78 undef,a.tmps.getD 79 undef,a.tmps.getD 80 undef,a.tmps.getD 81 undef,a.tmps.getD 82 undef,a.tmps.getD 83 undef,a.tmps.getD 84 undef,a.tmps.getD 85 undef,a.tmps.getD 86 undef,a.tmps.getD 87 undef,a.tmps.getD 88 undef,a.tmps.getD 89 undef,a.tmps.getD 90 undef,a.tmps.getD 91 undef,a.tmps.getD 92 undef,a.tmps.getD 93 undef,a.tmps.getD 94 undef,a.tmps.getD 95 undef,a.tmps.getD 96 undef,a.tmps.getD 97 undef,a.tmps.getD 98 undef,a.tmps.getD 99 undef,a.tmps.getD 100 undef,a.tmps.getD 101 undef,a.tmps.getD 102 undef,a.tmps.getD 103 undef,a.tmps.getD 104 undef,a.tmps.getD 105 undef,a.tmps.getD 106 undef,a.tmps.getD 107 undef,a.tmps.getD 108 undef,a.tmps.getD 109 undef,a.tmps.getD 110 undef,a.tmps.getD 111 undef,a.tmps.getD 112 undef]:=(arr_get a.tmps 113 hsz).trans rfl
 obtain ⟨t,d⟩:=a
 simp only at *
 subst hd
 rw [g0,g1,g2,g8,g12,g13] at e
 rw [Act.mk.injEq]
 exact ⟨e,rfl⟩
theorem versL_get (x:BT Pay) (L:List (Int×Int)):∀ (n j:Nat),j<n->(versL x L n)[j*4]? = some (.int .i64 ((j:Int)+1))/\(versL x L n)[j*4+2]? = some (.int .i64 1)/\(versL x L n)[j*4+3]? = some (.bool (verZ x L j))
 | 0,_,h=>absurd h (Nat.not_lt_zero _)
 | n+1,j,h=>by
  have hl:=versL_len x L n
  unfold versL
  by_cases hj:j<n
  ·have:=versL_get x L n j hj
   rw [List.getElem?_append_left (by omega),List.getElem?_append_left (by omega),List.getElem?_append_left (by omega)]
   exact this
  ·obtain rfl:j=n:=by omega
   rw [List.getElem?_append_right (by omega),List.getElem?_append_right (by omega),List.getElem?_append_right (by omega),hl]
   have e1:j*4-j*4=0:=by omega
   have e2:j*4+2-j*4=2:=by omega
   have e3:j*4+3-j*4=3:=by omega
   rw [e1,e2,e3]
   exact ⟨rfl,rfl,rfl⟩
theorem verS_size (x:BT Pay) (L:List (Int×Int)):∀ n,(verS x L n).size=n
 | 0=>rfl
 | n+1=>by
  unfold verS
  rw [ByteArray.size_append,verS_size x L n]
  split<;>rfl
noncomputable def rest21:Code:=match body21 with
 | .seq _ (.seq _ (.seq _ (.seq _ (.seq _ (.seq _ (.seq _ x))))))=>x
 | _=>.skip
noncomputable def zero21:Code:=match body21 with
 | .seq _ (.seq _ (.seq _ (.seq _ (.seq _ (.seq _ (.seq (.seq x _) _))))))=>x
 | _=>.skip
noncomputable def pre21:List Code:=match body21 with
 | .seq a (.seq b (.seq c (.seq d (.seq e (.seq f _)))))=>[a,b,c,d,e,f]
 | _=>[]
def PreOK (text:ByteArray) (x:BT Pay) (L:List (Int×Int)) (retain:Int) (eo:Option Addr) (cap:Nat) (w0:World) (a:Act) (w':World):Prop:=∃ mb wtb,ActY text retain eo L cap mb 0 a/\WInv x ⟨#[112]⟩ L w0.heap.size mb wtb retain 0 w'/\SpareR (fun _=>False) w0 w'
theorem glob_tape {w:World} (hg:Glob w) (τ:Tape) (d:Nat):Glob (re w τ d):=⟨⟨hg.conv.syn,hg.conv.rng⟩,hg.ns,hg.et,hg.tab⟩
def WatchedPost (x:BT Pay) (L:List (Int×Int)) (w0:World) (e:Ending) (w':World):Prop:=e=.returned (.tuple #[.string (verS x L (min L.length 25)),.bool true])/\SpareR (fun _=>False) w0 w'
set_option maxRecDepth 100000 in
set_option maxHeartbeats 8000000 in
theorem rest21_go (text:ByteArray) (x:BT Pay) (L:List (Int×Int)) (retain:Int) (eo:Option Addr) (cap mb wtb:Nat) (w0:World) (now:Int) (a:Act) (w:World) (h:StW text x L retain eo cap mb wtb w0 now (min L.length 25:Nat) (min L.length 25) a w):rest21.wp Tryz.prog (bodyPost Tryz.prog Tryz.f21 (WatchedPost x L w0)) a w:=by
 obtain ⟨hA,⟨⟨no,ncap,ea,ecap,C,E,pa,pcap,sp,s,dr,h1,_,_,_,_,_,_,h8,h9,_⟩,hm,_⟩,hs⟩:=h
 obtain ⟨u,rfl⟩:=hA.open
 have hst:Calls Tryz.prog 28 #[.pointer (some ⟨mb,0,none⟩),.string ⟨#[112]⟩] w fun e w'=>∃ v,e=.returned (.tuple #[v,.int .i64 0])/\w'.ownsRow w.heap.size 59 4 v s.n s.xs/\Below w.heap.size w w':=by
  have hn:s.n<=1000000:=by rw [h8];omega
  have ho:∀ u∈s.xs,u.oneCell'=true:=by rw [h9];exact versL_one x L _
  exact monStream1 mb wtb (polOf ⟨#[112]⟩ sp s.stb x) s w hm h1.one hn ho
 have HP:Hid (∀ w',Below w.heap.size w w'->WatchedPost x L w0 (.returned (.tuple #[.string (verS x L (min L.length 25)),.bool true])) w'):=fun w' hb=>⟨rfl,hs.trans (SpareR.of_below hb)⟩
 rw [h8,h9] at hst
 have hN:min L.length 25<=25:=by omega
 clear hA hm hs h1 h8 h9
 generalize min L.length 25=n at *
 have hvl:=fun j hj=>versL_get x L n j hj
 have Hvl:Hid (∀ j,j<n->(versL x L n)[j*4]? = some (.int .i64 ((j:Int)+1))/\(versL x L n)[j*4+2]? = some (.int .i64 1)/\(versL x L n)[j*4+3]? = some (.bool (verZ x L j))):=hvl
 clear hvl
 generalize hvs:versL x L n=vs at *
 clear hvs
 generalize hQ:bodyPost Tryz.prog Tryz.f21 (WatchedPost x L w0)=Q
 simp only [rest21,body21,Tryz.f21,Option.getD_some]
 generalize L.length=ln at *
 go_wp2_with fail
 refine hst.mono ?_
 rintro e w1 ⟨v,rfl,hrow,hb1⟩
 have hrow0:=hrow
 obtain ⟨e1,hcase⟩:=hrow
 have hv:∃ o c,v=.slice o n c/\∀ (j:Nat) y,vs[j]? = some y->∃ g,o=some ⟨g,0,none⟩/\w1.cell? ⟨g,j,none⟩=some y:=by
  rcases hcase with ⟨rfl,e2⟩ | ⟨g,c,cur,rfl,_⟩
  ·refine ⟨none,0,by rw [e2],fun j y hj=>?_⟩
   have:=(List.getElem?_eq_some_iff.1 hj).1
   omega
  ·exact ⟨_,c,rfl,fun j y hj=>⟨g,rfl,row_cell hrow0 rfl hj⟩⟩
 obtain ⟨o,c,rfl,hcl⟩:=hv
 have Hcl:Hid (∀ (j:Nat) y,vs[j]? = some y->∃ g,o=some ⟨g,0,none⟩/\w1.cell? ⟨g,j,none⟩=some y):=hcl
 clear hcl hcase hrow0 e1 hst
 go_wp2_with fail
 go_loopw [19,18] (fun iv sv wr=>∃ i:Nat,iv=.int .i64 i/\i<=n/\sv=.string (verS x L i)/\wr=w1) (fun iv _ _=>n-(intOf iv).toNat)
 case atStart=>exact ⟨0,rfl,Nat.zero_le _,rfl,rfl⟩
 case round =>
  obtain ⟨i,rfl,hin,rfl,rfl⟩:=hrel
  by_cases hi:i<n
  ·obtain ⟨y0,y2,y3⟩:=Hvl.out i hi
   obtain ⟨g,ho,c0⟩:=Hcl.out _ _ y0
   subst ho
   obtain ⟨g2,ho,c2⟩:=Hcl.out _ _ y2
   cases ho
   obtain ⟨g3,ho,c3⟩:=Hcl.out _ _ y3
   cases ho
   have hsz:=verS_size x L i
   have hno:¬ 9223372036854775807<(verS x L i).size+1:=by omega
   have hstep:Hid (verS x L (i+1)=verS x L i++(if verZ x L i then ⟨#[49]⟩ else ⟨#[48]⟩)):=rfl
   clear y0 y2 y3
   cases hvz:verZ x L i with
   | true =>
    rw [hvz] at c3
    have hs2:Hid (verS x L (i+1)=verS x L i++⟨#[49]⟩):=by show _=_;rw [hstep.out,hvz];rfl
    clear hstep hvz
    generalize verS x L i=ss at *
    go_wp2_with fail
    go_roundw
    case rel=>exact ⟨i+1,by go_num,by omega,by rw [hs2.out],trivial⟩
    case measure=>simp only [intOf];omega
   | false =>
    rw [hvz] at c3
    have hs2:Hid (verS x L (i+1)=verS x L i++⟨#[48]⟩):=by show _=_;rw [hstep.out,hvz];rfl
    clear hstep hvz
    generalize verS x L i=ss at *
    go_wp2_with fail
    go_roundw
    case rel=>exact ⟨i+1,by go_num,by omega,by rw [hs2.out],trivial⟩
    case measure=>simp only [intOf];omega
  ·obtain rfl:i=n:=by omega
   go_wp2_with fail
   rw [<- hQ]
   go_ret2
   exact HP.out _ hb1
set_option maxRecDepth 100000 in
set_option maxHeartbeats 8000000 in
theorem zero21_go (text:ByteArray) (x:BT Pay) (L:List (Int×Int)) (retain:Int) (eo:Option Addr) (cap mb wtb:Nat) (w0:World) (a:Act) (w:World) (hA:ActY text retain eo L cap mb 0 a) (hW:WInv x ⟨#[112]⟩ L w0.heap.size mb wtb retain 0 w) (hs:SpareR (fun _=>False) w0 w):zero21.wp Tryz.prog (fun e a' w'=>e=.normal/\StW text x L retain eo cap mb wtb w0 (timeZ L 0) (0:Nat) 0 a' w') a w:=by
 obtain ⟨u,rfl⟩:=hA.open
 have hI:Hid (WInv x ⟨#[112]⟩ L w0.heap.size mb wtb retain 0 w/\SpareR (fun _=>False) w0 w):=⟨hW,hs⟩
 clear hW hs hA
 simp only [zero21,body21,Tryz.f21,Option.getD_some]
 go_wp2_with fail
 first | exact ⟨⟨rfl,rfl,rfl,rfl,rfl,rfl,rfl,rfl,rfl⟩,hI.out⟩ | exact ⟨rfl,⟨rfl,rfl,rfl,rfl,rfl,rfl,rfl,rfl,rfl⟩,hI.out⟩
set_option maxRecDepth 100000 in
set_option maxHeartbeats 8000000 in
theorem pre21_go (text:ByteArray) (x:BT Pay) (L:List (Int×Int)) (retain:Int) (eo:Option Addr) (cap:Nat) (w0 w:World) (hs0:SpareR (fun _=>False) w0 w) (hsz0:w0.heap.size=w.heap.size) (hg:Glob w) (hw7:14<=w.heap.size) (hm:text.size<=maxLen) (hr:readF text=(some x,0)) (hR:reachT x<=retain) (hK:(KAt (fun _=>x) 1).length<=40) (hX:nodesT (coreT x)<=1000000) (hret:0<=retain/\retain<=100000) :
  wps Tryz.prog pre21 (PreOK text x L retain eo cap w0) ⟨#[.string text,.int .i64 retain,.slice eo L.length cap]++Array.replicate 110 undef,[]⟩ w:=by
 have hgx:Good x:=(readF_sound hr).1
 have hN:=new_ok retain 60 w hret (by omega)
 have hAdd:∀ (W:World) (mb wtb:Nat),Below w.heap.size w W->W.heap[mb]? = some (.cells #[.pointer (some ⟨wtb,0,none⟩)] 104 (0,0))->W.heap[wtb]? = some (.cells #[.int .i64 retain,.int .i64 60,.slice none 0 0,.slice none 0 0,.slice none 0 0] 153 (0,0))->Calls Tryz.prog 27 #[.pointer (some ⟨mb,0,none⟩),.string ⟨#[112]⟩,.string text] W fun e w'=>e=.returned (.tuple #[.slice none 0 0,.int .i64 0])/\AddPost wtb (.int .i64 retain) (.int .i64 60) ⟨#[112]⟩ x W w' :=
  fun W mb wtb hb h1 h2=>monAdd0 mb wtb retain (.int .i64 60) none 0 0 ⟨#[112]⟩ text x W h1 h2 name_p (by decide) hm (hg.below hb) (by have:=hb.size;omega) hr hR hK hX
 have HA:Hid (∀ (W:World) (mb wtb:Nat),Below w.heap.size w W->W.heap[mb]? = some (.cells #[.pointer (some ⟨wtb,0,none⟩)] 104 (0,0))->W.heap[wtb]? = some (.cells #[.int .i64 retain,.int .i64 60,.slice none 0 0,.slice none 0 0,.slice none 0 0] 153 (0,0))->Calls Tryz.prog 27 #[.pointer (some ⟨mb,0,none⟩),.string ⟨#[112]⟩,.string text] W fun e w'=>e=.returned (.tuple #[.slice none 0 0,.int .i64 0])/\AddPost wtb (.int .i64 retain) (.int .i64 60) ⟨#[112]⟩ x W w'):=hAdd
 have fin:Hid (∀ (w1 w2:World) (mb wtb:Nat),w.heap.size<=mb->w.heap.size<=wtb->w1.heap[mb]? = some (.cells #[.pointer (some ⟨wtb,0,none⟩)] 104 (0,0))->w1.heap[wtb]? = some (.cells #[.int .i64 retain,.int .i64 60,.slice none 0 0,.slice none 0 0,.slice none 0 0] 153 (0,0))->Below w.heap.size w w1->AddPost wtb (.int .i64 retain) (.int .i64 60) ⟨#[112]⟩ x w1 w2->WInv x ⟨#[112]⟩ L w0.heap.size mb wtb retain 0 w2/\SpareR (fun _=>False) w0 w2):=by
  intro w1 w2 mb wtb hm hw k1 k2 hb hP
  obtain ⟨no,ncap,pa,pcap,sp,stb,hWt,hst⟩:=hP.watch hgx (by omega) hK
  have hbs:=hb.size
  obtain ⟨nn,pb,pcap',stb',sp',arr,_,_,_,_,_,_,_,_,_,hsp⟩:=hP
  have hmw:mb≠wtb:=by rintro rfl;rw [k1] at k2;cases k2
  refine ⟨⟨⟨no,ncap,none,0,[],[],pa,pcap,sp,⟨stb,.slice none 0 0,0,[]⟩,[],hWt,Run.start L _,by simp,by simp,by simp,by simp,by simp,rfl,rfl,by simp,by simp;omega,by simp [Value.ownBlock]⟩,?_,by omega⟩,?_⟩
  ·rw [hsp.block mb (heap_lt k1) hmw];exact k1
  ·exact hs0.trans ⟨hsp.os.trans hb.os,hsp.output.trans hb.output,Nat.le_trans hb.size hsp.size,fun b hb1 _=>(hsp.block b (by omega) (by omega)).trans (hb.block b hb1)⟩
 clear hs0 hg hm hr hK hX hret hAdd hR
 simp only [pre21,body21,Tryz.f21,Option.getD_some,Array.replicate_succ,Array.replicate_zero,List.push_toArray,List.append_toArray,List.nil_append,List.cons_append]
 unfold wps
 generalize hl:L.length=ln at *
 go_wp2_with fail
 try refine ⟨rfl,?_⟩
 unfold wps
 go_wp2_with fail
 refine hN.mono ?_
 rintro e w1 ⟨mb,wtb,rfl,n1,n2,n3,n4,n5⟩
 go_wp2_with fail
 try refine ⟨rfl,?_⟩
 unfold wps
 go_wp2_with fail
 try refine ⟨rfl,?_⟩
 unfold wps
 go_wp2_with fail
 refine (HA.out w1 mb wtb n5 n3 n4).mono ?_
 rintro e w2 ⟨rfl,hP⟩
 go_wp2_with fail
 try refine ⟨rfl,?_⟩
 unfold wps
 go_wp2_with fail
 try refine ⟨rfl,?_⟩
 unfold wps
 go_wp2_with fail
 try refine ⟨rfl,?_⟩
 unfold wps
 subst hl
 exact ⟨mb,wtb,⟨rfl,rfl,rfl,rfl,rfl,rfl,rfl,rfl⟩,fin.out w1 w2 mb wtb n1 n2 n3 n4 n5 hP⟩
end Go.Proofs.YtpbbmagjhkakgaaGreatDoor.Ev
namespace Go.Proofs.YtpbbmagjhkakgaaGreatDoor
open Go.Deep (BT)
def Par (T:List (Int×List UInt8)) (x:BT Pay):Prop:=depthT x<=T.length/\∀ n,depthT x<=n->∀ A rest:List Tok,A.map strip=T->parseF n (A++rest)=some (x,rest)
def Reads (l:List UInt8) (x:BT Pay):Prop:=(Good x/\ZeroT x)/\∀ (s:ByteArray) (pos:Nat) (last:Int) (rest:List UInt8),s.data.toList.drop pos=l++rest->last≠97->∃ n last' T,n<=l.length/\Eats s pos last l n last' T/\Par T x
theorem par_word {name:ByteArray} (h:1<=name.size/\name.size<=8/\name≠trueB/\∀ c,c∈name.data.toList->97<=c.toNat/\c.toNat<=122):Par [(97,name.data.toList)] (mk 97 name 0 0 .nil .nil):=by
 have hg:Good (mk 97 name 0 0 .nil .nil):=.inr (.inl ⟨rfl,h,rfl,rfl,rfl,rfl⟩)
 refine ⟨Nat.le_refl 1,fun n hn A rest hA=>parse_tok _ hg ⟨rfl,rfl,trivial,trivial⟩ n hn A rest ?_⟩
 rw [hA]
 rfl
theorem par_one {op lo hi:Int} {wd:List UInt8} {T:List (Int×List UInt8)} {x:BT Pay} (h1:op=172\/op=89\/op=79\/op=72) (h3:0<=lo/\lo<=hi/\hi<=1000000) (h4:winB op=false->lo=0/\hi=0) (hx:Par T x) :
  Par ((op,wd)::(tkW ⟨op,ByteArray.empty,lo,hi⟩++T)) (mk op ByteArray.empty lo hi x .nil):=by
 obtain ⟨hd,hp⟩:=hx
 refine ⟨?_,fun n hn A rest hA=>?_⟩
 ·have:depthT (mk op ByteArray.empty lo hi x .nil)=1+max (depthT x) 0:=rfl
  rw [this]
  simp
  omega
 ·have hn':1+max (depthT x) 0<=n:=hn
  obtain ⟨m,rfl⟩:∃ m,n=m+1:=⟨n-1,by omega⟩
  have dl:depthT x<=m:=by omega
  show stepF (parseF m) (A++rest)=_
  unfold stepF
  obtain ⟨t0,r0,rfl,s0,_,hA⟩:=map_cons hA
  obtain ⟨Aw,Al,rfl,hAw,hAl⟩:=List.map_eq_append_iff.1 hA
  simp only [List.cons_append,List.append_assoc]
  have s0':t0.sign=op:=s0
  rw [take_tok (sg:=op) s0' (by omega)]
  simp only
  rw [s0',if_neg (by omega),if_neg (by omega),if_pos h1]
  unfold singleF
  have hw:=window_tok (a:=⟨op,ByteArray.empty,lo,hi⟩) (rest:=Al++rest) hAw h3 h4
  simp only at hw
  rw [hw]
  simp only
  rw [hp m dl Al _ hAl]
theorem par_two {op lo hi:Int} {wd:List UInt8} {T U:List (Int×List UInt8)} {x y:BT Pay} (h1:op=8743\/op=8744\/op=83) (h3:0<=lo/\lo<=hi/\hi<=1000000) (h4:winB op=false->lo=0/\hi=0) (hx:Par T x) (hy:Par U y) :
  Par ((40,[40])::(T++((op,wd)::(tkW ⟨op,ByteArray.empty,lo,hi⟩++(U++[(41,[41])]))))) (mk op ByteArray.empty lo hi x y):=by
 obtain ⟨hd,hp⟩:=hx
 obtain ⟨hd2,hq⟩:=hy
 have hdep:depthT (mk op ByteArray.empty lo hi x y)=1+max (depthT x) (depthT y):=rfl
 refine ⟨?_,fun n hn A rest hA=>?_⟩
 ·rw [hdep]
  simp
  omega
 ·rw [hdep] at hn
  obtain ⟨m,rfl⟩:∃ m,n=m+1:=⟨n-1,by omega⟩
  have dl:depthT x<=m:=by omega
  have dr:depthT y<=m:=by omega
  show stepF (parseF m) (A++rest)=_
  unfold stepF
  obtain ⟨t0,r0,rfl,s0,_,hA⟩:=map_cons hA
  obtain ⟨Al,r1,rfl,hAl,hA⟩:=List.map_eq_append_iff.1 hA
  obtain ⟨t2,r2,rfl,s2,_,hA⟩:=map_cons hA
  obtain ⟨Aw,r3,rfl,hAw,hA⟩:=List.map_eq_append_iff.1 hA
  obtain ⟨Ar,r4,rfl,hAr,hA⟩:=List.map_eq_append_iff.1 hA
  obtain ⟨t5,r5,rfl,s5,_,hA⟩:=map_cons hA
  have:r5=[]:=by simpa using hA
  subst this
  simp only [List.cons_append,List.append_assoc,List.nil_append]
  have s2':t2.sign=op:=s2
  rw [take_tok s0 (by decide)]
  simp only
  have s0':t0.sign=40:=s0
  rw [s0',if_neg (by decide),if_pos rfl]
  unfold pairF
  rw [hp m dl Al _ hAl]
  simp only
  rw [take_tok (sg:=op) s2' (by omega)]
  simp only
  have hw:=window_tok (a:=⟨op,ByteArray.empty,lo,hi⟩) (rest:=Ar++t5::rest) hAw h3 h4
  simp only at hw
  rw [s2',if_pos h1,hw]
  simp only
  rw [hq m dr Ar _ hAr]
  simp only
  rw [expect_tok s5 (by decide)]
theorem eats_ascii {s:ByteArray} {pos:Nat} (c:UInt8) (sg:Int) (last:Int) {l:List UInt8} (hc:(c=33/\sg=172)\/(c=38/\sg=8743)\/(c=124/\sg=8744)) (h:s.data.toList.drop pos=c::l):Eats s pos last [c] 1 sg [(sg,[c])]:=by
 obtain ⟨hp,hd⟩:=dec_ascii h (by rcases hc with ⟨rfl,_⟩ | ⟨rfl,_⟩ | ⟨rfl,_⟩<;>decide)
 have hs:signF (c.toNat:Nat)=sg:=by rcases hc with ⟨rfl,rfl⟩ | ⟨rfl,rfl⟩ | ⟨rfl,rfl⟩<;>decide
 have:=eats_sign (s:=s) (pos:=pos) (r:=c.toNat) last (m:=[c]) hp hd (by rw [hs];rcases hc with ⟨_,rfl⟩ | ⟨_,rfl⟩ | ⟨_,rfl⟩<;>decide) (by rw [hs];rcases hc with ⟨_,rfl⟩ | ⟨_,rfl⟩ | ⟨_,rfl⟩<;>decide) (by rw [hs];rcases hc with ⟨_,rfl⟩ | ⟨_,rfl⟩ | ⟨_,rfl⟩<;>decide) (by rw [encode_small _ (by omega) (by rcases hc with ⟨rfl,_⟩ | ⟨rfl,_⟩ | ⟨rfl,_⟩<;>decide)];rcases hc with ⟨rfl,_⟩ | ⟨rfl,_⟩ | ⟨rfl,_⟩<;>decide)
 rw [hs] at this
 exact this
theorem Reads.word {name:ByteArray} (h:1<=name.size/\name.size<=8/\name≠trueB/\∀ c,c∈name.data.toList->97<=c.toNat/\c.toNat<=122):Reads name.data.toList (mk 97 name 0 0 .nil .nil):=by
 refine ⟨⟨.inr (.inl ⟨rfl,h,rfl,rfl,rfl,rfl⟩),rfl,rfl,trivial,trivial⟩,fun s pos last rest hs hl=>⟨_,97,_,Nat.le_refl _,eats_run (by decide) ?_ hs (fun c hc=>signF_let (h.2.2.2 c hc)) hl,par_word h⟩⟩
 intro e
 have:name.data.toList.length=name.size:=by rw [Array.length_toList];rfl
 rw [e] at this
 simp at this
 omega
theorem Reads.not {l:List UInt8} {x:BT Pay} (h:Reads l x):Reads ([33]++l) (mk 172 ByteArray.empty 0 0 x .nil):=by
 obtain ⟨⟨hg,hz⟩,hr⟩:=h
 refine ⟨⟨.inr (.inr (.inr ⟨.inl rfl,rfl,by decide,fun _=>⟨rfl,rfl⟩,hg,rfl⟩)),rfl,rfl,hz,trivial⟩,fun s pos last rest hs hl=>?_⟩
 rw [List.append_assoc] at hs
 have k1:=eats_ascii 33 172 last (.inl ⟨rfl,rfl⟩) (show s.data.toList.drop pos=33::_ from hs)
 have d1:=at_next (m:=[33]) hs
 obtain ⟨n,l2,T,hn,k2,hp⟩:=hr s _ 172 rest d1 (by decide)
 refine ⟨_,_,_,?_,k1.trans k2,?_⟩
 ·simp;omega
 ·have:=par_one (op:=172) (lo:=0) (hi:=0) (wd:=[33]) (.inl rfl) (by decide) (fun _=>⟨rfl,rfl⟩) hp
  exact this
def winW (a b:Int):List UInt8:=[91]++(Lib.itoa a++([44]++(Lib.itoa b++[93])))
theorem eats_win {s:ByteArray} {pos:Nat} {op a b:Int} (last:Int) {rest:List UInt8} (hw:winB op=true) (h:0<=a/\a<=b) (hs:s.data.toList.drop pos=winW a b++rest):∃ n,n<=(winW a b).length/\Eats s pos last (winW a b) n 93 (tkW ⟨op,ByteArray.empty,a,b⟩):=by
 have e2:tkW ⟨op,ByteArray.empty,a,b⟩=[(91,[91]),(48,Lib.itoa a),(44,[44]),(48,Lib.itoa b),(93,[93])]:=by unfold tkW;simp only;rw [hw];rfl
 rw [e2]
 unfold winW at hs ⊢
 simp only [List.append_assoc] at hs
 have k2:=eats_char 91 last (by simp) (show s.data.toList.drop _=91::_ from hs)
 have d2:=at_next (m:=[91]) hs
 have k3:=eats_num (last:=((91:UInt8).toNat:Int)) h.1 d2 (by decide)
 have d3:=at_next d2
 have k4:=eats_char 44 48 (by simp) (show s.data.toList.drop _=44::_ from d3)
 have d4:=at_next (m:=[44]) d3
 have k5:=eats_num (last:=((44:UInt8).toNat:Int)) (by omega:0<=b) d4 (by decide)
 have d5:=at_next d4
 have k6:=eats_char 93 48 (by simp) (show s.data.toList.drop _=93::_ from d5)
 refine ⟨_,?_,k2.trans (k3.trans (k4.trans (k5.trans k6)))⟩
 simp;omega
theorem Reads.win {op a b:Int} {l:List UInt8} {x:BT Pay} (ho:op=89\/op=79\/op=72) (hab:0<=a/\a<=b/\b<=1000000) (h:Reads l x):Reads ([UInt8.ofNat op.toNat]++(winW a b++l)) (mk op ByteArray.empty a b x .nil):=by
 obtain ⟨⟨hg,hz⟩,hr⟩:=h
 have hwB:winB op=true:=by rcases ho with rfl | rfl | rfl<;>decide
 have hnw:winB op=false->a=0/\b=0:=fun h=>by rw [hwB] at h;cases h
 have hob:opBytes op=[UInt8.ofNat op.toNat]:=by rcases ho with rfl | rfl | rfl<;>rfl
 refine ⟨⟨.inr (.inr (.inr ⟨.inr ho,rfl,hab,hnw,hg,rfl⟩)),rfl,rfl,hz,trivial⟩,fun s pos last rest hs hl=>?_⟩
 rw [List.append_assoc,<- hob] at hs
 rw [<- hob]
 have k1:=eats_op last (op:=op) (by unfold isSign;omega) hs
 have d1:=at_next hs
 rw [List.append_assoc] at d1
 obtain ⟨n2,hn2,k2⟩:=eats_win (op:=op) op hwB ⟨hab.1,hab.2.1⟩ d1
 have d2:=at_next d1
 obtain ⟨n,l2,T,hn,k3,hp⟩:=hr s _ 93 rest d2 (by decide)
 refine ⟨_,_,_,?_,k1.trans (k2.trans k3),?_⟩
 ·have:1<=(opBytes op).length:=by rw [hob];simp
  simp;omega
 ·exact par_one (op:=op) (wd:=opBytes op) (.inr ho) hab hnw hp
theorem Reads.two {c:UInt8} {op:Int} {l r:List UInt8} {x y:BT Pay} (hc:(c=38/\op=8743)\/(c=124/\op=8744)) (h:Reads l x) (h':Reads r y):Reads ([40]++(l++([32]++([c]++([32]++(r++[41])))))) (mk op ByteArray.empty 0 0 x y):=by
 obtain ⟨⟨hg,hz⟩,hr⟩:=h
 obtain ⟨⟨hg2,hz2⟩,hr2⟩:=h'
 have hop:op=8743\/op=8744\/op=83:=by omega
 have hwB:winB op=false:=by rcases hc with ⟨_,rfl⟩ | ⟨_,rfl⟩<;>decide
 refine ⟨⟨.inr (.inr (.inl ⟨hop,rfl,show (0:Int)<=0/\(0:Int)<=0/\(0:Int)<=1000000 by decide,fun _=>⟨rfl,rfl⟩,hg,hg2⟩)),rfl,rfl,hz,hz2⟩,fun s pos last rest hs hl=>?_⟩
 simp only [List.append_assoc] at hs
 have k1:=eats_char 40 last (by simp) (show s.data.toList.drop _=40::_ from hs)
 have d1:=at_next (m:=[40]) hs
 obtain ⟨n2,l2,T,hn2,k2,hp⟩:=hr s _ ((40:UInt8).toNat:Int) _ d1 (by decide)
 have d2:=at_next d1
 have k3:=eats_blank l2 (show s.data.toList.drop _=32::_ from d2)
 have d3:=at_next (m:=[32]) d2
 have k4:=eats_ascii c op 32 (.inr hc) (show s.data.toList.drop _=c::_ from d3)
 have d4:=at_next (m:=[c]) d3
 have k5:=eats_blank op (show s.data.toList.drop _=32::_ from d4)
 have d5:=at_next (m:=[32]) d4
 obtain ⟨n6,l6,U,hn6,k6,hq⟩:=hr2 s _ 32 _ d5 (by decide)
 have d6:=at_next d5
 have k7:=eats_char 41 l6 (by simp) (show s.data.toList.drop _=41::_ from d6)
 refine ⟨_,_,_,?_,k1.trans (k2.trans (k3.trans (k4.trans (k5.trans (k6.trans k7))))),?_⟩
 ·simp;omega
 ·have:=par_two (op:=op) (lo:=0) (hi:=0) (wd:=[c]) hop (by decide) (fun _=>⟨rfl,rfl⟩) hp hq
  have e2:tkW ⟨op,ByteArray.empty,0,0⟩=[]:=by unfold tkW;simp only;rw [hwB];rfl
  rw [e2] at this
  simpa using this
theorem Reads.since {a b:Int} {l r:List UInt8} {x y:BT Pay} (hab:0<=a/\a<=b/\b<=1000000) (h:Reads l x) (h':Reads r y):Reads ([40]++(l++([32]++([83]++(winW a b++(r++[41])))))) (mk 83 ByteArray.empty a b x y):=by
 obtain ⟨⟨hg,hz⟩,hr⟩:=h
 obtain ⟨⟨hg2,hz2⟩,hr2⟩:=h'
 have hnw:winB 83=false->a=0/\b=0:=fun h=>absurd h (by decide)
 refine ⟨⟨.inr (.inr (.inl ⟨.inr (.inr rfl),rfl,hab,hnw,hg,hg2⟩)),rfl,rfl,hz,hz2⟩,fun s pos last rest hs hl=>?_⟩
 simp only [List.append_assoc] at hs
 have k1:=eats_char 40 last (by simp) (show s.data.toList.drop _=40::_ from hs)
 have d1:=at_next (m:=[40]) hs
 obtain ⟨n2,l2,T,hn2,k2,hp⟩:=hr s _ ((40:UInt8).toNat:Int) _ d1 (by decide)
 have d2:=at_next d1
 have k3:=eats_blank l2 (show s.data.toList.drop _=32::_ from d2)
 have d3:=at_next (m:=[32]) d2
 have k4:=eats_op (op:=83) 32 (by unfold isSign;omega) (show s.data.toList.drop _=opBytes 83++_ from d3)
 have d4:=at_next (m:=[83]) d3
 obtain ⟨n5,hn5,k5⟩:=eats_win (op:=83) 83 (by decide) ⟨hab.1,hab.2.1⟩ d4
 have d5:=at_next d4
 obtain ⟨n6,l6,U,hn6,k6,hq⟩:=hr2 s _ 93 _ d5 (by decide)
 have d6:=at_next d5
 have k7:=eats_char 41 l6 (by simp) (show s.data.toList.drop _=41::_ from d6)
 refine ⟨_,_,_,?_,k1.trans (k2.trans (k3.trans (Eats.trans (l:=[83]) k4 (k5.trans (k6.trans k7))))),?_⟩
 ·simp;omega
 ·have:=par_two (op:=83) (lo:=a) (hi:=b) (wd:=opBytes 83) (.inr (.inr rfl)) hab hnw hp hq
  simpa using this
theorem Reads.read {l:List UInt8} {x:BT Pay} (h:Reads l x) (hd:depthT x<=12) (hl:l.length<=300) {s:ByteArray} (hs:s.data.toList=l):readF s=(some x,0):=by
 obtain ⟨⟨hg,hz⟩,hr⟩:=h
 have hsz:s.size=l.length:=by rw [<- hs,Array.length_toList];rfl
 obtain ⟨n,last',T,hn,hE,hp⟩:=hr s 0 32 [] (by simpa using hs) (by decide)
 obtain ⟨A,hA,e⟩:=hE (l.length-n) []
 have e0:l.length-n+n=l.length:=by omega
 rw [e0] at e
 have e':scanF s l.length 0 32 []=some (A++[endTok s]):=by
  refine e.trans ?_
  rw [scanF_end _ _ _ _ _ (by rw [hsz];omega),List.nil_append]
 unfold readF
 rw [if_neg (by omega),hsz,e']
 simp only
 have hlen:depthT x<=(A++[endTok s]).length:=by
  have h1:=hp.1
  rw [<- hA,List.length_map] at h1
  simp;omega
 rw [hp.2 _ hlen A _ hA]
 simp only
 have e1:expectF (-1) [endTok s]=some [endTok s]:=by
  unfold expectF takeF
  rfl
 rw [e1]
 simp only
 rw [if_neg (by omega)]
end Go.Proofs.YtpbbmagjhkakgaaGreatDoor
