import Derived.Test.YtpbbmagjhkakgaaGreatDoorEaStepToEaHear
import Derived.Test.YtpbbmagjhkakgaaGreatDoorEdInvToSmSent
import Derived.Test.YtpbbmagjhkakgaaGreatDoorSmOpsToEfForg
namespace Go.Proofs.YtpbbmagjhkakgaaGreatDoor
namespace Ev
open Go.RowKit Go.Deep Go.Maps Lf Go.Conc
theorem p9 {A:Act} {l:List (Nat×Value)} (h:Fx 113 l A):∃ u:Nat->Value,(∀ j v,look l j=some v->u j=v)/\A=⟨#[u 0,u 1,u 2,u 3,u 4,u 5,u 6,u 7,u 8,u 9,u 10,u 11,u 12,u 13,u 14,u 15,u 16,u 17,u 18,u 19,u 20,u 21,u 22,u 23,u 24,u 25,u 26,u 27,u 28,u 29,u 30,u 31,u 32,u 33,u 34,u 35,u 36,u 37,u 38,u 39,u 40,u 41,u 42,u 43,u 44,u 45,u 46,u 47,u 48,u 49,u 50,u 51,u 52,u 53,u 54,u 55,u 56,u 57,u 58,u 59,u 60,u 61,u 62,u 63,u 64,u 65,u 66,u 67,u 68,u 69,u 70,u 71,u 72,u 73,u 74,u 75,u 76,u 77,u 78,u 79,u 80,u 81,u 82,u 83,u 84,u 85,u 86,u 87,u 88,u 89,u 90,u 91,u 92,u 93,u 94,u 95,u 96,u 97,u 98,u 99,u 100,u 101,u 102,u 103,u 104,u 105,u 106,u 107,u 108,u 109,u 110,u 111,u 112],[]⟩:=by
 obtain ⟨oK,hd,hg⟩:=h
 refine ⟨fun j=>A.tmps.getD j undef,fun j v h=>by show A.tmps.getD j undef=v;rw [Array.getD_eq_getD_getElem?,hg j v h];rfl,?_⟩
 have e:=arr_get A.tmps 113 oK
 obtain ⟨t,d⟩:=A
 simp only at *
 subst hd
 rw [Act.mk.injEq]
 exact ⟨e.trans rfl,rfl⟩
section
variable (eo : Option Addr) (ln cap mb : Nat) (now : Int)
def F21 (i:Int):List (Nat×Value):=[(2,.slice eo ln cap),(8,.pointer (some ⟨mb,0,none⟩)),(12,.bool true),(13,.int .i64 now),(14,.int .i64 i)]
variable (A : Act) (w : World) (Q : Act → World → Prop) (i : Nat)
set_option maxRecDepth 100000
set_option maxHeartbeats 4000000
theorem head21_A (_:ln<=9223372036854775807) (h1:i<25) (h2:i<ln) (hA:Fx 113 (F21 eo ln cap mb now i) A) (hQ:∀ A',Fx 113 (F21 eo ln cap mb now i) A'->Q A' w):head21.wp Tryz.prog (fun e A' w'=>e=.normal/\Q A' w') A w:=by
 replace hQ:Hid _:=hQ
 obtain ⟨u,hu,rfl⟩:=p9 hA
 simp only [hu 2 _ rfl,hu 8 _ rfl,hu 12 _ rfl,hu 13 _ rfl,hu 14 _ rfl]
 clear hu hA
 simp only [head21,jV,iZ,Tryz.f21,Option.getD_some]
 go_wp2_with fail
 first | refine hQ.out _ (Fx.of rfl rfl ?_) | refine ⟨rfl,hQ.out _ (Fx.of rfl rfl ?_)⟩
 simp only [F21,List.forall_mem_cons,List.not_mem_nil,false_implies,implies_true,and_true]
 exact ⟨rfl,rfl,rfl,rfl,rfl⟩
theorem end21_A (h1:i<=25) (h2:i<=ln) (h3:i=25\/i=ln) (hA:Fx 113 (F21 eo ln cap mb now i) A) (hQ:∀ A',Fx 113 (F21 eo ln cap mb now i) A'->Q A' w):head21.wp Tryz.prog (fun e A' w'=>e=.exit 0/\Q A' w') A w:=by
 replace hQ:Hid _:=hQ
 obtain ⟨u,hu,rfl⟩:=p9 hA
 simp only [hu 2 _ rfl,hu 8 _ rfl,hu 12 _ rfl,hu 13 _ rfl,hu 14 _ rfl]
 clear hu hA
 simp only [head21,jV,iZ,Tryz.f21,Option.getD_some]
 by_cases cz:i<ln
 ·obtain rfl:i=25:=by omega
  go_wp2_with fail
  first | refine hQ.out _ (Fx.of rfl rfl ?_) | refine ⟨rfl,hQ.out _ (Fx.of rfl rfl ?_)⟩
  simp only [F21,List.forall_mem_cons,List.not_mem_nil,false_implies,implies_true,and_true]
  exact ⟨rfl,rfl,rfl,rfl,rfl⟩
 ·obtain rfl:i=ln:=by omega
  go_wp2_with fail
  first | refine hQ.out _ (Fx.of rfl rfl ?_) | refine ⟨rfl,hQ.out _ (Fx.of rfl rfl ?_)⟩
  simp only [F21,List.forall_mem_cons,List.not_mem_nil,false_implies,implies_true,and_true]
  exact ⟨rfl,rfl,rfl,rfl,rfl⟩
theorem ok21_A (hA:Fx 113 ((15,.int .i64 0)::F21 eo ln cap mb now i) A) (hQ:∀ A',Fx 113 (F21 eo ln cap mb now i) A'->Q A' w):ok21.wp Tryz.prog (fun e A' w'=>e=.normal/\Q A' w') A w:=by
 replace hQ:Hid _:=hQ
 obtain ⟨u,hu,rfl⟩:=p9 hA
 simp only [hu 2 _ rfl,hu 8 _ rfl,hu 12 _ rfl,hu 13 _ rfl,hu 14 _ rfl,hu 15 _ rfl]
 clear hu hA
 simp only [ok21,jV,iZ,Tryz.f21,Option.getD_some]
 go_wp2_with fail
 first | refine hQ.out _ (Fx.of rfl rfl ?_) | refine ⟨rfl,hQ.out _ (Fx.of rfl rfl ?_)⟩
 simp only [F21,List.forall_mem_cons,List.not_mem_nil,false_implies,implies_true,and_true]
 exact ⟨rfl,rfl,rfl,rfl,rfl⟩
theorem next21_A (h1:i<25) (hA:Fx 113 (F21 eo ln cap mb now i) A) (hQ:∀ A',Fx 113 (F21 eo ln cap mb now ((i+1:Nat):Int)) A'->Q A' w):next21.wp Tryz.prog (fun e A' w'=>e=.normal/\Q A' w') A w:=by
 replace hQ:Hid _:=hQ
 obtain ⟨u,hu,rfl⟩:=p9 hA
 simp only [hu 2 _ rfl,hu 8 _ rfl,hu 12 _ rfl,hu 13 _ rfl,hu 14 _ rfl]
 clear hu hA
 simp only [next21,jV,iZ,Tryz.f21,Option.getD_some]
 go_wp2_with fail
 first | refine hQ.out _ (Fx.of rfl rfl ?_) | refine ⟨rfl,hQ.out _ (Fx.of rfl rfl ?_)⟩
 simp only [F21,List.forall_mem_cons,List.not_mem_nil,false_implies,implies_true,and_true]
 exact ⟨rfl,rfl,rfl,rfl,rfl⟩
theorem zero21_A (hA:Fx 113 [(2,.slice eo ln cap),(8,.pointer (some ⟨mb,0,none⟩)),(12,.bool true),(13,.int .i64 0)] A) (hQ:∀ A',Fx 113 (F21 eo ln cap mb 0 0) A'->Q A' w):zero21.wp Tryz.prog (fun e A' w'=>e=.normal/\Q A' w') A w:=by
 replace hQ:Hid _:=hQ
 obtain ⟨u,hu,rfl⟩:=p9 hA
 simp only [hu 2 _ rfl,hu 8 _ rfl,hu 12 _ rfl,hu 13 _ rfl]
 clear hu hA
 simp only [zero21,iZ,Tryz.f21,Option.getD_some]
 go_wp2_with fail
 first | refine hQ.out _ (Fx.of rfl rfl ?_) | refine ⟨rfl,hQ.out _ (Fx.of rfl rfl ?_)⟩
 simp only [F21,List.forall_mem_cons,List.not_mem_nil,false_implies,implies_true,and_true]
 exact ⟨rfl,rfl,rfl,rfl,rfl⟩
theorem later21_A (L:List (Int×Int)) (_:L.length<=9223372036854775807) (hL:∀ p∈L,mj p.1/\mj p.2) (hC:gJ w eo L) (h1:i<25) (h2:i<L.length) (hA:Fx 113 (F21 eo L.length cap mb (aW L i) i) A) (hQ:∀ A',Fx 113 (F21 eo L.length cap mb (aW L (i+1)) i) A'->Q A' w):later21.wp Tryz.prog (fun e A' w'=>e=.normal/\Q A' w') A w:=by
 obtain ⟨b,off,rfl,hbl,pV⟩:=hC (by intro e;rw [e] at h2;simp at h2)
 have c1:=(pV i h2).1
 have sP:L.getD i (0,0)∈L:=by rw [List.getD_eq_getElem?_getD,List.getElem?_eq_getElem h2];exact List.getElem_mem h2
 have cz:=later_any (L.getD i (0,0)).1 w (hL _ sP).1
 have hTr:=nN L i
 have hlr:=pY (L.getD i (0,0)).1
 rw [show aW L (i+1)=aW L i+ob (L.getD i (0,0)).1 from rfl] at hQ
 clear pV hC hL sP
 obtain ⟨u,hu,rfl⟩:=p9 hA
 simp only [hu 2 _ rfl,hu 8 _ rfl,hu 12 _ rfl,hu 13 _ rfl,hu 14 _ rfl]
 clear hu hA
 simp only [later21,jV,iZ,Tryz.f21,Option.getD_some]
 generalize (L.getD i (0,0)).1=lc at *
 generalize ob lc=lz at *
 generalize aW L i=tz at *
 generalize L.length=ln at *
 replace hQ:Hid _:=hQ
 go_wp2_with fail
 refine cz.mono ?_
 rintro e w2 ⟨rfl,tR⟩
 obtain rfl:=tR.symm
 go_wp2_with fail
 first | refine hQ.out _ (Fx.of rfl rfl ?_) | refine ⟨rfl,hQ.out _ (Fx.of rfl rfl ?_)⟩
 simp only [F21,List.forall_mem_cons,List.not_mem_nil,false_implies,implies_true,and_true]
 exact ⟨rfl,rfl,rfl,rfl,rfl⟩
end
theorem vers_row {w:World} {B n:Nat} {x:BT aO} {L:List (Int×Int)} {v:Value} (h:w.ownsRow B 59 4 v n (nO x L n)):∃ o c,v=.slice o n c/\∀ j,j<n->∃ g,o=some ⟨g,0,none⟩/\w.cell? ⟨g,j*4,none⟩=some (.int .i64 ((j:Int)+1))/\w.cell? ⟨g,j*4+2,none⟩=some (.int .i64 1)/\w.cell? ⟨g,j*4+3,none⟩=some (.bool (verZ x L j)):=by
 have h0:=h
 obtain ⟨e1,⟨rfl,e2⟩ | ⟨g,c,cur,rfl,_⟩⟩:=h
 ·subst e2
  exact ⟨none,0,rfl,fun j hj=>absurd hj (Nat.not_lt_zero _)⟩
 ·refine ⟨_,c,rfl,fun j hj=>?_⟩
  obtain ⟨y0,y2,y3⟩:=versL_get x L n j hj
  exact ⟨g,rfl,gH h0 rfl y0,gH h0 rfl y2,gH h0 rfl y3⟩
def S21 (R:Int) (x:BT aO) (L:List (Int×Int)) (eo:Option Addr) (cap mb aj:Nat) (w0:World) (now:Int) (iv i:Nat) (A:Act) (w:World):Prop:=Fx 113 (F21 eo L.length cap mb now iv) A/\(∃ m,dM R x L w0.heap.size mb aj i 1 m w)/\au (fun _=>False) w0 w
section
variable {R : Int} {x : BT aO} {L : List (Int × Int)} {eo : Option Addr} {cap mb aj : Nat} {w0 : World} {A : Act} {w : World} {now : Int} {iv i : Nat}
theorem S21.aU (h:S21 R x L eo cap mb aj w0 now iv i A w) (τ:Tape) (d:Nat):S21 R x L eo cap mb aj w0 now iv i A (re w τ d):=by
 obtain ⟨h1,⟨m,h2⟩,h3⟩:=h
 exact ⟨h1,⟨m,h2.aU τ d⟩,h3.aU τ d⟩
noncomputable def ope21:Array Oper:=match event21 with
 | .region _ x _=>x
 | _=>#[]
theorem re21:∃ n,event21=.region n ope21 false:=⟨_,rfl⟩
theorem ze21:ope21.size=10:=rfl
set_option maxRecDepth 100000 in
theorem ev21_A (hLm:L.length<=9223372036854775807) (hL:∀ p∈L,mj p.1/\mj p.2) (hC:gJ w0 eo L) (h1:i<25) (h2:i<L.length) (gG:ax (ak x)<=R) (h:S21 R x L eo cap mb aj w0 (aW L (i+1)) i i A w) :
  e_ Tryz.prog event21 (fun e A' w'=>e=.normal/\Fx 113 ((15,.int .i64 0)::F21 eo L.length cap mb (aW L (i+1)) i) A'/\(∃ m,dM R x L w0.heap.size mb aj (i+1) 1 m w')/\au (fun _=>False) w0 w') A w:=by
 have hP:=bk
 obtain ⟨hA,⟨m,h⟩,hs0⟩:=h
 obtain ⟨bb,off,rfl,hbl,pV⟩:=hC.move hs0 (by intro e;rw [e] at h2;simp at h2)
 have sP:L.getD i (0,0)∈L:=by rw [List.getD_eq_getElem?_getD,List.getElem?_eq_getElem h2];exact List.getElem_mem h2
 unfold F21 at hA
 refine e_.nJ fun b k cs ix bn=>?_
 obtain ⟨n,e0⟩:=re21
 rw [e0]
 refine af.region hP ix bn ?_
 rw [ze21]
 simp only [List.range,List.range.loop]
 refine mvF ⟨_,rfl,rfl,rfl,rfl⟩ hA rfl (by decide) ix bn fun A hA=>?_
 refine mvF ⟨_,rfl,rfl,rfl,rfl⟩ hA rfl (by decide) ix bn fun A hA=>?_
 refine mvF ⟨_,rfl,rfl,rfl,rfl⟩ hA rfl (by decide) ix bn fun A hA=>?_
 refine mvF ⟨_,rfl,rfl,rfl,rfl⟩ hA rfl (by decide) ix bn fun A hA=>?_
 refine idxC ⟨_,rfl,rfl,rfl,rfl⟩ hA rfl rfl h2 hLm (by decide) ix bn fun A hA=>?_
 refine fldC ⟨_,rfl,rfl,rfl,rfl⟩ hA rfl (by decide) ix bn fun A hA=>?_
 refine loadI ⟨_,rfl,rfl,rfl,rfl⟩ hA rfl (pV i h2).2 (by decide) ix bn fun A hA=>?_
 refine qQ ⟨_,rfl,rfl,rfl,rfl⟩ Tryz.func25 (by decide) rfl hA rfl (by decide) ix bn (atoms_H _ w (hL _ sP).2) (fun e w' x=>by obtain ⟨ao,cp,x1,_⟩:=x;exact ⟨_,x1⟩) ?_
 rintro v1 w1 A ⟨ao,acap,hv,hcp,df,kS⟩ hA
 cases hv
 refine qQ ⟨_,rfl,rfl,rfl,rfl⟩ Tryz.func24 (by decide) rfl hA rfl (by decide) ix bn ((h.move kS).event gG h1 ao acap df hcp) (fun e w' x=>⟨_,x.1⟩) ?_
 rintro v2 w2 A ⟨hv,hI,oJ⟩ hA
 cases hv
 refine asgF ⟨_,rfl,rfl,rfl,rfl⟩ hA rfl (by decide) ix bn fun A hA=>?_
 refine af.nil hP ix bn (af.here fun τ d=>⟨A,⟨hA.less ?_,⟨m,hI.aU τ d⟩,(iM (hs0.trans kS) oJ).aU τ d⟩,rfl⟩)
 simp only [F21,List.forall_mem_cons,List.not_mem_nil,false_implies,implies_true,and_true]
 exact ⟨rfl,rfl,rfl,rfl,rfl,rfl⟩
theorem round21_A (hLm:L.length<=9223372036854775807) (hL:∀ p∈L,mj p.1/\mj p.2) (hC:gJ w0 eo L) (gG:ax (ak x)<=R) (h:S21 R x L eo cap mb aj w0 (aW L i) i i A w) (h1:i<=25) (h2:i<=L.length) :
  e_ Tryz.prog jV (fun e A' w'=>(e=.normal/\i<25/\i<L.length/\S21 R x L eo cap mb aj w0 (aW L (i+1)) (i+1) (i+1) A' w')\/(e=.exit 0/\(i=25\/i=L.length)/\S21 R x L eo cap mb aj w0 (aW L i) i i A' w')) A w:=by
 have hP:=bk
 have e0:jV=.seq head21 (.seq (.block 1 (.seq later21 (.seq event21 ok21))) next21):=rfl
 rw [e0]
 by_cases tP:i<25/\i<L.length
 ·obtain ⟨h3,h4⟩:=tP
  refine e_.seqL hP (S21 R x L eo cap mb aj w0 (aW L i) i i) (fun _ _ τ d x=>x.aU τ d) (fun τ d=>head21_A eo L.length cap mb _ A _ _ i hLm h3 h4 h.1 fun A' sN=>⟨sN,(h.aU τ d).2⟩) fun A w h=>?_
  refine e_.seqH hP (S21 R x L eo cap mb aj w0 (aW L (i+1)) i (i+1)) (e_.blockN hP (fun _ _ τ d x=>x.aU τ d) ?_) fun A w h=>?_
  ·refine e_.seqL hP (S21 R x L eo cap mb aj w0 (aW L (i+1)) i i) (fun _ _ τ d x=>x.aU τ d) (fun τ d=>later21_A eo cap mb A _ _ i L hLm hL (hC.move (h.aU τ d).2.2) h3 h4 h.1 fun A' sN=>⟨sN,(h.aU τ d).2⟩) fun A w h=>?_
   refine e_.seqH hP _ (ev21_A hLm hL hC h3 h4 gG h) fun A w h=>?_
   exact e_.loneN hP (fun _ _ τ d x=>x.aU τ d) fun τ d=>ok21_A eo L.length cap mb _ A _ _ i h.1 fun A' sN=>S21.aU ⟨sN,h.2⟩ τ d
  ·refine (e_.loneN hP (J:=S21 R x L eo cap mb aj w0 (aW L (i+1)) (i+1) (i+1)) (fun _ _ τ d x=>x.aU τ d) fun τ d=>next21_A eo L.length cap mb _ A _ _ i h3 h.1 fun A' sN=>⟨sN,(h.aU τ d).2⟩).mono ?_
   rintro e a w ⟨rfl,h⟩
   exact .inl ⟨rfl,h3,h4,h⟩
 ·have h3:i=25\/i=L.length:=by omega
  refine e_.seq hP ((e_.of_wp hP (Q:=fun e a' w'=>e=.exit 0/\S21 R x L eo cap mb aj w0 (aW L i) i i a' w') (fun _ _ _ τ d x=>⟨x.1,x.2.aU τ d⟩) (fun _ _ x=>by cases x.1) (fun τ d=>end21_A eo L.length cap mb _ A _ _ i h1 h2 h3 h.1 fun A' sN=>⟨sN,(h.aU τ d).2⟩)).mono ?_)
  rintro e a w ⟨rfl,h⟩
  exact .inr ⟨rfl,h3,h⟩
end
end Ev
namespace Ev
open Go.RowKit Go.Deep Go.Maps Lf Go.Conc
set_option maxRecDepth 100000 in
set_option maxHeartbeats 8000000 in
theorem rest21_A {R:Int} (x:BT aO) (L:List (Int×Int)) (mb aj m n:Nat) (hN:n<=25) (w0:World) (A:Act) (w:World) (hI:dM R x L w0.heap.size mb aj n 1 m w) (hs:au (fun _=>False) w0 w) (hA:Fx 113 [(8,.pointer (some ⟨mb,0,none⟩)),(12,.bool true)] A) (hn:n=min L.length 25):rest21.wp Tryz.prog (bodyPost Tryz.prog Tryz.f21 (iE x L w0)) A w:=by
 have df:=hI.stream hN
 have HP:Hid (∀ w',Below w.heap.size w w'->iE x L w0 (.returned (.tuple #[.string (eL x L n),.bool true])) w'):=fun w' hb=>by rw [hn];exact ⟨rfl,hs.trans (au.aL hb)⟩
 obtain ⟨u,hu,rfl⟩:=p9 hA
 simp only [hu 8 _ rfl,hu 12 _ rfl]
 unfold nP at df
 clear hu hA hI hs hn
 generalize hQ:bodyPost Tryz.prog Tryz.f21 (iE x L w0)=Q
 simp only [rest21,iZ,Tryz.f21,Option.getD_some]
 go_wp2_with fail
 refine df.mono ?_
 rintro e w1 ⟨v,rfl,bT,a_⟩
 obtain ⟨o,c,rfl,om⟩:=vers_row bT
 replace om:Hid _:=om
 clear bT df
 go_wp2_with fail
 go_loopw [19,18] (fun iv sv wr=>∃ i:Nat,iv=.int .i64 i/\i<=n/\sv=.string (eL x L i)/\wr=w1) (fun iv _ _=>n-(intOf iv).toNat)
 case atStart=>exact ⟨0,rfl,Nat.zero_le _,rfl,rfl⟩
 case round =>
  obtain ⟨i,rfl,tP,rfl,rfl⟩:=hrel
  by_cases hi:i<n
  ·obtain ⟨g,ho,c0,c2,c3⟩:=om.out i hi
   subst ho
   have oK:=verS_size x L i
   have hno:¬ 9223372036854775807<(eL x L i).size+1:=by omega
   have kU:Hid (eL x L (i+1)=eL x L i++(if verZ x L i then ⟨#[49]⟩ else ⟨#[48]⟩)):=rfl
   cases hvz:verZ x L i with
   | true =>
    rw [hvz] at c3
    have oJ:Hid (eL x L (i+1)=eL x L i++⟨#[49]⟩):=by show _=_;rw [kU.out,hvz];rfl
    clear kU hvz
    generalize eL x L i=ss at *
    go_wp2_with fail
    go_roundw
    case rel=>exact ⟨i+1,by go_num,by omega,by rw [oJ.out],trivial⟩
    case measure=>simp only [intOf];omega
   | false =>
    rw [hvz] at c3
    have oJ:Hid (eL x L (i+1)=eL x L i++⟨#[48]⟩):=by show _=_;rw [kU.out,hvz];rfl
    clear kU hvz
    generalize eL x L i=ss at *
    go_wp2_with fail
    go_roundw
    case rel=>exact ⟨i+1,by go_num,by omega,by rw [oJ.out],trivial⟩
    case measure=>simp only [intOf];omega
  ·obtain rfl:i=n:=by omega
   go_wp2_with fail
   rw [<- hQ]
   go_ret2
   exact HP.out _ a_
def Pre21 (R:Int) (x:BT aO) (L:List (Int×Int)) (eo:Option Addr) (cap:Nat) (w0:World) (A:Act) (w:World):Prop:=∃ mb aj,Fx 113 [(2,.slice eo L.length cap),(8,.pointer (some ⟨mb,0,none⟩)),(12,.bool true),(13,.int .i64 0)] A/\(∃ m,dM R x L w0.heap.size mb aj 0 1 m w)/\au (fun _=>False) w0 w
set_option maxRecDepth 100000 in
set_option maxHeartbeats 8000000 in
theorem pre21_A {R:Int} (hR:0<=R/\R<=100000) (s:ByteArray) (x:BT aO) (tx:pw s x) (hx:ax x<=R) (L:List (Int×Int)) (eo:Option Addr) (cap:Nat) (w0 w:World) (hs0:au (fun _=>False) w0 w) (hsz0:w0.heap.size=w.heap.size) (hg:eF w) (l9:14<=w.heap.size) :
  wps Tryz.prog pre21 (Pre21 R x L eo cap w0) ⟨#[.string s,.int .i64 R,.slice eo L.length cap]++Array.replicate 110 undef,[]⟩ w:=by
 have hN:=new_ok R 60 w hR (by decide)
 have HA:Hid (∀ (W:World) (mb aj:Nat),Below w.heap.size w W->w.heap.size<=aj->W.heap[mb]? = some (.cells #[.pointer (some ⟨aj,0,none⟩)] 104 (0,0))->W.heap[aj]? = some (.cells #[.int .i64 R,.int .i64 60,.slice none 0 0,.slice none 0 0,.slice none 0 0] 153 (0,0))->Calls Tryz.prog 27 #[.pointer (some ⟨mb,0,none⟩),.string ⟨#[112]⟩,.string s] W fun e w'=>∃ r,e=.returned (.tuple #[r,.int .i64 0])/\(∃ m,dM R x L w0.heap.size mb aj 0 1 m w')/\au (fun _=>False) w0 w') :=
  fun W mb aj hb h0 h1 h2=>(dM.start (by omega) (B0:=w0.heap.size) (L:=L) s h1 h2 (by omega) (Nat.le_trans tx.size (by decide)) (hg.below hb) (by have:=hb.size;omega) tx.read (Nat.le_trans tx.nodes (by decide)) ⟨eX (iJ tx.read).1.win,hx⟩ (few_nodes tx.nodes)).mono fun e w' ⟨r,m,h3,h4,h5⟩=>⟨r,h3,⟨m,h4⟩,iM (hs0.trans (au.aL hb)) h5⟩
 clear hs0 hg l9 tx hsz0 hx
 simp only [pre21,iZ,Tryz.f21,Option.getD_some,Array.replicate_succ,Array.replicate_zero,List.push_toArray,List.append_toArray,List.nil_append,List.cons_append]
 unfold wps
 generalize hl:L.length=ln at *
 go_wp2_with fail
 try refine ⟨rfl,?_⟩
 unfold wps
 go_wp2_with fail
 refine hN.mono ?_
 rintro e w1 ⟨mb,aj,rfl,n1,n2,n3,n4,n5⟩
 go_wp2_with fail
 try refine ⟨rfl,?_⟩
 unfold wps
 go_wp2_with fail
 try refine ⟨rfl,?_⟩
 unfold wps
 go_wp2_with fail
 refine (HA.out w1 mb aj n5 n2 n3 n4).mono ?_
 rintro e w2 ⟨r,rfl,hP⟩
 replace hP:Hid _:=hP
 go_wp2_with fail
 try refine ⟨rfl,?_⟩
 unfold wps
 go_wp2_with fail
 try refine ⟨rfl,?_⟩
 unfold wps
 go_wp2_with fail
 try refine ⟨rfl,?_⟩
 unfold wps
 subst hl
 refine ⟨mb,aj,Fx.of rfl rfl ?_,hP.out⟩
 simp only [List.forall_mem_cons,List.not_mem_nil,false_implies,implies_true,and_true]
 exact ⟨rfl,rfl,rfl,rfl⟩
theorem watched_A {R:Int} (hR:0<=R/\R<=100000) {s:ByteArray} {x:BT aO} (tx:pw s x) (hx:ax x<=R) (L:List (Int×Int)) (eo:Option Addr) (cap:Nat) (w:World) (hg:eF w) (l9:14<=w.heap.size) (hLm:L.length<=9223372036854775807) (hL:∀ p∈L,mj p.1/\mj p.2) (hC:gJ w eo L):bZ Tryz.prog 21 #[.string s,.int .i64 R,.slice eo L.length cap] w (iE x L w):=by
 have hP:=bk
 have ix:∀ it∈([]:List Item),aR it:=by simp
 have dY:∀ (c:Code),∀ it∈[Item.code c],aR it:=fun c=>aJ trivial (by simp)
 have rC:∀ (c d:Code),∀ it∈[Item.code c,Item.code d],aR it:=fun c d=>aJ trivial (dY d)
 have gG:ax (ak x)<=R:=Int.le_trans (mR (iJ tx.read).1) hx
 have hb:Tryz.f21.body=some iZ:=rfl
 have e0:iZ=unseq pre21 (.seq (.seq zero21 (.block 0 (.loop jV))) rest21):=rfl
 refine bZ.nJ Tryz.func21 hb fun cs bn=>?_
 rw [e0]
 refine af.pieces hP pre21 (Pre21 R x L eo cap w) ?_ ix bn (fun τ d=>pre21_A hR s x tx hx L eo cap w (re w τ d) ((au.refl _ w).aU τ d) rfl (glob_tape hg τ d) l9) ?_
 ·rintro a w' τ d ⟨mb,aj,h1,⟨m,h2⟩,h3⟩
  exact ⟨mb,aj,h1,⟨m,h2.aU τ d⟩,h3.aU τ d⟩
 rintro A w1 ⟨mb,aj,hA,⟨m,hI⟩,hs⟩
 refine af.seq hP ix bn (af.seq hP (dY _) bn ?_)
 refine af.piece hP (S21 R x L eo cap mb aj w (aW L 0) 0 0) (fun _ _ τ d x=>x.aU τ d) (rC _ _) bn (fun τ d=>zero21_A eo L.length cap mb A _ _ hA fun A' sN=>⟨sN,⟨m,hI.aU τ d⟩,hs.aU τ d⟩) fun A w1 h0=>?_
 refine af.hpiece (S21 R x L eo cap mb aj w (aW L (min L.length 25)) (min L.length 25) (min L.length 25)) (dY _) bn (e_.blockLoop hP (fun n a w'=>∃ i:Nat,n=25-i/\i<=25/\i<=L.length/\S21 R x L eo cap mb aj w (aW L i) i i a w') _ (fun _ _ τ d x=>x.aU τ d) 25 ⟨0,rfl,by omega,by omega,h0⟩ ?_) fun A w2 h2=>?_
 ·rintro n A w2 ⟨i,rfl,h1,h2,h3⟩
  refine (round21_A hLm hL hC gG h3 h1 h2).mono ?_
  rintro e A w3 (⟨rfl,h4,h5,h6⟩ | ⟨rfl,h4,h6⟩)
  ·exact .inl ⟨rfl,25-(i+1),by omega,i+1,rfl,by omega,by omega,h6⟩
  ·have e1:i=min L.length 25:=by omega
   subst e1
   exact .inr ⟨rfl,h6⟩
 ·obtain ⟨hA,⟨m,hI⟩,hs⟩:=h2
  refine af.last hP bn Tryz.func21 ?_ ?_ fun τ d=>rest21_A x L mb aj m _ (by omega) w A _ (hI.aU τ d) (hs.aU τ d) (hA.less ?_) rfl
  ·rintro e w' τ d ⟨h1,h2⟩
   exact ⟨h1,h2.aU τ d⟩
  ·rintro w' ⟨h1,_⟩
   cases h1
  ·simp only [F21,List.forall_mem_cons,List.not_mem_nil,false_implies,implies_true,and_true]
   exact ⟨rfl,rfl⟩
end Ev
end Go.Proofs.YtpbbmagjhkakgaaGreatDoor
