import Derived.Test.YtpbbmagjhkakgaaGreatDoorElKeepToEfLoop2
import Derived.Test.YtpbbmagjhkakgaaGreatDoorEdTake3ToEdWatch
import Derived.Test.YtpbbmagjhkakgaaGreatDoorPut2ToEvJudge0
namespace Go.Proofs.YtpbbmagjhkakgaaGreatDoor.Ev
open Go.RowKit Go.Deep Go.Maps Go.Proofs.YtpbbmagjhkakgaaGreatDoor.Lf Go.Conc
theorem reach_H (s:ByteArray) (x:BT Pay) (w:World) (tx:TextOK s x) (hg:Glob w) (hw7:14<=w.heap.size):HCalls Tryz.prog 15 #[.string s] w fun e w'=>e=.returned (.tuple #[.int .i64 (reachT x),.int .i64 0])/\SpareR (fun _=>False) w w':=by
 have hA:reachA s=.tuple #[.int .i64 (reachT x),.int .i64 0]:=by unfold reachA;rw [tx.read]
 refine lift (fun e w' τ d x=>⟨x.1,x.2.tapeR τ d⟩) (fun w x=>by cases x.1) fun τ d=>(reachTop_any s (re w τ d) (Nat.le_trans tx.size (by decide)) (glob_tape hg τ d) hw7).mono ?_
 rintro e w' ⟨rfl,hb⟩
 exact ⟨by rw [hA],hb.os,hb.output,hb.size,fun x hx _=>hb.block x hx⟩
theorem new_H (n:Int) (w:World) (hn:0<=n/\n<=100000):HCalls Tryz.prog 23 #[.int .i64 n,.int .i64 60] w fun e w'=>∃ mb wtb,e=.returned (.tuple #[.pointer (some ⟨mb,0,none⟩),.int .i64 0])/\w.heap.size<=mb/\w.heap.size<=wtb/\w'.heap[mb]? = some (.cells #[.pointer (some ⟨wtb,0,none⟩)] 104 (0,0))/\w'.heap[wtb]? = some (.cells #[.int .i64 n,.int .i64 60,.slice none 0 0,.slice none 0 0,.slice none 0 0] 153 (0,0))/\SpareR (fun _=>False) w w':=by
 refine lift ?_ ?_ fun τ d=>(new_ok n 60 (re w τ d) hn (by decide)).mono ?_
 ·rintro e w' τ d ⟨mb,wtb,h1,h2,h3,h4,h5,h6⟩
  exact ⟨mb,wtb,h1,h2,h3,h4,h5,h6.tapeR τ d⟩
 ·rintro w' ⟨mb,wtb,h1,_⟩
  cases h1
 ·rintro e w' ⟨mb,wtb,h1,h2,h3,h4,h5,hb⟩
  exact ⟨mb,wtb,h1,h2,h3,h4,h5,hb.os,hb.output,hb.size,fun x hx _=>hb.block x hx⟩
noncomputable def body9:Code:=Tryz.f9.body.getD .skip
noncomputable def reg9 (k:Nat):Code:=seqC body9 k
noncomputable def ops9 (k:Nat):Array Oper:=opsR (reg9 k)
noncomputable def rest9:Code:=match body9 with
 | .seq _ (.seq _ (.seq _ (.seq _ (.seq _ (.seq _ (.seq _ (.seq _ (.seq _ (.seq _ (.seq _ (.seq _ (.seq _ x))))))))))))=>x
 | _=>.skip
set_option maxRecDepth 100000 in
theorem open227 {A:Act} (hsz:A.tmps.size=227) (hd:A.defers=[]):∃ u:Nat->Value,(∀ j v,A.tmps[j]? = some v->u j=v)/\A=⟨#[u 0,u 1,u 2,u 3,u 4,u 5,u 6,u 7,u 8,u 9,u 10,u 11,u 12,u 13,u 14,u 15,u 16,u 17,u 18,u 19,u 20,u 21,u 22,u 23,u 24,u 25,u 26,u 27,u 28,u 29,u 30,u 31,u 32,u 33,u 34,u 35,u 36,u 37,u 38,u 39,u 40,u 41,u 42,u 43,u 44,u 45,u 46,u 47,u 48,u 49,u 50,u 51,u 52,u 53,u 54,u 55,u 56,u 57,u 58,u 59,u 60,u 61,u 62,u 63,u 64,u 65,u 66,u 67,u 68,u 69,u 70,u 71,u 72,u 73,u 74,u 75,u 76,u 77,u 78,u 79,u 80,u 81,u 82,u 83,u 84,u 85,u 86,u 87,u 88,u 89,u 90,u 91,u 92,u 93,u 94,u 95,u 96,u 97,u 98,u 99,u 100,u 101,u 102,u 103,u 104,u 105,u 106,u 107,u 108,u 109,u 110,u 111,u 112,u 113,u 114,u 115,u 116,u 117,u 118,u 119,u 120,u 121,u 122,u 123,u 124,u 125,u 126,u 127,u 128,u 129,u 130,u 131,u 132,u 133,u 134,u 135,u 136,u 137,u 138,u 139,u 140,u 141,u 142,u 143,u 144,u 145,u 146,u 147,u 148,u 149,u 150,u 151,u 152,u 153,u 154,u 155,u 156,u 157,u 158,u 159,u 160,u 161,u 162,u 163,u 164,u 165,u 166,u 167,u 168,u 169,u 170,u 171,u 172,u 173,u 174,u 175,u 176,u 177,u 178,u 179,u 180,u 181,u 182,u 183,u 184,u 185,u 186,u 187,u 188,u 189,u 190,u 191,u 192,u 193,u 194,u 195,u 196,u 197,u 198,u 199,u 200,u 201,u 202,u 203,u 204,u 205,u 206,u 207,u 208,u 209,u 210,u 211,u 212,u 213,u 214,u 215,u 216,u 217,u 218,u 219,u 220,u 221,u 222,u 223,u 224,u 225,u 226],[]⟩:=by
 refine ⟨fun j=>A.tmps.getD j undef,fun j v h=>by show A.tmps.getD j undef=v;rw [Array.getD_eq_getD_getElem?,h];rfl,?_⟩
 have e:A.tmps=((List.range 227).map (fun j=>A.tmps.getD j undef)).toArray:=arr_get A.tmps 227 hsz
 obtain ⟨t,d⟩:=A
 simp only at *
 subst hd
 rw [Act.mk.injEq]
 exact ⟨e.trans rfl,rfl⟩
set_option maxRecDepth 100000 in
set_option maxHeartbeats 16000000 in
theorem chka9_go (eo:Option Addr) (ln cap:Nat) (at_:Int) (sp vs:ByteArray) (mb:Nat) {w1 w:World} (A:Act) (hA:Fx 227 [(1,.slice eo ln cap),(2,.int .i64 at_),(7,.bool true),(8,.string sp),(11,.int .i64 0),(12,.string vs),(13,.bool true),(14,.pointer (some ⟨mb,0,none⟩)),(15,.int .i64 0)] A) (hs:SpareR (fun _=>False) w1 w):(reg9 6).wp Tryz.prog (fun e A' w'=>e=.normal/\(Fx 227 [(1,.slice eo ln cap),(2,.int .i64 at_),(7,.bool true),(8,.string sp),(11,.int .i64 0),(12,.string vs),(13,.bool true),(14,.pointer (some ⟨mb,0,none⟩)),(15,.int .i64 0)] A'/\SpareR (fun _=>False) w1 w')) A w:=by
 have hPQ:∀ Q:Act->World->Prop,(∀ A',Fx 227 [(1,.slice eo ln cap),(2,.int .i64 at_),(7,.bool true),(8,.string sp),(11,.int .i64 0),(12,.string vs),(13,.bool true),(14,.pointer (some ⟨mb,0,none⟩)),(15,.int .i64 0)] A'->Q A' w)->(reg9 6).wp Tryz.prog (fun e A' w'=>e=.normal/\Q A' w') A w:=by
  intro Q hQ
  replace hQ:Hid _:=hQ
  obtain ⟨u,hu,rfl⟩:=open227 hA.size hA.defers
  have k1:=hu 1 _ (hA.get 1 _ rfl)
  have k2:=hu 2 _ (hA.get 2 _ rfl)
  have k7:=hu 7 _ (hA.get 7 _ rfl)
  have k8:=hu 8 _ (hA.get 8 _ rfl)
  have k11:=hu 11 _ (hA.get 11 _ rfl)
  have k12:=hu 12 _ (hA.get 12 _ rfl)
  have k13:=hu 13 _ (hA.get 13 _ rfl)
  have k14:=hu 14 _ (hA.get 14 _ rfl)
  have k15:=hu 15 _ (hA.get 15 _ rfl)
  clear hu hA
  simp only [k1,k2,k7,k8,k11,k12,k13,k14,k15]
  clear k1 k2 k7 k8 k11 k12 k13 k14 k15
  simp only [reg9,seqC,body9,Tryz.f9,Option.getD_some]
  go_wp2_with fail
  first | refine hQ.out _ ?_ | refine ⟨rfl,hQ.out _ ?_⟩
  refine Fx.of rfl rfl ?_
  simp only [List.forall_mem_cons,List.not_mem_nil,false_implies,implies_true,and_true]
  exact ⟨rfl,rfl,rfl,rfl,rfl,rfl,rfl,rfl,rfl⟩
 exact hPQ (fun A' w'=>Fx 227 [(1,.slice eo ln cap),(2,.int .i64 at_),(7,.bool true),(8,.string sp),(11,.int .i64 0),(12,.string vs),(13,.bool true),(14,.pointer (some ⟨mb,0,none⟩)),(15,.int .i64 0)] A'/\SpareR (fun _=>False) w1 w') fun A' h=>⟨h,hs⟩
set_option maxRecDepth 100000 in
set_option maxHeartbeats 16000000 in
theorem lena9_go (eo:Option Addr) (ln cap:Nat) (at_:Int) (sp vs:ByteArray) (mb:Nat) {w1 w:World} (A:Act) (hA:Fx 227 [(1,.slice eo ln cap),(2,.int .i64 at_),(8,.string sp),(12,.string vs),(14,.pointer (some ⟨mb,0,none⟩))] A) (hs:SpareR (fun _=>False) w1 w):(reg9 7).wp Tryz.prog (fun e A' w'=>e=.normal/\(Fx 227 [(1,.slice eo ln cap),(2,.int .i64 at_),(8,.string sp),(12,.string vs),(14,.pointer (some ⟨mb,0,none⟩)),(16,.int .i64 (ln:Int))] A'/\SpareR (fun _=>False) w1 w')) A w:=by
 have hPQ:∀ Q:Act->World->Prop,(∀ A',Fx 227 [(1,.slice eo ln cap),(2,.int .i64 at_),(8,.string sp),(12,.string vs),(14,.pointer (some ⟨mb,0,none⟩)),(16,.int .i64 (ln:Int))] A'->Q A' w)->(reg9 7).wp Tryz.prog (fun e A' w'=>e=.normal/\Q A' w') A w:=by
  intro Q hQ
  replace hQ:Hid _:=hQ
  obtain ⟨u,hu,rfl⟩:=open227 hA.size hA.defers
  have k1:=hu 1 _ (hA.get 1 _ rfl)
  have k2:=hu 2 _ (hA.get 2 _ rfl)
  have k8:=hu 8 _ (hA.get 8 _ rfl)
  have k12:=hu 12 _ (hA.get 12 _ rfl)
  have k14:=hu 14 _ (hA.get 14 _ rfl)
  clear hu hA
  simp only [k1,k2,k8,k12,k14]
  clear k1 k2 k8 k12 k14
  simp only [reg9,seqC,body9,Tryz.f9,Option.getD_some]
  go_wp2_with fail
  first | refine hQ.out _ ?_ | refine ⟨rfl,hQ.out _ ?_⟩
  refine Fx.of rfl rfl ?_
  simp only [List.forall_mem_cons,List.not_mem_nil,false_implies,implies_true,and_true]
  exact ⟨rfl,rfl,rfl,rfl,rfl,rfl⟩
 exact hPQ (fun A' w'=>Fx 227 [(1,.slice eo ln cap),(2,.int .i64 at_),(8,.string sp),(12,.string vs),(14,.pointer (some ⟨mb,0,none⟩)),(16,.int .i64 (ln:Int))] A'/\SpareR (fun _=>False) w1 w') fun A' h=>⟨h,hs⟩
set_option maxRecDepth 100000 in
set_option maxHeartbeats 16000000 in
theorem lenb9_go (eo:Option Addr) (ln cap:Nat) (at_:Int) (sp vs:ByteArray) (mb:Nat) (hln:ln<=9223372036854775807) {w1 w:World} (A:Act) (hA:Fx 227 [(1,.slice eo ln cap),(2,.int .i64 at_),(8,.string sp),(12,.string vs),(14,.pointer (some ⟨mb,0,none⟩)),(16,.int .i64 (ln:Int))] A) (hs:SpareR (fun _=>False) w1 w):(reg9 8).wp Tryz.prog (fun e A' w'=>e=.normal/\(Fx 227 [(1,.slice eo ln cap),(2,.int .i64 at_),(8,.string sp),(12,.string vs),(14,.pointer (some ⟨mb,0,none⟩)),(16,.int .i64 ((min ln 25:Nat):Int))] A'/\SpareR (fun _=>False) w1 w')) A w:=by
 have hPQ:∀ Q:Act->World->Prop,(∀ A',Fx 227 [(1,.slice eo ln cap),(2,.int .i64 at_),(8,.string sp),(12,.string vs),(14,.pointer (some ⟨mb,0,none⟩)),(16,.int .i64 ((min ln 25:Nat):Int))] A'->Q A' w)->(reg9 8).wp Tryz.prog (fun e A' w'=>e=.normal/\Q A' w') A w:=by
  intro Q hQ
  replace hQ:Hid _:=hQ
  obtain ⟨u,hu,rfl⟩:=open227 hA.size hA.defers
  have k1:=hu 1 _ (hA.get 1 _ rfl)
  have k2:=hu 2 _ (hA.get 2 _ rfl)
  have k8:=hu 8 _ (hA.get 8 _ rfl)
  have k12:=hu 12 _ (hA.get 12 _ rfl)
  have k14:=hu 14 _ (hA.get 14 _ rfl)
  have k16:=hu 16 _ (hA.get 16 _ rfl)
  clear hu hA
  simp only [k1,k2,k8,k12,k14,k16]
  clear k1 k2 k8 k12 k14 k16
  simp only [reg9,seqC,body9,Tryz.f9,Option.getD_some]
  by_cases h25:25<ln
  ·have e25:min ln 25=25:=by omega
   rw [e25] at hQ
   go_wp2_with fail
   first | refine hQ.out _ ?_ | refine ⟨rfl,hQ.out _ ?_⟩
   refine Fx.of rfl rfl ?_
   simp only [List.forall_mem_cons,List.not_mem_nil,false_implies,implies_true,and_true]
   exact ⟨rfl,rfl,rfl,rfl,rfl,rfl⟩
  ·have e25:min ln 25=ln:=by omega
   rw [e25] at hQ
   go_wp2_with fail
   first | refine hQ.out _ ?_ | refine ⟨rfl,hQ.out _ ?_⟩
   refine Fx.of rfl rfl ?_
   simp only [List.forall_mem_cons,List.not_mem_nil,false_implies,implies_true,and_true]
   exact ⟨rfl,rfl,rfl,rfl,rfl,rfl⟩
 exact hPQ (fun A' w'=>Fx 227 [(1,.slice eo ln cap),(2,.int .i64 at_),(8,.string sp),(12,.string vs),(14,.pointer (some ⟨mb,0,none⟩)),(16,.int .i64 ((min ln 25:Nat):Int))] A'/\SpareR (fun _=>False) w1 w') fun A' h=>⟨h,hs⟩
theorem rg9_0:reg9 0=.region 0 (ops9 0) false:=rfl
theorem sz9_0:(ops9 0).size=1:=rfl
theorem rg9_1:reg9 1=.region 1 (ops9 1) false:=rfl
theorem sz9_1:(ops9 1).size=2:=rfl
theorem rg9_2:reg9 2=.region 2 (ops9 2) false:=rfl
theorem sz9_2:(ops9 2).size=7:=rfl
theorem rg9_3:reg9 3=.region 3 (ops9 3) false:=rfl
theorem sz9_3:(ops9 3).size=7:=rfl
theorem rg9_4:reg9 4=.region 4 (ops9 4) false:=rfl
theorem sz9_4:(ops9 4).size=8:=rfl
theorem rg9_5:reg9 5=.region 5 (ops9 5) false:=rfl
theorem sz9_5:(ops9 5).size=8:=rfl
theorem rg9_9:reg9 9=.region 11 (ops9 9) false:=rfl
theorem sz9_9:(ops9 9).size=5:=rfl
theorem rg9_10:reg9 10=.region 12 (ops9 10) false:=rfl
theorem sz9_10:(ops9 10).size=1:=rfl
theorem rg9_11:reg9 11=.region 13 (ops9 11) false:=rfl
theorem sz9_11:(ops9 11).size=1:=rfl
theorem rg9_12:reg9 12=.region 14 (ops9 12) false:=rfl
theorem sz9_12:(ops9 12).size=1:=rfl
set_option maxRecDepth 100000 in
set_option maxHeartbeats 16000000 in
theorem late_pre (R:List Int) (o1:Option Addr) (cpR:Nat) (L:List (Int×Int)) (eo:Option Addr) (cap:Nat) (at_:Int) (w:World) (hat:I64 at_) (hg:Glob w) (hw7:14<=w.heap.size) (hlR:R.length<=4611686018427387904) (hIR:∀ r∈R,I64 r) (hR:RawAt w o1 R) (hLm:L.length<=9223372036854775807) (hL:∀ p∈L,I64 p.1/\I64 p.2) (hC:ComesAt w eo L)
  (hrest:∀ (x:BT Pay) (sp vs:ByteArray) (mb wtb:Nat) (w':World) (A:Act) (cs:List Frame),x=(sentF R 3 0).x->TextOK sp x->Good x->0<=reachT x->reachT x<=24->vs=verS x L (min L.length 25)->Fx 227 [(1,.slice eo L.length cap),(2,.int .i64 at_),(8,.string sp),(12,.string vs),(14,.pointer (some ⟨mb,0,none⟩)),(16,.int .i64 ((min L.length 25:Nat):Int)),(17,.int .i64 (pickZ at_ (((min L.length 25:Nat):Int)+1))),(18,(Value.int IntKind.i64 0)),(19,(Value.int IntKind.i64 0)),(20,(Value.slice none 0 0))] A->YInv L w.heap.size mb wtb (reachT x+20) 0 w'->SpareR (fun _=>False) w w'->(∀ fr∈cs,okFrame fr)->LeadsR Tryz.prog (fun g w'=>∃ e fr,g=G fr cs/\okFrame fr/\LawPost w e w'/\fr.fn=9/\fr.leaving Tryz.prog w' e) (G ((base 9).at A [.code rest9]) cs) w') :
  HCalls Tryz.prog 9 #[.slice o1 R.length cpR,.slice eo L.length cap,.int .i64 at_] w (LawPost w):=by
 have hP:=plain_prog
 have hi0:∀ it∈([]:List Item),okItem it:=by simp
 have hi1:∀ (c:Code),∀ it∈[Item.code c],okItem it:=fun c=>okItems_cons trivial (by simp)
 have hb:Tryz.f9.body=some body9:=rfl
 refine HCalls.of_lead Tryz.func9 hb fun cs hcs=>?_
 rw [Tryz.ntmps9]
 obtain ⟨A,eA⟩:∃ A:Act,A={ tmps:=#[.slice o1 R.length cpR,.slice eo L.length cap,.int .i64 at_]++Array.replicate (227-(#[.slice o1 R.length cpR,.slice eo L.length cap,.int .i64 at_]:Array Value).size) undef,defers:=[] }:=⟨_,rfl⟩
 have hA:Fx 227 [(0,.slice o1 R.length cpR),(1,.slice eo L.length cap),(2,.int .i64 at_)] A:=Fx.of (by rw [eA];simp) (by rw [eA]) (by rw [eA];simp)
 rw [<- eA]
 clear eA
 have er:body9=.seq (reg9 0) (.seq (reg9 1) (.seq (reg9 2) (.seq (reg9 3) (.seq (reg9 4) (.seq (reg9 5) (.seq (reg9 6) (.seq (reg9 7) (.seq (reg9 8) (.seq (reg9 9) (.seq (reg9 10) (.seq (reg9 11) (.seq (reg9 12) rest9)))))))))))):=rfl
 rw [er]
 have hS0:=SpareR.refl (fun _=>False) w
 refine LeadsR.seq hP hi0 hcs ?_
 rw [rg9_0]
 refine LeadsR.region hP (hi1 _) hcs ?_
 rw [sz9_0]
 simp only [List.range,List.range.loop]
 refine asgF ⟨_,rfl,rfl,rfl,rfl⟩ hA rfl (by decide) (hi1 _) hcs fun A hA=>?_
 refine LeadsR.nil hP (hi1 _) hcs ?_
 replace hA:=hA.less (m:=[(0,.slice o1 R.length cpR),(1,.slice eo L.length cap),(2,.int .i64 at_)]) (by simp only [List.forall_mem_cons,List.not_mem_nil,false_implies,implies_true,and_true];exact ⟨rfl,rfl,rfl⟩)
 refine LeadsR.seq hP hi0 hcs ?_
 rw [rg9_1]
 refine LeadsR.region hP (hi1 _) hcs ?_
 rw [sz9_1]
 simp only [List.range,List.range.loop]
 refine callFx ⟨_,rfl,rfl,rfl,rfl⟩ Tryz.func17 (by decide) rfl hA rfl (by decide) (hi1 _) hcs (works_H w (glob_spare hg hS0) (Nat.le_trans hw7 hS0.size)) (fun e w' x=>⟨_,x.1⟩) ?_
 rintro v w1 A ⟨hv,ht1⟩ hA
 cases hv
 have hS1:=hS0.trans ht1
 refine asgF ⟨_,rfl,rfl,rfl,rfl⟩ hA rfl (by decide) (hi1 _) hcs fun A hA=>?_
 refine LeadsR.nil hP (hi1 _) hcs ?_
 replace hA:=hA.less (m:=[(0,.slice o1 R.length cpR),(1,.slice eo L.length cap),(2,.int .i64 at_),(7,.bool true)]) (by simp only [List.forall_mem_cons,List.not_mem_nil,false_implies,implies_true,and_true];exact ⟨rfl,rfl,rfl,rfl⟩)
 refine LeadsR.seq hP hi0 hcs ?_
 rw [rg9_2]
 refine LeadsR.region hP (hi1 _) hcs ?_
 rw [sz9_2]
 simp only [List.range,List.range.loop]
 refine mvF ⟨_,rfl,rfl,rfl,rfl⟩ hA rfl (by decide) (hi1 _) hcs fun A hA=>?_
 refine callFx ⟨_,rfl,rfl,rfl,rfl⟩ Tryz.func18 (by decide) rfl hA rfl (by decide) (hi1 _) hcs (sent_H R o1 cpR 3 w1 hlR hIR (by decide) (hR.move hS1) 0 (by decide)) (fun e w' x=>by obtain ⟨⟨q,hq,_⟩,_⟩:=x;exact ⟨_,hq⟩) ?_
 rintro v w2 A ⟨⟨sp,hv,hsp⟩,ht2⟩ hA
 cases hv
 have hp:=(sent_made R 3 0).1
 have tx:TextOK sp (sentF R 3 0).x:=hp.text (by decide) (by decide) (by decide) (by decide) hsp
 have hgx:=hp.good
 have hn0:=reachT_nonneg hgx.win
 have hn1:reachT (sentF R 3 0).x<=24:=hp.rea
 obtain ⟨x,hx⟩:∃ x,x=(sentF R 3 0).x:=⟨_,rfl⟩
 rw [<- hx] at tx hgx hn0 hn1
 have hS2:=hS1.trans ht2
 refine mvF ⟨_,rfl,rfl,rfl,rfl⟩ hA rfl (by decide) (hi1 _) hcs fun A hA=>?_
 refine extF ⟨_,rfl,rfl,rfl,rfl⟩ hA rfl (v:=.string sp) rfl (by decide) (hi1 _) hcs fun A hA=>?_
 refine extF ⟨_,rfl,rfl,rfl,rfl⟩ hA rfl (v:=.int .i64 ((sentF R 3 0).next:Int)) rfl (by decide) (hi1 _) hcs fun A hA=>?_
 refine asgF ⟨_,rfl,rfl,rfl,rfl⟩ hA rfl (by decide) (hi1 _) hcs fun A hA=>?_
 refine asgF ⟨_,rfl,rfl,rfl,rfl⟩ hA rfl (by decide) (hi1 _) hcs fun A hA=>?_
 refine LeadsR.nil hP (hi1 _) hcs ?_
 replace hA:=hA.less (m:=[(0,.slice o1 R.length cpR),(1,.slice eo L.length cap),(2,.int .i64 at_),(7,.bool true),(8,.string sp)]) (by simp only [List.forall_mem_cons,List.not_mem_nil,false_implies,implies_true,and_true];exact ⟨rfl,rfl,rfl,rfl,rfl⟩)
 refine LeadsR.seq hP hi0 hcs ?_
 rw [rg9_3]
 refine LeadsR.region hP (hi1 _) hcs ?_
 rw [sz9_3]
 simp only [List.range,List.range.loop]
 refine mvF ⟨_,rfl,rfl,rfl,rfl⟩ hA rfl (by decide) (hi1 _) hcs fun A hA=>?_
 refine callFx ⟨_,rfl,rfl,rfl,rfl⟩ Tryz.func15 (by decide) rfl hA rfl (by decide) (hi1 _) hcs (reach_H sp x w2 tx (glob_spare hg hS2) (Nat.le_trans hw7 hS2.size)) (fun e w' x=>⟨_,x.1⟩) ?_
 rintro v w3 A ⟨hv,ht3⟩ hA
 cases hv
 have hS3:=hS2.trans ht3
 refine mvF ⟨_,rfl,rfl,rfl,rfl⟩ hA rfl (by decide) (hi1 _) hcs fun A hA=>?_
 refine extF ⟨_,rfl,rfl,rfl,rfl⟩ hA rfl (v:=.int .i64 (reachT x)) rfl (by decide) (hi1 _) hcs fun A hA=>?_
 refine extF ⟨_,rfl,rfl,rfl,rfl⟩ hA rfl (v:=.int .i64 0) rfl (by decide) (hi1 _) hcs fun A hA=>?_
 refine asgF ⟨_,rfl,rfl,rfl,rfl⟩ hA rfl (by decide) (hi1 _) hcs fun A hA=>?_
 refine asgF ⟨_,rfl,rfl,rfl,rfl⟩ hA rfl (by decide) (hi1 _) hcs fun A hA=>?_
 refine LeadsR.nil hP (hi1 _) hcs ?_
 replace hA:=hA.less (m:=[(0,.slice o1 R.length cpR),(1,.slice eo L.length cap),(2,.int .i64 at_),(7,.bool true),(8,.string sp),(10,.int .i64 (reachT x)),(11,.int .i64 0)]) (by simp only [List.forall_mem_cons,List.not_mem_nil,false_implies,implies_true,and_true];exact ⟨rfl,rfl,rfl,rfl,rfl,rfl,rfl⟩)
 refine LeadsR.seq hP hi0 hcs ?_
 rw [rg9_4]
 refine LeadsR.region hP (hi1 _) hcs ?_
 rw [sz9_4]
 simp only [List.range,List.range.loop]
 refine mvF ⟨_,rfl,rfl,rfl,rfl⟩ hA rfl (by decide) (hi1 _) hcs fun A hA=>?_
 refine mvF ⟨_,rfl,rfl,rfl,rfl⟩ hA rfl (by decide) (hi1 _) hcs fun A hA=>?_
 refine watchF (X:=x) (L:=L) ⟨_,rfl,rfl,rfl,rfl⟩ ⟨_,rfl,rfl,rfl,rfl⟩ ⟨_,rfl,rfl,rfl,rfl⟩ ⟨_,rfl,rfl,rfl,rfl⟩ ⟨_,rfl,rfl,rfl,rfl⟩ ⟨_,rfl,rfl,rfl,rfl⟩ (by decide) (by decide) hA rfl rfl rfl (hi1 _) hcs (tx.watched L eo cap w3 (glob_spare hg hS3) (Nat.le_trans hw7 hS3.size) hLm hL (hC.move hS3)) [(0,.slice o1 R.length cpR),(1,.slice eo L.length cap),(2,.int .i64 at_),(7,.bool true),(8,.string sp),(10,.int .i64 (reachT x)),(11,.int .i64 0)] (by simp only [List.forall_mem_cons,List.not_mem_nil,false_implies,implies_true,and_true];exact ⟨⟨rfl,by decide,by decide,by decide,by decide,by decide,by decide⟩,⟨rfl,by decide,by decide,by decide,by decide,by decide,by decide⟩,⟨rfl,by decide,by decide,by decide,by decide,by decide,by decide⟩,⟨rfl,by decide,by decide,by decide,by decide,by decide,by decide⟩,⟨rfl,by decide,by decide,by decide,by decide,by decide,by decide⟩,⟨rfl,by decide,by decide,by decide,by decide,by decide,by decide⟩,⟨rfl,by decide,by decide,by decide,by decide,by decide,by decide⟩⟩) fun A w4 hA ht4=>?_
 have hS4:=hS3.trans ht4
 generalize hvs:verS x L (min L.length 25)=vs at *
 refine LeadsR.seq hP hi0 hcs ?_
 rw [rg9_5]
 refine LeadsR.region hP (hi1 _) hcs ?_
 rw [sz9_5]
 simp only [List.range,List.range.loop]
 refine mvF ⟨_,rfl,rfl,rfl,rfl⟩ hA rfl (by decide) (hi1 _) hcs fun A hA=>?_
 refine addF ⟨_,rfl,rfl,rfl,rfl⟩ hA rfl rfl (by omega) (by decide) (hi1 _) hcs fun A hA=>?_
 refine callFx ⟨_,rfl,rfl,rfl,rfl⟩ Tryz.func23 (by decide) rfl hA rfl (by decide) (hi1 _) hcs (new_H (reachT x+20) w4 (by omega)) (fun e w' x=>by obtain ⟨mb,wtb,x1,_⟩:=x;exact ⟨_,x1⟩) ?_
 rintro v w5 A ⟨mb,wtb,hv,n1,n2,n3,n4,ht5⟩ hA
 cases hv
 have hS5:=hS4.trans ht5
 refine mvF ⟨_,rfl,rfl,rfl,rfl⟩ hA rfl (by decide) (hi1 _) hcs fun A hA=>?_
 refine extF ⟨_,rfl,rfl,rfl,rfl⟩ hA rfl (v:=.pointer (some ⟨mb,0,none⟩)) rfl (by decide) (hi1 _) hcs fun A hA=>?_
 refine extF ⟨_,rfl,rfl,rfl,rfl⟩ hA rfl (v:=.int .i64 0) rfl (by decide) (hi1 _) hcs fun A hA=>?_
 refine asgF ⟨_,rfl,rfl,rfl,rfl⟩ hA rfl (by decide) (hi1 _) hcs fun A hA=>?_
 refine asgF ⟨_,rfl,rfl,rfl,rfl⟩ hA rfl (by decide) (hi1 _) hcs fun A hA=>?_
 refine LeadsR.nil hP (hi1 _) hcs ?_
 replace hA:=hA.less (m:=[(0,.slice o1 R.length cpR),(1,.slice eo L.length cap),(2,.int .i64 at_),(7,.bool true),(8,.string sp),(10,.int .i64 (reachT x)),(11,.int .i64 0),(12,.string vs),(13,.bool true),(14,.pointer (some ⟨mb,0,none⟩)),(15,.int .i64 0)]) (by simp only [List.forall_mem_cons,List.not_mem_nil,false_implies,implies_true,and_true];exact ⟨rfl,rfl,rfl,rfl,rfl,rfl,rfl,rfl,rfl,rfl,rfl⟩)
 replace hA:=hA.less (m:=[(1,.slice eo L.length cap),(2,.int .i64 at_),(7,.bool true),(8,.string sp),(11,.int .i64 0),(12,.string vs),(13,.bool true),(14,.pointer (some ⟨mb,0,none⟩)),(15,.int .i64 0)]) (by simp only [List.forall_mem_cons,List.not_mem_nil,false_implies,implies_true,and_true];exact ⟨rfl,rfl,rfl,rfl,rfl,rfl,rfl,rfl,rfl⟩)
 refine LeadsR.seq hP hi0 hcs ?_
 refine LeadsR.piece hP (fun A' w'=>Fx 227 [(1,.slice eo L.length cap),(2,.int .i64 at_),(7,.bool true),(8,.string sp),(11,.int .i64 0),(12,.string vs),(13,.bool true),(14,.pointer (some ⟨mb,0,none⟩)),(15,.int .i64 0)] A'/\SpareR (fun _=>False) w5 w') (fun _ _ τ d x=>⟨x.1,x.2.tapeR τ d⟩) (hi1 _) hcs (fun τ d=>chka9_go eo L.length cap at_ sp vs mb _ hA ((SpareR.refl _ w5).tapeR τ d)) ?_
 rintro A w6 ⟨hA,ht6⟩
 have hS6:=hS5.trans ht6
 replace hA:=hA.less (m:=[(1,.slice eo L.length cap),(2,.int .i64 at_),(8,.string sp),(12,.string vs),(14,.pointer (some ⟨mb,0,none⟩))]) (by simp only [List.forall_mem_cons,List.not_mem_nil,false_implies,implies_true,and_true];exact ⟨rfl,rfl,rfl,rfl,rfl⟩)
 refine LeadsR.seq hP hi0 hcs ?_
 refine LeadsR.piece hP (fun A' w'=>Fx 227 [(1,.slice eo L.length cap),(2,.int .i64 at_),(8,.string sp),(12,.string vs),(14,.pointer (some ⟨mb,0,none⟩)),(16,.int .i64 (L.length:Int))] A'/\SpareR (fun _=>False) w6 w') (fun _ _ τ d x=>⟨x.1,x.2.tapeR τ d⟩) (hi1 _) hcs (fun τ d=>lena9_go eo L.length cap at_ sp vs mb _ hA ((SpareR.refl _ w6).tapeR τ d)) ?_
 rintro A w7 ⟨hA,ht7⟩
 have hS7:=hS6.trans ht7
 replace hA:=hA.less (m:=[(1,.slice eo L.length cap),(2,.int .i64 at_),(8,.string sp),(12,.string vs),(14,.pointer (some ⟨mb,0,none⟩)),(16,.int .i64 (L.length:Int))]) (by simp only [List.forall_mem_cons,List.not_mem_nil,false_implies,implies_true,and_true];exact ⟨rfl,rfl,rfl,rfl,rfl,rfl⟩)
 refine LeadsR.seq hP hi0 hcs ?_
 refine LeadsR.piece hP (fun A' w'=>Fx 227 [(1,.slice eo L.length cap),(2,.int .i64 at_),(8,.string sp),(12,.string vs),(14,.pointer (some ⟨mb,0,none⟩)),(16,.int .i64 ((min L.length 25:Nat):Int))] A'/\SpareR (fun _=>False) w7 w') (fun _ _ τ d x=>⟨x.1,x.2.tapeR τ d⟩) (hi1 _) hcs (fun τ d=>lenb9_go eo L.length cap at_ sp vs mb hLm _ hA ((SpareR.refl _ w7).tapeR τ d)) ?_
 rintro A w8 ⟨hA,ht8⟩
 have hS8:=hS7.trans ht8
 refine LeadsR.seq hP hi0 hcs ?_
 rw [rg9_9]
 refine LeadsR.region hP (hi1 _) hcs ?_
 rw [sz9_9]
 simp only [List.range,List.range.loop]
 refine mvF ⟨_,rfl,rfl,rfl,rfl⟩ hA rfl (by decide) (hi1 _) hcs fun A hA=>?_
 refine mvF ⟨_,rfl,rfl,rfl,rfl⟩ hA rfl (by decide) (hi1 _) hcs fun A hA=>?_
 refine addF ⟨_,rfl,rfl,rfl,rfl⟩ hA rfl rfl (by omega) (by decide) (hi1 _) hcs fun A hA=>?_
 refine callFx ⟨_,rfl,rfl,rfl,rfl⟩ Tryz.func19 (by decide) rfl hA rfl (by decide) (hi1 _) hcs (pick_H at_ (((min L.length 25:Nat):Int)+1) w8 hat (by omega)) (fun e w' x=>⟨_,x.1⟩) ?_
 rintro v w9 A ⟨hv,ht9⟩ hA
 cases hv
 have hS9:=hS8.trans ht9
 refine asgF ⟨_,rfl,rfl,rfl,rfl⟩ hA rfl (by decide) (hi1 _) hcs fun A hA=>?_
 refine LeadsR.nil hP (hi1 _) hcs ?_
 replace hA:=hA.less (m:=[(1,.slice eo L.length cap),(2,.int .i64 at_),(8,.string sp),(12,.string vs),(14,.pointer (some ⟨mb,0,none⟩)),(16,.int .i64 ((min L.length 25:Nat):Int)),(17,.int .i64 (pickZ at_ (((min L.length 25:Nat):Int)+1)))]) (by simp only [List.forall_mem_cons,List.not_mem_nil,false_implies,implies_true,and_true];exact ⟨rfl,rfl,rfl,rfl,rfl,rfl,rfl⟩)
 refine LeadsR.seq hP hi0 hcs ?_
 rw [rg9_10]
 refine LeadsR.region hP (hi1 _) hcs ?_
 rw [sz9_10]
 simp only [List.range,List.range.loop]
 refine asgF ⟨_,rfl,rfl,rfl,rfl⟩ hA rfl (by decide) (hi1 _) hcs fun A hA=>?_
 refine LeadsR.nil hP (hi1 _) hcs ?_
 replace hA:=hA.less (m:=[(1,.slice eo L.length cap),(2,.int .i64 at_),(8,.string sp),(12,.string vs),(14,.pointer (some ⟨mb,0,none⟩)),(16,.int .i64 ((min L.length 25:Nat):Int)),(17,.int .i64 (pickZ at_ (((min L.length 25:Nat):Int)+1))),(18,(Value.int IntKind.i64 0))]) (by simp only [List.forall_mem_cons,List.not_mem_nil,false_implies,implies_true,and_true];exact ⟨rfl,rfl,rfl,rfl,rfl,rfl,rfl,rfl⟩)
 refine LeadsR.seq hP hi0 hcs ?_
 rw [rg9_11]
 refine LeadsR.region hP (hi1 _) hcs ?_
 rw [sz9_11]
 simp only [List.range,List.range.loop]
 refine asgF ⟨_,rfl,rfl,rfl,rfl⟩ hA rfl (by decide) (hi1 _) hcs fun A hA=>?_
 refine LeadsR.nil hP (hi1 _) hcs ?_
 replace hA:=hA.less (m:=[(1,.slice eo L.length cap),(2,.int .i64 at_),(8,.string sp),(12,.string vs),(14,.pointer (some ⟨mb,0,none⟩)),(16,.int .i64 ((min L.length 25:Nat):Int)),(17,.int .i64 (pickZ at_ (((min L.length 25:Nat):Int)+1))),(18,(Value.int IntKind.i64 0)),(19,(Value.int IntKind.i64 0))]) (by simp only [List.forall_mem_cons,List.not_mem_nil,false_implies,implies_true,and_true];exact ⟨rfl,rfl,rfl,rfl,rfl,rfl,rfl,rfl,rfl⟩)
 refine LeadsR.seq hP hi0 hcs ?_
 rw [rg9_12]
 refine LeadsR.region hP (hi1 _) hcs ?_
 rw [sz9_12]
 simp only [List.range,List.range.loop]
 refine asgF ⟨_,rfl,rfl,rfl,rfl⟩ hA rfl (by decide) (hi1 _) hcs fun A hA=>?_
 refine LeadsR.nil hP (hi1 _) hcs ?_
 replace hA:=hA.less (m:=[(1,.slice eo L.length cap),(2,.int .i64 at_),(8,.string sp),(12,.string vs),(14,.pointer (some ⟨mb,0,none⟩)),(16,.int .i64 ((min L.length 25:Nat):Int)),(17,.int .i64 (pickZ at_ (((min L.length 25:Nat):Int)+1))),(18,(Value.int IntKind.i64 0)),(19,(Value.int IntKind.i64 0)),(20,(Value.slice none 0 0))]) (by simp only [List.forall_mem_cons,List.not_mem_nil,false_implies,implies_true,and_true];exact ⟨rfl,rfl,rfl,rfl,rfl,rfl,rfl,rfl,rfl,rfl⟩)
 replace hA:=hA.less (m:=[(1,.slice eo L.length cap),(2,.int .i64 at_),(8,.string sp),(12,.string vs),(14,.pointer (some ⟨mb,0,none⟩)),(16,.int .i64 ((min L.length 25:Nat):Int)),(17,.int .i64 (pickZ at_ (((min L.length 25:Nat):Int)+1))),(18,(Value.int IntKind.i64 0)),(19,(Value.int IntKind.i64 0)),(20,(Value.slice none 0 0))]) (by simp only [List.forall_mem_cons,List.not_mem_nil,false_implies,implies_true,and_true];exact ⟨rfl,rfl,rfl,rfl,rfl,rfl,rfl,rfl,rfl,rfl⟩)
 have hZ0:YInv L w.heap.size mb wtb (reachT x+20) 0 w5:=YInv.start (by omega) n3 n4 (Nat.le_trans hS4.size n2)
 exact hrest x sp vs mb wtb w9 A cs hx tx hgx hn0 hn1 hvs.symm hA (((((hZ0).move ht6).move ht7).move ht8).move ht9) hS9 hcs
noncomputable def zero9:Code:=match rest9 with
 | .seq (.seq x _) _=>x
 | _=>.skip
noncomputable def loop9:Code:=match rest9 with
 | .seq (.seq _ (.block _ (.loop x))) _=>x
 | _=>.skip
noncomputable def fin9:Code:=match rest9 with
 | .seq _ x=>x
 | _=>.skip
noncomputable def head9:Code:=match loop9 with
 | .seq x _=>x
 | _=>.skip
noncomputable def in9:Code:=match loop9 with
 | .seq _ (.seq (.block _ x) _)=>x
 | _=>.skip
noncomputable def next9:Code:=match loop9 with
 | .seq _ (.seq _ x)=>x
 | _=>.skip
noncomputable def part9 (k:Nat):Code:=seqC in9 k
noncomputable def opp9 (k:Nat):Array Oper:=opsR (part9 k)
noncomputable def chk9:Code:=match in9 with
 | .seq _ (.seq _ (.seq _ (.seq _ x)))=>x
 | _=>.skip
def F9 (eo:Option Addr) (ln cap:Nat) (sp vs:ByteArray) (mb m a:Nat) (now from_:Int) (back:Value) (i:Int):List (Nat×Value):=[(1,.slice eo ln cap),(8,.string sp),(12,.string vs),(14,.pointer (some ⟨mb,0,none⟩)),(16,.int .i64 (m:Int)),(17,.int .i64 (a:Int)),(18,.int .i64 now),(19,.int .i64 from_),(20,back),(21,.int .i64 i)]
set_option maxRecDepth 100000 in
set_option maxHeartbeats 16000000 in
theorem zero9_go (eo:Option Addr) (ln cap:Nat) (sp vs:ByteArray) (mb m a:Nat) (now from_:Int) (back:Value) (A:Act) (w:World) (Q:Act->World->Prop) (hA:Fx 227 ([(1,.slice eo ln cap),(8,.string sp),(12,.string vs),(14,.pointer (some ⟨mb,0,none⟩)),(16,.int .i64 (m:Int)),(17,.int .i64 (a:Int)),(18,.int .i64 now),(19,.int .i64 from_),(20,back)]) A) (hQ:∀ A',Fx 227 (F9 eo ln cap sp vs mb m a now from_ back 0) A'->Q A' w):zero9.wp Tryz.prog (fun e A' w'=>e=.normal/\Q A' w') A w:=by
 replace hQ:Hid _:=hQ
 obtain ⟨u,hu,rfl⟩:=open227 hA.size hA.defers
 have k1:=hu 1 _ (hA.get 1 _ rfl)
 have k8:=hu 8 _ (hA.get 8 _ rfl)
 have k12:=hu 12 _ (hA.get 12 _ rfl)
 have k14:=hu 14 _ (hA.get 14 _ rfl)
 have k16:=hu 16 _ (hA.get 16 _ rfl)
 have k17:=hu 17 _ (hA.get 17 _ rfl)
 have k18:=hu 18 _ (hA.get 18 _ rfl)
 have k19:=hu 19 _ (hA.get 19 _ rfl)
 have k20:=hu 20 _ (hA.get 20 _ rfl)
 clear hu hA
 simp only [k1,k8,k12,k14,k16,k17,k18,k19,k20]
 clear k1 k8 k12 k14 k16 k17 k18 k19 k20
 simp only [zero9,rest9,body9,Tryz.f9,Option.getD_some]
 go_wp2_with fail
 first | refine hQ.out _ ?_ | refine ⟨rfl,hQ.out _ ?_⟩
 refine Fx.of rfl rfl ?_
 unfold F9
 simp only [List.forall_mem_cons,List.not_mem_nil,false_implies,implies_true,and_true]
 exact ⟨rfl,rfl,rfl,rfl,rfl,rfl,rfl,rfl,rfl,rfl⟩
set_option maxRecDepth 100000 in
set_option maxHeartbeats 16000000 in
theorem head9_go (eo:Option Addr) (ln cap:Nat) (sp vs:ByteArray) (mb m a:Nat) (now from_:Int) (back:Value) (i:Nat) (h1:i<=m) (A:Act) (w:World) (Q:Act->World->Prop) (hA:Fx 227 (F9 eo ln cap sp vs mb m a now from_ back i) A) (hQ:∀ A',Fx 227 (F9 eo ln cap sp vs mb m a now from_ back i) A'->Q A' w):head9.wp Tryz.prog (fun e A' w'=>e=.normal/\Q A' w') A w:=by
 replace hQ:Hid _:=hQ
 obtain ⟨u,hu,rfl⟩:=open227 hA.size hA.defers
 have k1:=hu 1 _ (hA.get 1 _ rfl)
 have k8:=hu 8 _ (hA.get 8 _ rfl)
 have k12:=hu 12 _ (hA.get 12 _ rfl)
 have k14:=hu 14 _ (hA.get 14 _ rfl)
 have k16:=hu 16 _ (hA.get 16 _ rfl)
 have k17:=hu 17 _ (hA.get 17 _ rfl)
 have k18:=hu 18 _ (hA.get 18 _ rfl)
 have k19:=hu 19 _ (hA.get 19 _ rfl)
 have k20:=hu 20 _ (hA.get 20 _ rfl)
 have k21:=hu 21 _ (hA.get 21 _ rfl)
 clear hu hA
 simp only [k1,k8,k12,k14,k16,k17,k18,k19,k20,k21]
 clear k1 k8 k12 k14 k16 k17 k18 k19 k20 k21
 simp only [head9,loop9,rest9,body9,Tryz.f9,Option.getD_some]
 go_wp2_with fail
 first | refine hQ.out _ ?_ | refine ⟨rfl,hQ.out _ ?_⟩
 refine Fx.of rfl rfl ?_
 unfold F9
 simp only [List.forall_mem_cons,List.not_mem_nil,false_implies,implies_true,and_true]
 exact ⟨rfl,rfl,rfl,rfl,rfl,rfl,rfl,rfl,rfl,rfl⟩
set_option maxRecDepth 100000 in
set_option maxHeartbeats 16000000 in
theorem skip9_go (eo:Option Addr) (ln cap:Nat) (sp vs:ByteArray) (mb m a:Nat) (now from_:Int) (back:Value) (i:Nat) (h1:i≠a) (A:Act) (w:World) (Q:Act->World->Prop) (hA:Fx 227 (F9 eo ln cap sp vs mb m a now from_ back i) A) (hQ:∀ A',Fx 227 (F9 eo ln cap sp vs mb m a now from_ back i) A'->Q A' w):(part9 0).wp Tryz.prog (fun e A' w'=>e=.normal/\Q A' w') A w:=by
 replace hQ:Hid _:=hQ
 obtain ⟨u,hu,rfl⟩:=open227 hA.size hA.defers
 have k1:=hu 1 _ (hA.get 1 _ rfl)
 have k8:=hu 8 _ (hA.get 8 _ rfl)
 have k12:=hu 12 _ (hA.get 12 _ rfl)
 have k14:=hu 14 _ (hA.get 14 _ rfl)
 have k16:=hu 16 _ (hA.get 16 _ rfl)
 have k17:=hu 17 _ (hA.get 17 _ rfl)
 have k18:=hu 18 _ (hA.get 18 _ rfl)
 have k19:=hu 19 _ (hA.get 19 _ rfl)
 have k20:=hu 20 _ (hA.get 20 _ rfl)
 have k21:=hu 21 _ (hA.get 21 _ rfl)
 clear hu hA
 simp only [k1,k8,k12,k14,k16,k17,k18,k19,k20,k21]
 clear k1 k8 k12 k14 k16 k17 k18 k19 k20 k21
 simp only [part9,seqC,in9,loop9,rest9,body9,Tryz.f9,Option.getD_some]
 go_wp2_with fail
 first | refine hQ.out _ ?_ | refine ⟨rfl,hQ.out _ ?_⟩
 refine Fx.of rfl rfl ?_
 unfold F9
 simp only [List.forall_mem_cons,List.not_mem_nil,false_implies,implies_true,and_true]
 exact ⟨rfl,rfl,rfl,rfl,rfl,rfl,rfl,rfl,rfl,rfl⟩
set_option maxRecDepth 100000 in
set_option maxHeartbeats 16000000 in
theorem out9_go (eo:Option Addr) (ln cap:Nat) (sp vs:ByteArray) (mb m a:Nat) (now from_:Int) (back:Value) (A:Act) (w:World) (Q:Act->World->Prop) (hA:Fx 227 (F9 eo ln cap sp vs mb m a now from_ back m) A) (hQ:∀ A',Fx 227 (F9 eo ln cap sp vs mb m a now from_ back m) A'->Q A' w):(part9 1).wp Tryz.prog (fun e A' w'=>e=.exit 0/\Q A' w') A w:=by
 replace hQ:Hid _:=hQ
 obtain ⟨u,hu,rfl⟩:=open227 hA.size hA.defers
 have k1:=hu 1 _ (hA.get 1 _ rfl)
 have k8:=hu 8 _ (hA.get 8 _ rfl)
 have k12:=hu 12 _ (hA.get 12 _ rfl)
 have k14:=hu 14 _ (hA.get 14 _ rfl)
 have k16:=hu 16 _ (hA.get 16 _ rfl)
 have k17:=hu 17 _ (hA.get 17 _ rfl)
 have k18:=hu 18 _ (hA.get 18 _ rfl)
 have k19:=hu 19 _ (hA.get 19 _ rfl)
 have k20:=hu 20 _ (hA.get 20 _ rfl)
 have k21:=hu 21 _ (hA.get 21 _ rfl)
 clear hu hA
 simp only [k1,k8,k12,k14,k16,k17,k18,k19,k20,k21]
 clear k1 k8 k12 k14 k16 k17 k18 k19 k20 k21
 simp only [part9,seqC,in9,loop9,rest9,body9,Tryz.f9,Option.getD_some]
 go_wp2_with fail
 first | refine hQ.out _ ?_ | refine ⟨rfl,hQ.out _ ?_⟩
 refine Fx.of rfl rfl ?_
 unfold F9
 simp only [List.forall_mem_cons,List.not_mem_nil,false_implies,implies_true,and_true]
 exact ⟨rfl,rfl,rfl,rfl,rfl,rfl,rfl,rfl,rfl,rfl⟩
set_option maxRecDepth 100000 in
set_option maxHeartbeats 16000000 in
theorem stay9_go (eo:Option Addr) (ln cap:Nat) (sp vs:ByteArray) (mb m a:Nat) (now from_:Int) (back:Value) (i:Nat) (h1:i<m) (A:Act) (w:World) (Q:Act->World->Prop) (hA:Fx 227 (F9 eo ln cap sp vs mb m a now from_ back i) A) (hQ:∀ A',Fx 227 (F9 eo ln cap sp vs mb m a now from_ back i) A'->Q A' w):(part9 1).wp Tryz.prog (fun e A' w'=>e=.normal/\Q A' w') A w:=by
 replace hQ:Hid _:=hQ
 obtain ⟨u,hu,rfl⟩:=open227 hA.size hA.defers
 have k1:=hu 1 _ (hA.get 1 _ rfl)
 have k8:=hu 8 _ (hA.get 8 _ rfl)
 have k12:=hu 12 _ (hA.get 12 _ rfl)
 have k14:=hu 14 _ (hA.get 14 _ rfl)
 have k16:=hu 16 _ (hA.get 16 _ rfl)
 have k17:=hu 17 _ (hA.get 17 _ rfl)
 have k18:=hu 18 _ (hA.get 18 _ rfl)
 have k19:=hu 19 _ (hA.get 19 _ rfl)
 have k20:=hu 20 _ (hA.get 20 _ rfl)
 have k21:=hu 21 _ (hA.get 21 _ rfl)
 clear hu hA
 simp only [k1,k8,k12,k14,k16,k17,k18,k19,k20,k21]
 clear k1 k8 k12 k14 k16 k17 k18 k19 k20 k21
 simp only [part9,seqC,in9,loop9,rest9,body9,Tryz.f9,Option.getD_some]
 go_wp2_with fail
 first | refine hQ.out _ ?_ | refine ⟨rfl,hQ.out _ ?_⟩
 refine Fx.of rfl rfl ?_
 unfold F9
 simp only [List.forall_mem_cons,List.not_mem_nil,false_implies,implies_true,and_true]
 exact ⟨rfl,rfl,rfl,rfl,rfl,rfl,rfl,rfl,rfl,rfl⟩
set_option maxRecDepth 100000 in
set_option maxHeartbeats 16000000 in
theorem next9_go (eo:Option Addr) (ln cap:Nat) (sp vs:ByteArray) (mb m a:Nat) (now from_:Int) (back:Value) (i:Nat) (h2:i<=25) (A:Act) (w:World) (Q:Act->World->Prop) (hA:Fx 227 (F9 eo ln cap sp vs mb m a now from_ back i) A) (hQ:∀ A',Fx 227 (F9 eo ln cap sp vs mb m a now from_ back ((i:Int)+1)) A'->Q A' w):next9.wp Tryz.prog (fun e A' w'=>e=.normal/\Q A' w') A w:=by
 replace hQ:Hid _:=hQ
 obtain ⟨u,hu,rfl⟩:=open227 hA.size hA.defers
 have k1:=hu 1 _ (hA.get 1 _ rfl)
 have k8:=hu 8 _ (hA.get 8 _ rfl)
 have k12:=hu 12 _ (hA.get 12 _ rfl)
 have k14:=hu 14 _ (hA.get 14 _ rfl)
 have k16:=hu 16 _ (hA.get 16 _ rfl)
 have k17:=hu 17 _ (hA.get 17 _ rfl)
 have k18:=hu 18 _ (hA.get 18 _ rfl)
 have k19:=hu 19 _ (hA.get 19 _ rfl)
 have k20:=hu 20 _ (hA.get 20 _ rfl)
 have k21:=hu 21 _ (hA.get 21 _ rfl)
 clear hu hA
 simp only [k1,k8,k12,k14,k16,k17,k18,k19,k20,k21]
 clear k1 k8 k12 k14 k16 k17 k18 k19 k20 k21
 simp only [next9,loop9,rest9,body9,Tryz.f9,Option.getD_some]
 go_wp2_with fail
 first | refine hQ.out _ ?_ | refine ⟨rfl,hQ.out _ ?_⟩
 refine Fx.of rfl rfl ?_
 unfold F9
 simp only [List.forall_mem_cons,List.not_mem_nil,false_implies,implies_true,and_true]
 exact ⟨rfl,rfl,rfl,rfl,rfl,rfl,rfl,rfl,rfl,rfl⟩
def G9 (eo:Option Addr) (ln cap:Nat) (sp vs:ByteArray) (mb m a:Nat) (now from_:Int) (back:Value) (i:Int):List (Nat×Value):=[(1,.slice eo ln cap),(8,.string sp),(12,.string vs),(14,.pointer (some ⟨mb,0,none⟩)),(16,.int .i64 (m:Int)),(17,.int .i64 (a:Int)),(18,.int .i64 now),(19,.int .i64 from_),(20,back),(21,.int .i64 i),(22,.int .i64 0)]
set_option maxRecDepth 100000 in
set_option maxHeartbeats 16000000 in
theorem chk9_go (eo:Option Addr) (ln cap:Nat) (sp vs:ByteArray) (mb m a:Nat) (now from_:Int) (back:Value) (i:Nat) (A:Act) (w:World) (Q:Act->World->Prop) (hA:Fx 227 (G9 eo ln cap sp vs mb m a now from_ back i) A) (hQ:∀ A',Fx 227 (F9 eo ln cap sp vs mb m a now from_ back i) A'->Q A' w):chk9.wp Tryz.prog (fun e A' w'=>e=.normal/\Q A' w') A w:=by
 replace hQ:Hid _:=hQ
 obtain ⟨u,hu,rfl⟩:=open227 hA.size hA.defers
 have k1:=hu 1 _ (hA.get 1 _ rfl)
 have k8:=hu 8 _ (hA.get 8 _ rfl)
 have k12:=hu 12 _ (hA.get 12 _ rfl)
 have k14:=hu 14 _ (hA.get 14 _ rfl)
 have k16:=hu 16 _ (hA.get 16 _ rfl)
 have k17:=hu 17 _ (hA.get 17 _ rfl)
 have k18:=hu 18 _ (hA.get 18 _ rfl)
 have k19:=hu 19 _ (hA.get 19 _ rfl)
 have k20:=hu 20 _ (hA.get 20 _ rfl)
 have k21:=hu 21 _ (hA.get 21 _ rfl)
 have k22:=hu 22 _ (hA.get 22 _ rfl)
 clear hu hA
 simp only [k1,k8,k12,k14,k16,k17,k18,k19,k20,k21,k22]
 clear k1 k8 k12 k14 k16 k17 k18 k19 k20 k21 k22
 simp only [chk9,in9,loop9,rest9,body9,Tryz.f9,Option.getD_some]
 go_wp2_with fail
 first | refine hQ.out _ ?_ | refine ⟨rfl,hQ.out _ ?_⟩
 refine Fx.of rfl rfl ?_
 unfold F9
 simp only [List.forall_mem_cons,List.not_mem_nil,false_implies,implies_true,and_true]
 exact ⟨rfl,rfl,rfl,rfl,rfl,rfl,rfl,rfl,rfl,rfl⟩
set_option maxRecDepth 100000 in
set_option maxHeartbeats 16000000 in
theorem now9_go (L:List (Int×Int)) (eo:Option Addr) (cap:Nat) (sp vs:ByteArray) (mb m a:Nat) (from_:Int) (back:Value) (w0:World) (i:Nat) (A:Act) (w:World) (Q:Act->World->Prop) (hLm:L.length<=9223372036854775807) (hL:∀ p∈L,I64 p.1/\I64 p.2) (hC:ComesAt w0 eo L) (hs:SpareR (fun _=>False) w0 w) (h1:i<25) (h2:i<L.length) (hA:Fx 227 (F9 eo L.length cap sp vs mb m a (timeZ L i) from_ back i) A) (hQ:∀ A',Fx 227 (F9 eo L.length cap sp vs mb m a (timeZ L (i+1)) from_ back i) A'->Q A' w):(part9 2).wp Tryz.prog (fun e A' w'=>e=.normal/\Q A' w') A w:=by
 have hLm':=hLm
 clear hLm
 obtain ⟨bb,off,rfl,hbl,hcells⟩:=(hC.move hs) (by intro e;rw [e] at h2;simp at h2)
 have c1:=(hcells i h2).1
 have hmem:L.getD i (0,0)∈L:=by rw [List.getD_eq_getElem?_getD,List.getElem?_eq_getElem h2];exact List.getElem_mem h2
 have hlt:=later_any (L.getD i (0,0)).1 w (hL _ hmem).1
 have hTr:=timeZ_range L i
 have hlr:=laterZ_range (L.getD i (0,0)).1
 have hTe:timeZ L i+laterZ (L.getD i (0,0)).1=timeZ L (i+1):=rfl
 rw [<- hTe] at hQ
 replace hQ:Hid _:=hQ
 clear hcells hC hL hmem hTe hs
 obtain ⟨u,hu,rfl⟩:=open227 hA.size hA.defers
 have k1:=hu 1 _ (hA.get 1 _ rfl)
 have k8:=hu 8 _ (hA.get 8 _ rfl)
 have k12:=hu 12 _ (hA.get 12 _ rfl)
 have k14:=hu 14 _ (hA.get 14 _ rfl)
 have k16:=hu 16 _ (hA.get 16 _ rfl)
 have k17:=hu 17 _ (hA.get 17 _ rfl)
 have k18:=hu 18 _ (hA.get 18 _ rfl)
 have k19:=hu 19 _ (hA.get 19 _ rfl)
 have k20:=hu 20 _ (hA.get 20 _ rfl)
 have k21:=hu 21 _ (hA.get 21 _ rfl)
 clear hu hA
 simp only [k1,k8,k12,k14,k16,k17,k18,k19,k20,k21]
 clear k1 k8 k12 k14 k16 k17 k18 k19 k20 k21
 generalize (L.getD i (0,0)).1=lc at *
 generalize laterZ lc=lz at *
 generalize timeZ L i=tz at *
 generalize L.length=ln at *
 simp only [part9,seqC,in9,loop9,rest9,body9,Tryz.f9,Option.getD_some]
 go_wp2_with fail
 refine hlt.mono ?_
 rintro e w2 ⟨rfl,hw2⟩
 have hw2:=hw2.symm
 subst hw2
 go_wp2_with fail
 first | refine hQ.out _ ?_ | refine ⟨rfl,hQ.out _ ?_⟩
 refine Fx.of rfl rfl ?_
 unfold F9
 simp only [List.forall_mem_cons,List.not_mem_nil,false_implies,implies_true,and_true]
 exact ⟨rfl,rfl,rfl,rfl,rfl,rfl,rfl,rfl,rfl,rfl⟩
theorem rp9_3:part9 3=.region 25 (opp9 3) false:=rfl
theorem zp9_3:(opp9 3).size=10:=rfl
theorem ev9_go (L:List (Int×Int)) (eo:Option Addr) (cap:Nat) (sp vs:ByteArray) (mb m a:Nat) (from_:Int) (back:Value) (w0:World) (i:Nat) (A:Act) (w:World) (I I':World->Prop) (hLm:L.length<=9223372036854775807) (hL:∀ p∈L,I64 p.1/\I64 p.2) (hC:ComesAt w0 eo L) (hs:SpareR (fun _=>False) w0 w) (h2:i<L.length) (hI:I w) (hmv:∀ w w',I w->SpareR (fun _=>False) w w'->I w') (htp:∀ w τ d,I' w->I' (re w τ d))
  (hstep:∀ (w:World) (ao:Option Addr) (cp:Nat),I w->StrsIn w ao (atomsAt L i)->(atomsAt L i).length<=cp->HCalls Tryz.prog 24 #[.pointer (some ⟨mb,0,none⟩),.int .i64 (timeZ L (i+1)),.slice ao (atomsAt L i).length cp] w fun e W'=>e=.returned (.int .i64 0)/\I' W'/\SpareR (fun b=>w0.heap.size<=b) w W')
  (hA:Fx 227 (F9 eo L.length cap sp vs mb m a (timeZ L (i+1)) from_ back i) A) :
  HWp Tryz.prog (part9 3) (fun e A' w'=>e=.normal/\Fx 227 (G9 eo L.length cap sp vs mb m a (timeZ L (i+1)) from_ back i) A'/\I' w'/\SpareR (fun _=>False) w0 w') A w:=by
 have hP:=plain_prog
 obtain ⟨bb,off,rfl,hbl,hcells⟩:=(hC.move hs) (by intro e;rw [e] at h2;simp at h2)
 have hmem:L.getD i (0,0)∈L:=by rw [List.getD_eq_getElem?_getD,List.getElem?_eq_getElem h2];exact List.getElem_mem h2
 unfold F9 at hA
 refine HWp.of_lead fun b k cs hi0 hcs=>?_
 rw [rp9_3]
 refine LeadsR.region hP hi0 hcs ?_
 rw [zp9_3]
 simp only [List.range,List.range.loop]
 refine mvF ⟨_,rfl,rfl,rfl,rfl⟩ hA rfl (by decide) hi0 hcs fun A hA=>?_
 refine mvF ⟨_,rfl,rfl,rfl,rfl⟩ hA rfl (by decide) hi0 hcs fun A hA=>?_
 refine mvF ⟨_,rfl,rfl,rfl,rfl⟩ hA rfl (by decide) hi0 hcs fun A hA=>?_
 refine mvF ⟨_,rfl,rfl,rfl,rfl⟩ hA rfl (by decide) hi0 hcs fun A hA=>?_
 refine idxC ⟨_,rfl,rfl,rfl,rfl⟩ hA rfl rfl h2 hLm (by decide) hi0 hcs fun A hA=>?_
 refine fldC ⟨_,rfl,rfl,rfl,rfl⟩ hA rfl (by decide) hi0 hcs fun A hA=>?_
 refine loadI ⟨_,rfl,rfl,rfl,rfl⟩ hA rfl (hcells i h2).2 (by decide) hi0 hcs fun A hA=>?_
 refine callFx ⟨_,rfl,rfl,rfl,rfl⟩ Tryz.func25 (by decide) rfl hA rfl (by decide) hi0 hcs (atoms_H _ w (hL _ hmem).2) (fun e w' x=>by obtain ⟨ao,cp,x1,_⟩:=x;exact ⟨_,x1⟩) ?_
 rintro v w1 A ⟨ao,acap,hv,hcp,hst,hs1⟩ hA
 cases hv
 refine callFx ⟨_,rfl,rfl,rfl,rfl⟩ Tryz.func24 (by decide) rfl hA rfl (by decide) hi0 hcs (hstep w1 ao acap (hmv w w1 hI hs1) hst hcp) (fun e w' x=>⟨_,x.1⟩) ?_
 rintro v w2 A ⟨hv,hI2,hs2⟩ hA
 cases hv
 refine asgF ⟨_,rfl,rfl,rfl,rfl⟩ hA rfl (by decide) hi0 hcs fun A hA=>?_
 refine LeadsR.nil hP hi0 hcs (LeadsR.here fun τ d=>⟨A,⟨?_,htp _ τ d hI2,(spare_out (hs.trans hs1) hs2).tapeR τ d⟩,rfl⟩)
 refine hA.less ?_
 unfold G9
 simp only [List.forall_mem_cons,List.not_mem_nil,false_implies,implies_true,and_true]
 exact ⟨rfl,rfl,rfl,rfl,rfl,rfl,rfl,rfl,rfl,rfl,rfl⟩
end Go.Proofs.YtpbbmagjhkakgaaGreatDoor.Ev
