import Derived.Test.YtpbbmagjhkakgaaGreatDoorEaWatchToEaWatch2
import Derived.Test.YtpbbmagjhkakgaaGreatDoorSmOpsToEfForg
namespace Go.Proofs.YtpbbmagjhkakgaaGreatDoor
namespace Ev
open Go.RowKit Go.Deep Go.Maps Lf Go.Conc
theorem text_a:pw ⟨#[97]⟩ (atomT 97):=⟨by decide,read_atom,by decide,Nat.le_trans nodes_atom (by decide)⟩
set_option maxRecDepth 100000 in
set_option maxHeartbeats 4000000 in
theorem works_A (w:World) (hg:eF w) (l9:14<=w.heap.size):bZ Tryz.prog 17 #[] w (dz w):=by
 have hP:=bk
 have ix:∀ it∈([]:List Item),aR it:=by simp
 have dY:∀ (c:Code),∀ it∈[Item.code c],aR it:=fun c=>aJ trivial (by simp)
 have hb:Tryz.f17.body=some qP:=rfl
 have e0:qP=.seq zero17 (.seq one17 rest17):=rfl
 refine bZ.nJ Tryz.func17 hb fun cs bn=>?_
 rw [e0]
 refine af.seq hP ix bn ?_
 have ea:({ tmps:=#[]++Array.replicate (Tryz.f17.ntmps-(#[]:Array Value).size) undef,defers:=[] }:Act)=⟨#[undef,undef,undef,undef,undef,undef,undef,undef,undef,undef,undef,undef,undef,undef,undef,undef],[]⟩:=rfl
 rw [ea]
 refine af.piece hP (fun a w'=>a=⟨#[.bool false,undef,undef,undef,undef,undef,undef,undef,undef,undef,undef,undef,undef,undef,undef,undef],[]⟩/\∃ τ d,w'=re w τ d) (fun _ _ τ d x=>⟨x.1,by obtain ⟨vX,d',rfl⟩:=x.2;exact ⟨τ,d,rfl⟩⟩) (dY _) bn (fun τ d=>?_) ?_
 ·simp only [zero17,qP,Tryz.f17,Option.getD_some]
  go_wp2_with fail
  first | exact ⟨τ,d,rfl⟩ | exact ⟨rfl,τ,d,rfl⟩ | exact ⟨rfl,rfl,τ,d,rfl⟩
 rintro a w' ⟨rfl,τ0,d0,rfl⟩
 refine af.other ?_ τ0 d0
 refine af.seq hP ix bn ?_
 simp only [one17,qP,Tryz.f17,Option.getD_some]
 refine af.region hP (dY _) bn ?_
 simp only [List.size_toArray,List.length_cons,List.length_nil,Nat.reduceAdd,Nat.zero_add,List.range,List.range.loop]
 refine af.val hP (w':=w) (v:=?v0) rfl (by rfl) (fun τ d=>run_eq_of ?r0) (dY _) bn ?_
 case r0=>intro K hK;go_simp;exact hK
 try walk_nrm
 refine af.val hP (w':=w) (v:=?v1) rfl (by rfl) (fun τ d=>run_eq_of ?r1) (dY _) bn ?_
 case r1=>intro K hK;go_simp;exact hK
 try walk_nrm
 refine af.val hP (w':=w) (v:=?v2) rfl (by rfl) (fun τ d=>run_eq_of ?r2) (dY _) bn ?_
 case r2=>intro K hK;go_simp;exact hK
 try walk_nrm
 refine af.val hP (w':=w.alloc (.cells #[.int .i64 0,.int .i64 1,.int .i64 0,.int .i64 2,.int .i64 0,.int .i64 3] 45)) (v:=.slice (some ⟨w.heap.size,0,none⟩) 3 3) rfl (by rfl) (fun τ d=>run_eq_of ?r3) (dY _) bn ?_
 case r3=>intro K hK;go_simp;exact hK
 try walk_nrm
 generalize hW:w.alloc (.cells #[.int .i64 0,.int .i64 1,.int .i64 0,.int .i64 2,.int .i64 0,.int .i64 3] 45)=W
 have kS:au (fun _=>False) w W:=by rw [<- hW];exact au.aL ((Below.refl _ w).al _)
 have oK:W.heap.size=w.heap.size+1:=by rw [<- hW];simp
 have hC:gJ W (some ⟨w.heap.size,0,none⟩) L17:=fun _=>⟨w.heap.size,0,rfl,by omega,fun j hj=>by
  have:j=0\/j=1\/j=2:=by have:L17.length=3:=rfl;omega
  rw [<- hW]
  rcases this with rfl | rfl | rfl<;>exact ⟨(World.cell?_alloc_at _ _ _ _ rfl).trans rfl,(World.cell?_alloc_at _ _ _ _ rfl).trans rfl⟩⟩
 have hwt:=watched_A (R:=5) (by decide) text_a (by decide) L17 (some ⟨w.heap.size,0,none⟩) 3 W (mM hg kS) (by omega) (by decide) i64_17 hC
 refine watch_tail (X:=atomT 97) (L:=L17) ⟨_,rfl,rfl,rfl,rfl⟩ ⟨_,rfl,rfl,rfl,rfl⟩ ⟨_,rfl,rfl,rfl,rfl⟩ ⟨_,rfl,rfl,rfl,rfl⟩ ⟨_,rfl,rfl,rfl,rfl⟩ ⟨_,rfl,rfl,rfl,rfl⟩ (by simp) (by decide) rfl rfl rfl (dY _) bn hwt ?_
 intro A' w2 hz hd hA hB _ oJ
 rw [ver17] at hA
 have hz:A'.tmps.size=16:=hz
 have hd:A'.defers=[]:=hd
 refine af.last hP bn Tryz.func17 dz.aU dz.out fun τ d=>?_
 have bH:dz w (.returned (.bool true)) (re w2 τ d):=⟨rfl,(kS.trans oJ).aU τ d⟩
 have bH:Hid _:=bH
 obtain ⟨t,d⟩:=A'
 simp only at hz hd hA hB
 subst hd
 have e:=arr_get t 16 hz
 have k1:t.getD 1 undef=.string ⟨#[49,48,49]⟩:=by rw [Array.getD_eq_getD_getElem?,hA];rfl
 have k2:t.getD 2 undef=.bool true:=by rw [Array.getD_eq_getD_getElem?,hB];rfl
 simp only [List.range,List.range.loop,List.map_cons,List.map_nil,k1,k2] at e
 rw [e]
 clear e k1 k2 hA hB hz kS oJ hC hwt oK
 generalize hQ:bodyPost Tryz.prog Tryz.f17 (dz w)=Q
 simp only [rest17,qP,Tryz.f17,Option.getD_some]
 go_wp2_with fail
 rw [<- hQ]
 go_ret
 exact ⟨rfl,bH.out.2⟩
noncomputable def eK:Code:=Tryz.f10.body.getD .skip
noncomputable def jm (k:Nat):Code:=rP eK k
noncomputable def nK (k:Nat):Array Oper:=opsR (jm k)
noncomputable def ez:Code:=match eK with
 | .seq _ (.seq _ (.seq _ (.seq _ (.seq _ (.seq _ (.seq _ (.seq _ x)))))))=>x
 | _=>.skip
set_option maxRecDepth 100000 in
theorem eE {A:Act} (oK:A.tmps.size=251) (hd:A.defers=[]):∃ u:Nat->Value,(∀ j v,A.tmps[j]? = some v->u j=v)/\A=⟨#[u 0,u 1,u 2,u 3,u 4,u 5,u 6,u 7,u 8,u 9,u 10,u 11,u 12,u 13,u 14,u 15,u 16,u 17,u 18,u 19,u 20,u 21,u 22,u 23,u 24,u 25,u 26,u 27,u 28,u 29,u 30,u 31,u 32,u 33,u 34,u 35,u 36,u 37,u 38,u 39,u 40,u 41,u 42,u 43,u 44,u 45,u 46,u 47,u 48,u 49,u 50,u 51,u 52,u 53,u 54,u 55,u 56,u 57,u 58,u 59,u 60,u 61,u 62,u 63,u 64,u 65,u 66,u 67,u 68,u 69,u 70,u 71,u 72,u 73,u 74,u 75,u 76,u 77,u 78,u 79,u 80,u 81,u 82,u 83,u 84,u 85,u 86,u 87,u 88,u 89,u 90,u 91,u 92,u 93,u 94,u 95,u 96,u 97,u 98,u 99,u 100,u 101,u 102,u 103,u 104,u 105,u 106,u 107,u 108,u 109,u 110,u 111,u 112,u 113,u 114,u 115,u 116,u 117,u 118,u 119,u 120,u 121,u 122,u 123,u 124,u 125,u 126,u 127,u 128,u 129,u 130,u 131,u 132,u 133,u 134,u 135,u 136,u 137,u 138,u 139,u 140,u 141,u 142,u 143,u 144,u 145,u 146,u 147,u 148,u 149,u 150,u 151,u 152,u 153,u 154,u 155,u 156,u 157,u 158,u 159,u 160,u 161,u 162,u 163,u 164,u 165,u 166,u 167,u 168,u 169,u 170,u 171,u 172,u 173,u 174,u 175,u 176,u 177,u 178,u 179,u 180,u 181,u 182,u 183,u 184,u 185,u 186,u 187,u 188,u 189,u 190,u 191,u 192,u 193,u 194,u 195,u 196,u 197,u 198,u 199,u 200,u 201,u 202,u 203,u 204,u 205,u 206,u 207,u 208,u 209,u 210,u 211,u 212,u 213,u 214,u 215,u 216,u 217,u 218,u 219,u 220,u 221,u 222,u 223,u 224,u 225,u 226,u 227,u 228,u 229,u 230,u 231,u 232,u 233,u 234,u 235,u 236,u 237,u 238,u 239,u 240,u 241,u 242,u 243,u 244,u 245,u 246,u 247,u 248,u 249,u 250],[]⟩:=by
 refine ⟨fun j=>A.tmps.getD j undef,fun j v h=>by show A.tmps.getD j undef=v;rw [Array.getD_eq_getD_getElem?,h];rfl,?_⟩
 have e:A.tmps=((List.range 251).map (fun j=>A.tmps.getD j undef)).toArray:=arr_get A.tmps 251 oK
 obtain ⟨t,d⟩:=A
 simp only at *
 subst hd
 rw [Act.mk.injEq]
 exact ⟨e.trans rfl,rfl⟩
set_option maxRecDepth 100000 in
set_option maxHeartbeats 16000000 in
theorem chka10_go (eo o2 o3:Option Addr) (ln cap sn eC tn ek:Nat) (sp vs:ByteArray) (mb:Nat) {w1 w:World} (A:Act) (hA:Fx 251 [(1,.slice o2 sn eC),(2,.slice eo ln cap),(3,.slice o3 tn ek),(9,.bool true),(10,.string sp),(12,.string vs),(13,.bool true),(14,.pointer (some ⟨mb,0,none⟩)),(15,.int .i64 0)] A) (hs:au (fun _=>False) w1 w):(jm 5).wp Tryz.prog (fun e A' w'=>e=.normal/\Fx 251 [(1,.slice o2 sn eC),(2,.slice eo ln cap),(3,.slice o3 tn ek),(9,.bool true),(10,.string sp),(12,.string vs),(13,.bool true),(14,.pointer (some ⟨mb,0,none⟩)),(15,.int .i64 0)] A'/\au (fun _=>False) w1 w') A w:=by
 have hPQ:∀ Q:Act->World->Prop,(∀ A',Fx 251 [(1,.slice o2 sn eC),(2,.slice eo ln cap),(3,.slice o3 tn ek),(9,.bool true),(10,.string sp),(12,.string vs),(13,.bool true),(14,.pointer (some ⟨mb,0,none⟩)),(15,.int .i64 0)] A'->Q A' w)->(jm 5).wp Tryz.prog (fun e A' w'=>e=.normal/\Q A' w') A w:=by
  intro Q hQ
  replace hQ:Hid _:=hQ
  obtain ⟨u,hu,rfl⟩:=eE hA.size hA.defers
  have k1:=hu 1 _ (hA.get 1 _ rfl)
  have k2:=hu 2 _ (hA.get 2 _ rfl)
  have k3:=hu 3 _ (hA.get 3 _ rfl)
  have k9:=hu 9 _ (hA.get 9 _ rfl)
  have k10:=hu 10 _ (hA.get 10 _ rfl)
  have kq:=hu 12 _ (hA.get 12 _ rfl)
  have k13:=hu 13 _ (hA.get 13 _ rfl)
  have kr:=hu 14 _ (hA.get 14 _ rfl)
  have k15:=hu 15 _ (hA.get 15 _ rfl)
  clear hu hA
  simp only [k1,k2,k3,k9,k10,kq,k13,kr,k15]
  clear k1 k2 k3 k9 k10 kq k13 kr k15
  simp only [jm,rP,eK,Tryz.f10,Option.getD_some]
  go_wp2_with fail
  first | refine hQ.out _ ?_ | refine ⟨rfl,hQ.out _ ?_⟩
  refine Fx.of rfl rfl ?_
  simp only [List.forall_mem_cons,List.not_mem_nil,false_implies,implies_true,and_true]
  exact ⟨rfl,rfl,rfl,rfl,rfl,rfl,rfl,rfl,rfl⟩
 exact hPQ (fun A' w'=>Fx 251 [(1,.slice o2 sn eC),(2,.slice eo ln cap),(3,.slice o3 tn ek),(9,.bool true),(10,.string sp),(12,.string vs),(13,.bool true),(14,.pointer (some ⟨mb,0,none⟩)),(15,.int .i64 0)] A'/\au (fun _=>False) w1 w') fun A' h=>⟨h,hs⟩
theorem rg10_0:jm 0=.region 0 (nK 0) false:=rfl
theorem sz10_0:(nK 0).size=1:=rfl
theorem rg10_1:jm 1=.region 1 (nK 1) false:=rfl
theorem sz10_1:(nK 1).size=2:=rfl
theorem rg10_2:jm 2=.region 2 (nK 2) false:=rfl
theorem sz10_2:(nK 2).size=7:=rfl
theorem rg10_3:jm 3=.region 3 (nK 3) false:=rfl
theorem sz10_3:(nK 3).size=8:=rfl
theorem rg10_4:jm 4=.region 4 (nK 4) false:=rfl
theorem sz10_4:(nK 4).size=6:=rfl
theorem rg10_6:jm 6=.region 7 (nK 6) false:=rfl
theorem sz10_6:(nK 6).size=8:=rfl
theorem rg10_7:jm 7=.region 8 (nK 7) false:=rfl
theorem sz10_7:(nK 7).size=1:=rfl
set_option maxRecDepth 100000 in
set_option maxHeartbeats 16000000 in
theorem alone_pre (R S T:List Int) (o1 o2 o3:Option Addr) (cpR eC ek:Nat) (L:List (Int×Int)) (eo:Option Addr) (cap:Nat) (w:World) (hg:eF w) (l9:14<=w.heap.size) (hlR:R.length<=4611686018427387904) (oF:∀ r∈R,mj r) (hR:iD w o1 R) (hLm:L.length<=9223372036854775807) (hL:∀ p∈L,mj p.1/\mj p.2) (hC:gJ w eo L)
  (hrest:∀ (x:BT aO) (sp vs:ByteArray) (mb aj m:Nat) (w':World) (A:Act) (cs:List Frame),pw sp x->Good x->0<=ax x->vs=eL x L (min L.length 25)->Fx 251 [(1,.slice o2 S.length eC),(2,.slice eo L.length cap),(3,.slice o3 T.length ek),(12,.string vs),(14,.pointer (some ⟨mb,0,none⟩)),(17,.int .i64 0),(18,(Value.int IntKind.i64 0))] A->dM 1000 x L w.heap.size mb aj 0 1 m w'->au (fun _=>False) w w'->(∀ fr∈cs,aA fr)->af Tryz.prog (fun g w'=>∃ e fr,g=G fr cs/\aA fr/\dz w e w'/\fr.fn=10/\fr.leaving Tryz.prog w' e) (G ((base 10).at A [.code ez]) cs) w') :
  bZ Tryz.prog 10 #[.slice o1 R.length cpR,.slice o2 S.length eC,.slice eo L.length cap,.slice o3 T.length ek] w (dz w):=by
 have hP:=bk
 have ix:∀ it∈([]:List Item),aR it:=by simp
 have dY:∀ (c:Code),∀ it∈[Item.code c],aR it:=fun c=>aJ trivial (by simp)
 have hb:Tryz.f10.body=some eK:=rfl
 refine bZ.nJ Tryz.func10 hb fun cs bn=>?_
 rw [Tryz.ntmps10]
 obtain ⟨A,eA⟩:∃ A:Act,A={ tmps:=#[.slice o1 R.length cpR,.slice o2 S.length eC,.slice eo L.length cap,.slice o3 T.length ek]++Array.replicate (251-(#[.slice o1 R.length cpR,.slice o2 S.length eC,.slice eo L.length cap,.slice o3 T.length ek]:Array Value).size) undef,defers:=[] }:=⟨_,rfl⟩
 have hA:Fx 251 [(0,.slice o1 R.length cpR),(1,.slice o2 S.length eC),(2,.slice eo L.length cap),(3,.slice o3 T.length ek)] A:=Fx.of (by rw [eA];simp) (by rw [eA]) (by rw [eA];simp)
 rw [<- eA]
 clear eA
 have er:eK=.seq (jm 0) (.seq (jm 1) (.seq (jm 2) (.seq (jm 3) (.seq (jm 4) (.seq (jm 5) (.seq (jm 6) (.seq (jm 7) ez))))))):=rfl
 rw [er]
 have hZ:=au.refl (fun _=>False) w
 refine af.seq hP ix bn ?_
 rw [rg10_0]
 refine af.region hP (dY _) bn ?_
 rw [sz10_0]
 simp only [List.range,List.range.loop]
 refine asgF ⟨_,rfl,rfl,rfl,rfl⟩ hA rfl (by decide) (dY _) bn fun A hA=>?_
 refine af.nil hP (dY _) bn ?_
 replace hA:=hA.less (m:=[(0,.slice o1 R.length cpR),(1,.slice o2 S.length eC),(2,.slice eo L.length cap),(3,.slice o3 T.length ek)]) (by simp only [List.forall_mem_cons,List.not_mem_nil,false_implies,implies_true,and_true];exact ⟨rfl,rfl,rfl,rfl⟩)
 refine af.seq hP ix bn ?_
 rw [rg10_1]
 refine af.region hP (dY _) bn ?_
 rw [sz10_1]
 simp only [List.range,List.range.loop]
 refine qQ ⟨_,rfl,rfl,rfl,rfl⟩ Tryz.func17 (by decide) rfl hA rfl (by decide) (dY _) bn (works_A w (mM hg hZ) (Nat.le_trans l9 hZ.size)) (fun e w' x=>⟨_,x.1⟩) ?_
 rintro v w1 A ⟨hv,ht1⟩ hA
 cases hv
 have hS1:=hZ.trans ht1
 refine asgF ⟨_,rfl,rfl,rfl,rfl⟩ hA rfl (by decide) (dY _) bn fun A hA=>?_
 refine af.nil hP (dY _) bn ?_
 replace hA:=hA.less (m:=[(0,.slice o1 R.length cpR),(1,.slice o2 S.length eC),(2,.slice eo L.length cap),(3,.slice o3 T.length ek),(9,.bool true)]) (by simp only [List.forall_mem_cons,List.not_mem_nil,false_implies,implies_true,and_true];exact ⟨rfl,rfl,rfl,rfl,rfl⟩)
 refine af.seq hP ix bn ?_
 rw [rg10_2]
 refine af.region hP (dY _) bn ?_
 rw [sz10_2]
 simp only [List.range,List.range.loop]
 refine mvF ⟨_,rfl,rfl,rfl,rfl⟩ hA rfl (by decide) (dY _) bn fun A hA=>?_
 refine qQ ⟨_,rfl,rfl,rfl,rfl⟩ Tryz.func18 (by decide) rfl hA rfl (by decide) (dY _) bn (sent_H R o1 cpR 3 w1 hlR oF (by decide) (hR.move hS1) 0 (by decide)) (fun e w' x=>by obtain ⟨⟨q,hq,_⟩,_⟩:=x;exact ⟨_,hq⟩) ?_
 rintro v w2 A ⟨⟨sp,hv,kT⟩,ht2⟩ hA
 cases hv
 have hp:=(iK R 3 0).1
 have tx:pw sp (ay R 3 0).x:=hp.text (by decide) (by decide) (by decide) (by decide) kT
 have hgx:=hp.good
 have hn0:=eX hgx.win
 have hn1:ax (ay R 3 0).x<=24:=hp.sS
 obtain ⟨x,hx⟩:∃ x,x=(ay R 3 0).x:=⟨_,rfl⟩
 rw [<- hx] at tx hgx hn0 hn1
 have hS2:=hS1.trans ht2
 refine mvF ⟨_,rfl,rfl,rfl,rfl⟩ hA rfl (by decide) (dY _) bn fun A hA=>?_
 refine extF ⟨_,rfl,rfl,rfl,rfl⟩ hA rfl (v:=.string sp) rfl (by decide) (dY _) bn fun A hA=>?_
 refine extF ⟨_,rfl,rfl,rfl,rfl⟩ hA rfl (v:=.int .i64 ((ay R 3 0).next:Int)) rfl (by decide) (dY _) bn fun A hA=>?_
 refine asgF ⟨_,rfl,rfl,rfl,rfl⟩ hA rfl (by decide) (dY _) bn fun A hA=>?_
 refine asgF ⟨_,rfl,rfl,rfl,rfl⟩ hA rfl (by decide) (dY _) bn fun A hA=>?_
 refine af.nil hP (dY _) bn ?_
 replace hA:=hA.less (m:=[(0,.slice o1 R.length cpR),(1,.slice o2 S.length eC),(2,.slice eo L.length cap),(3,.slice o3 T.length ek),(9,.bool true),(10,.string sp)]) (by simp only [List.forall_mem_cons,List.not_mem_nil,false_implies,implies_true,and_true];exact ⟨rfl,rfl,rfl,rfl,rfl,rfl⟩)
 refine af.seq hP ix bn ?_
 rw [rg10_3]
 refine af.region hP (dY _) bn ?_
 rw [sz10_3]
 simp only [List.range,List.range.loop]
 refine mvF ⟨_,rfl,rfl,rfl,rfl⟩ hA rfl (by decide) (dY _) bn fun A hA=>?_
 refine mvF ⟨_,rfl,rfl,rfl,rfl⟩ hA rfl (by decide) (dY _) bn fun A hA=>?_
 refine watchF (X:=x) (L:=L) ⟨_,rfl,rfl,rfl,rfl⟩ ⟨_,rfl,rfl,rfl,rfl⟩ ⟨_,rfl,rfl,rfl,rfl⟩ ⟨_,rfl,rfl,rfl,rfl⟩ ⟨_,rfl,rfl,rfl,rfl⟩ ⟨_,rfl,rfl,rfl,rfl⟩ (by decide) (by decide) hA rfl rfl rfl (dY _) bn (watched_A (by decide) tx tx.reach L eo cap w2 (mM hg hS2) (Nat.le_trans l9 hS2.size) hLm hL (hC.move hS2)) [(0,.slice o1 R.length cpR),(1,.slice o2 S.length eC),(2,.slice eo L.length cap),(3,.slice o3 T.length ek),(9,.bool true),(10,.string sp)] (by simp only [List.forall_mem_cons,List.not_mem_nil,false_implies,implies_true,and_true];exact ⟨⟨rfl,by decide,by decide,by decide,by decide,by decide,by decide⟩,⟨rfl,by decide,by decide,by decide,by decide,by decide,by decide⟩,⟨rfl,by decide,by decide,by decide,by decide,by decide,by decide⟩,⟨rfl,by decide,by decide,by decide,by decide,by decide,by decide⟩,⟨rfl,by decide,by decide,by decide,by decide,by decide,by decide⟩,⟨rfl,by decide,by decide,by decide,by decide,by decide,by decide⟩⟩) fun A w3 hA ht3=>?_
 have hS3:=hS2.trans ht3
 generalize hvs:eL x L (min L.length 25)=vs at *
 refine af.seq hP ix bn ?_
 rw [rg10_4]
 refine af.region hP (dY _) bn ?_
 rw [sz10_4]
 simp only [List.range,List.range.loop]
 refine qQ ⟨_,rfl,rfl,rfl,rfl⟩ Tryz.func23 (by decide) rfl hA rfl (by decide) (dY _) bn (new_H 1000 w3 (by decide)) (fun e w' x=>by obtain ⟨mb,aj,x1,_⟩:=x;exact ⟨_,x1⟩) ?_
 rintro v w4 A ⟨mb,aj,hv,n1,n2,n3,n4,ht4⟩ hA
 cases hv
 have hS4:=hS3.trans ht4
 refine mvF ⟨_,rfl,rfl,rfl,rfl⟩ hA rfl (by decide) (dY _) bn fun A hA=>?_
 refine extF ⟨_,rfl,rfl,rfl,rfl⟩ hA rfl (v:=.pointer (some ⟨mb,0,none⟩)) rfl (by decide) (dY _) bn fun A hA=>?_
 refine extF ⟨_,rfl,rfl,rfl,rfl⟩ hA rfl (v:=.int .i64 0) rfl (by decide) (dY _) bn fun A hA=>?_
 refine asgF ⟨_,rfl,rfl,rfl,rfl⟩ hA rfl (by decide) (dY _) bn fun A hA=>?_
 refine asgF ⟨_,rfl,rfl,rfl,rfl⟩ hA rfl (by decide) (dY _) bn fun A hA=>?_
 refine af.nil hP (dY _) bn ?_
 replace hA:=hA.less (m:=[(0,.slice o1 R.length cpR),(1,.slice o2 S.length eC),(2,.slice eo L.length cap),(3,.slice o3 T.length ek),(9,.bool true),(10,.string sp),(12,.string vs),(13,.bool true),(14,.pointer (some ⟨mb,0,none⟩)),(15,.int .i64 0)]) (by simp only [List.forall_mem_cons,List.not_mem_nil,false_implies,implies_true,and_true];exact ⟨rfl,rfl,rfl,rfl,rfl,rfl,rfl,rfl,rfl,rfl⟩)
 replace hA:=hA.less (m:=[(1,.slice o2 S.length eC),(2,.slice eo L.length cap),(3,.slice o3 T.length ek),(9,.bool true),(10,.string sp),(12,.string vs),(13,.bool true),(14,.pointer (some ⟨mb,0,none⟩)),(15,.int .i64 0)]) (by simp only [List.forall_mem_cons,List.not_mem_nil,false_implies,implies_true,and_true];exact ⟨rfl,rfl,rfl,rfl,rfl,rfl,rfl,rfl,rfl⟩)
 refine af.seq hP ix bn ?_
 refine af.piece hP (fun A' w'=>Fx 251 [(1,.slice o2 S.length eC),(2,.slice eo L.length cap),(3,.slice o3 T.length ek),(9,.bool true),(10,.string sp),(12,.string vs),(13,.bool true),(14,.pointer (some ⟨mb,0,none⟩)),(15,.int .i64 0)] A'/\au (fun _=>False) w4 w') (fun _ _ τ d x=>⟨x.1,x.2.aU τ d⟩) (dY _) bn (fun τ d=>chka10_go eo o2 o3 L.length cap S.length eC T.length ek sp vs mb _ hA ((au.refl _ w4).aU τ d)) ?_
 rintro A w5 ⟨hA,ht5⟩
 have hS5:=hS4.trans ht5
 refine af.seq hP ix bn ?_
 rw [rg10_6]
 refine af.region hP (dY _) bn ?_
 rw [sz10_6]
 simp only [List.range,List.range.loop]
 refine mvF ⟨_,rfl,rfl,rfl,rfl⟩ hA rfl (by decide) (dY _) bn fun A hA=>?_
 refine mvF ⟨_,rfl,rfl,rfl,rfl⟩ hA rfl (by decide) (dY _) bn fun A hA=>?_
 have hm6:=ht5.get n3 id
 have hc6:=ht5.get n4 id
 refine qQ ⟨_,rfl,rfl,rfl,rfl⟩ Tryz.func27 (by decide) rfl hA rfl (by decide) (dY _) bn (start_H (x:=x) (L:=L) (B0:=w.heap.size) sp hm6 hc6 (Nat.le_trans hS3.size n2) (Nat.le_trans tx.size (by decide)) (mM hg hS5) (Nat.le_trans l9 hS5.size) tx.read (Nat.le_trans tx.nodes (by decide)) ⟨hn0,tx.reach⟩ (few_nodes tx.nodes)) (fun e w' x=>by obtain ⟨r,m,x1,_⟩:=x;exact ⟨_,x1⟩) ?_
 rintro v w6 A ⟨r,m,hv,hI,hk6⟩ hA
 cases hv
 have hS6:=iM hS5 hk6
 refine mvF ⟨_,rfl,rfl,rfl,rfl⟩ hA rfl (by decide) (dY _) bn fun A hA=>?_
 refine extF ⟨_,rfl,rfl,rfl,rfl⟩ hA rfl (v:=r) rfl (by decide) (dY _) bn fun A hA=>?_
 refine extF ⟨_,rfl,rfl,rfl,rfl⟩ hA rfl (v:=.int .i64 0) rfl (by decide) (dY _) bn fun A hA=>?_
 refine asgF ⟨_,rfl,rfl,rfl,rfl⟩ hA rfl (by decide) (dY _) bn fun A hA=>?_
 refine asgF ⟨_,rfl,rfl,rfl,rfl⟩ hA rfl (by decide) (dY _) bn fun A hA=>?_
 refine af.nil hP (dY _) bn ?_
 replace hA:=hA.less (m:=[(1,.slice o2 S.length eC),(2,.slice eo L.length cap),(3,.slice o3 T.length ek),(9,.bool true),(10,.string sp),(12,.string vs),(13,.bool true),(14,.pointer (some ⟨mb,0,none⟩)),(15,.int .i64 0),(17,.int .i64 0)]) (by simp only [List.forall_mem_cons,List.not_mem_nil,false_implies,implies_true,and_true];exact ⟨rfl,rfl,rfl,rfl,rfl,rfl,rfl,rfl,rfl,rfl⟩)
 refine af.seq hP ix bn ?_
 rw [rg10_7]
 refine af.region hP (dY _) bn ?_
 rw [sz10_7]
 simp only [List.range,List.range.loop]
 refine asgF ⟨_,rfl,rfl,rfl,rfl⟩ hA rfl (by decide) (dY _) bn fun A hA=>?_
 refine af.nil hP (dY _) bn ?_
 replace hA:=hA.less (m:=[(1,.slice o2 S.length eC),(2,.slice eo L.length cap),(3,.slice o3 T.length ek),(9,.bool true),(10,.string sp),(12,.string vs),(13,.bool true),(14,.pointer (some ⟨mb,0,none⟩)),(15,.int .i64 0),(17,.int .i64 0),(18,(Value.int IntKind.i64 0))]) (by simp only [List.forall_mem_cons,List.not_mem_nil,false_implies,implies_true,and_true];exact ⟨rfl,rfl,rfl,rfl,rfl,rfl,rfl,rfl,rfl,rfl,rfl⟩)
 replace hA:=hA.less (m:=[(1,.slice o2 S.length eC),(2,.slice eo L.length cap),(3,.slice o3 T.length ek),(12,.string vs),(14,.pointer (some ⟨mb,0,none⟩)),(17,.int .i64 0),(18,(Value.int IntKind.i64 0))]) (by simp only [List.forall_mem_cons,List.not_mem_nil,false_implies,implies_true,and_true];exact ⟨rfl,rfl,rfl,rfl,rfl,rfl,rfl⟩)
 exact hrest x sp vs mb aj m w6 A cs tx hgx hn0 hvs.symm hA hI hS6 bn
noncomputable def zero10:Code:=match ez with
 | .seq (.seq x _) _=>x
 | _=>.skip
noncomputable def ji:Code:=match ez with
 | .seq (.seq _ (.block _ (.loop x))) _=>x
 | _=>.skip
noncomputable def oy:Code:=match ez with
 | .seq _ x=>x
 | _=>.skip
noncomputable def head10:Code:=match ji with
 | .seq x _=>x
 | _=>.skip
noncomputable def in10:Code:=match ji with
 | .seq _ (.seq (.block _ x) _)=>x
 | _=>.skip
noncomputable def next10:Code:=match ji with
 | .seq _ (.seq _ x)=>x
 | _=>.skip
noncomputable def iA (k:Nat):Code:=rP in10 k
noncomputable def ev10:Code:=match in10 with
 | .seq _ (.seq _ (.seq _ (.seq _ (.seq _ x))))=>x
 | _=>.skip
theorem in10_is:in10=.seq (iA 0) (.seq (iA 1) (.seq (iA 2) (.seq (iA 3) (.seq (iA 4) ev10)))):=rfl
set_option maxHeartbeats 1000000 in
theorem pick_big (c n:Int) (w:World) (hc:mj c) (hn:0<n/\n<=4611686018427387905):Calls Tryz.prog 19 #[.int .i64 c,.int .i64 n] w fun e w'=>e=.returned (.int .i64 (aP c n))/\w'=w:=by
 obtain ⟨h1,h2⟩:=hc
 have hne:n≠0:=by omega
 unfold aP
 by_cases h:c<0
 ·have hm:0<=(-(c+1)) % n/\(-(c+1)) % n<n:=⟨Int.emod_nonneg _ hne,Int.emod_lt_of_pos _ hn.1⟩
  have ht:Int.tmod (-(c+1)) n=(-(c+1)) % n:=Int.tmod_eq_emod_of_nonneg (by omega)
  simp only [h,if_true]
  go_enter Tryz.func19,Tryz.ntmps19
  go_wp2_with fail
  go_ret
  exact ⟨rfl,rfl⟩
 ·have hm:0<=c % n/\c % n<n:=⟨Int.emod_nonneg _ hne,Int.emod_lt_of_pos _ hn.1⟩
  have ht:Int.tmod c n=c % n:=Int.tmod_eq_emod_of_nonneg (by omega)
  simp only [h,if_false]
  go_enter Tryz.func19,Tryz.ntmps19
  go_wp2_with fail
  go_ret
  exact ⟨rfl,rfl⟩
def kO (o2 eo o3:Option Addr) (sn eC ln cap tn ek:Nat) (vs:ByteArray) (mb:Nat) (now:Int) (i:Int):List (Nat×Value):=[(1,.slice o2 sn eC),(2,.slice eo ln cap),(3,.slice o3 tn ek),(12,.string vs),(14,.pointer (some ⟨mb,0,none⟩)),(17,.int .i64 0),(18,.int .i64 now),(19,.int .i64 i)]
def F10q (o2 eo o3:Option Addr) (sn eC ln cap tn ek:Nat) (vs:ByteArray) (mb:Nat) (now:Int) (i:Int) (q:ByteArray):List (Nat×Value):=kO o2 eo o3 sn eC ln cap tn ek vs mb now i++[(20,.string q)]
def F10n (o2 eo o3:Option Addr) (sn eC ln cap tn ek:Nat) (vs:ByteArray) (mb:Nat) (now:Int) (i:Int) (q nm:ByteArray):List (Nat×Value):=F10q o2 eo o3 sn eC ln cap tn ek vs mb now i q++[(22,.string nm)]
def F10m (o2 eo o3:Option Addr) (sn eC ln cap tn ek:Nat) (vs:ByteArray) (mb:Nat) (now:Int) (i:Int) (q nm:ByteArray) (m:Nat):List (Nat×Value):=F10n o2 eo o3 sn eC ln cap tn ek vs mb now i q nm++[(23,.int .i64 (m:Int))]
set_option maxRecDepth 100000 in
set_option maxHeartbeats 16000000 in
theorem sen10_go (S T:List Int) (o2 eo o3:Option Addr) (eC ln cap ek:Nat) (vs:ByteArray) (mb:Nat) (now:Int) (i:Nat) (hi:i<25) (hlS:S.length<=4611686018427387904) (hIS:∀ r∈S,mj r) (hlT:T.length<=4611686018427387904) (hIT:∀ r∈T,mj r) (A:Act) (w:World) (hS:iD w o2 S) (hT:iD w o3 T) (Q:Act->World->Prop) (hA:Fx 251 (kO o2 eo o3 S.length eC ln cap T.length ek vs mb now i) A)
  (hQ:∀ A' w' q y,pw q y->Fx 251 (F10q o2 eo o3 S.length eC ln cap T.length ek vs mb now i q) A'->au (fun _=>False) w w'->Q A' w'):(iA 0).wp Tryz.prog (fun e A' w'=>e=.normal/\Q A' w') A w:=by
 replace hQ:Hid _:=hQ
 have lq:=fU T o3 ek i w hT hlT (by omega)
 have hI:mj (T.getD i 0):=by
  rw [List.getD_eq_getElem?_getD]
  cases hg:T[i]? with
  | none=>exact ⟨by decide,by decide⟩
  | some r=>exact hIT r (List.mem_of_getElem? hg)
 have hpk:=pick_big (T.getD i 0) ((S.length:Int)+1) w hI (by omega)
 have hr:=bB (T.getD i 0) ((S.length:Int)+1) (by omega)
 obtain ⟨at_,hat⟩:∃ k:Nat,aP (T.getD i 0) ((S.length:Int)+1)=k:=⟨(aP (T.getD i 0) ((S.length:Int)+1)).toNat,by omega⟩
 rw [hat] at hpk hr
 have hse:=sent_any S o2 eC hlS hIS 3 (by decide) at_ w hS (by omega)
 generalize T.getD i 0=tz at *
 clear hat hI
 generalize hsf:(ay S 3 at_)=sf at *
 obtain ⟨u,hu,rfl⟩:=eE hA.size hA.defers
 have k1:=hu 1 _ (hA.get 1 _ rfl)
 have k2:=hu 2 _ (hA.get 2 _ rfl)
 have k3:=hu 3 _ (hA.get 3 _ rfl)
 have kq:=hu 12 _ (hA.get 12 _ rfl)
 have kr:=hu 14 _ (hA.get 14 _ rfl)
 have kV:=hu 17 _ (hA.get 17 _ rfl)
 have k18:=hu 18 _ (hA.get 18 _ rfl)
 have k19:=hu 19 _ (hA.get 19 _ rfl)
 clear hu hA
 simp only [k1,k2,k3,kq,kr,kV,k18,k19]
 clear k1 k2 k3 kq kr kV k18 k19
 clear hS hT hIS hIT
 generalize S.length=sn at *
 generalize T.length=tn at *
 simp only [iA,rP,in10,ji,ez,eK,Tryz.f10,Option.getD_some]
 go_wp2_with fail
 refine lq.mono ?_
 rintro e w1 ⟨rfl,e1⟩
 obtain rfl:=e1.symm
 go_wp2_with fail
 refine hpk.mono ?_
 rintro e w1 ⟨rfl,e1⟩
 obtain rfl:=e1.symm
 go_wp2_with fail
 refine hse.mono ?_
 rintro e w1 ⟨⟨q,rfl,kT⟩,hb⟩
 have tx:pw q (ay S 3 at_).x:=(iK S 3 at_).1.text (by decide) (by decide) (by decide) (by decide) kT
 replace tx:Hid _:=tx
 replace hb:Hid _:=hb
 clear kT hse hpk lq
 go_wp2_with fail
 first | refine hQ.out _ _ q _ tx.out ?_ (au.aL hb.out) | refine ⟨rfl,hQ.out _ _ q _ tx.out ?_ (au.aL hb.out)⟩
 refine Fx.of rfl rfl ?_
 unfold F10q kO
 simp only [List.cons_append,List.nil_append,List.forall_mem_cons,List.not_mem_nil,false_implies,implies_true,and_true]
 exact ⟨rfl,rfl,rfl,rfl,rfl,rfl,rfl,rfl,rfl⟩
theorem pick_two (i:Nat):aP (i:Int) 2=0\/aP (i:Int) 2=1:=by
 have:=bB (i:Int) 2 (by decide)
 omega
set_option maxRecDepth 100000 in
set_option maxHeartbeats 16000000 in
theorem name10_go (o2 eo o3:Option Addr) (sn eC ln cap tn ek:Nat) (vs:ByteArray) (mb:Nat) (now:Int) (i:Nat) (hi:i<25) (q:ByteArray) (A:Act) (w:World) (Q:Act->World->Prop) (hA:Fx 251 (F10q o2 eo o3 sn eC ln cap tn ek vs mb now i q) A)
  (hQ:∀ A' nm,pX nm->Fx 251 (F10n o2 eo o3 sn eC ln cap tn ek vs mb now i q nm) A'->Q A' w):(iA 1).wp Tryz.prog (fun e A' w'=>e=.normal/\Q A' w') A w:=by
 replace hQ:Hid _:=hQ
 have hpk:=jl (i:Int) 2 w ⟨by omega,by omega⟩ (by decide)
 have x0:(⟨#[114,115]⟩:ByteArray).extract 0 1=⟨#[114]⟩:=by decide
 have x1:(⟨#[114,115]⟩:ByteArray).extract 1 2=⟨#[115]⟩:=by decide
 have y0:(⟨#[113]⟩:ByteArray)++⟨#[114]⟩=⟨#[113,114]⟩:=by decide
 have y1:(⟨#[113]⟩:ByteArray)++⟨#[115]⟩=⟨#[113,115]⟩:=by decide
 obtain ⟨u,hu,rfl⟩:=eE hA.size hA.defers
 have k1:=hu 1 _ (hA.get 1 _ rfl)
 have k2:=hu 2 _ (hA.get 2 _ rfl)
 have k3:=hu 3 _ (hA.get 3 _ rfl)
 have kq:=hu 12 _ (hA.get 12 _ rfl)
 have kr:=hu 14 _ (hA.get 14 _ rfl)
 have kV:=hu 17 _ (hA.get 17 _ rfl)
 have k18:=hu 18 _ (hA.get 18 _ rfl)
 have k19:=hu 19 _ (hA.get 19 _ rfl)
 have k20:=hu 20 _ (hA.get 20 _ rfl)
 clear hu hA
 simp only [k1,k2,k3,kq,kr,kV,k18,k19,k20]
 clear k1 k2 k3 kq kr kV k18 k19 k20
 simp only [iA,rP,in10,ji,ez,eK,Tryz.f10,Option.getD_some]
 rcases pick_two i with e0 | e0
 ·rw [e0] at hpk
  go_wp2_with fail
  refine hpk.mono ?_
  rintro e w1 ⟨rfl,e1⟩
  obtain rfl:=e1.symm
  go_wp2_with fail
  refine hpk.mono ?_
  rintro e w1 ⟨rfl,e1⟩
  obtain rfl:=e1.symm
  go_wp2_with fail
  first | refine hQ.out _ ⟨#[113,114]⟩ (.inl rfl) ?_ | refine ⟨rfl,hQ.out _ ⟨#[113,114]⟩ (.inl rfl) ?_⟩
  refine Fx.of rfl rfl ?_
  unfold F10n F10q kO
  simp only [List.cons_append,List.nil_append,List.forall_mem_cons,List.not_mem_nil,false_implies,implies_true,and_true]
  exact ⟨rfl,rfl,rfl,rfl,rfl,rfl,rfl,rfl,rfl,rfl⟩
 ·rw [e0] at hpk
  go_wp2_with fail
  refine hpk.mono ?_
  rintro e w1 ⟨rfl,e1⟩
  obtain rfl:=e1.symm
  go_wp2_with fail
  refine hpk.mono ?_
  rintro e w1 ⟨rfl,e1⟩
  obtain rfl:=e1.symm
  go_wp2_with fail
  first | refine hQ.out _ ⟨#[113,115]⟩ (.inr rfl) ?_ | refine ⟨rfl,hQ.out _ ⟨#[113,115]⟩ (.inr rfl) ?_⟩
  refine Fx.of rfl rfl ?_
  unfold F10n F10q kO
  simp only [List.cons_append,List.nil_append,List.forall_mem_cons,List.not_mem_nil,false_implies,implies_true,and_true]
  exact ⟨rfl,rfl,rfl,rfl,rfl,rfl,rfl,rfl,rfl,rfl⟩
set_option maxRecDepth 100000 in
set_option maxHeartbeats 16000000 in
theorem work10_go (o2 eo o3:Option Addr) (sn eC ln cap tn ek:Nat) (vs:ByteArray) (mb:Nat) (now:Int) (i:Nat) (q nm:ByteArray) (m:Nat) (A:Act) (w:World) (hW:Calls Tryz.prog 30 #[.pointer (some ⟨mb,0,none⟩)] w fun e w'=>e=.returned (.int .i64 (m:Int))/\w'=w) (Q:Act->World->Prop) (hA:Fx 251 (F10n o2 eo o3 sn eC ln cap tn ek vs mb now i q nm) A)
  (hQ:∀ A',Fx 251 (F10m o2 eo o3 sn eC ln cap tn ek vs mb now i q nm m) A'->Q A' w):(iA 2).wp Tryz.prog (fun e A' w'=>e=.normal/\Q A' w') A w:=by
 replace hQ:Hid _:=hQ
 obtain ⟨u,hu,rfl⟩:=eE hA.size hA.defers
 have k1:=hu 1 _ (hA.get 1 _ rfl)
 have k2:=hu 2 _ (hA.get 2 _ rfl)
 have k3:=hu 3 _ (hA.get 3 _ rfl)
 have kq:=hu 12 _ (hA.get 12 _ rfl)
 have kr:=hu 14 _ (hA.get 14 _ rfl)
 have kV:=hu 17 _ (hA.get 17 _ rfl)
 have k18:=hu 18 _ (hA.get 18 _ rfl)
 have k19:=hu 19 _ (hA.get 19 _ rfl)
 have k20:=hu 20 _ (hA.get 20 _ rfl)
 have k22:=hu 22 _ (hA.get 22 _ rfl)
 clear hu hA
 simp only [k1,k2,k3,kq,kr,kV,k18,k19,k20,k22]
 clear k1 k2 k3 kq kr kV k18 k19 k20 k22
 simp only [iA,rP,in10,ji,ez,eK,Tryz.f10,Option.getD_some]
 go_wp2_with fail
 refine hW.mono ?_
 rintro e w1 ⟨rfl,e1⟩
 obtain rfl:=e1.symm
 go_wp2_with fail
 first | refine hQ.out _ ?_ | refine ⟨rfl,hQ.out _ ?_⟩
 refine Fx.of rfl rfl ?_
 unfold F10m F10n F10q kO
 simp only [List.cons_append,List.nil_append,List.forall_mem_cons,List.not_mem_nil,false_implies,implies_true,and_true]
 exact ⟨rfl,rfl,rfl,rfl,rfl,rfl,rfl,rfl,rfl,rfl,rfl⟩
end Ev
end Go.Proofs.YtpbbmagjhkakgaaGreatDoor
