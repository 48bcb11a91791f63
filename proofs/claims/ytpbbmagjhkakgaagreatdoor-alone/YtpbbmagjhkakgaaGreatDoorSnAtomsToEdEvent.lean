import Derived.Test.YtpbbmagjhkakgaaGreatDoorEaTopToSnHelp
import Derived.Test.YtpbbmagjhkakgaaGreatDoorPureTabToTab
import Derived.Test.YtpbbmagjhkakgaaGreatDoorEvAdd2ToEaDel
import Derived.Test.YtpbbmagjhkakgaaGreatDoorEvTake2ToLfTape
import Derived.Test.YtpbbmagjhkakgaaGreatDoorLfRestAnyToWindow
namespace Go.Proofs.YtpbbmagjhkakgaaGreatDoor
namespace Ev
open Go.RowKit Go.Deep
def ni (i:Nat):ByteArray:=⟨#[(97+i).toUInt8]⟩
def bitN (n i:Nat):Bool:=(n/2 ^ i) % 2==1
def dC (n:Nat):Nat->List ByteArray
 | 0=>[]
 | i+1=>if bitN n i then dC n i++[ni i] else dC n i
def jQ (n:Nat):List ByteArray:=dC n 3
theorem qN (n:Nat):∀ i,(dC n i).length<=i
 | 0=>Nat.le_refl _
 | i+1=>by
  have:=qN n i
  unfold dC
  split
  ·simp;omega
  ·omega
theorem bit_at (n i:Nat) (hn:n<8) (hi:i<3):bits BinOp.and IntKind.i64 ((n:Int)/2 ^ i) 1=if bitN n i then 1 else 0:=by
 have h1:n=0\/n=1\/n=2\/n=3\/n=4\/n=5\/n=6\/n=7:=by omega
 have h2:i=0\/i=1\/i=2:=by omega
 rcases h1 with rfl | rfl | rfl | rfl | rfl | rfl | rfl | rfl<;>rcases h2 with rfl | rfl | rfl<;>decide
theorem ltr_at (i:Nat) (hi:i<3):(⟨#[97,98,99]⟩:ByteArray).extract i (i+1)=ni i:=by
 have h2:i=0\/i=1\/i=2:=by omega
 rcases h2 with rfl | rfl | rfl<;>decide
set_option maxRecDepth 100000 in
set_option maxHeartbeats 4000000 in
theorem atoms_any (c:Int) (w:World) (hc:mj c):Calls Tryz.prog 25 #[.int .i64 c] w fun e w'=>∃ v,e=.returned v/\w'.ownsRow w.heap.size 9 1 v (jQ (aP c 8).toNat).length (fH (jQ (aP c 8).toNat))/\Below w.heap.size w w':=by
 have hp:=jl c 8 w hc (by decide)
 have hr:=bB c 8 (by decide)
 obtain ⟨n,hn⟩:∃ n:Nat,aP c 8=n:=⟨(aP c 8).toNat,by omega⟩
 rw [hn] at hp hr ⊢
 have hn8:n<8:=by omega
 simp only [Int.toNat_natCast]
 obtain ⟨i0,hi,lr,iU,lu⟩:=info_parts infoStr
 clear hn hr
 go_enter Tryz.func25,Tryz.ntmps25
 go_wp2_with fail
 refine hp.mono ?_
 rintro e w1 ⟨rfl,rfl⟩
 clear hp
 go_wp2_with fail
 go_loopw [5,3] (fun iv v wr=>∃ i:Nat,iv=.int .i64 i/\i<=3/\wr.ownsRow w1.heap.size 9 1 v (dC n i).length (fH (dC n i))/\Below w1.heap.size w1 wr) (fun iv _ _=>3-(intOf iv).toNat)
 case atStart=>exact ⟨0,rfl,Nat.zero_le _,World.ownsRow_nil _ _ _ _,Below.refl _ _⟩
 case round =>
  obtain ⟨i,rfl,tP,cE,h_⟩:=hrel
  by_cases qo:i<3
  ·have hbit:=bit_at n i hn8 qo
   have hle:=qN n i
   have hws:=h_.size
   by_cases hbt:bitN n i=true
   ·rw [if_pos hbt] at hbit
    have hltr:=ltr_at i qo
    have kU:Hid (dC n (i+1)=dC n i++[ni i]):=by show _=_;rw [dC,if_pos hbt]
    clear hbt
    have hll:Hid ((fH (dC n i)).length=(dC n i).length):=strsV_len _
    generalize hA:dC n i=A at *
    generalize ni i=lt at *
    go_wp2_with (at_builtin;refine wpList_append_own _ rfl _ _ 31 rfl w1.heap.size 9 i0 _ 1 16 Tryz.underlying31 hi lr iU lu rfl (by decide) _ _ _ rfl (cE.alloc _) ⟨wr.heap.size,0,none⟩ 1 1 [.string lt] rfl rfl ?c1 ?c2 ?c3 ?c4 ?c5 ?_)
    case c1=>exact cell_one_new wr _ _
    case c2=>simp [Value.oneCell']
    case c3=>unfold maxLen;omega
    case c4=>omega
    case c5=>simp;omega
    intro v' w2 dm bz _
    have cB:Below w1.heap.size w1 w2:=(h_.al _).grown bz (Nat.le_trans h_.size (by simp)) (fun k e=>(cE.lt k e).1)
    go_wp2_with fail
    go_roundw
    case rel=>exact ⟨i+1,by go_num,by omega,by rw [kU.out];simpa [fH] using dm,cB⟩
    case measure=>simp only [intOf];omega
   ·rw [if_neg hbt] at hbit
    have kU:Hid (dC n (i+1)=dC n i):=by show _=_;rw [dC,if_neg hbt]
    clear hbt
    generalize dC n i=A at *
    go_wp2_with fail
    go_roundw
    case rel=>exact ⟨i+1,by go_num,by omega,by rw [kU.out];exact cE,h_⟩
    case measure=>simp only [intOf];omega
  ·obtain rfl:i=3:=by omega
   go_wp2_with fail
   go_ret
   exact ⟨_,rfl,cE,h_⟩
end Ev
namespace Ev
open Go.RowKit Go.Deep Go.Maps Lf
def aW (L:List (Int×Int)):Nat->Int
 | 0=>0
 | i+1=>aW L i+ob (L.getD i (0,0)).1
def jZ (L:List (Int×Int)) (i:Nat):List ByteArray:=jQ (aP (L.getD i (0,0)).2 8).toNat
def histZ (L:List (Int×Int)):Nat->List uj
 | 0=>[]
 | i+1=>(aW L (i+1),jZ L i)::histZ L i
def verZ (x:BT aO) (L:List (Int×Int)) (i:Nat):Bool:=cQ x (histZ L (i+1))
def nO (x:BT aO) (L:List (Int×Int)):Nat->List Value
 | 0=>[]
 | i+1=>nO x L i++bO ((i:Int)+1) (aW L (i+1)) 1 (verZ x L i)
theorem timeZ_step (L:List (Int×Int)) (i:Nat):aW L i+1<=aW L (i+1)/\aW L (i+1)<=aW L i+12:=by
 have:=pY (L.getD i (0,0)).1
 simp only [aW]
 omega
theorem nN (L:List (Int×Int)):∀ i:Nat,(i:Int)<=aW L i/\aW L i<=12*i
 | 0=>⟨by simp [aW],by simp [aW]⟩
 | i+1=>by have:=nN L i;have:=timeZ_step L i;omega
theorem versL_len (x:BT aO) (L:List (Int×Int)):∀ i,(nO x L i).length=i*4
 | 0=>rfl
 | i+1=>by simp [nO,versL_len x L i,bO];omega
theorem versL_one (x:BT aO) (L:List (Int×Int)):∀ i,∀ u∈nO x L i,u.oneCell'=true
 | 0,u,h=>by simp [nO] at h
 | i+1,u,h=>by
  rcases List.mem_append.1 h with h | h
  ·exact versL_one x L i u h
  ·simp [bO] at h
   rcases h with rfl | rfl | rfl | rfl<;>rfl
structure Run (L:List (Int×Int)) (K:List Key) (i:Nat) (E:List Pe) (dr:List uj):Prop where
 hist:E.reverse.map Pe.jD++dr=histZ L i
 ok:kA K dr E.reverse
theorem Run.start (L:List (Int×Int)) (K:List Key):Run L K 0 [] []:=⟨rfl,trivial⟩
theorem Run.next {L:List (Int×Int)} {K:List Key} {i:Nat} {E:List Pe} {dr:List uj} (h:Run L K i E dr) (n:Int):Run L K (i+1) (E++[b9 E.reverse K (⟨n,aW L (i+1),jZ L i,[]⟩:Pe).bare]) dr:=by
 obtain ⟨_,w2,w3,_⟩:=eZ E.reverse K (⟨n,aW L (i+1),jZ L i,[]⟩:Pe).bare
 refine ⟨?_,?_⟩
 ·rw [List.reverse_append]
  simp only [List.reverse_cons,List.reverse_nil,List.nil_append,List.map_cons,List.cons_append]
  rw [h.hist]
  simp only [Pe.jD,w2,w3,histZ]
  rfl
 ·rw [List.reverse_append]
  exact ug h.ok _
theorem Run.drop {L:List (Int×Int)} {K:List Key} {i:Nat} {E:List Pe} {dr:List uj} (h:Run L K i E dr) (k:Nat):Run L K i (E.drop k) ((E.take k).reverse.map Pe.jD++dr):=by
 have e:E.reverse=(E.drop k).reverse++(E.take k).reverse:=by rw [<- List.reverse_append,List.take_append_drop]
 refine ⟨?_,?_⟩
 ·rw [<- h.hist,e];simp
 ·have:=h.ok
  rw [e] at this
  exact this.keep
theorem Run.says {L:List (Int×Int)} {K:List Key} {i:Nat} {E:List Pe} {dr:List uj} (h:Run L K i E dr) (n:Int) {x:BT aO} {j:Int} (hg:Good x) (hn:nR K (ak x) j) (hd:∀ d∈dr,d.1<aW L (i+1)-ax (ak x)) :
  (b9 E.reverse K (⟨n,aW L (i+1),jZ L i,[]⟩:Pe).bare).at j=verZ x L i:=by
 obtain ⟨_,w2,w3,_⟩:=eZ E.reverse K (⟨n,aW L (i+1),jZ L i,[]⟩:Pe).bare
 have h1:=(ug h.ok (⟨n,aW L (i+1),jZ L i,[]⟩:Pe)).2.1 (ak x) j (cA hg) (mr hg) hn (by rw [w2];exact hd)
 rw [h1,vF hg,h.hist]
 simp only [verZ,histZ,Pe.jD,w2,w3]
 rfl
theorem name_ltr (i:Nat) (h:i<3):eR (ni i):=by
 have h2:i=0\/i=1\/i=2:=by omega
 rcases h2 with rfl | rfl | rfl<;>exact ⟨by decide,by decide,by decide +kernel,by decide +kernel,by decide +kernel⟩
theorem name_p:eR ⟨#[112]⟩:=⟨by decide,by decide,by decide +kernel,by decide +kernel,by decide +kernel⟩
theorem atoms_ltr (n:Nat):∀ i,i<=3->∀ s∈dC n i,∃ j,j<3/\s=ni j
 | 0,_,s,h=>by simp [dC] at h
 | i+1,hi,s,h=>by
  unfold dC at h
  split at h
  ·rcases List.mem_append.1 h with h | h
   ·exact atoms_ltr n i (by omega) s h
   ·simp at h;exact ⟨i,by omega,h⟩
  ·exact atoms_ltr n i (by omega) s h
theorem atoms_names (n:Nat):∀ j,j<(jQ n).length->eR ((jQ n).getD j ByteArray.empty):=fun j hj=>by
 have:(jQ n).getD j ByteArray.empty∈jQ n:=by rw [List.getD_eq_getElem?_getD,List.getElem?_eq_getElem hj];exact List.getElem_mem hj
 obtain ⟨i,hi,e⟩:=atoms_ltr n 3 (Nat.le_refl _) _ this
 rw [e];exact name_ltr i hi
theorem atoms_once:∀ n,n<8->∀ j,j<(jQ n).length->Lib.containsS ((jQ n).take j) ((jQ n).getD j ByteArray.empty)=false:=by decide +kernel
end Ev
namespace Ev
open Go.RowKit Go.Deep
set_option maxRecDepth 100000 in
set_option maxHeartbeats 8000000 in
theorem region5_drop (Q:Exit->Act->World->Prop) (hQ:∀ c a d v w,Q (.panic c) (Act.put a d v) w->Q (.panic c) a w) (aj nx:Nat) (ai:Int) (rm nvv:Value) (g:Nat) (az:Nat) (pv:Value) (C:List bx) (num time:Int) (eJ:Option Addr) (kQ fc:Nat) (W:World) (x2 x3 x4 x5 x6 x8 x9 kX lD lF lG lH lI lJ lK lM lN lO lQ lR lU lV lW lX nk nt nu nw u31 u32 ki jH jI jJ jK jL jM jN u41 u42 u43 u44 u45 u46 u47 u48 u49 u50 u51 u52 u53:Value)
  (hw:W.heap[aj]? = some (.cells #[.int .i64 ai,rm,nvv,.slice (some ⟨g,0,none⟩) C.length az,pv] 153 (0,0))) (hE:bY W (.slice (some ⟨g,0,none⟩) C.length az) C) (hn:C.length<=1000) (ht:0<=time/\time<=1000000000000) (hr:0<=ai/\ai<=1000000000) (k:Nat) (hold:nj (time-ai) C=k) (hk0:0<k) (hkn:k<=C.length)
  (nh:W.heap[nx]? = some (.cells #[.int .i64 num,.int .i64 time,.slice eJ kQ fc,.slice none 0 0] 159 (0,0))) (hnxe:(Value.slice (some ⟨g,0,none⟩) C.length az).ownBlock≠some nx)
  (hK:∀ (nT:Value) (W':World) (v41:Value),W'.heap[aj]? = some (.cells #[.int .i64 ai,rm,nvv,nT,pv] 153 (0,0))->bY W' nT (C.drop k++[(⟨num,time,eJ,kQ,fc,none,0,0⟩:bx)])->aY (fun b=>b=aj\/(Value.slice (some ⟨g,0,none⟩) C.length az).ownBlock=some b) W W'->(∀ b,nT.ownBlock=some b->(Value.slice (some ⟨g,0,none⟩) C.length az).ownBlock=some b\/W.heap.size<=b)->
   Q .normal ⟨#[(.pointer (some ⟨aj,0,none⟩)),(.int .i64 time),x2,x3,x4,x5,x6,(.pointer (some ⟨nx,0,none⟩)),x8,x9,kX,lD,lF,lG,lH,lI,lJ,lK,lM,lN,lO,lQ,lR,lU,lV,lW,lX,nk,nt,nu,nw,(.pointer (some ⟨aj,0,none⟩)),(.pointer (some ⟨aj,0,none⟩)),(.pointer (some ⟨aj,0,none⟩)),(.pointer (some ⟨aj,3,none⟩)),(.slice (some ⟨g,0,none⟩) C.length az),(.pointer (some ⟨aj,0,none⟩)),(.int .i64 time),(.int .i64 (k:Int)),(.slice (some ⟨g,0,none⟩) (C.length-k) az),(.agg #[.int .i64 num,.int .i64 time,.slice eJ kQ fc,.slice none 0 0]),v41,nT,(.pointer (some ⟨aj,0,none⟩)),(.pointer (some ⟨aj,3,none⟩)),u45,u46,u47,u48,u49,u50,u51,u52,u53],[]⟩ W') :
  (Code.region 5 opsT5 true).wp Tryz.prog Q ⟨#[(.pointer (some ⟨aj,0,none⟩)),(.int .i64 time),x2,x3,x4,x5,x6,(.pointer (some ⟨nx,0,none⟩)),x8,x9,kX,lD,lF,lG,lH,lI,lJ,lK,lM,lN,lO,lQ,lR,lU,lV,lW,lX,nk,nt,nu,nw,u31,u32,ki,jH,jI,jJ,jK,jL,jM,jN,u41,u42,u43,u44,u45,u46,u47,u48,u49,u50,u51,u52,u53],[]⟩ W:=by
 have cz:=aw hw
 have hnl:=aw nh
 obtain ⟨i0,hi,lr,iU,lu⟩:=info_parts oM
 have HO:Hid (∀ w',Below W.heap.size W w'->Calls Tryz.prog 131 #[.pointer (some ⟨aj,0,none⟩),.int .i64 time] w' fun e w''=>e=.returned (.int .i64 (k:Int))/\Below w'.heap.size w' w''):=fun w' hb=>by
  have:=old_any aj ai rm nvv (.slice (some ⟨g,0,none⟩) C.length az) pv C time w' (hb.aE hw) (hE.below hb) (by omega) ht hr
  rw [hold] at this
  exact this
 have kj:Hid (∀ w',Below W.heap.size W w'->(fun w'=>w'.cell? ⟨aj,3,none⟩=some (.slice (some ⟨g,0,none⟩) C.length az)/\w'.cell? ⟨nx,0,none⟩=some (.int .i64 num)/\w'.cell? ⟨nx,1,none⟩=some (.int .i64 time)/\w'.cell? ⟨nx,2,none⟩=some (.slice eJ kQ fc)/\w'.cell? ⟨nx,3,none⟩=some (.slice none 0 0)) w'):=fun w' hb=>⟨ae (hb.aE hw) rfl,ae (hb.aE nh) rfl,ae (hb.aE nh) rfl,ae (hb.aE nh) rfl,ae (hb.aE nh) rfl⟩
 have HstH:Hid (∀ w':World,w'.heap[aj]? = some (.cells #[.int .i64 ai,rm,nvv,.slice (some ⟨g,0,none⟩) C.length az,pv] 153 (0,0))->w'.heap[nx]? = some (.cells #[.int .i64 num,.int .i64 time,.slice eJ kQ fc,.slice none 0 0] 159 (0,0))->(fun w'=>w'.cell? ⟨aj,3,none⟩=some (.slice (some ⟨g,0,none⟩) C.length az)/\w'.cell? ⟨nx,0,none⟩=some (.int .i64 num)/\w'.cell? ⟨nx,1,none⟩=some (.int .i64 time)/\w'.cell? ⟨nx,2,none⟩=some (.slice eJ kQ fc)/\w'.cell? ⟨nx,3,none⟩=some (.slice none 0 0)) w'):=fun w' h1 h2=>⟨ae h1 rfl,ae h2 rfl,ae h2 rfl,ae h2 rfl,ae h2 rfl⟩
 have hgl:g<W.heap.size:=(hE.lt g rfl).2
 have hwg:aj≠g:=by
  intro e
  obtain ⟨cs,h1⟩:=dG hE (g:=g) rfl
  rw [<- e,hw] at h1
  cases h1
 have hng:nx≠g:=fun e=>hnxe (by rw [e];rfl)
 have after:∀ (w1 wd:World),Below W.heap.size W w1->Only g w1 wd->wd.heap[aj]? = some (.cells #[.int .i64 ai,rm,nvv,.slice (some ⟨g,0,none⟩) C.length az,pv] 153 (0,0))/\wd.heap[nx]? = some (.cells #[.int .i64 num,.int .i64 time,.slice eJ kQ fc,.slice none 0 0] 159 (0,0))/\aY (fun b=>b=aj\/(Value.slice (some ⟨g,0,none⟩) C.length az).ownBlock=some b) W wd:=fun w1 wd hb ho =>
  ⟨(ho.block aj (aw (hb.aE hw)) hwg).trans (hb.aE hw),(ho.block nx (aw (hb.aE nh)) hng).trans (hb.aE nh),(aY.aL hb).trans (aY.kg ho (fun x hx=>.inr (by rw [hx];rfl)))⟩
 replace after:Hid _:=after
 have hZ:=kj.out _ (Below.refl _ W).drew
 have vP:∀ (V:World) (sl:Nat),V.heap[aj]? = some (.cells #[.int .i64 ai,rm,nvv,.slice (some ⟨g,0,none⟩) C.length az,pv] 153 (0,0))->V.heap[nx]? = some (.cells #[.int .i64 num,.int .i64 time,.slice eJ kQ fc,.slice none 0 0] 159 (0,0))->bY V (.slice (some ⟨g,0,none⟩) (C.length-k) az) (C.drop k)->aY (fun b=>b=aj\/(Value.slice (some ⟨g,0,none⟩) C.length az).ownBlock=some b) W V->(∀ j u,(bf (⟨num,time,eJ,kQ,fc,none,0,0⟩:bx))[j]? = some u->V.cell? ((⟨sl,0,none⟩:Addr).add j)=some u)->
   bh Tryz.prog .any opsT5 Q (fun w'=>w'.cell? ⟨aj,3,none⟩=some (.slice (some ⟨g,0,none⟩) C.length az)/\w'.cell? ⟨nx,0,none⟩=some (.int .i64 num)/\w'.cell? ⟨nx,1,none⟩=some (.int .i64 time)/\w'.cell? ⟨nx,2,none⟩=some (.slice eJ kQ fc)/\w'.cell? ⟨nx,3,none⟩=some (.slice none 0 0)) 14 4 #[true,true,true,true,true,true,true,true,true,true,true,false,false,false,false] ⟨#[(.pointer (some ⟨aj,0,none⟩)),(.int .i64 time),x2,x3,x4,x5,x6,(.pointer (some ⟨nx,0,none⟩)),x8,x9,kX,lD,lF,lG,lH,lI,lJ,lK,lM,lN,lO,lQ,lR,lU,lV,lW,lX,nk,nt,nu,nw,(.pointer (some ⟨aj,0,none⟩)),(.pointer (some ⟨aj,0,none⟩)),(.pointer (some ⟨aj,0,none⟩)),(.pointer (some ⟨aj,3,none⟩)),(.slice (some ⟨g,0,none⟩) C.length az),(.pointer (some ⟨aj,0,none⟩)),(.int .i64 time),(.int .i64 (k:Int)),(.slice (some ⟨g,0,none⟩) (C.length-k) az),(.agg #[.int .i64 num,.int .i64 time,.slice eJ kQ fc,.slice none 0 0]),(.slice (some ⟨sl,0,none⟩) 1 1),u42,u43,u44,u45,u46,u47,u48,u49,u50,u51,u52,u53],[]⟩ V:=by
  intro V sl hwV hnV hEV hspV hcell
  have hEV':V.ownsRow 0 159 4 (.slice (some ⟨g,0,none⟩) (C.length-k) az) (C.length-k) (dk (C.drop k)):=by
   have:=hEV
   unfold bY at this
   rw [List.length_drop] at this
   exact this
  simp only [opsT5,tA,Tryz.f87,Option.getD_some]
  refine bh.one (i:=11) (by decide +kernel) rfl (by rfl) (wp_append_own (.tmp 39) (.tmp 41) 146 rfl 0 159 i0 _ 4 64 Tryz.underlying146 hi lr iU lu rfl (by decide) (.slice (some ⟨g,0,none⟩) (C.length-k) az) (C.length-k) (dk (C.drop k)) rfl hEV' ⟨sl,0,none⟩ 1 1 (bf (⟨num,time,eJ,kQ,fc,none,0,0⟩:bx)) rfl rfl hcell (evOne _) (by unfold maxLen;omega) (by omega) (Nat.zero_le _) ?_)
  intro v' w2 dm bz hor
  obtain ⟨g2,c2,rfl⟩:=ownsRow_succ dm
  have hneV:∀ b,(Value.slice (some ⟨g,0,none⟩) C.length az).ownBlock=some b->∃ cs,V.heap[b]? = some (.cells cs 159 (0,0)):=fun b hb=>dG hEV hb
  have hwt2:w2.heap[aj]? = some (.cells #[.int .i64 ai,rm,nvv,.slice (some ⟨g,0,none⟩) C.length az,pv] 153 (0,0)):=by
   rw [bz.block aj (aw hwV) (fun e=>by obtain ⟨cs,h1⟩:=hneV aj e.symm;rw [hwV] at h1;cases h1)];exact hwV
  have r_:w2.cell? ⟨aj,3,none⟩=some (.slice (some ⟨g,0,none⟩) C.length az):=ae hwt2 rfl
  have hf3:w2.frozen? ⟨aj,3,none⟩=false:=Lib.frozen_of_heap hwt2 _
  have hnx2:w2.heap[nx]? = some (.cells #[.int .i64 num,.int .i64 time,.slice eJ kQ fc,.slice none 0 0] 159 (0,0)):=by
   rw [bz.block nx (aw hnV) (fun e=>hnxe e.symm)];exact hnV
  have hS2:(fun w'=>w'.cell? ⟨aj,3,none⟩=some (.slice (some ⟨g,0,none⟩) C.length az)/\w'.cell? ⟨nx,0,none⟩=some (.int .i64 num)/\w'.cell? ⟨nx,1,none⟩=some (.int .i64 time)/\w'.cell? ⟨nx,2,none⟩=some (.slice eJ kQ fc)/\w'.cell? ⟨nx,3,none⟩=some (.slice none 0 0)) w2:=⟨r_,ae hnx2 rfl,ae hnx2 rfl,ae hnx2 rfl,ae hnx2 rfl⟩
  refine ⟨fun _=>hS2,?_⟩
  try walk_nrm
  refine bh.op (i:=12) (by decide +kernel) rfl (by rfl) (fun K' hK'=>?_)
  unfold Oper.wp
  go_simp
  refine hK' _ _ ⟨fun _=>hS2,?_⟩
  clear hK' K'
  try walk_nrm
  refine bh.op (i:=13) (by decide +kernel) rfl (by rfl) (fun K' hK'=>?_)
  unfold Oper.wp
  go_simp
  refine hK' _ _ ⟨fun _=>hS2,?_⟩
  clear hK' K'
  try walk_nrm
  refine bh.op (i:=14) (by decide +kernel) rfl (by rfl) (fun K' hK'=>?_)
  unfold Oper.wp
  go_simp
  refine hK' _ _ ⟨fun x=>absurd rfl x,?_⟩
  clear hK' K'
  refine bh.done (by decide +kernel) ?_ _
  try walk_nrm
  have hg2:g2≠aj:=by
   rintro rfl
   obtain ⟨_,⟨h2,_⟩ | ⟨g',mq,cur,e1,_,e2,_⟩⟩:=dm
   ·cases h2
   ·cases e1;rw [hwt2] at e2;cases e2
  refine hK (.slice (some ⟨g2,0,none⟩) (C.length-k+1) c2) _ _ (b7 (i:=3) hwt2) ?_ ?_ ?_
  ·show World.ownsRow _ 0 159 4 _ _ _
   have el:(C.drop k++[(⟨num,time,eJ,kQ,fc,none,0,0⟩:bx)]).length=C.length-k+1:=by simp
   rw [el,mL]
   exact dw dm fun b hbb=>Below.heap_setCell _ _ _ _ (by cases hbb;exact hg2)
  ·have s1:aY (fun b=>b=aj\/(Value.slice (some ⟨g,0,none⟩) C.length az).ownBlock=some b) W w2:=hspV.trans (aY.of_grown bz (fun x hx=>.inr hx))
   exact s1.trans (aY.kg ((Only.refl aj w2).setCell (p:=⟨aj,3,none⟩) (.inl rfl) _) (fun x hx=>.inl hx))
  ·intro b hb
   rcases hor with e | e
   ·exact .inl (e▸hb)
   ·rw [e] at hb;cases hb;exact .inr hspV.size
 simp only [opsT5,tA,Tryz.f87,Option.getD_some] at vP ⊢
 refine bh.begin (S:=(fun w'=>w'.cell? ⟨aj,3,none⟩=some (.slice (some ⟨g,0,none⟩) C.length az)/\w'.cell? ⟨nx,0,none⟩=some (.int .i64 num)/\w'.cell? ⟨nx,1,none⟩=some (.int .i64 time)/\w'.cell? ⟨nx,2,none⟩=some (.slice eJ kQ fc)/\w'.cell? ⟨nx,3,none⟩=some (.slice none 0 0))) (fin:=14) (by kernel_rfl) ?_
 simp only [List.size_toArray,List.length_cons,List.length_nil,Nat.reduceAdd,Nat.zero_add]
 refine bh.take 0 (v:=?vq0) rfl (by decide +kernel) (by decide +kernel) (by decide +kernel) (by decide +kernel) (fun c a w h=>hQ c a _ _ w h) (by rfl) (fun w' hS=>Go.Conc.run_eq_of ?rq0) hZ ?_
 case rq0 =>
  intro K' hK'
  obtain ⟨y1,y2,y3,y4,y5⟩:=hS
  go_simp
  exact hK'
 try walk_nrm
 refine bh.take 1 (v:=?vq1) rfl (by decide +kernel) (by decide +kernel) (by decide +kernel) (by decide +kernel) (fun c a w h=>hQ c a _ _ w h) (by rfl) (fun w' hS=>Go.Conc.run_eq_of ?rq1) hZ ?_
 case rq1 =>
  intro K' hK'
  obtain ⟨y1,y2,y3,y4,y5⟩:=hS
  go_simp
  exact hK'
 try walk_nrm
 refine bh.take 2 (v:=?vq2) rfl (by decide +kernel) (by decide +kernel) (by decide +kernel) (by decide +kernel) (fun c a w h=>hQ c a _ _ w h) (by rfl) (fun w' hS=>Go.Conc.run_eq_of ?rq2) hZ ?_
 case rq2 =>
  intro K' hK'
  obtain ⟨y1,y2,y3,y4,y5⟩:=hS
  go_simp
  exact hK'
 try walk_nrm
 refine bh.take 3 (v:=?vq3) rfl (by decide +kernel) (by decide +kernel) (by decide +kernel) (by decide +kernel) (fun c a w h=>hQ c a _ _ w h) (by rfl) (fun w' hS=>Go.Conc.run_eq_of ?rq3) hZ ?_
 case rq3 =>
  intro K' hK'
  obtain ⟨y1,y2,y3,y4,y5⟩:=hS
  go_simp
  exact hK'
 try walk_nrm
 refine bh.take 4 (v:=?vq4) rfl (by decide +kernel) (by decide +kernel) (by decide +kernel) (by decide +kernel) (fun c a w h=>hQ c a _ _ w h) (by rfl) (fun w' hS=>Go.Conc.run_eq_of ?rq4) hZ ?_
 case rq4 =>
  intro K' hK'
  obtain ⟨y1,y2,y3,y4,y5⟩:=hS
  go_simp
  exact hK'
 try walk_nrm
 refine bh.take 5 (v:=?vq5) rfl (by decide +kernel) (by decide +kernel) (by decide +kernel) (by decide +kernel) (fun c a w h=>hQ c a _ _ w h) (by rfl) (fun w' hS=>Go.Conc.run_eq_of ?rq5) hZ ?_
 case rq5 =>
  intro K' hK'
  obtain ⟨y1,y2,y3,y4,y5⟩:=hS
  go_simp
  exact hK'
 try walk_nrm
 refine bh.take 6 (v:=?vq6) rfl (by decide +kernel) (by decide +kernel) (by decide +kernel) (by decide +kernel) (fun c a w h=>hQ c a _ _ w h) (by rfl) (fun w' hS=>Go.Conc.run_eq_of ?rq6) hZ ?_
 case rq6 =>
  intro K' hK'
  obtain ⟨y1,y2,y3,y4,y5⟩:=hS
  go_simp
  exact hK'
 try walk_nrm
 refine bh.take 9 (v:=?vq9) rfl (by decide +kernel) (by decide +kernel) (by decide +kernel) (by decide +kernel) (fun c a w h=>hQ c a _ _ w h) (by rfl) (fun w' hS=>Go.Conc.run_eq_of ?rq9) hZ ?_
 case rq9 =>
  intro K' hK'
  obtain ⟨y1,y2,y3,y4,y5⟩:=hS
  go_simp
  exact hK'
 try walk_nrm
 refine bh.two (i:=7) (j:=10) (by decide +kernel) rfl (by rfl) rfl (by rfl) (fun K' hK'=>?_) (fun K' hK'=>?_)
 ·unfold Oper.wp
  rw [Go.Conc.run_call_body (f:=131) (args:=#[.tmp 36,.tmp 37]) (ats:=#[232,3]) rfl Tryz.func131 (by decide) rfl]
  simp only [Oper.upon,List.map_toArray,List.map_cons,List.map_nil]
  change Calls Tryz.prog 131 #[.pointer (some ⟨aj,0,none⟩),.int .i64 time] W.drew _
  refine (HO.out W.drew (Below.refl W.heap.size W).drew).mono ?_
  rintro e w1 ⟨rfl,a_⟩
  replace a_:Below W.heap.size W w1:=((Below.refl W.heap.size W).drew).trans (a_.mono ((Below.refl W.heap.size W).drew).size)
  refine hK' _ _ ⟨fun _=>kj.out _ a_,?_⟩
  clear hK' K'
  try walk_nrm
  refine bh.two (i:=8) (j:=10) (by decide +kernel) rfl (by rfl) rfl (by rfl) (fun K' hK'=>?_) (fun K' hK'=>?_)
  ·unfold Oper.wp
   rw [Go.Conc.run_call_body (f:=130) (args:=#[.tmp 35,.const (.int .i64 0),.tmp 38]) (ats:=#[146,3,3]) rfl Tryz.func130 (by decide) rfl]
   simp only [Oper.upon,List.map_toArray,List.map_cons,List.map_nil]
   change Calls Tryz.prog 130 #[.slice (some ⟨g,0,none⟩) C.length az,.int .i64 0,.int .i64 (k:Int)] w1 _
   refine (tC g az k C w1 (hE.below a_) hk0 hkn hn).mono ?_
   rintro e wd ⟨rfl,hEd,hOd⟩
   obtain ⟨hd1,hd2,hd3⟩:=after.out w1 wd a_ hOd
   refine hK' _ _ ⟨fun _=>HstH.out _ hd1 hd2,?_⟩
   clear hK' K'
   try walk_nrm
   refine bh.op (i:=10) (by decide +kernel) rfl (by rfl) (fun K' hK'=>?_)
   unfold Oper.wp
   go_simp
   have hba:=fun o=>(Below.refl wd.heap.size wd).al o
   refine hK' _ _ ⟨fun _=>HstH.out _ ((hba _).aE hd1) ((hba _).aE hd2),?_⟩
   clear hK' K'
   try walk_nrm
   exact vP _ wd.heap.size ((hba _).aE hd1) ((hba _).aE hd2) (hEd.below (hba _)) (hd3.trans (aY.aL (hba _))) (ei wd (⟨num,time,eJ,kQ,fc,none,0,0⟩:bx) 159)
  ·unfold Oper.wp
   go_simp
   refine hK' _ _ ⟨fun _=>kj.out _ ((a_).al _),?_⟩
   clear hK' K'
   try walk_nrm
   refine bh.op (i:=8) (by decide +kernel) rfl (by rfl) (fun K' hK'=>?_)
   unfold Oper.wp
   rw [Go.Conc.run_call_body (f:=130) (args:=#[.tmp 35,.const (.int .i64 0),.tmp 38]) (ats:=#[146,3,3]) rfl Tryz.func130 (by decide) rfl]
   simp only [Oper.upon,List.map_toArray,List.map_cons,List.map_nil]
   change Calls Tryz.prog 130 #[.slice (some ⟨g,0,none⟩) C.length az,.int .i64 0,.int .i64 (k:Int)] (w1.alloc (.cells #[.int .i64 num,.int .i64 time,.slice eJ kQ fc,.slice none 0 0] 159)) _
   refine (tC g az k C (w1.alloc (.cells #[.int .i64 num,.int .i64 time,.slice eJ kQ fc,.slice none 0 0] 159)) (hE.below (a_.al _)) hk0 hkn hn).mono ?_
   rintro e wd ⟨rfl,hEd,hOd⟩
   obtain ⟨hd1,hd2,hd3⟩:=after.out (w1.alloc (.cells #[.int .i64 num,.int .i64 time,.slice eJ kQ fc,.slice none 0 0] 159)) wd (a_.al _) hOd
   refine hK' _ _ ⟨fun _=>HstH.out _ hd1 hd2,?_⟩
   clear hK' K'
   try walk_nrm
   refine vP _ w1.heap.size hd1 hd2 hEd hd3 (fun j u hj=>?_)
   have h1:=ei w1 (⟨num,time,eJ,kQ,fc,none,0,0⟩:bx) 159 j u hj
   have kS:=a_.size
   have e1:(⟨w1.heap.size,0,none⟩:Addr).add j=⟨w1.heap.size,j,none⟩:=by simp [Addr.add];omega
   rw [e1] at h1 ⊢
   rw [<- h1]
   exact World.cell?_of_block (hOd.block w1.heap.size (by simp) (by have:=hgl;omega))
 ·unfold Oper.wp
  go_simp
  refine hK' _ _ ⟨fun _=>kj.out _ (((Below.refl W.heap.size W).drew).al _),?_⟩
  clear hK' K'
  try walk_nrm
  refine bh.op (i:=7) (by decide +kernel) rfl (by rfl) (fun K' hK'=>?_)
  have hbA:Below W.heap.size W (W.drew.alloc (.cells #[.int .i64 num,.int .i64 time,.slice eJ kQ fc,.slice none 0 0] 159)):=((Below.refl _ W).drew.al _)
  unfold Oper.wp
  rw [Go.Conc.run_call_body (f:=131) (args:=#[.tmp 36,.tmp 37]) (ats:=#[232,3]) rfl Tryz.func131 (by decide) rfl]
  simp only [Oper.upon,List.map_toArray,List.map_cons,List.map_nil]
  change Calls Tryz.prog 131 #[.pointer (some ⟨aj,0,none⟩),.int .i64 time] (W.drew.alloc (.cells #[.int .i64 num,.int .i64 time,.slice eJ kQ fc,.slice none 0 0] 159)) _
  refine (HO.out (W.drew.alloc (.cells #[.int .i64 num,.int .i64 time,.slice eJ kQ fc,.slice none 0 0] 159)) hbA).mono ?_
  rintro e w1 ⟨rfl,a_⟩
  have hbB:=a_
  replace a_:Below W.heap.size W w1:=(hbA).trans (a_.mono (hbA).size)
  refine hK' _ _ ⟨fun _=>kj.out _ a_,?_⟩
  clear hK' K'
  try walk_nrm
  refine bh.op (i:=8) (by decide +kernel) rfl (by rfl) (fun K' hK'=>?_)
  unfold Oper.wp
  rw [Go.Conc.run_call_body (f:=130) (args:=#[.tmp 35,.const (.int .i64 0),.tmp 38]) (ats:=#[146,3,3]) rfl Tryz.func130 (by decide) rfl]
  simp only [Oper.upon,List.map_toArray,List.map_cons,List.map_nil]
  change Calls Tryz.prog 130 #[.slice (some ⟨g,0,none⟩) C.length az,.int .i64 0,.int .i64 (k:Int)] w1 _
  refine (tC g az k C w1 (hE.below a_) hk0 hkn hn).mono ?_
  rintro e wd ⟨rfl,hEd,hOd⟩
  obtain ⟨hd1,hd2,hd3⟩:=after.out w1 wd a_ hOd
  refine hK' _ _ ⟨fun _=>HstH.out _ hd1 hd2,?_⟩
  clear hK' K'
  try walk_nrm
  have hsl:W.heap.size<(W.drew.alloc (.cells #[.int .i64 num,.int .i64 time,.slice eJ kQ fc,.slice none 0 0] 159)).heap.size:=aw (aB W.drew (.cells #[.int .i64 num,.int .i64 time,.slice eJ kQ fc,.slice none 0 0] 159) W.heap.size rfl)
  refine vP _ W.heap.size hd1 hd2 hEd hd3 (fun j u hj=>?_)
  have h1:=ei W.drew (⟨num,time,eJ,kQ,fc,none,0,0⟩:bx) 159 j u hj
  have e1:(⟨W.heap.size,0,none⟩:Addr).add j=⟨W.heap.size,j,none⟩:=by simp [Addr.add];omega
  have e2:(⟨W.drew.heap.size,0,none⟩:Addr).add j=⟨W.heap.size,j,none⟩:=e1
  rw [e2] at h1
  have hlt1:W.heap.size<w1.heap.size:=Nat.lt_of_lt_of_le hsl hbB.size
  rw [e1,World.cell?_of_block (hOd.block W.heap.size hlt1 (by have:=hgl;omega)),hbB.cell (p:=⟨W.heap.size,j,none⟩) hsl]
  exact h1
def TakeD (aj:Nat) (ai:Int) (rm:Value) (no:Option Addr) (aI:Nat) (K:List Key) (ea:Option Addr) (az:Nat) (pv:Value) (C D:List bx) (F:List Pe) (time:Int) (A:List ByteArray) (w:World) (e:Ending) (W':World):Prop :=
 ∃ (c:bx) (nT:Value) (sb:Nat) (cur:Array Value),e=.returned (gv c)/\c.so=some ⟨sb,0,none⟩/\w.heap.size<=sb/\W'.heap[sb]? = some (.cells cur 4 (0,0))/\W'.heap[aj]? = some (.cells #[.int .i64 ai,rm,.slice no K.length aI,nT,pv] 153 (0,0))/\bY W' nT (D++[c])/\
  cZ W' c (b9 F.reverse K (⟨eQ C,time,A,[]⟩:Pe).bare)/\EvT W' c/\aY (fun b=>b=aj\/(Value.slice ea C.length az).ownBlock=some b) w W'/\(∀ b,nT.ownBlock=some b->(Value.slice ea C.length az).ownBlock=some b\/w.heap.size<=b)
set_option maxRecDepth 100000 in
set_option maxHeartbeats 8000000 in
theorem take_drop (aj:Nat) (ai:Int) (rm:Value) (no:Option Addr) (aI:Nat) (K:List Key) (ea:Option Addr) (az:Nat) (pv:Value) (C:List bx) (E:List Pe) (time:Int) (ao:Option Addr) (A:List ByteArray) (cap:Nat) (w:World)
  (hw:w.heap[aj]? = some (.cells #[.int .i64 ai,rm,.slice no K.length aI,.slice ea C.length az,pv] 153 (0,0))) (hE:bY w (.slice ea C.length az) C) (hlen:C.length=E.length) (hIn:∀ (i:Nat) c e,C[i]? = some c->E[i]? = some e->cZ w c e) (hT:∀ c∈C,EvT w c) (hn:C.length<=1000) (ht:0<=time/\time<=1000000000000) (hr:0<=ai/\ai<=1000000000) (k:Nat) (hold:nj (time-ai) C=k) (hk0:0<k) (hkn:k<=C.length)
  (lq:∀ c,C.getLast? = some c->0<=c.number/\c.number<=1000000000000) (h:eI w ao A) (hA:A.length<=1000) (cW:A.length<=cap) (hs:∀ j,j<A.length->(A.getD j ByteArray.empty).size<=1000)
  (hK:K.length<=1000) (hnc:K.length<=aI) (hN:eB w no K) (hNt:∀ a,no=some a->∃ cs m,w.heap[a.block]? = some (.cells cs 226 m)) (aN:∀ k∈K,ib k.op) (hAh:qg K) (bT:∀ e∈E,e.so.length=K.length+1) :
  Calls Tryz.prog 87 #[.pointer (some ⟨aj,0,none⟩),.int .i64 time,.slice ao A.length cap] w (TakeD aj ai rm no aI K ea az pv C (C.drop k) (E.drop k) time A w):=by
 have hInD:∀ (i:Nat) c e,(C.drop k)[i]? = some c->(E.drop k)[i]? = some e->cZ w c e:=fun i c e h1 h2=>hIn (k+i) c e (by rw [<- List.getElem?_drop];exact h1) (by rw [<- List.getElem?_drop];exact h2)
 have hTD:∀ c∈C.drop k,EvT w c:=fun c hc=>hT c (List.mem_of_mem_drop hc)
 have hlenD:(C.drop k).length=(E.drop k).length:=by rw [List.length_drop,List.length_drop,hlen]
 have hrowD:∀ e∈E.drop k,e.so.length=K.length+1:=fun e he=>bT e (List.mem_of_mem_drop he)
 have hnD:(C.drop k).length<=1000:=by rw [List.length_drop];omega
 have hE0:=hE
 clear hIn hT hlen bT
 obtain ⟨D,hD⟩:∃ D,D=C.drop k:=⟨_,rfl⟩
 obtain ⟨F,hF⟩:∃ F,F=E.drop k:=⟨_,rfl⟩
 have hDl:D.length=C.length-k:=by rw [hD,List.length_drop]
 rw [<- hD] at hInD hTD hlenD hnD ⊢
 rw [<- hF] at hInD hlenD hrowD ⊢
 have cz:=aw hw
 have Hlen:Hid (D.length=F.length):=hlenD
 clear hlenD
 have HDl:Hid (D.length=C.length-k):=hDl
 clear hDl
 have r_:w.cell? ⟨aj,3,none⟩=some (.slice ea C.length az):=ae hw rfl
 have hecap:C.length<=az:=by
  rcases hE.cases with ⟨h1,rfl⟩ | ⟨g,cp,js,h1,_,_⟩
  ·simp
  ·cases js;exact h1
 have hCo:=copyOf_any ao A cap (w.alloc (.cells #[.int .i64 0,.int .i64 0,.slice none 0 0,.slice none 0 0] 159)) (h.below ((Below.refl _ _).al _)) hA cW hs
 go_enter Tryz.func87,Tryz.ntmps87
 go_wp2_with fail
 refine hCo.mono ?_
 rintro e w1 ⟨v1,rfl,jF,a_⟩
 obtain ⟨eJ,fc,rfl,hac2,hst2,hao2⟩:=rQ jF
 have lh:Below w.heap.size w w1:=((Below.refl _ _).al _).tr a_
 have mP:w1.heap[w.heap.size]? = some (.cells #[.int .i64 0,.int .i64 0,.slice none 0 0,.slice none 0 0] 159 (0,0)):=a_.aE (aB _ _ _ rfl)
 have hlt1:aj<w1.heap.size:=Nat.lt_of_lt_of_le cz lh.size
 have hbN:Below w.heap.size w (w1.alloc (.cells #[.int .i64 1,.int .i64 time,.slice eJ A.length fc,.slice none 0 0] 159)):=lh.al _
 have y3:(w1.alloc (.cells #[.int .i64 1,.int .i64 time,.slice eJ A.length fc,.slice none 0 0] 159)).cell? ⟨aj,3,none⟩=some (.slice ea C.length az):=(hbN.cell (p:=⟨aj,3,none⟩) cz).trans r_
 have ia:∀ b,(Value.slice ea C.length az).ownBlock=some b->b<w.heap.size:=fun b hb=>(hE.lt b hb).2
 have oG:∀ b cs t m,w.heap[b]? = some (.cells cs t m)->t≠153->t≠159->¬ (b=aj\/(Value.slice ea C.length az).ownBlock=some b):=fun b cs t m hb h1 h2 hp=>by
  rcases hp with rfl | hp
  ·rw [hw] at hb;injection hb with hb;injection hb with _ hb _;exact h1 hb.symm
  ·obtain ⟨cur,hc⟩:=dG hE hp
   rw [hc] at hb;injection hb with hb;injection hb with _ hb _;exact h2 hb.symm
 have hrowN:∀ a,eJ=some a->w.heap.size+1<=a.block/\∃ cs,w1.heap[a.block]? = some (.cells cs 9 (0,0)):=fun a ha=>by have:=hao2 a ha;simpa using this
 have fin:∀ (num:Int),num=eQ C->∀ (nT:Value) (W':World),W'.heap[aj]? = some (.cells #[.int .i64 ai,rm,.slice no K.length aI,nT,pv] 153 (0,0))->bY W' nT (D++[(⟨num,time,eJ,A.length,fc,none,0,0⟩:bx)])->aY (fun b=>b=aj\/(Value.slice ea C.length az).ownBlock=some b) (w1.alloc (.cells #[.int .i64 num,.int .i64 time,.slice eJ A.length fc,.slice none 0 0] 159)) W'->(∀ b,nT.ownBlock=some b->(Value.slice ea C.length az).ownBlock=some b\/(w1.alloc (.cells #[.int .i64 num,.int .i64 time,.slice eJ A.length fc,.slice none 0 0] 159)).heap.size<=b)->
   ∃ g iw,nT=.slice (some ⟨g,0,none⟩) (D.length+1) iw/\(∀ (i:Nat) c e,D[i]? = some c->F[i]? = some e->cZ W' c e)/\(∀ c∈D,EvT W' c)/\qh W' (⟨num,time,eJ,A.length,fc,none,0,0⟩:bx) (⟨eQ C,time,A,[]⟩:Pe)/\(∀ a,eJ=some a->∃ cs m,W'.heap[a.block]? = some (.cells cs 9 m))/\eB W' no K/\(∀ a,no=some a->∃ cs m,W'.heap[a.block]? = some (.cells cs 226 m))/\W'.heap[w.heap.size]? = some (.cells #[.int .i64 0,.int .i64 0,.slice none 0 0,.slice none 0 0] 159 (0,0))/\w.heap.size≠g/\
   ∀ (sb sc:Nat) (cur:Array Value) (W'':World),W'.heap.size<=sb->W''.heap[sb]? = some (.cells cur 4 (0,0))->aY (fun b=>b=g\/b=w.heap.size) W' W''->bY W'' (.slice (some ⟨g,0,none⟩) (D.length+1) iw) (D++[(⟨num,time,eJ,A.length,fc,none,0,0⟩:bx).cC sb (K.length+1) sc])->cZ W'' ((⟨num,time,eJ,A.length,fc,none,0,0⟩:bx).cC sb (K.length+1) sc) (b9 F.reverse K (⟨eQ C,time,A,[]⟩:Pe).bare)->
    TakeD aj ai rm no aI K ea az pv C D F time A w (.returned (gv ((⟨num,time,eJ,A.length,fc,none,0,0⟩:bx).cC sb (K.length+1) sc))) W'':=by
  intro num hnumE nT W' f1 f2 f3 f4
  have hbW:Below w.heap.size w (w1.alloc (.cells #[.int .i64 num,.int .i64 time,.slice eJ A.length fc,.slice none 0 0] 159)):=lh.al _
  have hWs:(w1.alloc (.cells #[.int .i64 num,.int .i64 time,.slice eJ A.length fc,.slice none 0 0] 159)).heap.size=w1.heap.size+1:=by simp
  have o_:∀ b o,w1.heap[b]? = some o->(w1.alloc (.cells #[.int .i64 num,.int .i64 time,.slice eJ A.length fc,.slice none 0 0] 159)).heap[b]? = some o:=fun b o hb=>(Below.heap_alloc _ _ _ (aw hb)).trans hb
  generalize (w1.alloc (.cells #[.int .i64 num,.int .i64 time,.slice eJ A.length fc,.slice none 0 0] 159))=W at *
  have hws:=lh.size
  have hrl:=aw mP
  have sp:aY (fun b=>b=aj\/(Value.slice ea C.length az).ownBlock=some b) w W':=(aY.aL hbW).trans f3
  have el:(D++[(⟨num,time,eJ,A.length,fc,none,0,0⟩:bx)]).length=D.length+1:=by simp
  obtain ⟨g,iw,rfl⟩:∃ g iw,nT=.slice (some ⟨g,0,none⟩) (D.length+1) iw:=by
   rcases f2.cases with ⟨_,h2⟩ | ⟨g,cp,js,_⟩
   ·simp at h2
   ·rw [el] at js;exact ⟨g,cp,js⟩
  have hgt:∃ cg,W'.heap[g]? = some (.cells cg 159 (0,0)):=dG f2 rfl
  obtain ⟨cg,hgt⟩:=hgt
  have hgf:=f4 g rfl
  have hao3:∀ a,eJ=some a->∃ cs m,W'.heap[a.block]? = some (.cells cs 9 m):=fun a ha=>by
   obtain ⟨h1,cs,h2⟩:=hrowN a ha
   refine ⟨cs,(0,0),(f3.block _ (aw (o_ _ _ h2)) (fun hp=>?_)).trans (o_ _ _ h2)⟩
   rcases hp with e | e
   ·omega
   ·have:=ia _ e;omega
  refine ⟨g,iw,rfl,fun i c e h1 h2=>?_,fun c hc=>?_,⟨hnumE,rfl,⟨by show -1000000000000<=time;omega,ht.2⟩,rfl,by show A.length<=_;omega,fun hne=>?_⟩,hao3,hN.spare sp (fun a ha=>?_),fun a ha=>?_,?_,?_,?_⟩
  ·have ht:=hTD c (List.mem_of_getElem? h1)
   exact (hInD i c e h1 h2).spare sp (fun a ha=>by obtain ⟨cs,m,k⟩:=ht.so a ha;exact oG _ _ _ _ k (by decide) (by decide)) (fun a ha=>by obtain ⟨cs,m,k⟩:=ht.ao a ha;exact oG _ _ _ _ k (by decide) (by decide))
  ·have ht:=hTD c hc
   exact ht.spare sp (fun a ha=>by obtain ⟨cs,m,k⟩:=ht.so a ha;exact oG _ _ _ _ k (by decide) (by decide)) (fun a ha=>by obtain ⟨cs,m,k⟩:=ht.ao a ha;exact oG _ _ _ _ k (by decide) (by decide))
  ·obtain ⟨b,off,h1,h2,h3⟩:=hst2 hne
   obtain ⟨k1,cs,k2⟩:=hrowN _ h1
   have hb:W'.heap[b]? = w1.heap[b]?:=((f3.block b (by omega) (fun hp=>by
    rcases hp with e | e
    ·have:w.heap.size+1<=b:=k1;omega
    ·have:=ia _ e;have:w.heap.size+1<=b:=k1;omega)).trans (o_ b _ k2)).trans k2.symm
   exact ⟨b,off,h1,by have:=f3.size;omega,fun j hj=>by rw [World.cell?_of_block hb];exact h3 j hj⟩
  ·obtain ⟨cs,m,k⟩:=hNt a ha;exact oG _ _ _ _ k (by decide) (by decide)
  ·obtain ⟨cs,m,k⟩:=hNt a ha;exact ⟨cs,m,(sp.block _ (aw k) (oG _ _ _ _ k (by decide) (by decide))).trans k⟩
  ·refine (f3.block _ (by omega) (fun hp=>?_)).trans (o_ _ _ mP)
   rcases hp with e | e
   ·omega
   ·have:=ia _ e;omega
  ·rcases hgf with e | e
   ·have:=ia _ e;omega
   ·omega
  ·intro sb sc cur W'' a1 a2 a3 a4 a5
   have hss:=f3.size
   have hgw:g≠aj:=by rintro rfl;rw [f1] at hgt;cases hgt
   refine ⟨_,_,sb,cur,rfl,rfl,by omega,a2,(a3.block aj (aw f1) (fun hp=>hp.elim (fun e=>hgw e.symm) (fun e=>by omega))).trans f1,a4,a5,⟨fun a ha=>?_,fun a ha=>?_⟩,⟨a3.os.trans sp.os,a3.tape.trans sp.tape,a3.output.trans sp.output,Nat.le_trans sp.size a3.size,fun b hb hp=>(a3.block b (Nat.lt_of_lt_of_le hb sp.size) (fun e=>?_)).trans (sp.block b hb hp)⟩,fun b hb=>?_⟩
   ·have:some (⟨sb,0,none⟩:Addr)=some a:=ha
    cases this
    exact ⟨cur,(0,0),a2⟩
   ·obtain ⟨cs,m,k⟩:=hao3 a ha
    obtain ⟨k1,_⟩:=hrowN a ha
    refine ⟨cs,m,(a3.block _ (aw k) (fun hp=>?_)).trans k⟩
    rcases hp with e | e
    ·rw [e,hgt] at k;cases k
    ·omega
   ·rcases e with e | e
    ·rcases hgf with e2 | e2
     ·exact hp (.inr (e▸e2))
     ·omega
    ·omega
   ·exact (f4 b hb).imp id (fun x=>by omega)
 rcases List.eq_nil_or_concat C with rfl | ⟨C0,cl,rfl⟩
 ·simp at hkn;omega
 ·rw [List.concat_eq_append] at *
  have om:(C0++[cl])[C0.length]? = some cl:=by simp
  have hlen1:(C0++[cl]).length=C0.length+1:=by simp
  rcases hE.cases with ⟨_,h2⟩ | ⟨g0,cp,js,_,_,hgl⟩
  ·simp at h2
  cases js
  have hq:=hE.cell (k:=0) om rfl
  have y0:(w1.alloc (.cells #[.int .i64 1,.int .i64 time,.slice eJ A.length fc,.slice none 0 0] 159)).cell? ⟨g0,C0.length*4,none⟩=some (.int .i64 cl.number):=(hbN.cell (p:=⟨g0,C0.length*4,none⟩) hgl).trans hq
  have hnb:=lq cl (by simp)
  have hnn:cl.number+1=eQ (C0++[cl]):=by simp [eQ]
  rw [hlen1] at y3
  go_wp2_with fail
  refine region5_drop _ ?hq5b aj w1.heap.size ai rm (.slice no K.length aI) _ _ pv _ _ time eJ A.length fc _ _ _ _ _ _ _ _ _ _ _ _ _ _ _ _ _ _ _ _ _ _ _ _ _ _ _ _ _ _ _ _ _ _ _ _ _ _ _ _ _ _ _ _ _ _ _ _ _ _ _ _ ((lh.al _).aE hw) (hE.below (lh.al _)) hn ht hr k hold hk0 hkn (aB _ _ _ rfl) (fun e=>by have:=ia _ e;have:=lh.size;omega) ?_
  case hq5b=>exact fun _ _ d _ _ h=>by cases d<;>exact h
  intro nT W' v41 f1 f2 f3 f4
  rw [<- hD] at f2
  have hDl:=HDl.out
  obtain ⟨g,iw,rfl,k1,k2,k3,k4,k5,k6,k7,k8,k9⟩:=fin (eQ (C0++[cl])) rfl _ _ f1 f2 f3 f4
  go_wp2_with fail
  refine rO _ ?hq6b aj w.heap.size g iw (.int .i64 ai) rm no aI K pv D _ F _ W' _ _ _ _ _ _ _ _ _ _ _ _ _ _ _ _ _ _ _ _ _ _ _ _ _ _ _ _ _ _ _ _ _ _ _ _ _ _ _ _ _ _ _ _ _ _ _ _ _ _ _ _ f1 f2 hnD Hlen.out k1 k2 k3 k4 hK hnc k5 k6 aN hAh hrowD k7 k8 ?_
  case hq6b=>exact fun _ _ d _ _ h=>by cases d<;>exact h
  intro sb sc cur W'' a1 a2 a3 a4 a5 a6
  have q0:=ae (i:=0) a6 rfl
  have q1:=ae (i:=1) a6 rfl
  have q2:=ae (i:=2) a6 rfl
  have q3:=ae (i:=3) a6 rfl
  have K9:=k9 sb sc cur W'' a1 a2 a3 a4 a5
  clear k1 k2 k3 k4 k5 k6 k7 k9 f1 f2 f3 f4 a1 a2 a3 a4 a5
  go_wp2_with fail
  rw [hD,hF] at K9
  refine ⟨rfl,_,?_,K9⟩
  simp [results,Tryz.f87,go_sem,loadVar,gv,bx.cC,q0,q1,q2,q3]
end Ev
namespace Ev
open Go.RowKit Go.Deep Lf Go.Conc
theorem take_all (aj:Nat) (ai:Int) (rm:Value) (no:Option Addr) (aI:Nat) (K:List Key) (ea:Option Addr) (az:Nat) (pv:Value) (C:List bx) (E:List Pe) (time:Int) (ao:Option Addr) (A:List ByteArray) (cap:Nat) (w:World)
  (hw:w.heap[aj]? = some (.cells #[.int .i64 ai,rm,.slice no K.length aI,.slice ea C.length az,pv] 153 (0,0))) (hE:bY w (.slice ea C.length az) C) (hlen:C.length=E.length) (hIn:∀ (i:Nat) c e,C[i]? = some c->E[i]? = some e->cZ w c e) (hT:∀ c∈C,EvT w c) (hn:C.length<=1000) (ht:0<=time/\time<=1000000000000) (hr:0<=ai/\ai<=1000000000) (k:Nat) (hold:nj (time-ai) C=k)
  (lq:∀ c,C.getLast? = some c->0<=c.number/\c.number<=1000000000000) (h:eI w ao A) (hA:A.length<=1000) (cW:A.length<=cap) (hs:∀ j,j<A.length->(A.getD j ByteArray.empty).size<=1000)
  (hK:K.length<=1000) (hnc:K.length<=aI) (hN:eB w no K) (hNt:∀ a,no=some a->∃ cs m,w.heap[a.block]? = some (.cells cs 226 m)) (aN:∀ k∈K,ib k.op) (hAh:qg K) (bT:∀ e∈E,e.so.length=K.length+1) :
  Calls Tryz.prog 87 #[.pointer (some ⟨aj,0,none⟩),.int .i64 time,.slice ao A.length cap] w (TakeD aj ai rm no aI K ea az pv C (C.drop k) (E.drop k) time A w):=by
 by_cases hk:k=0
 ·subst hk
  exact ky aj ai rm no aI K ea az pv C E time ao A cap w hw hE hlen hIn hT hn ht hr hold lq h hA cW hs hK hnc hN hNt aN hAh bT
 ·exact take_drop aj ai rm no aI K ea az pv C E time ao A cap w hw hE hlen hIn hT hn ht hr k hold (by omega) (by rw [<- hold];exact oldF_le _ _) lq h hA cW hs hK hnc hN hNt aN hAh bT
def EvDoneD (w:World) (aj:Nat) (ai room:Int) (no:Option Addr) (aI:Nat) (K:List Key) (ea:Option Addr) (C D:List bx) (F:List Pe) (pa:Option Addr) (aM:Nat) (ps:List bC) (ss:List bt) (time:Int) (A:List ByteArray) (W':World):Prop :=
 ∃ (c:bx) (ea':Option Addr) (ecap':Nat) (ss':List bt),bj W' aj ai room no aI K ea' ecap' (D++[c]) (F++[b9 F.reverse K (⟨eQ C,time,A,[]⟩:Pe).bare]) pa aM ps ss'/\c.time=time/\c.number=eQ C/\au (Own46 aj ea ss) w W'/\(∀ a,ea'=some a->(∃ a0,ea=some a0/\a0.block=a.block)\/w.heap.size<=a.block)/\
  (∀ (i:Nat) (s:bt) (p:bC),ss[i]? = some s->ps[i]? = some p->∃ t,ss'[i]? = some t/\t.cj=s.cj/\t.n=s.n+1/\t.xs=s.xs++bO (eQ C) time p.cu ((b9 F.reverse K (⟨eQ C,time,A,[]⟩:Pe).bare).at (p.node:Int))/\(t.sv.ownBlock=s.sv.ownBlock\/∃ g,t.sv.ownBlock=some g/\w.heap.size<=g))
def qI (aj:Nat) (ai room:Int) (no:Option Addr) (aI:Nat) (K:List Key) (ea:Option Addr) (az:Nat) (C D:List bx) (F:List Pe) (pa:Option Addr) (aM:Nat) (ps:List bC) (time:Int) (A:List ByteArray) (w1:World) (c:bx) (nU:Nat) (w2:World):Prop :=
 ∃ (nT:Value) (sb:Nat) (cur:Array Value),c.so=some ⟨sb,0,none⟩/\w1.heap.size<=sb/\w2.heap[sb]? = some (.cells cur 4 (0,0))/\w2.heap[aj]? = some (.cells #[.int .i64 ai,.int .i64 room,.slice no K.length aI,nT,.slice pa ps.length aM] 153 (0,0))/\bY w2 nT (D++[c])/\
  cZ w2 c (b9 F.reverse K (⟨eQ C,time,A,[]⟩:Pe).bare)/\EvT w2 c/\au (fun b=>b=aj\/(Value.slice ea C.length az).ownBlock=some b) w1 w2/\(∀ b,nT.ownBlock=some b->(Value.slice ea C.length az).ownBlock=some b\/w1.heap.size<=b)/\w2.heap[nU]? = some (.cells #[.int .i64 c.number,.int .i64 c.time,c.av,c.sv] 159 (0,0))
theorem qI.aU {aj:Nat} {ai room:Int} {no:Option Addr} {aI:Nat} {K:List Key} {ea:Option Addr} {az:Nat} {C D:List bx} {F:List Pe} {pa:Option Addr} {aM:Nat} {ps:List bC} {time:Int} {A:List ByteArray} {w1:World} {c:bx} {nU:Nat} {w2:World} (h:qI aj ai room no aI K ea az C D F pa aM ps time A w1 c nU w2) (τ:Tape) (d:Nat):qI aj ai room no aI K ea az C D F pa aM ps time A w1 c nU (re w2 τ d):=by
 obtain ⟨nT,sb,cur,t1,t2,t3,t4,t5,t6,t7,t8,t9,t10⟩:=h
 exact ⟨nT,sb,cur,t1,t2,t3,t4,t5,t6.aU τ d,⟨t7.so,t7.ao⟩,t8.aU τ d,t9,t10⟩
set_option maxRecDepth 100000 in
set_option maxHeartbeats 4000000 in
theorem event_drop {w:World} {aj:Nat} {ai room:Int} {no:Option Addr} {aI:Nat} {K:List Key} {ea:Option Addr} {az:Nat} {C:List bx} {E:List Pe} {pa:Option Addr} {aM:Nat} {ps:List bC} {ss:List bt} (h:bj w aj ai room no aI K ea az C E pa aM ps ss) (time:Int) (ao:Option Addr) (A:List ByteArray) (cap:Nat)
  (ht:0<=time/\time<=1000000000000) (hl:∀ e,C.getLast? = some e->e.time<time) (k:Nat) (hold:nj (time-ai) C=k) (oI:(C.length:Int)-(k:Int)+1<=room) (hA:eI w ao A) (hA10:A.length<=10) (cW:A.length<=cap) (hN:∀ j,j<A.length->eR (A.getD j ByteArray.empty)) (hD:∀ j,j<A.length->Lib.containsS (A.take j) (A.getD j ByteArray.empty)=false)
  (hfew:C.length+1<=1000) (nh:0<=eQ C/\eQ C<=1000000000) (hfull:∀ s∈ss,s.n<30) :
  bZ Tryz.prog 46 #[.pointer (some ⟨aj,0,none⟩),.int .i64 time,.slice ao A.length cap] w fun e W'=>e=.returned .nilIface/\EvDoneD w aj ai room no aI K ea C (C.drop k) (E.drop k) pa aM ps ss time A W':=by
 have hP:=bk
 obtain ⟨D,hDe⟩:∃ D,D=C.drop k:=⟨_,rfl⟩
 obtain ⟨F,hFe⟩:∃ F,F=E.drop k:=⟨_,rfl⟩
 have hDF:D.length=F.length:=by rw [hDe,hFe,List.length_drop,List.length_drop,h.len]
 have hfewD:D.length+1<=1000:=by rw [hDe,List.length_drop];omega
 have hrowF:∀ e∈F,e.so.length=K.length+1:=fun e he=>h.rows e (by rw [hFe] at he;exact List.mem_of_mem_drop he)
 rw [<- hDe,<- hFe]
 replace hDe:Hid _:=hDe
 replace hFe:Hid _:=hFe
 have ix:∀ it∈([]:List Item),aR it:=by simp
 have dY:∀ (c:Code),∀ it∈[Item.code c],aR it:=fun c=>aJ trivial (by simp)
 have rC:∀ (c d:Code),∀ it∈[Item.code c,Item.code d],aR it:=fun c d=>aJ trivial (aJ trivial (by simp))
 have hroomy:Roomy w ps:=fun i p hp=>by
  have hi:i<ss.length:=by rw [h.vz];exact (List.getElem?_eq_some_iff.1 hp).1
  have hsm:ss[i]∈ss:=List.getElem_mem hi
  have jh:=h.sok _ hsm
  obtain ⟨o,n,cp,hsv,hn⟩:∃ o n cp,ss[i].sv=.slice o n cp/\n<30:=by
   have hf:=hfull _ hsm
   rcases jh.2.2 with ⟨e,e2⟩ | ⟨g,cp,cur,e,_⟩
   ·exact ⟨_,_,_,e,by omega⟩
   ·exact ⟨_,_,_,e,hf⟩
  exact ⟨ss[i].cj,o,n,cp,h.pstr i _ p (List.getElem?_eq_getElem hi) hp,by rw [<- hsv];exact jh.1,hn⟩
 have hsz8:∀ j,j<A.length->(A.getD j ByteArray.empty).size<=1000:=fun j hj=>by have:=(hN j hj).high;omega
 have hCk:Hid (∀ τ d,Calls Tryz.prog 86 #[.pointer (some ⟨aj,0,none⟩),.int .i64 time,.slice ao A.length cap] (re w τ d) fun e w'=>e=.returned .nilIface/\Below (re w τ d).heap.size (re w τ d) w'):=fun τ d=>by
  have hh:=h.aU τ d
  have hlo:=h.few
  have hp:=h.tW
  exact checkEvent_ok aj ai room _ _ pa aM ps C time ao A cap (re w τ d) hh.cell hh.uC (by omega) ht hh.ret hl (by rw [hold];exact oI) hA hA10 cW hN hD hh.oX (by omega) hh.pcp hroomy
 refine bZ.nJ Tryz.func46 rfl (fun cs bn=>?_)
 simp only [Tryz.ntmps46,List.size_toArray,List.length_cons,List.length_nil,Nat.reduceAdd,Nat.reduceSub,Array.replicate_succ,Array.replicate_zero,List.push_toArray,List.append_toArray,List.nil_append,List.cons_append]
 refine af.seq hP ix bn ?_
 refine af.piece hP (fun a' w'=>a'=⟨#[.pointer (some ⟨aj,0,none⟩),.int .i64 time,.slice ao A.length cap,undef,undef,undef,.nilIface,undef,undef,undef,undef,undef,undef,undef,undef,undef,undef,undef,undef,undef,undef,undef,undef,undef,undef,undef,undef,undef,undef,undef,undef,undef,undef,undef,undef,undef,undef,undef,undef,undef,undef],[]⟩/\∃ τ d,w'=re w τ d) (fun a w τ d x=>⟨x.1,by obtain ⟨_,vX,d',rfl⟩:=x;exact ⟨τ,d,rfl⟩⟩) (dY _) bn (fun τ d=>?_) ?_
 ·go_wp2_with fail
  exact ⟨τ,d,rfl⟩
 rintro a' w' ⟨rfl,τ,d,rfl⟩
 refine af.other ?_ τ d
 dsimp only
 refine af.seq hP ix bn ?_
 refine af.piece hP (fun a' w'=>a'=⟨#[.pointer (some ⟨aj,0,none⟩),.int .i64 time,.slice ao A.length cap,undef,undef,undef,.nilIface,.nilIface,undef,undef,.pointer (some ⟨aj,0,none⟩),.int .i64 time,.slice ao A.length cap,.nilIface,.nilIface,.bool false,undef,undef,undef,undef,undef,undef,undef,undef,undef,undef,undef,undef,undef,undef,undef,undef,undef,undef,undef,undef,undef,undef,undef,undef,undef],[]⟩/\au (fun _=>False) w w') (fun a w τ d x=>⟨x.1,x.2.aU τ d⟩) (dY _) bn (fun τ d=>?_) ?_
 ·have hc:=hCk.out τ d
  clear hCk
  go_wp2_with fail
  refine hc.mono ?_
  rintro e w1 ⟨rfl,a_⟩
  go_wp2_with fail
  exact (au.aL a_).tape0
 rintro a' w1 ⟨rfl,kS⟩
 dsimp only
 have h1w:=h.move kS (dn.none _ _)
 have hA1:=hA.move kS
 have hTk:Hid (∀ τ d,Calls Tryz.prog 87 #[.pointer (some ⟨aj,0,none⟩),.int .i64 time,.slice ao A.length cap] (re w1 τ d) (TakeD aj ai (.int .i64 room) no aI K ea az (.slice pa ps.length aM) C D F time A (re w1 τ d))):=fun τ d=>by
  have hh:=h1w.aU τ d
  rw [hDe.out,hFe.out]
  exact take_all aj ai (.int .i64 room) no aI K ea az _ C E time ao A cap (re w1 τ d) hh.cell hh.uC hh.len hh.ins hh.typed hh.few ht hh.ret k hold (fun c hc=>by have:=hh.nums c hc;omega) hA1 (by omega) cW hsz8 hh.nfew hh.ncp hh.nodes hh.oc hh.core hh.ahead hh.rows
 refine af.seq hP ix bn ?_
 refine af.piece hP (fun a' w2=>∃ c nU,a'=⟨#[.pointer (some ⟨aj,0,none⟩),.int .i64 time,.slice ao A.length cap,undef,undef,undef,.nilIface,.nilIface,.pointer (some ⟨nU,0,none⟩),undef,.pointer (some ⟨aj,0,none⟩),.int .i64 time,.slice ao A.length cap,.nilIface,.nilIface,.bool false,undef,undef,undef,undef,undef,.pointer (some ⟨aj,0,none⟩),.pointer (some ⟨aj,0,none⟩),.pointer (some ⟨aj,0,none⟩),.int .i64 time,.slice ao A.length cap,gv c,undef,undef,undef,undef,undef,undef,undef,undef,undef,undef,undef,undef,undef,undef],[]⟩/\qI aj ai room no aI K ea az C D F pa aM ps time A w1 c nU w2) (fun a w τ d x=>by obtain ⟨c,nU,x1,x2⟩:=x;exact ⟨c,nU,x1,x2.aU τ d⟩) (dY _) bn (fun τ d=>?_) ?_
 ·have hc:=hTk.out τ d
  clear hCk hTk
  go_wp2_with fail
  refine hc.mono ?_
  rintro e w2 ⟨c,nT,sb,cur,rfl,t1,t2,t3,t4,t5,t6,t7,t8,t9⟩
  have hmid:qI aj ai room no aI K ea az C D F pa aM ps time A w1 c w2.heap.size (w2.alloc (.cells #[.int .i64 c.number,.int .i64 c.time,.slice c.ao c.al c.ac,.slice c.so c.sl c.sc] 159)):=by
   have kT:au (fun _=>False) w2 (w2.alloc (.cells #[.int .i64 c.number,.int .i64 c.time,.slice c.ao c.al c.ac,.slice c.so c.sl c.sc] 159)):=au.aL ((Below.refl _ _).al _)
   exact ⟨nT,sb,cur,t1,t2,kT.get t3 (fun x=>x),kT.get t4 (fun x=>x),t5.move kT (dn.none _ _),t6.move t7 kT (dn.none _ _),t7.move kT (dn.none _ _),(au.rL t8).tape0.trans (kT.mono fun _ _ x=>x.elim),t9,aB _ _ _ rfl⟩
  clear t1 t2 t3 t4 t5 t6 t7 t8 t9
  simp only [gv]
  go_wp2_with fail
  refine ⟨c,w2.heap.size,?_,hmid⟩
  simp [gv]
 rintro a' w2 ⟨c,nU,rfl,nT,sb,cur,t1,t2,t3,t4,t5,t6,t7,t8,t9,t10⟩
 clear hCk hTk
 dsimp only
 refine af.seq hP ix bn ?_
 obtain ⟨q1,q2,q3,q4,_⟩:=eZ F.reverse K (⟨eQ C,time,A,[]⟩:Pe).bare
 generalize hpe:b9 F.reverse K (⟨eQ C,time,A,[]⟩:Pe).bare=pe at *
 have lq:c.number=eQ C:=t6.number.trans q1
 have htime:c.time=time:=t6.time.trans q2
 have hpl:pe.so.length=K.length+1:=by rw [q4];simp [Pe.bare];omega
 have hkt:dn w1 (fun b=>b=aj\/(Value.slice ea C.length az).ownBlock=some b) [4,9,226,183,177,59]:=fun b cs t m hb ht hp=>by
  rcases hp with rfl | hp
  ·rw [h1w.cell] at hb;injection hb with hb;injection hb with _ hb _;subst hb;simp at ht
  ·obtain ⟨cur',hc⟩:=dG h1w.uC hp
   rw [hc] at hb;injection hb with hb;injection hb with _ hb _;subst hb;simp at ht
 have hok2:∀ s∈ss,eG w2 s:=fun s hs=>eG.move (h1w.sok s hs) t8 (hkt.less (by simp))
 have hpo2:=fg.move h1w.oX t8 (hkt.less (by simp))
 have hso2:SoIn w2 c.sv (ps.map fun p=>{ p with v:=pe.at (p.node:Int) }):=by
  obtain ⟨sb',s1,s2,s3⟩:=t6.so
  have hse:sb'=sb:=by rw [t1] at s1;simp at s1;exact s1.symm
  subst hse
  refine ⟨sb',0,c.sl,c.sc,cur,(0,0),by simp [bx.sv,t1],t3,fun p hp=>?_⟩
  simp at hp
  obtain ⟨q,hq,rfl⟩:=hp
  have hqn:=h.pnode q hq
  have hql:q.node<pe.so.length:=by omega
  have hbit:=cZ.bit s3 hql
  refine ⟨?_,by rw [t6.sl];exact hql⟩
  simp only [Nat.zero_add]
  simpa [World.cell?,t3] using hbit
 refine af.mono (rest_any (w:=w2) aj nU pa aM c.number c.time c.av c.sv ss (ps.map fun p=>{ p with v:=pe.at (p.node:Int) }) (polsIn_says _ hpo2) hso2 (fun s hs=>by have:=hfull s hs;omega) (by have:=h.tW;simp;omega) (by simp [h.vz]) (fun i s p h1 h2=>by simp at h2;obtain ⟨q,hq,rfl⟩:=h2;exact h.pstr i s q h1 hq) hok2 h.apart _ _ _ _ _ _ _ _ _ _ _ _ _ _ _ _ _ _ _ _ _ _ _ _ _ _ _ _ _ _ cs bn _ _ _ _ _ _ _ _ _ _ _ _ _ (by rw [List.length_map];exact t4) t10) ?_
 rintro g' W' ⟨e,fr,r1,r2,⟨rfl,p1,p2,p3,p4,S,now,p5,p6⟩,r4,r5⟩
 refine ⟨_,fr,r1,r2,⟨rfl,?_⟩,r4,r5⟩
 subst hpe
 have hsp3:au (Ms ss) w2 W':=⟨p1,p2,p3,p4⟩
 have hkm:dn w2 (Ms ss) [4,9,226,183,159,153]:=fun b cs t m hb ht=>by
  refine Ms.not hok2 hb ?_ ?_<;>(rintro rfl;simp at ht)
 obtain ⟨ea',ecap',rfl,f1,f2,f3⟩:=t5.form
 have hin2:∀ (i:Nat) c' e,D[i]? = some c'->F[i]? = some e->cZ w2 c' e:=fun i c' e h1 h2=>(h1w.ins (k+i) c' e (by rw [<- List.getElem?_drop,<- hDe.out];exact h1) (by rw [<- List.getElem?_drop,<- hFe.out];exact h2)).move (h1w.typed c' (List.mem_of_mem_drop (hDe.out▸List.mem_of_getElem? h1))) t8 (hkt.less (by simp))
 have hty2:∀ c'∈D,EvT w2 c':=fun c' uY=>(h1w.typed c' (List.mem_of_mem_drop (hDe.out▸uY))).move t8 (hkt.less (by simp))
 have jD:=h.vz
 refine ⟨c,ea',ecap',now,?_,htime,lq,?_,?_,?_⟩
 ·refine ⟨hsp3.get t4 (hkm _ _ _ _ t4 (by simp)),t5.move hsp3 (hkm.less (by simp)),by simp [hDF],fun i c' e h1 h2=>?_,fun c' uY=>?_,by simpa using hfewD,h.ret,fun c' uY=>?_,h.nfew,h.ncp,?_,?_,h.core,h.ahead,fun e he=>?_,fg.move hpo2 hsp3 (hkm.less (by simp)),h.tW,h.pcp,by rw [p6.len];exact h.vz,fun i s p h1 h2=>?_,p6.ok,p6.apart,h.pnode⟩
  ·rcases Nat.lt_or_ge i D.length with hi | hi
   ·rw [List.getElem?_append_left hi] at h1
    rw [List.getElem?_append_left (by rw [<- hDF];exact hi)] at h2
    exact (hin2 i c' e h1 h2).move (hty2 c' (List.mem_of_getElem? h1)) hsp3 (hkm.less (by simp))
   ·have hi':i=D.length:=by have:=(List.getElem?_eq_some_iff.1 h1).1;simp at this;omega
    subst hi'
    rw [hDF] at h2
    simp at h1 h2
    subst h1;subst h2
    exact t6.move t7 hsp3 (hkm.less (by simp))
  ·rcases List.mem_append.1 uY with uY | uY
   ·exact (hty2 c' uY).move hsp3 (hkm.less (by simp))
   ·simp at uY;subst uY;exact t7.move hsp3 (hkm.less (by simp))
  ·simp at uY;subst uY;rw [lq];exact nh
  ·exact (h1w.nodes.move h1w.oc t8 (hkt.less (by simp))).move (typed.move h1w.oc t8 (hkt.less (by simp))) hsp3 (hkm.less (by simp))
  ·exact typed.move (typed.move h1w.oc t8 (hkt.less (by simp))) hsp3 (hkm.less (by simp))
  ·rcases List.mem_append.1 he with he | he
   ·exact hrowF e he
   ·simp at he;subst he;exact hpl
  ·have hi:i<ss.length:=by rw [<- p6.len];exact (List.getElem?_eq_some_iff.1 h1).1
   obtain ⟨t,k1,k2,_⟩:=p6.done i ss[i] _ (by simp;rw [<- h.vz];exact hi) (List.getElem?_eq_getElem hi) (by rw [List.getElem?_map,h2];rfl)
   rw [h1] at k1;cases k1
   rw [k2]
   exact h.pstr i ss[i] p (List.getElem?_eq_getElem hi) h2
 ·have s1:au (Own46 aj ea ss) w w1:=kS.mono fun _ _ x=>x.elim
  have s2:au (Own46 aj ea ss) w1 w2:=t8.mono fun b _ hb=>by
   rcases hb with hb | hb
   ·exact .inl hb
   ·cases ea with
    | none=>cases hb
    | some a=>exact .inr (.inl ⟨a,rfl,by cases hb;rfl⟩)
  exact (s1.trans s2).trans (hsp3.mono fun _ _ x=>.inr (.inr x))
 ·intro a ha
  subst ha
  rcases t9 a.block rfl with hb | hb
  ·cases ea with
   | none=>cases hb
   | some a0=>exact .inl ⟨a0,rfl,by simpa [Value.ownBlock] using hb⟩
  ·exact .inr (by have:=kS.size;omega)
 ·intro i s p h1 h2
  obtain ⟨t,k1,k2,k3,k4,k5⟩:=p6.done i s { p with v:=(b9 F.reverse K (⟨eQ C,time,A,[]⟩:Pe).bare).at (p.node:Int) } (by simp;exact (List.getElem?_eq_some_iff.1 h2).1) h1 (by rw [List.getElem?_map,h2];rfl)
  refine ⟨t,k1,k2,k3,?_,k5.imp id fun ⟨g,g1,g2⟩=>⟨g,g1,by have:=p5 g g2;have:=t8.size;have:=kS.size;omega⟩⟩
  rw [k4,lq,htime]
end Ev
end Go.Proofs.YtpbbmagjhkakgaaGreatDoor
