import Derived.Test.YtpbbmagjhkakgaaGreatDoorEaLoop2ToEaRest
import Derived.Test.YtpbbmagjhkakgaaGreatDoorEdInvToSnRound
import Derived.Conc.LeavingOf
import Derived.Conc.Beside
namespace Go.Proofs.YtpbbmagjhkakgaaGreatDoor
namespace Ev
open Go.RowKit Go.Deep Go.Maps Lf Go.Conc
theorem strs_row {w:World} {B:Nat} {names:List ByteArray} {v:Value} (h:w.ownsRow B 9 1 v names.length (fH names)) (hn:0<names.length):∃ g c cs,v=.slice (some ⟨g,0,none⟩) names.length c/\w.heap[g]? = some (.cells cs 9 (0,0))/\∀ (j:Nat) s,names[j]? = some s->cs[j]? = some (.string s):=by
 obtain ⟨e1,⟨rfl,e2⟩ | ⟨g,c,cs,rfl,_,h2,_,_,_,h6⟩⟩:=h
 ·omega
 ·refine ⟨g,c,cs,rfl,h2,fun j s hj=>?_⟩
  have hl:=(List.getElem?_eq_some_iff.1 hj).1
  have:(fH names)[j]? = some (.string s):=by simp [fH,hj]
  rw [<- h6,List.getElem?_take,if_pos (by omega),Array.getElem?_toList] at this
  exact this
theorem fin10_go {x:BT aO} {L:List (Int×Int)} {mb aj n v m:Nat} (hn:n<=25) (w0:World) (A:Act) (w:World) (hI:dM 1000 x L w0.heap.size mb aj n v m w) (hs:au (fun _=>False) w0 w) (hA:Fx 251 [(12,.string (eL x L n)),(14,.pointer (some ⟨mb,0,none⟩)),(17,.int .i64 0)] A):oy.wp Tryz.prog (bodyPost Tryz.prog Tryz.f10 (dz w0)) A w:=by
 rw [fin10_is]
 obtain ⟨names,hR,hn0,hn3,hm⟩:=hI.rest
 refine wp_seq (wp_mono (str10_go _ mb (fun v w'=>w'.ownsRow w.heap.size 59 4 v n (nO x L n)/\Below w.heap.size w w') A w ((hI.stream hn).mono fun e w' ⟨v,h1,h2,h3⟩=>⟨v,h1,h2,h3⟩) (fun A' w'=>∃ v,(w'.ownsRow w.heap.size 59 4 v n (nO x L n)/\Below w.heap.size w w')/\Fx 251 [(12,.string (eL x L n)),(14,.pointer (some ⟨mb,0,none⟩)),(17,.int .i64 0),(30,v),(31,.int .i64 0)] A') hA fun A' w' v h1 h2=>⟨v,h1,h2⟩) ?_)
 rintro e A w1 ⟨rfl,v,⟨bT,hb⟩,hA⟩
 have kS:=au.aL (P:=fun _=>False) hb
 obtain ⟨o,c,rfl,om⟩:=vers_row bT
 replace om:∀ j,j<n->∃ g,o=some ⟨g,0,none⟩/\w1.cell? ⟨g,j*4+3,none⟩=some (.bool (verZ x L j)):=fun j hj=>by obtain ⟨g,h1,_,_,h2⟩:=om j hj;exact ⟨g,h1,h2⟩
 refine wp_seq (wp_mono (txt0_go _ mb _ A w1 (fun A' w'=>w'=w1/\Fx 251 [(12,.string (eL x L n)),(14,.pointer (some ⟨mb,0,none⟩)),(17,.int .i64 0),(30,.slice o n c),(31,.int .i64 0),(32,.string ⟨#[]⟩)] A') hA fun A' h=>⟨rfl,h⟩) ?_)
 rintro e A w2 ⟨rfl,e2,hA⟩
 obtain rfl:=e2.symm
 refine wp_seq (wp_mono (txt10_go x L _ mb n c o hn A w1 om (fun A' w'=>w'=w1/\Fx 251 [(12,.string (eL x L n)),(14,.pointer (some ⟨mb,0,none⟩)),(17,.int .i64 0),(31,.int .i64 0),(32,.string (eL x L n))] A') hA fun A' h=>⟨rfl,h⟩) ?_)
 rintro e A w2 ⟨rfl,e2,hA⟩
 obtain rfl:=e2.symm
 have hR1:=hR.move kS
 refine wp_seq (wp_mono (list10_go _ _ mb (fun v w'=>w'.ownsRow w1.heap.size 9 1 v names.length (fH names)/\Below w1.heap.size w1 w') A w1 (hR1.list.mono fun e w' ⟨v,h1,h2,h3⟩=>⟨v,h1,h2,h3⟩) (fun A' w'=>∃ v,(w'.ownsRow w1.heap.size 9 1 v names.length (fH names)/\Below w1.heap.size w1 w')/\Fx 251 [(12,.string (eL x L n)),(14,.pointer (some ⟨mb,0,none⟩)),(17,.int .i64 0),(31,.int .i64 0),(32,.string (eL x L n)),(34,v)] A') hA fun A' w' v h1 h2=>⟨v,h1,h2⟩) ?_)
 rintro e A w2 ⟨rfl,v,⟨hrow2,cB⟩,hA⟩
 have oJ:=au.aL (P:=fun _=>False) cB
 have hR2:=hR1.move oJ
 obtain ⟨g,c2,cs,rfl,hg,bn⟩:=strs_row hrow2 hn0
 refine wp_seq (wp_mono (wrk10_go _ _ mb m _ A w2 hR2.work (fun A' w'=>w'=w2/\Fx 251 [(12,.string (eL x L n)),(14,.pointer (some ⟨mb,0,none⟩)),(17,.int .i64 0),(31,.int .i64 0),(32,.string (eL x L n)),(34,.slice (some ⟨g,0,none⟩) names.length c2),(35,.int .i64 (m:Int))] A') hA fun A' h=>⟨rfl,h⟩) ?_)
 rintro e A w3 ⟨rfl,e3,hA⟩
 obtain rfl:=e3.symm
 refine wp_seq (wp_mono (rem10_go _ mb aj m names.length c2 g names rfl hn3 w0 m A w2 cs _ hg bn hR2 ((hs.trans kS).trans oJ) (fun A' w'=>mZ w0.heap.size mb aj [] 0 w'/\au (fun _=>False) w0 w'/\Fx 251 [(12,.string (eL x L n)),(14,.pointer (some ⟨mb,0,none⟩)),(17,.int .i64 0),(31,.int .i64 0),(32,.string (eL x L n)),(34,.slice (some ⟨g,0,none⟩) names.length c2),(35,.int .i64 (m:Int))] A') hA fun A' w' h1 h2 h3=>⟨h1,h2,h3⟩) ?_)
 rintro e A w3 ⟨rfl,hR3,hs3,hA⟩
 refine wp_seq (wp_mono (wrl10_go _ _ mb m 0 _ A w3 hR3.work (fun A' w'=>w'=w3/\Fx 251 [(12,.string (eL x L n)),(14,.pointer (some ⟨mb,0,none⟩)),(17,.int .i64 0),(31,.int .i64 0),(32,.string (eL x L n)),(34,.slice (some ⟨g,0,none⟩) names.length c2),(35,.int .i64 (m:Int)),(38,.int .i64 ((0:Nat):Int))] A') hA fun A' h=>⟨rfl,h⟩) ?_)
 rintro e A w4 ⟨rfl,e3,hA⟩
 obtain rfl:=e3.symm
 exact ret10_go _ mb m names.length c2 _ hm ⟨hn0,by omega⟩ w0 A w3 hs3 hA
theorem alone_all (R S T:List Int) (o1 o2 o3:Option Addr) (cpR eC ek:Nat) (L:List (Int×Int)) (eo:Option Addr) (cap:Nat) (w:World) (hG:Given10 S T o2 eo o3 L w) (hlR:R.length<=4611686018427387904) (oF:∀ r∈R,mj r) (hR:iD w o1 R) :
  bZ Tryz.prog 10 #[.slice o1 R.length cpR,.slice o2 S.length eC,.slice eo L.length cap,.slice o3 T.length ek] w (dz w):=by
 refine alone_pre R S T o1 o2 o3 cpR eC ek L eo cap w hG.glob hG.size hlR oF hR hG.lL hG.iL hG.com fun x sp vs mb aj m w' A cs tx hgx hn0 hvs hA hI hs bn=>?_
 have hP:=bk
 have ix:∀ it∈([]:List Item),aR it:=by simp
 have dY:∀ (c:Code),∀ it∈[Item.code c],aR it:=fun c=>aJ trivial (by simp)
 have rC:∀ (c d:Code),∀ it∈[Item.code c,Item.code d],aR it:=fun c d=>aJ trivial (dY d)
 have gG:ax (ak x)<=1000:=Int.le_trans (mR hgx) tx.reach
 have e0:ez=.seq (.seq zero10 (.block 0 (.loop ji))) oy:=rfl
 rw [e0]
 refine af.seq hP ix bn (af.seq hP (dY _) bn ?_)
 refine af.piece hP (S10 x L mb aj w (fun _=>kO o2 eo o3 S.length eC L.length cap T.length ek vs mb (aW L 0) 0) 0 1) (fun _ _ τ d x=>x.aU τ d) (rC _ _) bn (fun τ d=>zero10_go o2 eo o3 S.length eC L.length cap T.length ek vs mb A _ _ hA fun A' sN=>⟨m,sN,hI.aU τ d,hs.aU τ d⟩) fun A w2 h0=>?_
 refine af.hpiece (S10 x L mb aj w (fun _=>kO o2 eo o3 S.length eC L.length cap T.length ek vs mb (aW L (min L.length 25)) (min L.length 25:Nat)) (min L.length 25) (min L.length 25+1)) (dY _) bn (e_.blockLoop hP (fun k A w'=>∃ i:Nat,k=25-i/\i<=25/\i<=L.length/\S10 x L mb aj w (fun _=>kO o2 eo o3 S.length eC L.length cap T.length ek vs mb (aW L i) i) i (i+1) A w') _ (fun _ _ τ d x=>x.aU τ d) 25 ⟨0,rfl,by omega,by omega,h0⟩ ?_) fun A w2 h2=>?_
 ·rintro k A w2 ⟨i,rfl,h1,h2,h3⟩
  refine (round10 hG eC cap ek vs mb aj gG i h1 h2 A w2 h3).mono ?_
  rintro e A w3 (⟨rfl,h4,h5,h6⟩ | ⟨rfl,h4,h6⟩)
  ·exact .inl ⟨rfl,25-(i+1),by omega,i+1,rfl,by omega,by omega,h6⟩
  ·have e1:i=min L.length 25:=by omega
   rw [e1] at h6
   exact .inr ⟨rfl,h6⟩
 ·obtain ⟨m,hA,hI,hs⟩:=h2
  refine af.last hP bn Tryz.func10 dz.aU dz.out fun τ d=>?_
  refine fin10_go (n:=min L.length 25) (by omega) w A _ (hI.aU τ d) (hs.aU τ d) ?_
  rw [<- hvs]
  exact hA.less (by unfold kO;simp only [List.forall_mem_cons,List.not_mem_nil,false_implies,implies_true,and_true];exact ⟨rfl,rfl,rfl⟩)
end Ev
namespace Lf
open Go Go.Conc
variable {P : Program}
theorem stepG_end {fr:Frame} {fn:Func} {t:Tmp} {w:World} {v:Value} (h:fr.leaving P w (.returned v)) (hf:P.funcs[fr.fn]? = some fn) (hr:fn.results=#[.tmp t]) (tP:P.inits.idxOf? fr.fn=none):stepG P true (G fr []) w=.ended (.done v) w #[]:=by
 obtain ⟨hm,hd,hk,fn',hf',hr'⟩:=h
 rw [hf] at hf'
 cases hf'
 rw [results_tmp hr] at hr'
 simp only [Result.ok.injEq,and_true] at hr'
 simp only [Array.getD_eq_getD_getElem?] at hr'
 simp [stepG,unwind,doReturn,hm,hd,hf,hk,tP,results,hr,hr',G]
 have e:seen P fr.fn #[]=#[]:=by simp [seen]
 rw [e]
 rfl
theorem bZ.good {f:FuncId} {fn:Func} {t:Tmp} {args:Array Value} {W:World} {R:Ending->World->Prop} (h:bZ P f args W R) (hf:P.funcs[f]? = some fn) (hr:fn.results=#[.tmp t]) (tP:P.inits.idxOf? f=none) (hR:∀ e w τ d,R e w->R e (re w τ d)) (hret:∀ e w,R e w->∃ v,e=.returned v) :
  ∃ M last o w' t',runNT P (M+1) (solo (G (Frame.enter P f args .normal) []) W) #[]=(.ended o w',t')/\runN P M (solo (G (Frame.enter P f args .normal) []) W)=.next last/\step P last=.ended o w'/\Conc.Good P (fun v w'=>R (.returned v) w') last o w' t':=by
 obtain ⟨N,mN,g',w',jo,t',h1,⟨f0,⟨q,fq⟩,⟨B,fB⟩⟩,e,fr,rfl,_,h3,h4,h5⟩:=(h [] (fun _ hx=>by cases hx)).leads #[G (Frame.enter P f args .normal) []] none #[] ⟨rfl,⟨_,leavers_one P _⟩,⟨0,past_nil⟩⟩
 obtain ⟨v,rfl⟩:=hret e w' h3
 have hG:Goes P true AtRel (fun _ _ _=>False) (AtEnd P (fun _=>False) B (fun v w'=>R (.returned v) w')) 0 (G fr []) w':=by
  rintro w₁ ⟨d,rfl⟩
  have hl:fr.leaving P (re w' w'.tape d) (.returned v):=tT h5 w'.tape d
  exact ⟨rfl,v,#[],stepG_end hl (by rw [h4];exact hf) hr (by rw [h4];exact tP),fun e he=>by simp at he,hR _ _ w'.tape d h3⟩
 obtain ⟨M,last,o,w2,t2,k1,k2,k3,k4⟩:=beside_ends (fun _ _ _ x=>x.elim) (sl:=jo) f0 fq fB hG
 refine ⟨N+M,last,o,w2,t2,?_,?_,k3,k4⟩
 ·rw [Nat.add_assoc,runNT_add]
  show (match runNT P N (crowd #[G (Frame.enter P f args .normal) []] W none) #[] with | (.next m',t')=>runNT P (M+1) m' t' | x=>x)=_
  rw [h1]
  exact k1
 ·have h1':runN P N (solo (G (Frame.enter P f args .normal) []) W)=.next (crowd mN w' jo):=by
   rw [<- runNT_fst P N _ #[]]
   exact congrArg Prod.fst h1
  rw [runN_add,h1']
  exact k2
end Lf
end Go.Proofs.YtpbbmagjhkakgaaGreatDoor
