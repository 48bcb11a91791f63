import Derived.Test.YtpbbmagjhkakgaaGreatDoorEvWorkToEvTake
import Derived.Conc.CompanyMem
import Derived.Conc.Beside
import Derived.Conc.CrowdTrace
namespace Go.Proofs.YtpbbmagjhkakgaaGreatDoor
namespace Ev
open Go.RowKit Go.Deep
theorem backL_list (L:List Pe) (d:Pe):cv (fun i=>L.getD i d) L.length=L.reverse:=by
 unfold cv
 rw [pB (fun i=>L.getD i d) _ _ (Nat.le_refl _)]
 apply List.ext_getElem?
 intro i
 by_cases hi:i<L.length
 ·simp [hi]
  have:L.length-1-i<L.length:=by omega
  simp [this]
 ·simp [hi]
theorem row_array {w:World} {base size n:Nat} {e:TypeId} {v:Value} {xs:List Value} (h:w.ownsRow base e size v n xs) {g cap:Nat} (hv:v=.slice (some ⟨g,0,none⟩) n cap):∃ cur,w.heap[g]? = some (.cells cur e (0,0))/\(∀ (j:Nat) (x:Value),xs[j]? = some x->cur[j]? = some x)/\n<=cap/\cap<=maxLen/\cur.size=cap*size/\cur.toList.take (n*size)=xs:=by
 obtain ⟨h1,⟨rfl,h2⟩ | ⟨g',mq,cur,e1,h3,h4,h5,h6,h7,h8⟩⟩:=h
 ·cases hv
 ·rw [hv] at e1
  cases e1
  refine ⟨cur,h4,fun j x hx=>?_,h5,h6,h7,h8⟩
  have hj:j<n*size:=by have:=(List.getElem?_eq_some_iff.1 hx).1;omega
  rw [<- h8,List.getElem?_take,if_pos hj] at hx
  rw [<- Array.getElem?_toList];exact hx
theorem flatE_set (C:List bx) (c:bx) (sb sl sc:Nat):(dk (C++[c])).set (C.length*4+3) (.slice (some ⟨sb,0,none⟩) sl sc)=dk (C++[c.cC sb sl sc]):=by
 have hl:(dk C).length=C.length*4:=ft bf 4 (fun _=>rfl) C
 rw [mL,mL,List.set_append_right _ _ (by omega),hl]
 have:C.length*4+3-C.length*4=3:=by omega
 rw [this]
 rfl
set_option maxRecDepth 100000 in
set_option maxHeartbeats 8000000 in
theorem rO (Q:Exit->Act->World->Prop) (hQ:∀ c a d v w,Q (.panic c) (Act.put a d v) w->Q (.panic c) a w) (aj rb g iw:Nat) (r1 r2:Value) (no:Option Addr) (aI:Nat) (K:List Key) (pv:Value) (C:List bx) (od:bx) (E:List Pe) (pe:Pe) (W:World) (x1 x2 x3 x4 x5 x7 x8 x9 kX lD lF lG lH lI lJ lK lM lN lO lQ lR lU lV lW lX nk nt nu nw qE x32 x33 x34 x35 x36 x37 x38 x39 x40 x41 x42 x43 x44 u45 u46 u47 u48 u49 u50 u51 u52 u53:Value)
  (hw:W.heap[aj]? = some (.cells #[r1,r2,.slice no K.length aI,.slice (some ⟨g,0,none⟩) (C.length+1) iw,pv] 153 (0,0))) (hE:bY W (.slice (some ⟨g,0,none⟩) (C.length+1) iw) (C++[od])) (hn:C.length<=1000) (hlen:C.length=E.length)
  (hIn:∀ (i:Nat) c e,C[i]? = some c->E[i]? = some e->cZ W c e) (hT:∀ c∈C,EvT W c) (hM:qh W od pe) (hMt:∀ a,od.ao=some a->∃ cs m,W.heap[a.block]? = some (.cells cs 9 m)) (hK:K.length<=1000) (hnc:K.length<=aI) (hN:eB W no K) (hNt:∀ a,no=some a->∃ cs m,W.heap[a.block]? = some (.cells cs 226 m)) (aN:∀ k∈K,ib k.op) (hAh:qg K) (bT:∀ e∈E,e.so.length=K.length+1)
  (qx:W.heap[rb]? = some (.cells #[.int .i64 0,.int .i64 0,.slice none 0 0,.slice none 0 0] 159 (0,0))) (hrg:rb≠g)
  (hk:∀ (sb sc:Nat) (cur:Array Value) (W':World),W.heap.size<=sb->W'.heap[sb]? = some (.cells cur 4 (0,0))->aY (fun b=>b=g\/b=rb) W W'->bY W' (.slice (some ⟨g,0,none⟩) (C.length+1) iw) (C++[od.cC sb (K.length+1) sc])->cZ W' (od.cC sb (K.length+1) sc) (b9 E.reverse K pe.bare)->
   W'.heap[rb]? = some (.cells #[.int .i64 od.number,.int .i64 od.time,.slice od.ao od.al od.ac,.slice (some ⟨sb,0,none⟩) (K.length+1) sc] 159 (0,0))->Q .normal ⟨#[(.pointer (some ⟨aj,0,none⟩)),x1,x2,x3,x4,x5,(.pointer (some ⟨rb,0,none⟩)),x7,x8,x9,kX,lD,lF,lG,lH,lI,lJ,lK,lM,lN,lO,lQ,lR,lU,lV,lW,lX,nk,nt,nu,nw,qE,x32,x33,x34,x35,x36,x37,x38,x39,x40,x41,x42,x43,x44,(.pointer (some ⟨aj,0,none⟩)),(.pointer (some ⟨aj,0,none⟩)),(.pointer (some ⟨aj,2,none⟩)),(.slice no K.length aI),(.pointer (some ⟨aj,0,none⟩)),(.pointer (some ⟨aj,0,none⟩)),(.pointer (some ⟨aj,3,none⟩)),(.slice (some ⟨g,0,none⟩) (C.length+1) iw),(gv (od.cC sb (K.length+1) sc))],[]⟩ W') :
  (Code.region 6 opsT6 true).wp Tryz.prog Q ⟨#[(.pointer (some ⟨aj,0,none⟩)),x1,x2,x3,x4,x5,(.pointer (some ⟨rb,0,none⟩)),x7,x8,x9,kX,lD,lF,lG,lH,lI,lJ,lK,lM,lN,lO,lQ,lR,lU,lV,lW,lX,nk,nt,nu,nw,qE,x32,x33,x34,x35,x36,x37,x38,x39,x40,x41,x42,x43,x44,u45,u46,u47,u48,u49,u50,u51,u52,u53],[]⟩ W:=by
 have cz:=aw hw
 have el:(C++[od]).length=C.length+1:=by simp
 have hE':World.ownsRow W 0 159 4 (.slice (some ⟨g,0,none⟩) (C.length+1) iw) (C.length+1) (dk (C++[od])):=by
  have h0:=hE
  unfold bY at h0
  rw [el] at h0
  exact h0
 obtain ⟨cg,hg,hcg,hgc,hgm,hgs,hgt⟩:=row_array hE' rfl
 have hW:Calls Tryz.prog 132 #[.slice no K.length aI,.slice (some ⟨g,0,none⟩) (C.length+1) iw] W.drew fun e W'=>∃ sb sc cur,e=.returned (gv (od.cC sb (K.length+1) sc))/\W.heap.size<=sb/\Only g W W'/\
   W'.heap[g]? = some (.cells (cg.setIfInBounds (C.length*4+3) (.slice (some ⟨sb,0,none⟩) (K.length+1) sc)) 159 (0,0))/\W'.heap[sb]? = some (.cells cur 4 (0,0))/\cZ W' (od.cC sb (K.length+1) sc) (b9 E.reverse K pe.bare):=by
  have hbd:Below W.heap.size W W.drew:=(Below.refl _ W).drew
  have sa:(C++[od]).getD C.length od=od:=by simp
  have hem:(E++[pe]).getD C.length pe=pe:=by rw [hlen];simp
  have hci:∀ i,i<C.length->∃ c e,(C++[od]).getD i od=c/\(E++[pe]).getD i pe=e/\C[i]? = some c/\E[i]? = some e:=fun i hi=>by
   have h1:i<E.length:=by omega
   exact ⟨C[i],E[i],by rw [List.getD_eq_getElem?_getD,List.getElem?_append_left hi,List.getElem?_eq_getElem hi];rfl,by rw [List.getD_eq_getElem?_getD,List.getElem?_append_left h1,List.getElem?_eq_getElem h1];rfl,List.getElem?_eq_getElem hi,List.getElem?_eq_getElem h1⟩
  have:=workOut_any no aI K g iw C.length cg (fun i=>(C++[od]).getD i od) (fun i=>(E++[pe]).getD i pe) W.drew (by omega) hgc hK hnc hg ?_ (fun hne=>hN hne) ?_ aN hAh ?_ ?_ ?_ (by simp only [sa,hem];exact ⟨hM.number,hM.time,hM.low,hM.al,hM.alen,hM.atoms⟩) ?_
  ·simp only [sa,hem] at this
   have hb:cv (fun i=>(E++[pe]).getD i pe) C.length=E.reverse:=by
    rw [qO (F:=fun i=>E.getD i pe) (fun i hi=>by
     have h1:i<E.length:=by omega
     show (E++[pe]).getD i pe=E.getD i pe
     rw [List.getD_eq_getElem?_getD,List.getElem?_append_left h1,<- List.getD_eq_getElem?_getD]),hlen]
    exact backL_list E pe
   rw [hb] at this
   refine this.mono ?_
   rintro e W' ⟨sb,sc,cur,h1,h2,h3,h4,h5,h6⟩
   exact ⟨sb,sc,cur,h1,h2,⟨h3.os,h3.tape,h3.output,h3.size,h3.block⟩,h4,h5,h6⟩
  ·intro i k v hi hv
   have hc:(C++[od])[i]? = some ((C++[od]).getD i od):=by
    have:i<(C++[od]).length:=by omega
    rw [List.getD_eq_getElem?_getD,List.getElem?_eq_getElem this];rfl
   exact hcg _ _ (kn bf 4 (fun _=>rfl) (C++[od]) i k _ v hc hv)
  ·intro a ha e
   obtain ⟨cs,m,h1⟩:=hNt a ha
   rw [e,hg] at h1;cases h1
  ·intro i hi
   obtain ⟨c,e,h1,h2,h3,h4⟩:=hci i hi
   simp only [h1,h2]
   exact (hIn i c e h3 h4).below hbd
  ·intro i hi
   obtain ⟨c,e,h1,h2,h3,h4⟩:=hci i hi
   simp only [h2]
   exact bT e (List.mem_of_getElem? h4)
  ·intro i hi
   obtain ⟨c,e,h1,h2,h3,h4⟩:=hci i hi
   simp only [h1]
   exact (hT c (List.mem_of_getElem? h3)).off hg
  ·simp only [sa]
   intro a ha e
   obtain ⟨cs,m,h1⟩:=hMt a ha
   rw [e,hg] at h1;cases h1
 have kj:Hid (∀ w',Only g W w'->(fun w'=>w'.cell? ⟨aj,2,none⟩=some (.slice no K.length aI)/\w'.cell? ⟨aj,3,none⟩=some (.slice (some ⟨g,0,none⟩) (C.length+1) iw)) w'):=fun w' ho=>by
  have hwg:aj≠g:=by rintro rfl;rw [hw] at hg;cases hg
  have h1:=ho.heap hw hwg
  exact ⟨ae h1 rfl,ae h1 rfl⟩
 have hZ:=kj.out _ (Only.refl g W).drew
 clear hIn hT hM hN hNt aN hAh bT hlen el
 simp only [opsT6,tA,Tryz.f87,Option.getD_some]
 refine bh.begin (S:=(fun w'=>w'.cell? ⟨aj,2,none⟩=some (.slice no K.length aI)/\w'.cell? ⟨aj,3,none⟩=some (.slice (some ⟨g,0,none⟩) (C.length+1) iw))) (fin:=9) (by kernel_rfl) ?_
 simp only [List.size_toArray,List.length_cons,List.length_nil,Nat.reduceAdd,Nat.zero_add]
 refine bh.take 0 (v:=?vq0) rfl (by decide +kernel) (by decide +kernel) (by decide +kernel) (by decide +kernel) (fun c a w h=>hQ c a _ _ w h) (by rfl) (fun w' hS=>Go.Conc.run_eq_of ?rq0) hZ ?_
 case rq0 =>
  intro K' hK'
  obtain ⟨y1,y2⟩:=hS
  go_simp
  exact hK'
 try walk_nrm
 refine bh.take 1 (v:=?vq1) rfl (by decide +kernel) (by decide +kernel) (by decide +kernel) (by decide +kernel) (fun c a w h=>hQ c a _ _ w h) (by rfl) (fun w' hS=>Go.Conc.run_eq_of ?rq1) hZ ?_
 case rq1 =>
  intro K' hK'
  obtain ⟨y1,y2⟩:=hS
  go_simp
  exact hK'
 try walk_nrm
 refine bh.take 2 (v:=?vq2) rfl (by decide +kernel) (by decide +kernel) (by decide +kernel) (by decide +kernel) (fun c a w h=>hQ c a _ _ w h) (by rfl) (fun w' hS=>Go.Conc.run_eq_of ?rq2) hZ ?_
 case rq2 =>
  intro K' hK'
  obtain ⟨y1,y2⟩:=hS
  go_simp
  exact hK'
 try walk_nrm
 refine bh.take 3 (v:=?vq3) rfl (by decide +kernel) (by decide +kernel) (by decide +kernel) (by decide +kernel) (fun c a w h=>hQ c a _ _ w h) (by rfl) (fun w' hS=>Go.Conc.run_eq_of ?rq3) hZ ?_
 case rq3 =>
  intro K' hK'
  obtain ⟨y1,y2⟩:=hS
  go_simp
  exact hK'
 try walk_nrm
 refine bh.take 4 (v:=?vq4) rfl (by decide +kernel) (by decide +kernel) (by decide +kernel) (by decide +kernel) (fun c a w h=>hQ c a _ _ w h) (by rfl) (fun w' hS=>Go.Conc.run_eq_of ?rq4) hZ ?_
 case rq4 =>
  intro K' hK'
  obtain ⟨y1,y2⟩:=hS
  go_simp
  exact hK'
 try walk_nrm
 refine bh.take 5 (v:=?vq5) rfl (by decide +kernel) (by decide +kernel) (by decide +kernel) (by decide +kernel) (fun c a w h=>hQ c a _ _ w h) (by rfl) (fun w' hS=>Go.Conc.run_eq_of ?rq5) hZ ?_
 case rq5 =>
  intro K' hK'
  obtain ⟨y1,y2⟩:=hS
  go_simp
  exact hK'
 try walk_nrm
 refine bh.take 6 (v:=?vq6) rfl (by decide +kernel) (by decide +kernel) (by decide +kernel) (by decide +kernel) (fun c a w h=>hQ c a _ _ w h) (by rfl) (fun w' hS=>Go.Conc.run_eq_of ?rq6) hZ ?_
 case rq6 =>
  intro K' hK'
  obtain ⟨y1,y2⟩:=hS
  go_simp
  exact hK'
 try walk_nrm
 refine bh.take 7 (v:=?vq7) rfl (by decide +kernel) (by decide +kernel) (by decide +kernel) (by decide +kernel) (fun c a w h=>hQ c a _ _ w h) (by rfl) (fun w' hS=>Go.Conc.run_eq_of ?rq7) hZ ?_
 case rq7 =>
  intro K' hK'
  obtain ⟨y1,y2⟩:=hS
  go_simp
  exact hK'
 try walk_nrm
 refine bh.one (i:=8) (by decide +kernel) rfl (by rfl) ?_
 unfold Oper.wp
 rw [Go.Conc.run_call_body (f:=132) (args:=#[.tmp 48,.tmp 52]) (ats:=#[95,146]) rfl Tryz.func132 (by decide) rfl]
 simp only [Oper.upon,List.map_toArray,List.map_cons,List.map_nil]
 change Calls Tryz.prog 132 #[.slice no K.length aI,.slice (some ⟨g,0,none⟩) (C.length+1) iw] W.drew _
 refine hW.mono ?_
 rintro e W1 ⟨sb,sc,cur,rfl,hsb,hO,hg1,ng,tP⟩
 refine ⟨fun _=>kj.out _ hO,?_⟩
 try walk_nrm
 have hrb1:=hO.heap qx hrg
 have r0:=ae (i:=0) hrb1 rfl
 have r1':=ae (i:=1) hrb1 rfl
 have r2':=ae (i:=2) hrb1 rfl
 have r3':=ae (i:=3) hrb1 rfl
 have fz:∀ q,W1.frozen? ⟨rb,q,none⟩=false:=fun q=>Lib.frozen_of_heap hrb1 q
 refine bh.op (i:=9) (by decide +kernel) rfl (by rfl) (fun K' hK'=>?_)
 unfold Oper.wp
 simp only [gv,bx.cC]
 go_simp
 refine hK' _ _ ⟨fun x=>absurd rfl x,?_⟩
 clear hK' K'
 refine bh.done (by decide +kernel) ?_ _
 try walk_nrm
 have hR:=b7 (i:=3) (v:=.slice (some ⟨sb,0,none⟩) (K.length+1) sc) (b7 (i:=2) (v:=.slice od.ao od.al od.ac) (b7 (i:=1) (v:=.int .i64 od.time) (b7 (i:=0) (v:=.int .i64 od.number) hrb1)))
 simp only [List.setIfInBounds_toArray,List.set_cons_zero,List.set_cons_succ] at hR
 have hO4:Only rb W1 ((((W1.setCell ⟨rb,0,none⟩ (.int .i64 od.number)).setCell ⟨rb,1,none⟩ (.int .i64 od.time)).setCell ⟨rb,2,none⟩ (.slice od.ao od.al od.ac)).setCell ⟨rb,3,none⟩ (.slice (some ⟨sb,0,none⟩) (K.length+1) sc)):=((((Only.refl _ W1).setCell (p:=⟨rb,0,none⟩) (.inl rfl) _).setCell (p:=⟨rb,1,none⟩) (.inl rfl) _).setCell (p:=⟨rb,2,none⟩) (.inl rfl) _).setCell (p:=⟨rb,3,none⟩) (.inl rfl) _
 generalize ((((W1.setCell ⟨rb,0,none⟩ (.int .i64 od.number)).setCell ⟨rb,1,none⟩ (.int .i64 od.time)).setCell ⟨rb,2,none⟩ (.slice od.ao od.al od.ac)).setCell ⟨rb,3,none⟩ (.slice (some ⟨sb,0,none⟩) (K.length+1) sc))=W4 at hR hO4 ⊢
 have hrl:=aw qx
 refine hk sb sc cur W4 hsb (hO4.heap ng (by omega)) ⟨hO4.os.trans hO.os,hO4.tape.trans hO.tape,hO4.output.trans hO.output,Nat.le_trans hO.size hO4.size,fun b hb hp=>(hO4.block b (Nat.lt_of_lt_of_le hb hO.size) (fun e=>hp (.inr e))).trans (hO.block b hb (fun e=>hp (.inl e)))⟩ ?_ ?_ hR
 ·have el2:(C++[od.cC sb (K.length+1) sc]).length=C.length+1:=by simp
  show World.ownsRow _ 0 159 4 _ _ _
  rw [el2]
  refine ⟨by rw [dk,ft bf 4 (fun _=>rfl),el2],.inr ⟨g,iw,_,rfl,Nat.zero_le _,hO4.heap hg1 (Ne.symm hrg),hgc,hgm,by simpa using hgs,?_⟩⟩
  rw [<- flatE_set,<- hgt,Array.toList_setIfInBounds,List.take_set]
 ·refine tP.only ⟨fun a ha=>?_,fun a ha=>?_⟩ hO4
  ·have:some (⟨sb,0,none⟩:Addr)=some a:=ha
   cases this
   show sb≠rb
   omega
  ·intro e
   obtain ⟨cs,m,h1⟩:=hMt a ha
   rw [e,qx] at h1;cases h1
def TakePost (aj:Nat) (ai:Int) (rm:Value) (no:Option Addr) (aI:Nat) (K:List Key) (ea:Option Addr) (az:Nat) (pv:Value) (C:List bx) (E:List Pe) (time:Int) (A:List ByteArray) (w:World) (e:Ending) (W':World):Prop :=
 ∃ (c:bx) (nT:Value) (sb:Nat) (cur:Array Value),e=.returned (gv c)/\c.so=some ⟨sb,0,none⟩/\w.heap.size<=sb/\W'.heap[sb]? = some (.cells cur 4 (0,0))/\W'.heap[aj]? = some (.cells #[.int .i64 ai,rm,.slice no K.length aI,nT,pv] 153 (0,0))/\bY W' nT (C++[c])/\
  cZ W' c (b9 E.reverse K (⟨eQ C,time,A,[]⟩:Pe).bare)/\EvT W' c/\aY (fun b=>b=aj\/(Value.slice ea C.length az).ownBlock=some b) w W'/\(∀ b,nT.ownBlock=some b->(Value.slice ea C.length az).ownBlock=some b\/w.heap.size<=b)
set_option maxRecDepth 100000 in
set_option maxHeartbeats 8000000 in
theorem ky (aj:Nat) (ai:Int) (rm:Value) (no:Option Addr) (aI:Nat) (K:List Key) (ea:Option Addr) (az:Nat) (pv:Value) (C:List bx) (E:List Pe) (time:Int) (ao:Option Addr) (A:List ByteArray) (cap:Nat) (w:World)
  (hw:w.heap[aj]? = some (.cells #[.int .i64 ai,rm,.slice no K.length aI,.slice ea C.length az,pv] 153 (0,0))) (hE:bY w (.slice ea C.length az) C) (hlen:C.length=E.length) (hIn:∀ (i:Nat) c e,C[i]? = some c->E[i]? = some e->cZ w c e) (hT:∀ c∈C,EvT w c) (hn:C.length<=1000) (ht:0<=time/\time<=1000000000000) (hr:0<=ai/\ai<=1000000000) (hold:nj (time-ai) C=0)
  (lq:∀ c,C.getLast? = some c->0<=c.number/\c.number<=1000000000000) (h:eI w ao A) (hA:A.length<=1000) (cW:A.length<=cap) (hs:∀ j,j<A.length->(A.getD j ByteArray.empty).size<=1000)
  (hK:K.length<=1000) (hnc:K.length<=aI) (hN:eB w no K) (hNt:∀ a,no=some a->∃ cs m,w.heap[a.block]? = some (.cells cs 226 m)) (aN:∀ k∈K,ib k.op) (hAh:qg K) (bT:∀ e∈E,e.so.length=K.length+1) :
  Calls Tryz.prog 87 #[.pointer (some ⟨aj,0,none⟩),.int .i64 time,.slice ao A.length cap] w (TakePost aj ai rm no aI K ea az pv C E time A w):=by
 have cz:=aw hw
 have Hlen:Hid (C.length=E.length):=hlen
 clear hlen
 have r_:w.cell? ⟨aj,3,none⟩=some (.slice ea C.length az):=ae hw rfl
 have hecap:C.length<=az:=by
  rcases hE.cases with ⟨h1,rfl⟩ | ⟨g,cp,js,h1,_,_⟩
  ·simp
  ·cases js;exact h1
 have hCo:=copyOf_any ao A cap (w.alloc (.cells #[.int .i64 0,.int .i64 0,.slice none 0 0,.slice none 0 0] 159)) (h.below ((Below.refl _ _).al _)) hA cW hs
 go_enter Tryz.func87,Tryz.ntmps87
 go_wp2_with fail
 refine hCo.mono ?_
 rintro e w1 ⟨v1,rfl,jF,a_⟩
 obtain ⟨eJ,fc,rfl,hac2,hst2,hao2⟩:=rQ jF
 have lh:Below w.heap.size w w1:=((Below.refl _ _).al _).tr a_
 have mP:w1.heap[w.heap.size]? = some (.cells #[.int .i64 0,.int .i64 0,.slice none 0 0,.slice none 0 0] 159 (0,0)):=a_.aE (aB _ _ _ rfl)
 have hlt1:aj<w1.heap.size:=Nat.lt_of_lt_of_le cz lh.size
 have hbN:Below w.heap.size w (w1.alloc (.cells #[.int .i64 1,.int .i64 time,.slice eJ A.length fc,.slice none 0 0] 159)):=lh.al _
 have y3:(w1.alloc (.cells #[.int .i64 1,.int .i64 time,.slice eJ A.length fc,.slice none 0 0] 159)).cell? ⟨aj,3,none⟩=some (.slice ea C.length az):=(hbN.cell (p:=⟨aj,3,none⟩) cz).trans r_
 have ia:∀ b,(Value.slice ea C.length az).ownBlock=some b->b<w.heap.size:=fun b hb=>(hE.lt b hb).2
 have oG:∀ b cs t m,w.heap[b]? = some (.cells cs t m)->t≠153->t≠159->¬ (b=aj\/(Value.slice ea C.length az).ownBlock=some b):=fun b cs t m hb h1 h2 hp=>by
  rcases hp with rfl | hp
  ·rw [hw] at hb;injection hb with hb;injection hb with _ hb _;exact h1 hb.symm
  ·obtain ⟨cur,hc⟩:=dG hE hp
   rw [hc] at hb;injection hb with hb;injection hb with _ hb _;exact h2 hb.symm
 have hrowN:∀ a,eJ=some a->w.heap.size+1<=a.block/\∃ cs,w1.heap[a.block]? = some (.cells cs 9 (0,0)):=fun a ha=>by have:=hao2 a ha;simpa using this
 have fin:∀ (num:Int),num=eQ C->∀ (nT:Value) (W':World),W'.heap[aj]? = some (.cells #[.int .i64 ai,rm,.slice no K.length aI,nT,pv] 153 (0,0))->bY W' nT (C++[(⟨num,time,eJ,A.length,fc,none,0,0⟩:bx)])->aY (fun b=>b=aj\/(Value.slice ea C.length az).ownBlock=some b) (w1.alloc (.cells #[.int .i64 num,.int .i64 time,.slice eJ A.length fc,.slice none 0 0] 159)) W'->(∀ b,nT.ownBlock=some b->(Value.slice ea C.length az).ownBlock=some b\/(w1.alloc (.cells #[.int .i64 num,.int .i64 time,.slice eJ A.length fc,.slice none 0 0] 159)).heap.size<=b)->
   ∃ g iw,nT=.slice (some ⟨g,0,none⟩) (C.length+1) iw/\(∀ (i:Nat) c e,C[i]? = some c->E[i]? = some e->cZ W' c e)/\(∀ c∈C,EvT W' c)/\qh W' (⟨num,time,eJ,A.length,fc,none,0,0⟩:bx) (⟨eQ C,time,A,[]⟩:Pe)/\(∀ a,eJ=some a->∃ cs m,W'.heap[a.block]? = some (.cells cs 9 m))/\eB W' no K/\(∀ a,no=some a->∃ cs m,W'.heap[a.block]? = some (.cells cs 226 m))/\W'.heap[w.heap.size]? = some (.cells #[.int .i64 0,.int .i64 0,.slice none 0 0,.slice none 0 0] 159 (0,0))/\w.heap.size≠g/\
   ∀ (sb sc:Nat) (cur:Array Value) (W'':World),W'.heap.size<=sb->W''.heap[sb]? = some (.cells cur 4 (0,0))->aY (fun b=>b=g\/b=w.heap.size) W' W''->bY W'' (.slice (some ⟨g,0,none⟩) (C.length+1) iw) (C++[(⟨num,time,eJ,A.length,fc,none,0,0⟩:bx).cC sb (K.length+1) sc])->cZ W'' ((⟨num,time,eJ,A.length,fc,none,0,0⟩:bx).cC sb (K.length+1) sc) (b9 E.reverse K (⟨eQ C,time,A,[]⟩:Pe).bare)->
    TakePost aj ai rm no aI K ea az pv C E time A w (.returned (gv ((⟨num,time,eJ,A.length,fc,none,0,0⟩:bx).cC sb (K.length+1) sc))) W'':=by
  intro num hnumE nT W' f1 f2 f3 f4
  have hbW:Below w.heap.size w (w1.alloc (.cells #[.int .i64 num,.int .i64 time,.slice eJ A.length fc,.slice none 0 0] 159)):=lh.al _
  have hWs:(w1.alloc (.cells #[.int .i64 num,.int .i64 time,.slice eJ A.length fc,.slice none 0 0] 159)).heap.size=w1.heap.size+1:=by simp
  have o_:∀ b o,w1.heap[b]? = some o->(w1.alloc (.cells #[.int .i64 num,.int .i64 time,.slice eJ A.length fc,.slice none 0 0] 159)).heap[b]? = some o:=fun b o hb=>(Below.heap_alloc _ _ _ (aw hb)).trans hb
  generalize (w1.alloc (.cells #[.int .i64 num,.int .i64 time,.slice eJ A.length fc,.slice none 0 0] 159))=W at *
  have hws:=lh.size
  have hrl:=aw mP
  have sp:aY (fun b=>b=aj\/(Value.slice ea C.length az).ownBlock=some b) w W':=(aY.aL hbW).trans f3
  have el:(C++[(⟨num,time,eJ,A.length,fc,none,0,0⟩:bx)]).length=C.length+1:=by simp
  obtain ⟨g,iw,rfl⟩:∃ g iw,nT=.slice (some ⟨g,0,none⟩) (C.length+1) iw:=by
   rcases f2.cases with ⟨_,h2⟩ | ⟨g,cp,js,_⟩
   ·simp at h2
   ·rw [el] at js;exact ⟨g,cp,js⟩
  have hgt:∃ cg,W'.heap[g]? = some (.cells cg 159 (0,0)):=dG f2 rfl
  obtain ⟨cg,hgt⟩:=hgt
  have hgf:=f4 g rfl
  have hao3:∀ a,eJ=some a->∃ cs m,W'.heap[a.block]? = some (.cells cs 9 m):=fun a ha=>by
   obtain ⟨h1,cs,h2⟩:=hrowN a ha
   refine ⟨cs,(0,0),(f3.block _ (aw (o_ _ _ h2)) (fun hp=>?_)).trans (o_ _ _ h2)⟩
   rcases hp with e | e
   ·omega
   ·have:=ia _ e;omega
  refine ⟨g,iw,rfl,fun i c e h1 h2=>?_,fun c hc=>?_,⟨hnumE,rfl,⟨by show -1000000000000<=time;omega,ht.2⟩,rfl,by show A.length<=_;omega,fun hne=>?_⟩,hao3,hN.spare sp (fun a ha=>?_),fun a ha=>?_,?_,?_,?_⟩
  ·have ht:=hT c (List.mem_of_getElem? h1)
   exact (hIn i c e h1 h2).spare sp (fun a ha=>by obtain ⟨cs,m,k⟩:=ht.so a ha;exact oG _ _ _ _ k (by decide) (by decide)) (fun a ha=>by obtain ⟨cs,m,k⟩:=ht.ao a ha;exact oG _ _ _ _ k (by decide) (by decide))
  ·have ht:=hT c hc
   exact ht.spare sp (fun a ha=>by obtain ⟨cs,m,k⟩:=ht.so a ha;exact oG _ _ _ _ k (by decide) (by decide)) (fun a ha=>by obtain ⟨cs,m,k⟩:=ht.ao a ha;exact oG _ _ _ _ k (by decide) (by decide))
  ·obtain ⟨b,off,h1,h2,h3⟩:=hst2 hne
   obtain ⟨k1,cs,k2⟩:=hrowN _ h1
   have hb:W'.heap[b]? = w1.heap[b]?:=((f3.block b (by omega) (fun hp=>by
    rcases hp with e | e
    ·have:w.heap.size+1<=b:=k1;omega
    ·have:=ia _ e;have:w.heap.size+1<=b:=k1;omega)).trans (o_ b _ k2)).trans k2.symm
   exact ⟨b,off,h1,by have:=f3.size;omega,fun j hj=>by rw [World.cell?_of_block hb];exact h3 j hj⟩
  ·obtain ⟨cs,m,k⟩:=hNt a ha;exact oG _ _ _ _ k (by decide) (by decide)
  ·obtain ⟨cs,m,k⟩:=hNt a ha;exact ⟨cs,m,(sp.block _ (aw k) (oG _ _ _ _ k (by decide) (by decide))).trans k⟩
  ·refine (f3.block _ (by omega) (fun hp=>?_)).trans (o_ _ _ mP)
   rcases hp with e | e
   ·omega
   ·have:=ia _ e;omega
  ·rcases hgf with e | e
   ·have:=ia _ e;omega
   ·omega
  ·intro sb sc cur W'' a1 a2 a3 a4 a5
   have hss:=f3.size
   have hgw:g≠aj:=by rintro rfl;rw [f1] at hgt;cases hgt
   refine ⟨_,_,sb,cur,rfl,rfl,by omega,a2,(a3.block aj (aw f1) (fun hp=>hp.elim (fun e=>hgw e.symm) (fun e=>by omega))).trans f1,a4,a5,⟨fun a ha=>?_,fun a ha=>?_⟩,⟨a3.os.trans sp.os,a3.tape.trans sp.tape,a3.output.trans sp.output,Nat.le_trans sp.size a3.size,fun b hb hp=>(a3.block b (Nat.lt_of_lt_of_le hb sp.size) (fun e=>?_)).trans (sp.block b hb hp)⟩,fun b hb=>?_⟩
   ·have:some (⟨sb,0,none⟩:Addr)=some a:=ha
    cases this
    exact ⟨cur,(0,0),a2⟩
   ·obtain ⟨cs,m,k⟩:=hao3 a ha
    obtain ⟨k1,_⟩:=hrowN a ha
    refine ⟨cs,m,(a3.block _ (aw k) (fun hp=>?_)).trans k⟩
    rcases hp with e | e
    ·rw [e,hgt] at k;cases k
    ·omega
   ·rcases e with e | e
    ·rcases hgf with e2 | e2
     ·exact hp (.inr (e▸e2))
     ·omega
    ·omega
   ·exact (f4 b hb).imp id (fun x=>by omega)
 rcases List.eq_nil_or_concat C with rfl | ⟨C0,cl,rfl⟩
 ·go_wp2_with fail
  refine region5_any _ ?hq5a aj w1.heap.size ai rm (.slice no K.length aI) _ _ pv _ _ time eJ A.length fc _ _ _ _ _ _ _ _ _ _ _ _ _ _ _ _ _ _ _ _ _ _ _ _ _ _ _ _ _ _ _ _ _ _ _ _ _ _ _ _ _ _ _ _ _ _ _ _ _ _ _ _ ((lh.al _).aE hw) (hE.below (lh.al _)) hn hecap ht hr hold (aB _ _ _ rfl) (fun e=>by have:=ia _ e;have:=lh.size;omega) ?_
  case hq5a=>exact fun _ _ d _ _ h=>by cases d<;>exact h
  intro nT W' v41 f1 f2 f3 f4
  obtain ⟨g,iw,rfl,k1,k2,k3,k4,k5,k6,k7,k8,k9⟩:=fin 1 rfl _ _ f1 f2 f3 f4
  go_wp2_with fail
  refine rO _ ?hq6a aj w.heap.size g iw (.int .i64 ai) rm no aI K pv _ _ E _ W' _ _ _ _ _ _ _ _ _ _ _ _ _ _ _ _ _ _ _ _ _ _ _ _ _ _ _ _ _ _ _ _ _ _ _ _ _ _ _ _ _ _ _ _ _ _ _ _ _ _ _ _ f1 f2 hn Hlen.out k1 k2 k3 k4 hK hnc k5 k6 aN hAh bT k7 k8 ?_
  case hq6a=>exact fun _ _ d _ _ h=>by cases d<;>exact h
  intro sb sc cur W'' a1 a2 a3 a4 a5 a6
  have q0:=ae (i:=0) a6 rfl
  have q1:=ae (i:=1) a6 rfl
  have q2:=ae (i:=2) a6 rfl
  have q3:=ae (i:=3) a6 rfl
  have K9:=k9 sb sc cur W'' a1 a2 a3 a4 a5
  clear k1 k2 k3 k4 k5 k6 k7 k9 f1 f2 f3 f4 a1 a2 a3 a4 a5
  go_wp2_with fail
  refine ⟨rfl,_,?_,K9⟩
  simp [results,Tryz.f87,go_sem,loadVar,gv,bx.cC,q0,q1,q2,q3]
 ·rw [List.concat_eq_append] at *
  have om:(C0++[cl])[C0.length]? = some cl:=by simp
  have hlen1:(C0++[cl]).length=C0.length+1:=by simp
  rcases hE.cases with ⟨_,h2⟩ | ⟨g0,cp,js,_,_,hgl⟩
  ·simp at h2
  cases js
  have hq:=hE.cell (k:=0) om rfl
  have y0:(w1.alloc (.cells #[.int .i64 1,.int .i64 time,.slice eJ A.length fc,.slice none 0 0] 159)).cell? ⟨g0,C0.length*4,none⟩=some (.int .i64 cl.number):=(hbN.cell (p:=⟨g0,C0.length*4,none⟩) hgl).trans hq
  have hnb:=lq cl (by simp)
  have hnn:cl.number+1=eQ (C0++[cl]):=by simp [eQ]
  rw [hlen1] at y3
  go_wp2_with fail
  refine region5_any _ ?hq5b aj w1.heap.size ai rm (.slice no K.length aI) _ _ pv _ _ time eJ A.length fc _ _ _ _ _ _ _ _ _ _ _ _ _ _ _ _ _ _ _ _ _ _ _ _ _ _ _ _ _ _ _ _ _ _ _ _ _ _ _ _ _ _ _ _ _ _ _ _ _ _ _ _ ((lh.al _).aE hw) (hE.below (lh.al _)) hn hecap ht hr hold (aB _ _ _ rfl) (fun e=>by have:=ia _ e;have:=lh.size;omega) ?_
  case hq5b=>exact fun _ _ d _ _ h=>by cases d<;>exact h
  intro nT W' v41 f1 f2 f3 f4
  obtain ⟨g,iw,rfl,k1,k2,k3,k4,k5,k6,k7,k8,k9⟩:=fin (eQ (C0++[cl])) rfl _ _ f1 f2 f3 f4
  go_wp2_with fail
  refine rO _ ?hq6b aj w.heap.size g iw (.int .i64 ai) rm no aI K pv _ _ E _ W' _ _ _ _ _ _ _ _ _ _ _ _ _ _ _ _ _ _ _ _ _ _ _ _ _ _ _ _ _ _ _ _ _ _ _ _ _ _ _ _ _ _ _ _ _ _ _ _ _ _ _ _ f1 f2 hn Hlen.out k1 k2 k3 k4 hK hnc k5 k6 aN hAh bT k7 k8 ?_
  case hq6b=>exact fun _ _ d _ _ h=>by cases d<;>exact h
  intro sb sc cur W'' a1 a2 a3 a4 a5 a6
  have q0:=ae (i:=0) a6 rfl
  have q1:=ae (i:=1) a6 rfl
  have q2:=ae (i:=2) a6 rfl
  have q3:=ae (i:=3) a6 rfl
  have K9:=k9 sb sc cur W'' a1 a2 a3 a4 a5
  clear k1 k2 k3 k4 k5 k6 k7 k9 f1 f2 f3 f4 a1 a2 a3 a4 a5
  go_wp2_with fail
  refine ⟨rfl,_,?_,K9⟩
  simp [results,Tryz.f87,go_sem,loadVar,gv,bx.cC,q0,q1,q2,q3]
end Ev
namespace Lf
open Go Go.Conc
variable {P : Program} {main : Bool} {R : (Nat → Prop) → World → World → Prop} {D : (Nat → Prop) → World → World → Array Event → Prop}
def grow (S:Nat->Prop) (w w':World):Nat->Prop:=fun b=>S b\/(w.heap.size<=b/\b<w'.heap.size)
theorem l7 (S:Nat->Prop) {w w':World} (h:w'.heap.size=w.heap.size):grow S w w'=S:=by
 funext b
 exact propext ⟨fun h'=>h'.elim id fun x=>absurd x.2 (by omega),.inl⟩
@[simp] theorem aD (S:Nat->Prop) (w:World):grow S w w=S:=l7 S rfl
structure dh (R:(Nat->Prop)->World->World->Prop) (D:(Nat->Prop)->World->World->Array Event->Prop):Prop where
 trans:∀ S a b c,R S a b->R S b c->R S a c
 idle:∀ S w,D S w w #[]
 draw:∀ S w,D S w { w with drawn:=w.drawn+1 } #[]
inductive RT (P:Program) (main:Bool) (R:(Nat->Prop)->World->World->Prop) (D:(Nat->Prop)->World->World->Array Event->Prop) (Stop:(Nat->Prop)->Goroutine->World->Prop):(Nat->Prop)->Goroutine->World->Prop
 | stop {S:Nat->Prop} {g:Goroutine} {w:World}:(∀ w₁,R S w w₁->Stop S g w₁)->RT P main R D Stop S g w
 | step {S:Nat->Prop} {g:Goroutine} {w:World} (f:World->Goroutine×World×Array Event):g.status=.running->(∀ w₁,R S w w₁->stepG P main g w₁=.go (f w₁).1 (f w₁).2.1 (f w₁).2.2/\D S w₁ (f w₁).2.1 (f w₁).2.2)->
   (∀ w₁,R S w w₁->RT P main R D Stop (grow S w₁ (f w₁).2.1) (f w₁).1 (f w₁).2.1)->RT P main R D Stop S g w
theorem RT.one {Stop:(Nat->Prop)->Goroutine->World->Prop} {S:Nat->Prop} {g:Goroutine} {w:World} (hs:g.status=.running) (h:∀ w₁,R S w w₁->(stepG P main g w₁).goes fun g' w' es=>D S w₁ w' es/\RT P main R D Stop (grow S w₁ w') g' w'):RT P main R D Stop S g w:=by
 have key:∀ w₁,R S w w₁->∃ x:Goroutine×World×Array Event,stepG P main g w₁=.go x.1 x.2.1 x.2.2/\D S w₁ x.2.1 x.2.2/\RT P main R D Stop (grow S w₁ x.2.1) x.1 x.2.1:=by
  intro w₁ h₁
  have:=h w₁ h₁
  revert this
  cases hx:stepG P main g w₁<;>simp only [GStep.goes,false_imp_iff]
  rename_i g' w' es
  exact fun ⟨d,r⟩=>⟨(g',w',es),rfl,d,r⟩
 have key':∀ w₁,∃ x:Goroutine×World×Array Event,R S w w₁->stepG P main g w₁=.go x.1 x.2.1 x.2.2/\D S w₁ x.2.1 x.2.2/\RT P main R D Stop (grow S w₁ x.2.1) x.1 x.2.1:=by
  intro w₁
  by_cases hr:R S w w₁
  ·obtain ⟨x,hx⟩:=key w₁ hr;exact ⟨x,fun _=>hx⟩
  ·exact ⟨(g,w,#[]),fun h=>absurd h hr⟩
 refine .step (fun w₁=>Classical.choose (key' w₁)) hs (fun w₁ h₁=>?_) (fun w₁ h₁=>?_)
 ·exact ⟨(Classical.choose_spec (key' w₁) h₁).1,(Classical.choose_spec (key' w₁) h₁).2.1⟩
 ·exact (Classical.choose_spec (key' w₁) h₁).2.2
theorem RT.rely (T:dh R D) {Stop:(Nat->Prop)->Goroutine->World->Prop} {S:Nat->Prop} {g:Goroutine} {w w₁:World} (h:RT P main R D Stop S g w) (hr:R S w w₁):RT P main R D Stop S g w₁:=by
 cases h with
 | stop h=>exact .stop fun bF h₂=>h bF (T.trans _ _ _ _ hr h₂)
 | step f hs h h'=>exact .step f hs (fun bF h₂=>h bF (T.trans _ _ _ _ hr h₂)) (fun bF h₂=>h' bF (T.trans _ _ _ _ hr h₂))
section
variable {Stop : (Nat → Prop) → Goroutine → World → Prop} {S : Nat → Prop} {b : Frame} {a : Act} {k : List Item} {cs : List Frame} {w : World}
theorem RT.skip (T:dh R D) (h:RT P main R D Stop S (G (b.at a k) cs) w):RT P main R D Stop S (G (b.at a (.code .skip::k)) cs) w:=.one rfl fun w₁ h₁=>by rw [stepG_skip];rw [goes_go,aD];exact ⟨T.idle _ _,h.rely T h₁⟩
theorem RT.seq (T:dh R D) {x y:Code} (h:RT P main R D Stop S (G (b.at a (.code x::.code y::k)) cs) w):RT P main R D Stop S (G (b.at a (.code (.seq x y)::k)) cs) w:=.one rfl fun w₁ h₁=>by rw [stepG_seq];rw [goes_go,aD];exact ⟨T.idle _ _,h.rely T h₁⟩
theorem RT.cond (T:dh R D) {c:Operand} {x y:Code} (t:Bool) (hc:a.eval c=.bool t) (h:RT P main R D Stop S (G (b.at a (.code (if t then x else y)::k)) cs) w):RT P main R D Stop S (G (b.at a (.code (.cond c x y)::k)) cs) w:=.one rfl fun w₁ h₁=>by rw [stepG_cond hc];rw [goes_go,aD];exact ⟨T.idle _ _,h.rely T h₁⟩
theorem RT.block (T:dh R D) {id:Nat} {c:Code} (h:RT P main R D Stop S (G (b.at a (.code c::.inBlock id::k)) cs) w):RT P main R D Stop S (G (b.at a (.code (.block id c)::k)) cs) w:=.one rfl fun w₁ h₁=>by rw [stepG_block];rw [goes_go,aD];exact ⟨T.idle _ _,h.rely T h₁⟩
theorem RT.inBlock (T:dh R D) {id:Nat} (h:RT P main R D Stop S (G (b.at a k) cs) w):RT P main R D Stop S (G (b.at a (.inBlock id::k)) cs) w:=.one rfl fun w₁ h₁=>by rw [stepG_inBlock];rw [goes_go,aD];exact ⟨T.idle _ _,h.rely T h₁⟩
theorem RT.loop (T:dh R D) {c:Code} (h:RT P main R D Stop S (G (b.at a (.code c::.inLoop c::k)) cs) w):RT P main R D Stop S (G (b.at a (.code (.loop c)::k)) cs) w:=.one rfl fun w₁ h₁=>by rw [stepG_loop];rw [goes_go,aD];exact ⟨T.idle _ _,h.rely T h₁⟩
theorem RT.inLoop (T:dh R D) {c:Code} (h:RT P main R D Stop S (G (b.at a (.code c::.inLoop c::k)) cs) w):RT P main R D Stop S (G (b.at a (.inLoop c::k)) cs) w:=.one rfl fun w₁ h₁=>by rw [stepG_inLoop];rw [goes_go,aD];exact ⟨T.idle _ _,h.rely T h₁⟩
theorem RT.exit (T:dh R D) {id:Nat} {k':List Item} (hk:exitTo id k=some k') (h:RT P main R D Stop S (G (b.at a k') cs) w):RT P main R D Stop S (G (b.at a (.code (.exit id)::k)) cs) w:=.one rfl fun w₁ h₁=>by rw [stepG_exit hk];rw [goes_go,aD];exact ⟨T.idle _ _,h.rely T h₁⟩
theorem RT.ret (T:dh R D) (h:RT P main R D Stop S (G { b.at a (.code .ret::k) with mode:=.returning } cs) w):RT P main R D Stop S (G (b.at a (.code .ret::k)) cs) w:=.one rfl fun w₁ h₁=>by rw [stepG_ret'];rw [goes_go,aD];exact ⟨T.idle _ _,h.rely T h₁⟩
theorem RT.ends (T:dh R D) (h:RT P main R D Stop S (G { b.at a [] with mode:=.returning } cs) w):RT P main R D Stop S (G (b.at a []) cs) w:=.one rfl fun w₁ h₁=>by rw [stepG_end];rw [goes_go,aD];exact ⟨T.idle _ _,h.rely T h₁⟩
theorem RT.region (T:dh R D) {id:Nat} {ops:Array Oper} (h:RT P main R D Stop S (G (b.at a (.inRegion ops (List.range ops.size)::k)) cs) w):RT P main R D Stop S (G (b.at a (.code (.region id ops false)::k)) cs) w:=.one rfl fun w₁ h₁=>by rw [stepG_region];rw [goes_go,aD];exact ⟨T.idle _ _,h.rely T h₁⟩
theorem RT.nil (T:dh R D) {ops:Array Oper} (h:RT P main R D Stop S (G (b.at a k) cs) w):RT P main R D Stop S (G (b.at a (.inRegion ops []::k)) cs) w:=.one rfl fun w₁ h₁=>by rw [stepG_region_end];rw [goes_go,aD];exact ⟨T.idle _ _,h.rely T h₁⟩
theorem RT.draw (T:dh R D) {id:Nat} {ops:Array Oper} (h:∀ w₁,R S w w₁->∀ t,RT P main R D Stop S (G (b.at a (.inRegion ops (Region.schedule (P.follows .mixedOrders) ops t)::k)) cs) { w₁ with drawn:=w₁.drawn+1 }):RT P main R D Stop S (G (b.at a (.code (.region id ops true)::k)) cs) w:=.one rfl fun w₁ h₁=>by rw [stepG_region_draw];rw [goes_go,l7 S (w:=w₁) (w':={ w₁ with drawn:=w₁.drawn+1 }) rfl];exact ⟨T.draw _ _,h w₁ h₁ _⟩
theorem RT.op {ops:Array Oper} {i:Nat} {rest:List Nat} {o:Oper} (ho:ops[i]? = some o) (hw:Region.wanted o (yielded ops a.tmps)=true) (hk:b.kind≠.early)
  (h:∀ w₁,R S w w₁->∀ K:Act->World->Prop,(∀ a' w',D S w₁ w' (listed P b.fn a o w₁)/\RT P main R D Stop (grow S w₁ w') (G (b.at a' (.inRegion ops rest::k)) cs) w'->K a' w')->uponK o a K ((execOp a.eval o).run P w₁)) :
  RT P main R D Stop S (G (b.at a (.inRegion ops (i::rest)::k)) cs) w:=by
 refine .one rfl fun w₁ h₁=>goes_oper ho hw hk ?_
 have:=h w₁ h₁ _ (fun _ _ x=>x)
 revert this
 cases (execOp a.eval o).run P w₁ with
 | ok x w'=>cases x<;>first | exact fun ⟨d,g⟩=>⟨d,g⟩ | exact id
 | halt _ _=>exact id
def ic (P:Program) (main:Bool) (R:(Nat->Prop)->World->World->Prop) (D:(Nat->Prop)->World->World->Array Event->Prop) (f:FuncId) (args:Array Value) (S:Nat->Prop) (w:World) (Post:Value->(Nat->Prop)->World->Prop):Prop :=
 ∀ (Stop:(Nat->Prop)->Goroutine->World->Prop) (c:Frame) (cs:List Frame),(∀ v S' w',Post v S' w'->RT P main R D Stop S' (G (c.finish v) cs) w')->RT P main R D Stop S (G (Frame.enter P f args .normal) (c::cs)) w
theorem ic.mono {f:FuncId} {args:Array Value} {S:Nat->Prop} {w:World} {Post Post':Value->(Nat->Prop)->World->Prop} (h:ic P main R D f args S w Post) (hp:∀ v S w,Post v S w->Post' v S w):ic P main R D f args S w Post' :=
 fun Stop c cs hk=>h Stop c cs fun v S' w' x=>hk v S' w' (hp v S' w' x)
theorem RT.call (T:dh R D) {ops:Array Oper} {i:Nat} {rest:List Nat} {o:Oper} {f:FuncId} {fn:Func} {args:Array Operand} {ats:Array TypeId} {Post:Value->(Nat->Prop)->World->Prop} (ho:ops[i]? = some o) (hw:Region.wanted o (yielded ops a.tmps)=true) (hk:b.kind≠.early) (aN:o.op=.call { callee:=.value (.func f),args,argTypes:=ats })
  (hf:P.funcs[f]? = some fn) (u0:(fn.name== "runtime.NumGoroutine")=false) (hb:fn.body.isNone=false)
  (hcall:∀ w₁,R S w w₁->ic P main R D f (args.map a.eval) S w₁ Post) (hnext:∀ v S' w',Post v S' w'->RT P main R D Stop S' (G (b.at (a.put o.dst v) (.inRegion ops rest::k)) cs) w') :
  RT P main R D Stop S (G (b.at a (.inRegion ops (i::rest)::k)) cs) w:=by
 have bH:∀ v,(b.at a (.inRegion ops (i::rest)::k)).finish v=b.at (a.put o.dst v) (.inRegion ops rest::k):=fun v=>by rw [Frame.finish_at,ho];rfl
 refine .one rfl fun w₁ h₁=>?_
 have hl:listed P b.fn a o w₁=#[]:=by unfold listed;rw [events_call_body aN hf u0 hb];exact seen_none P _
 rw [stepG_enter ho hw hk (run_call_body aN hf u0 hb),hl]
 refine ⟨T.idle _ _,by rw [aD];exact hcall w₁ h₁ Stop _ cs fun v S' w' x=>by rw [bH];exact hnext v S' w' x⟩
theorem stepG_leaveE {fn:Func} {todo:List Item} {c:Frame} {v:Value} (hn:b.kind=.normal) (hd:a.defers=[]) (hf:P.funcs[b.fn]? = some fn) (hr:(results fn a.tmps).run P w=.ok v w) :
  stepG P main (G { b.at a todo with mode:=.returning } (c::cs)) w=.go (G (c.finish v) cs) w (seen P b.fn ((results fn a.tmps).events P w #[])):=by
 simp [G,stepG,unwind,doReturn,Frame.at,hn,hd,hf,hr,GStep.after]
theorem RT.leave (T:dh R D) {fn:Func} {todo:List Item} {c:Frame} {v:Value} (hn:b.kind=.normal) (hd:a.defers=[]) (hf:P.funcs[b.fn]? = some fn) (hr:∀ w₁,R S w w₁->(results fn a.tmps).run P w₁=.ok v w₁/\D S w₁ w₁ (seen P b.fn ((results fn a.tmps).events P w₁ #[])))
  (h:RT P main R D Stop S (G (c.finish v) cs) w):RT P main R D Stop S (G { b.at a todo with mode:=.returning } (c::cs)) w :=
 .one rfl fun w₁ h₁=>by rw [stepG_leaveE hn hd hf (hr w₁ h₁).1];rw [goes_go,aD];exact ⟨(hr w₁ h₁).2,h.rely T h₁⟩
end
end Lf
namespace Lf
open Go Go.Conc
structure TI (hc:Prop) (κ B:Nat) (CA CB:Touch->Prop) (t:Trace):Prop where
 clean:∀ said,¬ Race said t
 zero:∀ i a,touchAt t i=some a->a.loc.isMemory=true->Knows t 0 i\/(t.g? i=some κ/\CB a)
 child:∀ i a,touchAt t i=some a->a.loc.isMemory=true->Knows t κ i\/CA a
 over:∀ i g,t.g? i=some g->g≠0->g≠κ->t.counts i->∃ j,t.g? j=some 0/\HappensBefore t i j
 hears:Deaf t 0=0
 rA:hc->Deaf t κ=0
 seen:∀ op∈t,op.act.low B
def ApartT (CA CB:Touch->Prop):Prop:=∀ a b said,CA a->CB b->¬ a.conflicts said b/\¬ b.conflicts said a
section
variable {hc : Prop} {κ B : Nat} {CA CB : Touch → Prop} {t u : Trace}
theorem TI.mono {B':Nat} {CA' CB':Touch->Prop} (h:TI hc κ B CA CB t) (hB:B<=B') (h1:∀ a,CA a->CA' a) (h2:∀ a,CB a->CB' a):TI hc κ B' CA' CB' t :=
 ⟨h.clean,fun i a x y=>(h.zero i a x y).imp id fun z=>⟨z.1,h2 _ z.2⟩,fun i a x y=>(h.child i a x y).imp id (h1 _),h.over,h.hears,h.rA,fun op aN=>MemAct.low_mono hB (h.seen op aN)⟩
theorem over_app {t u:Trace} {κ:Nat} (h:∀ i g,t.g? i=some g->g≠0->g≠κ->t.counts i->∃ j,t.g? j=some 0/\HappensBefore t i j) (hu:∀ op∈u,op.g=0\/op.g=κ\/op.act.touch? = none) :
  ∀ i g,(t++u).g? i=some g->g≠0->g≠κ->(t++u).counts i->∃ j,(t++u).g? j=some 0/\HappensBefore (t++u) i j:=by
 intro i g hg hne hk hc
 obtain ⟨x,hx,_⟩:=hc
 obtain ⟨op,aN,hox⟩:=touch_of hx
 rcases getElem?_append_cases aN with ⟨hi,hop'⟩ | ⟨_,hopu⟩
 ·obtain ⟨j,hj,hb⟩:=h i g (by simpa [Trace.g?,getElem?_append_old hi] using hg) hne hk ((counts_old hi).1 ⟨x,hx,‹_›⟩)
  have hjl:j<t.size:=by
   unfold Trace.g? at hj
   obtain ⟨z,hz,_⟩:=Option.map_eq_some_iff.1 hj
   exact lt_size_of_getElem? hz
  exact ⟨j,by simpa [Trace.g?,getElem?_append_old hjl] using hj,hb_app u hb⟩
 ·have hgo:op.g=g:=by simpa [Trace.g?,aN] using hg
  rcases hu op hopu with h0 | h0 | h0
  ·exact absurd (hgo.symm.trans h0) hne
  ·exact absurd (hgo.symm.trans h0) hk
  ·rw [h0] at hox;cases hox
theorem g?_lt {t:Trace} {i g:Nat} (h:t.g? i=some g):i<t.size:=by
 unfold Trace.g? at h
 obtain ⟨z,hz,_⟩:=Option.map_eq_some_iff.1 h
 exact lt_size_of_getElem? hz
theorem g?_app {t u:Trace} {i g:Nat} (h:t.g? i=some g):(t++u).g? i=some g:=by rw [g?_old (g?_lt h)];exact h
theorem TI.weak (h:TI hc κ B CA CB t):TI False κ B CA CB t:=⟨h.clean,h.zero,h.child,h.over,h.hears,fun x=>x.elim,h.seen⟩
theorem TI.app0 (oL:κ≠0) (hA:ApartT CA CB) (h:TI hc κ B CA CB t) (hu:∀ op∈u,op.g=0) (om:∀ op∈u,∀ b,op.act.touch? = some b->b.loc.isMemory=true->CA b) (hd:Deaf (t++u) 0=0) (hl:∀ op∈u,op.act.low B):TI hc κ B CA CB (t++u):=by
 refine ⟨fun said=>noRace_append (h.clean said) hu fun i a ha op aN b hb hcf=>?_,fun i a ha hm=>?_,fun i a ha hm=>?_,over_app h.over fun op aN=>.inl (hu op aN),hd,fun x=>(Deaf_other t (Ne.symm oL) u hu).trans (h.rA x),seen_app h.seen hl⟩
 ·rcases h.zero i a ha hcf.2.1 with hk | ⟨_,hb'⟩
  ·exact hk
  ·exact absurd hcf (hA b a said (om op aN b hb (hcf.1▸hcf.2.1)) hb').2
 ·obtain ⟨x,hx,qz⟩:=touch_of ha
  rcases getElem?_append_cases hx with ⟨_,hx'⟩ | ⟨_,hxu⟩
  ·exact (h.zero i a (by rw [touchAt_of hx'];exact qz) hm).imp (·.app u) fun z=>⟨g?_app z.1,z.2⟩
  ·have:=knows_own hx
   rw [hu x hxu] at this
   exact .inl this
 ·obtain ⟨x,hx,qz⟩:=touch_of ha
  rcases getElem?_append_cases hx with ⟨_,hx'⟩ | ⟨_,hxu⟩
  ·exact (h.child i a (by rw [touchAt_of hx'];exact qz) hm).imp (·.app u) id
  ·exact .inr (om x hxu a qz hm)
theorem TI.appC (oL:κ≠0) (hA:ApartT CA CB) (h:TI hc κ B CA CB t) (hu:∀ op∈u,op.g=κ) (om:∀ op∈u,∀ b,op.act.touch? = some b->b.loc.isMemory=true->CB b) (hd:hc->Deaf (t++u) κ=0) (hl:∀ op∈u,op.act.low B):TI hc κ B CA CB (t++u):=by
 refine ⟨fun said=>noRace_append (h.clean said) hu fun i a ha op aN b hb hcf=>?_,fun i a ha hm=>?_,fun i a ha hm=>?_,over_app h.over fun op aN=>.inr (.inl (hu op aN)),(Deaf_other t oL u hu).trans h.hears,hd,seen_app h.seen hl⟩
 ·rcases h.child i a ha hcf.2.1 with hk | ha'
  ·exact hk
  ·exact absurd hcf (hA a b said ha' (om op aN b hb (hcf.1▸hcf.2.1))).1
 ·obtain ⟨x,hx,qz⟩:=touch_of ha
  rcases getElem?_append_cases hx with ⟨_,hx'⟩ | ⟨_,hxu⟩
  ·exact (h.zero i a (by rw [touchAt_of hx'];exact qz) hm).imp (·.app u) fun z=>⟨g?_app z.1,z.2⟩
  ·exact .inr ⟨by simp [Trace.g?,hx,hu x hxu],om x hxu a qz hm⟩
 ·obtain ⟨x,hx,qz⟩:=touch_of ha
  rcases getElem?_append_cases hx with ⟨_,hx'⟩ | ⟨_,hxu⟩
  ·exact (h.child i a (by rw [touchAt_of hx'];exact qz) hm).imp (·.app u) id
  ·have:=knows_own hx
   rw [hu x hxu] at this
   exact .inl this
theorem TI.appMute (h:TI hc κ B CA CB t) (hn:∀ op∈u,op.act.touch? = none) (hd0:Deaf (t++u) 0=0) (hdκ:hc->Deaf (t++u) κ=0) (hl:∀ op∈u,op.act.low B):TI hc κ B CA CB (t++u):=by
 refine ⟨fun said=>?_,fun i a ha hm=>?_,fun i a ha hm=>?_,over_app h.over fun op aN=>.inr (.inr (hn op aN)),hd0,hdκ,seen_app h.seen hl⟩
 ·rintro ⟨i,j,hij,⟨a,b,ha,hb,hc⟩,n1,n2⟩
  obtain ⟨x,hx,qz⟩:=touch_of ha
  obtain ⟨y,hy,hyb⟩:=touch_of hb
  rcases getElem?_append_cases hy with ⟨hj,hy'⟩ | ⟨_,hyu⟩
  ·have hi:i<t.size:=Nat.lt_trans hij hj
   have hx':t[i]? = some x:=by rw [<- getElem?_append_old (u:=u) hi];exact hx
   exact h.clean said ⟨i,j,hij,⟨a,b,by simp [Trace.act?,hx',qz],by simp [Trace.act?,hy',hyb],hc⟩,fun e=>n1 (hb_app u e),fun e=>n2 (hb_app u e)⟩
  ·rw [hn y hyu] at hyb;cases hyb
 ·obtain ⟨x,hx,qz⟩:=touch_of ha
  rcases getElem?_append_cases hx with ⟨_,hx'⟩ | ⟨_,hxu⟩
  ·exact (h.zero i a (by rw [touchAt_of hx'];exact qz) hm).imp (·.app u) fun z=>⟨g?_app z.1,z.2⟩
  ·rw [hn x hxu] at qz;cases qz
 ·obtain ⟨x,hx,qz⟩:=touch_of ha
  rcases getElem?_append_cases hx with ⟨_,hx'⟩ | ⟨_,hxu⟩
  ·exact (h.child i a (by rw [touchAt_of hx'];exact qz) hm).imp (·.app u) id
  ·rw [hn x hxu] at qz;cases qz
theorem TI.fork (h:Past (fun _=>False) B t) (hk:Deaf t κ=0) {x y:MemOp} (hx:x.g=0/\x.act=.go κ) (hy:y.g=κ/\y.act=.start):TI hc κ B CA CB (t++#[x,y]):=by
 have hn:∀ op∈(#[x,y]:Trace),op.act.touch? = none:=by
  intro op aN
  simp at aN
  rcases aN with rfl | rfl
  ·rw [hx.2];rfl
  ·rw [hy.2];rfl
 have hd:∀ g,Deaf t g=0->Deaf (t++#[x,y]) g=0:=by
  intro g hg
  have e:(t++#[x,y]:Trace)=t++[x,y].toArray:=rfl
  rw [e,Deaf_append]
  simp [deafStep,hx.2,hy.2,hg]
 have base:TI hc κ B (fun _=>True) CB t:=⟨h.clean,fun i a ha hm=>.inl ((h.known i a ha hm).resolve_right fun z=>z.1.elim),fun _ _ _ _=>.inr trivial,fun i g h1 h2 _ h4=>h.over i g h1 h2 h4,h.hears,fun _=>hk,h.seen⟩
 have h2:=base.appMute hn (hd 0 h.hears) (fun _=>hd κ hk) (fun op aN=>by
  simp at aN
  rcases aN with rfl | rfl
  ·rw [hx.2];trivial
  ·rw [hy.2];trivial)
 refine ⟨h2.clean,h2.zero,fun i a ha hm=>?_,h2.over,h2.hears,h2.rA,h2.seen⟩
 obtain ⟨z,hz,hza⟩:=touch_of ha
 rcases getElem?_append_cases hz with ⟨_,hz'⟩ | ⟨_,hzu⟩
 ·exact .inl (Go.ConcN.fork_knows hx hy h.hears hk ((h.known i a (by rw [touchAt_of hz'];exact hza) hm).resolve_right fun z=>z.1.elim))
 ·rw [hn z hzu] at hza;cases hza
def Shut (κ c:Nat) (t:Trace):Prop:=∃ pc,t.act? pc=some (.close c)/\t.g? pc=some κ/\t.heard pc/\∀ i a,touchAt t i=some a->t.g? i=some κ->i<pc
theorem Shut.app {c:Nat} (h:Shut κ c t) (hu:∀ op∈u,op.g=κ->op.act.touch? = none):Shut κ c (t++u):=by
 obtain ⟨pc,h1,h2,h3,h4⟩:=h
 have cz:=g?_lt h2
 refine ⟨pc,by rw [act?_old cz];exact h1,g?_app h2,(heard_old cz).2 h3,fun i a ha hg=>?_⟩
 obtain ⟨x,hx,qz⟩:=touch_of ha
 rcases getElem?_append_cases hx with ⟨hi,hx'⟩ | ⟨_,hxu⟩
 ·exact h4 i a (by rw [touchAt_of hx'];exact qz) (by rw [g?_old hi] at hg;exact hg)
 ·have:x.g=κ:=by simpa [Trace.g?,hx] using hg
  rw [hu x hxu this] at qz;cases qz
theorem TI.join (oL:κ≠0) {c:Nat} (h:TI hc κ B CA CB t) (hs:Shut κ c t) {y:MemOp} (hy:y.g=0/\y.act=.recvClosed c) (hB:c<B):Past (fun _=>False) B (t++#[y]):=by
 have hlast:(t++#[y])[t.size]? = some y:=by rw [Array.getElem?_append_right (Nat.le_refl _)];simp
 have hd:∀ g,Deaf t g=0->Deaf (t++#[y]) g=0:=by
  intro g hg
  rw [Deaf_push]
  simp [deafStep,hy.2,hg]
 have hn:∀ op∈(#[y]:Trace),op.act.touch? = none:=by
  intro op aN
  simp at aN
  subst aN
  rw [hy.2];rfl
 have h2:=h.appMute hn (hd 0 h.hears) (fun x=>hd κ (h.rA x)) (fun op aN=>by simp at aN;subst aN;rw [hy.2];exact hB)
 obtain ⟨pc,s1,s2,s3,s4⟩:=hs
 have cz:=g?_lt s2
 have edge:HappensBefore (t++#[y]) pc t.size:=.single (.inr ⟨.closed (c:=c) (by rw [act?_old cz];exact s1) (by rw [act?_of hlast,hy.2]),(heard_old cz).2 s3,⟨0,by simp [Trace.g?,hy.1],by rw [deaf_old (Nat.le_refl _)];exact h.hears⟩⟩)
 have from_child:∀ i a,touchAt (t++#[y]) i=some a->(t++#[y]).g? i=some κ->HappensBefore (t++#[y]) i t.size:=by
  intro i a ha hg
  obtain ⟨x,hx,qz⟩:=touch_of ha
  rcases getElem?_append_cases hx with ⟨hi,hx'⟩ | ⟨_,hxu⟩
  ·have hip:=s4 i a (by rw [touchAt_of hx'];exact qz) (by rw [g?_old hi] at hg;exact hg)
   obtain ⟨z,hz,hzg⟩:=Option.map_eq_some_iff.1 (show (t[pc]?).map (·.g)=some κ from s2)
   have hxg:x.g=κ:=by unfold Trace.g? at hg;rw [hx] at hg;exact Option.some.inj hg
   exact (hb_po hip hx (by rw [getElem?_append_old cz];exact hz) (hxg.trans hzg.symm)).trans edge
  ·rw [hn x hxu] at qz;cases qz
 refine ⟨h2.clean,fun i a ha hm=>?_,fun i g hg hne hc=>?_,h2.hears,h2.seen⟩
 ·rcases h2.zero i a ha hm with hk | ⟨hg,_⟩
  ·exact .inl hk
  ·exact .inl ⟨t.size,y,hlast,hy.1,.inr (from_child i a ha hg)⟩
 ·by_cases hgk:g=κ
  ·subst hgk
   obtain ⟨x,hx,_⟩:=hc
   exact ⟨t.size,by simp [Trace.g?,hy.1],from_child i x hx hg⟩
  ·exact h2.over i g hg hne hgk hc
end
end Lf
namespace Lf
open Go Go.Conc
def re (w:World) (τ:Tape) (d:Nat):World:={ w with tape:=τ,drawn:=d }
def Alike (w:World) (m:Nat) (τ:Tape) (d:Nat):Prop:=∀ j,j<m->τ (d+j)=w.tape (w.drawn+j)
theorem re_re (w:World) (τ vX:Tape) (d d':Nat):re (re w τ d) vX d'=re w vX d':=rfl
theorem re_self (w:World):re w w.tape w.drawn=w:=rfl
theorem re_freeze (w:World) (τ:Tape) (d:Nat) (a:Addr) (n:Nat):(re w τ d).freeze a n=re (w.freeze a n) τ d:=by unfold World.freeze;split<;>rfl
def reX (τ:Tape) (d:Nat):Except Halt (World×List Addr)->Except Halt (World×List Addr)
 | .ok (w,l)=>.ok (re w τ d,l)
 | .error h=>.error h
def reE (τ:Tape) (d:Nat):Except String (World×List Addr)->Except String (World×List Addr)
 | .ok (w,l)=>.ok (re w τ d,l)
 | .error h=>.error h
theorem re_viewStore (p:Program) (w:World) (τ:Tape) (d:Nat) (at_:Addr) (u:TypeId) (k:Addr) (v:Value) (b:Bool) :
  (re w τ d).viewStore p at_ u k v b=reE τ d (w.viewStore p at_ u k v b):=by
 unfold World.viewStore
 have hs:World.seen p (re w τ d) at_ u k b=World.seen p w at_ u k b:=rfl
 rw [hs]
 simp only [re,bind,Except.bind,pure,Except.pure,MonadExcept.throw,throwThe,MonadExceptOf.throw]
 split
 ·rfl
 ·cases World.seen p w at_ u k b with
  | error e=>rfl
  | ok x =>
   obtain ⟨c,e,frozen,first,like,cells⟩:=x
   simp only []
   split
   ·split
    ·rfl
    ·split
     ·rfl
     ·rfl
   ·rfl
theorem re_farStore (p:Program) (w:World) (τ:Tape) (d:Nat) (a:Addr) (v:Value) (b:Bool) :
  (re w τ d).farStore p a v b=reX τ d (w.farStore p a v b):=by
 unfold World.farStore
 have hh:(re w τ d).heap=w.heap:=rfl
 have hn:(re w τ d).noCell a "store: no such cell"=w.noCell a "store: no such cell":=rfl
 rw [hh,hn]
 split
 ·rename_i at_ u _
  rw [re_viewStore]
  cases World.viewStore p w at_ u a v b with
  | error e=>rfl
  | ok x=>rfl
 ·rfl
theorem farStore_keeps {p:Program} {w w':World} {a:Addr} {v:Value} {b:Bool} {t:List Addr} (h:w.farStore p a v b=.ok (w',t)):w'.tape=w.tape/\w'.drawn=w.drawn:=by
 have:=re_farStore p w w.tape w.drawn a v b
 rw [re_self,h] at this
 simp only [reX,Except.ok.injEq,Prod.mk.injEq,and_true] at this
 rw [this];exact ⟨rfl,rfl⟩
theorem ask_alike {α:Type} (a:Ask α):∀ w:World,∃ m,(w.ask a).2=re (w.ask a).2 w.tape (w.drawn+m)/\
  ∀ τ d,Alike w m τ d->(re w τ d).ask a=((w.ask a).1,re (w.ask a).2 τ (d+m)):=by
 induction a with
 | done a=>exact fun w=>⟨0,rfl,fun τ d _=>rfl⟩
 | ask what range k ih =>
  intro w
  by_cases hf:(Question.extern what range).forced=true
  ·obtain ⟨m,h1,h2⟩:=ih 0 w
   refine ⟨m,?_,fun τ d h=>?_⟩
   ·simp only [World.ask,hf,if_true];exact h1
   ·simp only [World.ask,hf,if_true];exact h2 τ d h
  ·obtain ⟨m,h1,h2⟩:=ih ((Question.extern what range).cut (w.tape w.drawn (.extern what range))) { w with drawn:=w.drawn+1 }
   refine ⟨m+1,?_,fun τ d h=>?_⟩
   ·simp only [World.ask,hf,if_false,Bool.false_eq_true]
    rw [h1]
    simp only [re]
    congr 1;omega
   ·simp only [World.ask,hf,if_false,Bool.false_eq_true]
    have h0:τ d=w.tape w.drawn:=by have:=h 0 (by omega);simpa using this
    have:=h2 τ (d+1) (fun j hj=>by have:=h (j+1) (by omega);simp only;rw [show d+1+j=d+(j+1) by omega,this];congr 1;omega)
    rw [show d+(m+1)=d+1+m by omega,<- this]
    show World.ask _ (k ((Question.extern what range).cut (τ d (.extern what range))))=_
    rw [h0];rfl
def Ends:Halt->Bool
 | .panic _ | .goexit | .unsupported (.initOrder _)=>false
 | _=>true
def Fit (P:Program) {α:Type} (L:α->Prop):Nat->Sem α->Prop
 | d,.pure a=>d=0/\L a
 | d,.load _ _ k=>∀ v,Fit P L d (k v)
 | d,.store _ _ _ k=>Fit P L d k
 | d,.new _ k=>∀ n,Fit P L d (k n)
 | d,.shape _ k=>∀ s,Fit P L d (k s)
 | d,.freeze _ _ k=>Fit P L d k
 | d,.frozen _ k=>∀ b,Fit P L d (k b)
 | d,.getObj _ k=>∀ o,Fit P L d (k o)
 | d,.setObj _ _ k=>Fit P L d k
 | d,.choose _ k=>∀ n,Fit P L d (k n)
 | d,.sys _ k=>(∃ h,k .wouldBlock=.halt h/\Ends h=true)/\∀ r,Fit P L d (k r)
 | d,.program k=>Fit P L d (k P)
 | d,.mark m k=>Fit P L (match m with | .disable=>d+1 | .enable=>d-1 | _=>d) k
 | d,.halt h=>d=0\/Ends h=true
theorem fit_bind {P:Program} {α β:Type} {L:α->Prop} {M:β->Prop} {f:α->Sem β} (hf:∀ a,L a->Fit P M 0 (f a)):∀ {s:Sem α} {d:Nat},Fit P L d s->Fit P M d (s.bind f):=by
 intro s
 induction s with
 | pure a=>intro d h;obtain ⟨rfl,h⟩:=h;exact hf a h
 | load m a k ih=>exact fun h v=>ih v (h v)
 | store m a v k ih=>exact fun h=>ih h
 | new o k ih=>exact fun h v=>ih v (h v)
 | shape o k ih=>exact fun h v=>ih v (h v)
 | freeze a n k ih=>exact fun h=>ih h
 | frozen o k ih=>exact fun h v=>ih v (h v)
 | getObj o k ih=>exact fun h v=>ih v (h v)
 | setObj a n k ih=>exact fun h=>ih h
 | choose o k ih=>exact fun h v=>ih v (h v)
 | sys c k ih =>
  intro d h
  obtain ⟨⟨x,hx,he⟩,h⟩:=h
  exact ⟨⟨x,by show (k .wouldBlock).bind f=_;rw [hx];rfl,he⟩,fun r=>ih r (h r)⟩
 | program k ih=>exact fun h=>ih P h
 | mark m k ih=>exact fun h=>ih h
 | halt x=>exact fun h=>h
def reR {α:Type} (τ:Tape) (d:Nat):Result α->Result α
 | .ok a w=>.ok a (re w τ d)
 | .halt h w=>.halt h (re w τ d)
def resOn {α:Type}:Result α->Bool
 | .ok _ _=>true
 | .halt h _=>!Ends h
theorem sys_alike {w:World} {c:Sys} (h:(w.sys c).1≠.wouldBlock):∃ m,(w.sys c).2=re (w.sys c).2 w.tape (w.drawn+m)/\
  ∀ τ d,Alike w m τ d->(re w τ d).sys c=((w.sys c).1,re (w.sys c).2 τ (d+m)):=by
 obtain ⟨m,h1,h2⟩:=ask_alike (Kernel.perform c w.os) w
 unfold World.sys at h ⊢
 have ho:∀ τ d,(re w τ d).os=w.os:=fun _ _=>rfl
 simp only [ho]
 generalize hx:w.ask (Kernel.perform c w.os)=x at h h1 h2 ⊢
 obtain ⟨⟨r,os⟩,w'⟩:=x
 refine ⟨m,?_,fun τ d ha=>?_⟩
 ·cases r<;>first | exact absurd rfl h | (simp only at h1 ⊢;rw [h1];rfl)
 ·rw [h2 τ d ha]
  cases r<;>first | exact absurd rfl h | rfl
theorem mV (P:Program) {α:Type} {L:α->Prop} (s:Sem α):∀ (n:Nat) (w:World) (es:Array Event),Fit P L n s->resOn (s.runT P w es).1=true->
  ∃ m,(s.runT P w es).1=reR w.tape (w.drawn+m) (s.runT P w es).1/\∀ τ d,Alike w m τ d->s.runT P (re w τ d) es=(reR τ (d+m) (s.runT P w es).1,(s.runT P w es).2):=by
 induction s with
 | pure a=>exact fun n w es _ _=>⟨0,rfl,fun τ d _=>rfl⟩
 | load m a k ih =>
  intro n w es hf ho
  have hc:∀ τ d,(re w τ d).cell? a=w.cell? a:=fun _ _=>rfl
  have hl:∀ τ d b,(re w τ d).farLoad P a b=w.farLoad P a b:=fun _ _ _=>rfl
  simp only [Sem.runT,hc,hl] at ho ⊢
  cases hw:w.cell? a with
  | some v=>simp only [hw] at ho ⊢;exact ih v n w _ (hf v) ho
  | none =>
   simp only [hw] at ho ⊢
   cases hx:w.farLoad P a (m==.atomic) with
   | ok x=>obtain ⟨v,t⟩:=x;simp only [hx] at ho ⊢;exact ih v n w _ (hf v) ho
   | error e=>simp only [hx] at ho ⊢;exact ⟨0,rfl,fun τ d _=>rfl⟩
 | store m a v k ih =>
  intro n w es hf ho
  cases v with
  | agg x=>exact ⟨0,rfl,fun τ d _=>rfl⟩
  | tuple x=>exact ⟨0,rfl,fun τ d _=>rfl⟩
  | _ =>
   have hc:∀ τ d,(re w τ d).cell? a=w.cell? a:=fun _ _=>rfl
   have hz:∀ τ d,(re w τ d).frozen? a=w.frozen? a:=fun _ _=>rfl
   simp only [Sem.runT,hc,hz,re_farStore] at ho ⊢
   cases hw:w.cell? a with
   | some u =>
    simp only [hw] at ho ⊢
    split at ho
    ·rename_i iU;simp only [iU,if_true];exact ⟨0,rfl,fun τ d _=>rfl⟩
    ·rename_i iU
     simp only [iU,if_false,Bool.false_eq_true] at ho ⊢
     exact ih n _ _ hf ho
   | none =>
    simp only [hw] at ho ⊢
    cases hx:w.farStore P a _ (m==Mode.atomic) with
    | ok x =>
     obtain ⟨w',t⟩:=x
     simp only [hx,reX] at ho ⊢
     obtain ⟨e1,e2⟩:=farStore_keeps hx
     obtain ⟨m',h1,h2⟩:=ih n w' _ hf ho
     rw [e1,e2] at h1
     refine ⟨m',h1,fun τ d ha=>h2 τ d fun j hj=>?_⟩
     rw [e1,e2];exact ha j hj
    | error e=>simp only [hx,reX] at ho ⊢;exact ⟨0,rfl,fun τ d _=>rfl⟩
 | new o k ih=>exact fun n w es hf ho=>ih w.heap.size n _ es (hf _) ho
 | shape r k ih=>exact fun n w es hf ho=>ih (w.shape? r) n w es (hf _) ho
 | freeze a c k ih =>
  intro n w es hf ho
  simp only [Sem.runT,re_freeze] at ho ⊢
  have e1:(w.freeze a c).tape=w.tape:=by unfold World.freeze;split<;>rfl
  have e2:(w.freeze a c).drawn=w.drawn:=by unfold World.freeze;split<;>rfl
  obtain ⟨m',h1,h2⟩:=ih n (w.freeze a c) es hf ho
  rw [e1,e2] at h1
  refine ⟨m',h1,fun τ d ha=>h2 τ d fun j hj=>?_⟩
  rw [e1,e2];exact ha j hj
 | frozen a k ih=>exact fun n w es hf ho=>ih (w.frozen? a) n w es (hf _) ho
 | getObj r k ih =>
  intro n w es hf ho
  have hh:∀ τ d,(re w τ d).heap=w.heap:=fun _ _=>rfl
  simp only [Sem.runT,hh] at ho ⊢
  cases hw:w.heap[r]? with
  | none=>simp only [hw] at ho ⊢;exact ⟨0,rfl,fun τ d _=>rfl⟩
  | some o =>
   cases o with
   | cells c t z=>simp only [hw] at ho ⊢;exact ⟨0,rfl,fun τ d _=>rfl⟩
   | _=>simp only [hw] at ho ⊢;exact ih _ n w _ (hf _) ho
 | setObj r o k ih =>
  intro n w es hf ho
  have hh:∀ τ d,(re w τ d).heap=w.heap:=fun _ _=>rfl
  simp only [Sem.runT,hh] at ho ⊢
  cases hw:w.heap[r]? with
  | none=>simp only [hw] at ho ⊢;exact ⟨0,rfl,fun τ d _=>rfl⟩
  | some x =>
   cases x with
   | cells c t z=>simp only [hw] at ho ⊢;exact ⟨0,rfl,fun τ d _=>rfl⟩
   | _=>simp only [hw] at ho ⊢;exact ih n _ _ hf ho
 | choose q k ih =>
  intro n w es hf ho
  simp only [Sem.runT] at ho ⊢
  by_cases hq:q.forced=true
  ·simp only [hq,if_true] at ho ⊢;exact ih 0 n w es (hf _) ho
  ·simp only [hq,if_false,Bool.false_eq_true] at ho ⊢
   obtain ⟨m',h1,h2⟩:=ih (q.cut (w.tape w.drawn q)) n { w with drawn:=w.drawn+1 } es (hf _) ho
   refine ⟨m'+1,?_,fun τ d ha=>?_⟩
   ·rw [show w.drawn+(m'+1)=w.drawn+1+m' by omega];exact h1
   ·have h0:τ d=w.tape w.drawn:=by have:=ha 0 (by omega);simpa using this
    have:=h2 τ (d+1) (fun j hj=>by have:=ha (j+1) (by omega);simp only;rw [show d+1+j=d+(j+1) by omega,this];congr 1;omega)
    rw [show d+(m'+1)=d+1+m' by omega,<- this]
    show Sem.runT P (k (q.cut (τ d q))) _ es=_
    rw [h0];rfl
 | sys c k ih =>
  intro n w es hf ho
  obtain ⟨⟨x,hx,he⟩,hf⟩:=hf
  simp only [Sem.runT] at ho ⊢
  by_cases hb:(w.sys c).1=.wouldBlock
  ·rw [hb,hx] at ho
   simp [Sem.runT,resOn,he] at ho
  ·obtain ⟨m,h1,h2⟩:=sys_alike hb
   obtain ⟨m',h3,h4⟩:=ih (w.sys c).1 n (w.sys c).2 _ (hf _) ho
   have e1:(w.sys c).2.tape=w.tape:=by rw [h1];rfl
   have e2:(w.sys c).2.drawn=w.drawn+m:=by rw [h1];rfl
   refine ⟨m+m',?_,fun τ d ha=>?_⟩
   ·rw [e1,e2] at h3;rw [<- Nat.add_assoc];exact h3
   ·rw [h2 τ d fun j hj=>ha j (by omega)]
    simp only
    rw [h4 τ (d+m) fun j hj=>?_]
    ·rw [Nat.add_assoc]
    ·rw [e1,e2];have:=ha (m+j) (by omega);rw [<- Nat.add_assoc] at this;rw [this,<- Nat.add_assoc]
 | program k ih=>exact fun n w es hf ho=>ih P n w es hf ho
 | mark m k ih=>exact fun n w es hf ho=>ih _ w _ hf ho
 | halt h=>exact fun n w es hf ho=>⟨0,rfl,fun τ d _=>rfl⟩
end Lf
end Go.Proofs.YtpbbmagjhkakgaaGreatDoor
