import Derived.Test.YtpbbmagjhkakgaaGreatDoorElAdd2ToElBack
import Derived.Test.YtpbbmagjhkakgaaGreatDoorRowSame0ToElAdd
import Derived.Test.YtpbbmagjhkakgaaGreatDoorSnSeen0ToSmLoop
namespace Go.Proofs.YtpbbmagjhkakgaaGreatDoor.Ev
open Go.RowKit Go.Deep Go.Maps Go.Proofs.YtpbbmagjhkakgaaGreatDoor.Lf
def AddedBack (wtb:Nat) (retain room:Int) (ea:Option Addr) (ecap:Nat) (C:List EvC) (E:List Pe) (name:ByteArray) (x:BT Pay) (w w':World) (v:Value):Prop :=
 ∃ (no:Option Addr) (ncap:Nat) (Cs:List EvC) (pb pcap:Nat) (sp:Option Addr) (stb:Nat) (hold:EvC->Bool),WatchAt w' wtb retain room no ncap (KAt (fun _=>x) 1) ea ecap Cs (judL (KAt (fun _=>x) 1) E C.length) (some ⟨pb,0,none⟩) pcap [polOf name sp stb x] [⟨stb,.slice none 0 0,0,[]⟩]/\w.heap.size<=stb/\Cs.length=C.length/\(∀ (i:Nat) c c0,Cs[i]? = some c->C[i]? = some c0->c.number=c0.number/\c.time=c0.time)/\Spare (fun b=>b=wtb\/∃ a,ea=some a/\a.block=b) w w'/\
  (∀ (i:Nat) c e,Cs[i]? = some c->(judL (KAt (fun _=>x) 1) E C.length)[i]? = some e->hold c=e.at (nAt (fun _=>x) 0))/\w'.ownsRow w.heap.size 59 4 v (knownF (reachT x) Cs).length (backV hold 1 (knownF (reachT x) Cs))
def holdW (w:World) (node:Nat) (c:EvC):Bool :=
 match c.so with
 | some a=>match w.cell? ⟨a.block,a.off+node,none⟩ with
  | some (.bool b)=>b
  | _=>false
 | none=>false
theorem holdW_is {w:World} {node:Nat} {c:EvC} {e:Pe} (h:EvIn w c e) (hn:node<e.so.length):∃ sb so,c.so=some ⟨sb,so,none⟩/\sb<w.heap.size/\node<c.sl/\w.cell? ⟨sb,so+node,none⟩=some (.bool (holdW w node c))/\holdW w node c=e.at (node:Int):=by
 obtain ⟨sb,s1,s2,s3⟩:=h.so
 have hb:=EvIn.bit s3 hn
 have hh:holdW w node c=e.at (node:Int):=by
  unfold holdW
  rw [s1]
  simp only [Nat.zero_add]
  rw [hb]
 exact ⟨sb,0,s1,s2,by rw [h.sl];exact hn,by rw [Nat.zero_add,hh];exact hb,hh⟩
set_option maxRecDepth 100000 in
set_option maxHeartbeats 2000000 in
theorem watchAddE (wtb:Nat) (retain room:Int) (ea:Option Addr) (ecap:Nat) (C:List EvC) (E:List Pe) (name s:ByteArray) (x:BT Pay) (w:World) (h:WatchAt w wtb retain room none 0 [] ea ecap C E none 0 [] []) (hN:NameOK name) (hNs:name.size<=1000) (hm:s.size<=maxLen) (hg:Glob w) (hw7:14<=w.heap.size) (hr:readF s=(some x,0)) (hR:reachT x<=retain) (hR0:0<=reachT x) (hK:(KAt (fun _=>x) 1).length<=40) (hX:nodesT (coreT x)<=1000000) (hT:∀ c∈C,0<=c.time/\c.time<=1000000000000) :
  Calls Tryz.prog 48 #[.pointer (some ⟨wtb,0,none⟩),.string name,.string s] w fun e w'=>∃ v,e=.returned (.tuple #[v,.nilIface])/\AddedBack wtb retain room ea ecap C E name x w w' v:=by
 have hA:=addW_ok wtb retain room ea ecap C E name s x w h hN hNs hm hg hw7 hr hR hK hX
 obtain ⟨hgd,_,hdx,_⟩:=readF_sound hr
 have hret:=h.ret
 have hfew:=h.few
 clear h
 go_enter Tryz.func48,Tryz.ntmps48
 go_wp2_with fail
 refine hA.mono ?_
 rintro e w1 ⟨rfl,no,ncap,Cs,pb,pcap,arr,sp,stb,h1,h2,h3,h4,h5,h6,h7,h8⟩
 have hTs:∀ c∈Cs,0<=c.time/\c.time<=1000000000000:=fun c hc=>by
  obtain ⟨i,hi⟩:=List.mem_iff_getElem?.1 hc
  have hl:=(List.getElem?_eq_some_iff.1 hi).1
  have h0:C[i]? = some C[i]:=List.getElem?_eq_getElem (by omega)
  rw [(h7 i c _ hi h0).2]
  exact hT _ (List.getElem_mem _)
 have hnode:(polOf name sp stb x).node<=(KAt (fun _=>x) 1).length:=h1.pnode _ (by simp)
 have hH:∀ (i:Nat) c e,Cs[i]? = some c->(judL (KAt (fun _=>x) 1) E C.length)[i]? = some e->∃ sb so,c.so=some ⟨sb,so,none⟩/\sb<w1.heap.size/\(polOf name sp stb x).node<c.sl/\w1.cell? ⟨sb,so+(polOf name sp stb x).node,none⟩=some (.bool (holdW w1 (polOf name sp stb x).node c))/\holdW w1 (polOf name sp stb x).node c=e.at ((polOf name sp stb x).node:Int):=fun i c e hc he=>holdW_is (h1.ins i c e hc he) (by rw [h1.rows e (List.mem_of_getElem? he)];omega)
 have hB:=backfill_any wtb (.int .i64 retain) (.int .i64 room) (.slice no (KAt (fun _=>x) 1).length ncap) ea ecap Cs pb pcap arr (polOf name sp stb x) x (holdW w1 (polOf name sp stb x).node) w1 h1.cell h2 h3 h4 hgd (by omega) h1.evs h1.few (by omega) hTs (fun c hc=>by
  obtain ⟨i,hi⟩:=List.mem_iff_getElem?.1 hc
  have hl:=(List.getElem?_eq_some_iff.1 hi).1
  obtain ⟨sb,so,k1,k2,k3,k4,_⟩:=hH i c _ hi (List.getElem?_eq_getElem (by rw [judL_len];omega))
  exact ⟨sb,so,k1,k2,k3,k4⟩)
 have Hfin:Hid (∀ (v:Value) (w2:World),w2.ownsRow w1.heap.size 59 4 v (knownF (reachT x) Cs).length (backV (holdW w1 (polOf name sp stb x).node) (polOf name sp stb x).ver (knownF (reachT x) Cs))->Below w1.heap.size w1 w2->AddedBack wtb retain room ea ecap C E name x w w2 v):=fun v w2 hv hb=>by
  refine ⟨no,ncap,Cs,pb,pcap,sp,stb,holdW w1 (polOf name sp stb x).node,h1.move (SpareR.of_below (P:=fun _=>False) hb) (Kinds.none _ _),h5,h6,h7,h8.trans (Spare.of_below hb),fun i c e hc he=>?_,row_mono hv h8.size⟩
  obtain ⟨_,_,_,_,_,_,k⟩:=hH i c e hc he
  rw [k]
  have:((polOf name sp stb x).node:Int)=nAt (fun _=>x) 0:=Int.toNat_of_nonneg (nAt_nonneg _ _)
  rw [this]
 clear h1 h2 h3 h4 hH
 go_wp2_with fail
 refine hB.mono ?_
 rintro e w2 ⟨v,rfl,hv,hb⟩
 go_wp2_with fail
 go_ret2
 exact ⟨v,rfl,Hfin.out v w2 hv hb⟩
set_option maxRecDepth 100000 in
set_option maxHeartbeats 2000000 in
theorem monAddE (mb wtb:Nat) (retain room:Int) (ea:Option Addr) (ecap:Nat) (C:List EvC) (E:List Pe) (name s:ByteArray) (x:BT Pay) (w:World) (hmb:w.heap[mb]? = some (.cells #[.pointer (some ⟨wtb,0,none⟩)] 104 (0,0))) (h:WatchAt w wtb retain room none 0 [] ea ecap C E none 0 [] []) (hN:NameOK name) (hNs:name.size<=1000) (hm:s.size<=maxLen) (hg:Glob w) (hw7:14<=w.heap.size) (hr:readF s=(some x,0)) (hR:reachT x<=retain) (hR0:0<=reachT x) (hK:(KAt (fun _=>x) 1).length<=40) (hX:nodesT (coreT x)<=1000000) (hT:∀ c∈C,0<=c.time/\c.time<=1000000000000) :
  Calls Tryz.prog 27 #[.pointer (some ⟨mb,0,none⟩),.string name,.string s] w fun e w'=>∃ v,e=.returned (.tuple #[v,.int .i64 0])/\AddedBack wtb retain room ea ecap C E name x w w' v:=by
 have hA:=watchAddE wtb retain room ea ecap C E name s x w h hN hNs hm hg hw7 hr hR hR0 hK hX hT
 have c0:=cell_at (i:=0) hmb rfl
 clear h
 go_enter Tryz.func27,Tryz.ntmps27
 go_wp2_with fail
 refine hA.mono ?_
 rintro e w1 ⟨v,rfl,hP⟩
 go_wp2_with fail
 refine (errno_nil w1).mono ?_
 rintro e w2 ⟨rfl,rfl⟩
 go_wp2_with fail
 go_ret2
 exact ⟨v,rfl,hP⟩
def versF (x:BT Pay) (L:List (Int×Int)) (a:Nat):Nat->List Value
 | 0=>[]
 | k+1=>versF x L a k++verCells ((a:Int)+k+1) (timeZ L (a+k+1)) 1 (verZ x L (a+k))
theorem filter_suffix {α:Type} (p:α->Bool):∀ (l:List α),(∀ (i j:Nat) a b,i<=j->l[i]? = some a->l[j]? = some b->p a=true->p b=true)->∃ q,q<=l.length/\l.filter p=l.drop q/\∀ (j:Nat) a,l[j]? = some a->q<=j->p a=true
 | [],_=>⟨0,Nat.le_refl _,rfl,fun j a h=>by simp at h⟩
 | a::l,h=>by
  by_cases hp:p a=true
  ·have hall:∀ b∈a::l,p b=true:=fun b hb=>by
    obtain ⟨j,hj⟩:=List.mem_iff_getElem?.1 hb
    exact h 0 j a b (Nat.zero_le _) rfl hj hp
   exact ⟨0,Nat.zero_le _,by rw [List.filter_eq_self.2 hall];rfl,fun j b hj _=>hall b (List.mem_of_getElem? hj)⟩
  ·obtain ⟨q,h1,h2,h3⟩:=filter_suffix p l (fun i j x y hij hi hj hx=>h (i+1) (j+1) x y (by omega) (by simpa using hi) (by simpa using hj) hx)
   refine ⟨q+1,by simp;omega,by rw [List.filter_cons_of_neg hp,h2];rfl,fun j b hj hq=>?_⟩
   cases j with
   | zero=>omega
   | succ j=>exact h3 j b (by simpa using hj) (by omega)
theorem judL_hap (K:List Key) (E:List Pe):∀ j,j<=E.length->(judL K E j).map Pe.hap=(E.take j).map Pe.hap
 | 0,_=>by simp [judL]
 | j+1,h=>by
  obtain ⟨_,w2,w3,_⟩:=workF_same (judL K E j).reverse K (E.getD j pe0).bare
  have hj:E[j]? = some E[j]:=List.getElem?_eq_getElem (by omega)
  rw [judL,List.map_append,judL_hap K E j (by omega),List.take_add_one,hj,List.map_append]
  congr 1
  simp only [List.map_cons,List.map_nil,Option.toList_some,List.cons.injEq,and_true]
  have hd:E.getD j pe0=E[j]:=by rw [List.getD_eq_getElem?_getD,hj];rfl
  unfold Pe.hap
  rw [w2,w3,hd]
  rfl
theorem judL_ok (K:List Key) (E:List Pe) (dr:List Hap):∀ j,RowsOK K dr (judL K E j).reverse
 | 0=>trivial
 | j+1=>by
  rw [judL,List.reverse_append]
  exact work_right (judL_ok K E dr j) _
theorem Run.judged {L:List (Int×Int)} {K0:List Key} {i:Nat} {E:List Pe} {dr:List Hap} (h:Run L K0 i E dr) (K:List Key):Run L K i (judL K E E.length) dr:=by
 refine ⟨?_,judL_ok K E dr _⟩
 rw [List.map_reverse,judL_hap K E _ (Nat.le_refl _),List.take_length,<- List.map_reverse]
 exact h.hist
theorem RowsOK.old {K:List Key} {dr:List Hap}:∀ {es old:List Pe},RowsOK K dr (es++old)->RowsOK K dr old
 | [],_,h=>h
 | _::_,_,⟨_,_,h⟩=>h.old
theorem histZ_drop (L:List (Int×Int)):∀ (i q:Nat),q<=i->(histZ L i).drop q=histZ L (i-q)
 | i,0,_=>rfl
 | 0,q+1,h=>by omega
 | i+1,q+1,h=>by
  have:=histZ_drop L i q (by omega)
  simp only [histZ,List.drop_succ_cons]
  rw [this]
  congr 1
  omega
theorem Run.at {L:List (Int×Int)} {K:List Key} {i:Nat} {E:List Pe} {dr:List Hap} (h:Run L K i E dr) {j:Nat} {e:Pe} (hj:E[j]? = some e) {x:BT Pay} {nd:Int} (hg:Good x) (hn:NumT K (coreT x) nd) (hd:∀ d∈dr,d.1<e.time-reachT (coreT x)):e.at nd=verZ x L (i+j-E.length):=by
 have hl:=h.len
 have hjl:=(List.getElem?_eq_some_iff.1 hj).1
 have hE:E=E.take j++e::E.drop (j+1):=by
  have h1:=List.take_append_drop j E
  have h2:=List.drop_eq_getElem_cons hjl
  rw [List.getElem?_eq_getElem hjl] at hj
  cases hj
  rw [h2] at h1
  exact h1.symm
 have hr:E.reverse=(E.drop (j+1)).reverse++e::(E.take j).reverse:=by
  conv=>lhs;rw [hE]
  simp
 have hok:=h.ok
 rw [hr] at hok
 have h1:=hok.old.2.1 (coreT x) nd (good_core hg) (cored_core hg) hn hd
 have hh:=h.hist
 rw [hr,List.map_append,List.append_assoc] at hh
 have hq:((E.drop (j+1)).reverse.map Pe.hap).length=E.length-(j+1):=by simp
 have h2:=histZ_drop L i (E.length-(j+1)) (by omega)
 rw [<- hh,<- hq,List.drop_left] at h2
 rw [h1,sem_core hg]
 unfold verZ
 congr 1
 have e1:i-((E.drop (j+1)).reverse.map Pe.hap).length=i+j-E.length+1:=by rw [hq];omega
 rw [e1] at h2
 exact h2
theorem back_list {x:BT Pay} {L:List (Int×Int)} {hold:EvC->Bool} {f:Nat} {D:List EvC} (h:∀ (j:Nat) c,D[j]? = some c->c.number=(f:Int)+j+1/\c.time=timeZ L (f+j+1)/\hold c=verZ x L (f+j)):∀ k,k<=D.length->backV hold 1 (D.take k)=versF x L f k
 | 0,_=>rfl
 | k+1,hk=>by
  have hd:D[k]? = some D[k]:=List.getElem?_eq_getElem (by omega)
  obtain ⟨h1,h2,h3⟩:=h k _ hd
  rw [backV_take hd,back_list h k (by omega),h1,h2,h3]
  rfl
theorem back_is {L : List (Int × Int)} {K : List Key} {i : Nat} {E : List Pe} {dr : List Hap} (h : Run L K i E dr) {x : BT Pay} {nd : Int} (hg : Good x) (hn : NumT K (coreT x) nd) (hrc : reachT (coreT x) ≤ reachT x) {C : List EvC} (hlen : C.length = E.length) (hnum : ∀ (j : Nat) c, C[j]? = some c → c.number = (i : Int) + 1 + j - C.length) (htime : ∀ (j : Nat) c e, C[j]? = some c → E[j]? = some e → c.time = e.time) {hold : EvC → Bool} (hh : ∀ (j : Nat) c e, C[j]? = some c → E[j]? = some e → hold c = e.at nd) :
    ∃ f, f ≤ i ∧ (knownF (reachT x) C).length = i - f ∧ backV hold 1 (knownF (reachT x) C) = versF x L f (i - f) := by
  have hl := h.len
  have hE : ∀ (j : Nat) c, C[j]? = some c → ∃ e, E[j]? = some e ∧ c.time = e.time ∧ e.time = timeZ L (i + 1 + j - C.length) := fun j c hc => by
    have hj := (List.getElem?_eq_some_iff.1 hc).1
    have he : E[j]? = some E[j] := List.getElem?_eq_getElem (by omega)
    exact ⟨_, he, htime j c _ hc he, by rw [hlen]; exact h.time j _ he⟩
  have hfin : ∀ q, q ≤ C.length → knownF (reachT x) C = C.drop q → (∀ (j : Nat) c, C[j]? = some c → q ≤ j → ∀ d ∈ dr, d.1 < c.time - reachT x) → ∃ f, f ≤ i ∧ (knownF (reachT x) C).length = i - f ∧ backV hold 1 (knownF (reachT x) C) = versF x L f (i - f) := by
    intro q hq hk hd
    refine ⟨i - C.length + q, by omega, by rw [hk, List.length_drop]; omega, ?_⟩
    have hb := back_list (x := x) (L := L) (hold := hold) (f := i - C.length + q) (D := C.drop q) (fun j c hc => by
      rw [List.getElem?_drop] at hc
      have hj := (List.getElem?_eq_some_iff.1 hc).1
      obtain ⟨e, he, t1, t2⟩ := hE _ c hc
      refine ⟨by rw [hnum _ c hc]; omega, ?_, ?_⟩
      · rw [t1, t2]; congr 1; omega
      · rw [hh _ c e hc he, h.at he hg hn (fun d hm => by have := hd _ c hc (by omega) d hm; omega)]
        congr 1
        omega) (C.length - q) (by rw [List.length_drop]; omega)
    rw [List.take_of_length_le (by rw [List.length_drop]; omega)] at hb
    rw [hk, hb]
    congr 1
    omega
  cases hC : C with
  | nil =>
    subst hC
    exact hfin 0 (Nat.zero_le _) rfl (fun j c hc => by simp at hc)
  | cons c0 C' =>
    have h0 : C[0]? = some c0 := by rw [hC]; rfl
    have hpos : 0 < C.length := (List.getElem?_eq_some_iff.1 h0).1
    rw [← hC]
    by_cases h1 : c0.number = 1
    · refine hfin 0 (Nat.zero_le _) (by rw [hC]; simp [knownF, h1]) (fun j c hc _ d hd => ?_)
      have hn0 := hnum 0 c0 h0
      have hhl := congrArg List.length h.hist
      simp [histZ_len] at hhl
      have hdr : dr = [] := List.length_eq_zero_iff.1 (by omega)
      rw [hdr] at hd
      simp at hd
    · obtain ⟨q, q1, q2, q3⟩ := filter_suffix (fun d : EvC => decide (d.time - reachT x ≥ c0.time)) C (fun a b ca cb hab ha hb hp => by
        obtain ⟨_, _, ta, ta2⟩ := hE a ca ha
        obtain ⟨_, _, tb, tb2⟩ := hE b cb hb
        have := timeZ_le L (a := i + 1 + a - C.length) (b := i + 1 + b - C.length) (by omega)
        simp only [decide_eq_true_eq] at hp ⊢
        omega)
      refine hfin q q1 (by rw [← q2]; conv => lhs; rw [hC]; simp only [knownF, if_neg h1]
                           rw [← hC]) (fun j c hc hj d hd => ?_)
      have hp := q3 j c hc hj
      simp only [decide_eq_true_eq] at hp
      obtain ⟨_, _, t1, t2⟩ := hE 0 c0 h0
      obtain ⟨s, hs⟩ := List.mem_iff_getElem?.1 hd
      have hidx : (histZ L i)[E.length + s]? = some d := by
        rw [← h.hist, List.getElem?_append_right (by simp)]
        simpa using hs
      have hdt := histZ_at L i _ _ hidx
      have hst := timeZ_step L (i - C.length)
      have hle := timeZ_le L (a := i - (E.length + s)) (b := i - C.length) (by omega)
      have e1 : i + 1 + 0 - C.length = i - C.length + 1 := by omega
      rw [e1] at t2
      omega
structure YInv (L:List (Int×Int)) (B0 mb wtb:Nat) (n:Int) (i:Nat) (w:World):Prop where
 ex:∃ ea ecap C E dr,WatchAt w wtb n 60 none 0 [] ea ecap C E none 0 [] []/\Run L [] i E dr/\(∀ d∈dr,d.1<timeZ L i-n)/\(∀ e∈E,timeZ L i-n<=e.time)/\C.length<=i/\(C=[]->i=0)/\(∀ c,C.getLast? = some c->c.number=i/\c.time=timeZ L i)/\(∀ a,ea=some a->B0<=a.block)/\(∀ (j:Nat) c,C[j]? = some c->c.number=(i:Int)+1+j-C.length)
 mon:w.heap[mb]? = some (.cells #[.pointer (some ⟨wtb,0,none⟩)] 104 (0,0))
 wt:B0<=wtb
theorem YInv.tapeR {L:List (Int×Int)} {B0 mb wtb:Nat} {n:Int} {i:Nat} {w:World} (h:YInv L B0 mb wtb n i w) (τ:Tape) (d:Nat):YInv L B0 mb wtb n i (re w τ d):=by
 obtain ⟨⟨ea,ecap,C,E,dr,h1,h2⟩,h3,h4⟩:=h
 exact ⟨⟨ea,ecap,C,E,dr,h1.tapeR τ d,h2⟩,h3,h4⟩
theorem YInv.move {L:List (Int×Int)} {B0 mb wtb:Nat} {n:Int} {i:Nat} {w w':World} (h:YInv L B0 mb wtb n i w) (hs:SpareR (fun _=>False) w w'):YInv L B0 mb wtb n i w':=by
 obtain ⟨⟨ea,ecap,C,E,dr,h1,h2⟩,h3,h4⟩:=h
 exact ⟨⟨ea,ecap,C,E,dr,h1.move hs (Kinds.none _ _),h2⟩,hs.get h3 id,h4⟩
theorem YInv.start {L:List (Int×Int)} {B0 mb wtb:Nat} {n:Int} {w:World} (hn:0<=n/\n<=1000000000) (h1:w.heap[mb]? = some (.cells #[.pointer (some ⟨wtb,0,none⟩)] 104 (0,0))) (h2:w.heap[wtb]? = some (.cells #[.int .i64 n,.int .i64 60,.slice none 0 0,.slice none 0 0,.slice none 0 0] 153 (0,0))) (hB:B0<=wtb):YInv L B0 mb wtb n 0 w:=by
 refine ⟨⟨none,0,[],[],[],?_,Run.start L _,by simp,by simp,by simp,by simp,by simp,by simp,by simp⟩,h1,hB⟩
 exact { cell:=h2,evs:=World.ownsRow_nil _ _ _ _,len:=rfl,ins:=by simp,typed:=by simp,few:=by simp,ret:=hn,nums:=by simp,nfew:=by simp,ncp:=by simp,nodes:=fun h=>absurd rfl h,ntyped:=by simp,core:=by simp,ahead:=fun i k hk=>by simp at hk,rows:=by simp,pols:=.inl ⟨rfl,rfl,rfl⟩,pfew:=by simp,pcp:=by simp,plen:=rfl,pstr:=by simp,sok:=by simp,apart:=fun i j s t hs=>by simp at hs,pnode:=by simp }
theorem step_noneY {L:List (Int×Int)} {B0 mb wtb:Nat} {n:Int} {i:Nat} {w:World} (h:YInv L B0 mb wtb n i w) (hi:i<25) (ao:Option Addr) (cap:Nat) (hA:StrsIn w ao (atomsAt L i)) (hcap:(atomsAt L i).length<=cap) :
  HCalls Tryz.prog 24 #[.pointer (some ⟨mb,0,none⟩),.int .i64 (timeZ L (i+1)),.slice ao (atomsAt L i).length cap] w fun e W'=>e=.returned (.int .i64 0)/\YInv L B0 mb wtb n (i+1) W'/\SpareR (fun b=>B0<=b) w W'/\IntsKept w W':=by
 obtain ⟨⟨ea,ecap,C,E,dr,h1,h2,h3,h3b,h4,h5,h6,h10,h13⟩,hm,hwt⟩:=h
 have hT:=timeZ_range L (i+1)
 have hTs:=timeZ_step L i
 have hret:=h1.ret
 have hpk:=pickZ_range (L.getD i (0,0)).2 8 (by decide)
 have hnx:nextN C=(i:Int)+1:=by
  unfold nextN
  cases hc:C.getLast? with
  | none=>have:=h5 (List.getLast?_eq_none_iff.1 hc);simp [this]
  | some c=>simp [(h6 c hc).1]
 obtain ⟨k,hk⟩:∃ k,oldF (timeZ L (i+1)-n) C=k:=⟨_,rfl⟩
 have hkn:k<=C.length:=by rw [<- hk];exact oldF_le _ _
 have hdr:∀ d∈(E.take k).reverse.map Pe.hap++dr,d.1<timeZ L (i+1)-n:=by
  intro d hd
  rcases List.mem_append.1 hd with hd | hd
  ·obtain ⟨e,he,rfl⟩:=List.mem_map.1 hd
   obtain ⟨j,hj⟩:=List.mem_iff_getElem?.1 (List.mem_reverse.1 he)
   rw [List.getElem?_take] at hj
   split at hj
   ·rename_i hjk
    have hjc:j<C.length:=by omega
    have hin:=h1.ins j C[j] e (List.getElem?_eq_getElem hjc) hj
    have hlt:=oldF_lt (timeZ L (i+1)-n) C j C[j] (List.getElem?_eq_getElem hjc) (by omega)
    show e.time<_
    rw [<- hin.time]
    exact hlt
   ·cases hj
  ·have:=h3 d hd;omega
 have hkeep:∀ e∈E.drop k,timeZ L (i+1)-n<=e.time:=by
  intro e he
  obtain ⟨j,hj⟩:=List.mem_iff_getElem?.1 he
  rw [List.getElem?_drop] at hj
  have hjl:=(List.getElem?_eq_some_iff.1 hj).1
  have hkl:k<C.length:=by rw [h1.len];omega
  have hkE:k<E.length:=by omega
  have t1:=h2.time (k+j) e hj
  have t2:=h2.time k E[k] (List.getElem?_eq_getElem hkE)
  have hin:=h1.ins k C[k] E[k] (List.getElem?_eq_getElem hkl) (List.getElem?_eq_getElem hkE)
  have hge:=oldF_ge (timeZ L (i+1)-n) C C[k] (by rw [hk];exact List.getElem?_eq_getElem hkl)
  have hmo:=timeZ_le L (a:=i+1+k-E.length) (b:=i+1+(k+j)-E.length) (by omega)
  have:=hin.time
  omega
 have hev:=event_drop h1 (timeZ L (i+1)) ao (atomsAt L i) cap (by omega) (fun c hc=>by rw [(h6 c hc).2];omega) k hk (by omega) hA
  (Nat.le_trans (atomsTo_len _ 3) (by decide)) hcap (atoms_names _) (atoms_once _ (by omega)) (by omega) (by omega) (fun t ht=>by simp at ht)
 refine (monEvent hm (D:=fun W'=>YInv L B0 mb wtb n (i+1) W'/\SpareR (fun b=>B0<=b) w W'/\IntsKept w W') (fun w τ d x=>⟨x.1.tapeR τ d,x.2.1.tapeR τ d,x.2.2⟩) (hev.mono ?_))
 rintro e W' ⟨rfl,c,ea',ecap',ss',k1,k2,k3,k4,k5,k6⟩
 refine ⟨rfl,?_⟩
 have hlen:=k1.plen
 have hss:ss'=[]:=List.length_eq_zero_iff.1 hlen
 subst hss
 have hown:∀ b,Own46 wtb ea [] b->B0<=b:=by
  rintro b (rfl | ⟨a,e1,rfl⟩ | ⟨s',hs',_⟩)
  ·exact hwt
  ·exact h10 a e1
  ·simp at hs'
 have hsr:SpareR (fun b=>B0<=b) w W':=k4.mono fun b _ hb=>hown b hb
 obtain ⟨_,w2,_,_⟩:=workF_same (E.drop k).reverse [] (⟨nextN C,timeZ L (i+1),atomsAt L i,[]⟩:Pe).bare
 refine ⟨⟨⟨ea',ecap',C.drop k++[c],_,(E.take k).reverse.map Pe.hap++dr,k1,(h2.drop k).next (nextN C),hdr,?_,?_,?_,?_,?_,?_⟩,?_,hwt⟩,hsr,?_⟩
 ·intro e he
  rcases List.mem_append.1 he with he | he
  ·exact hkeep e he
  ·simp only [List.mem_singleton] at he
   subst he
   rw [w2]
   show _<=timeZ L (i+1)
   omega
 ·simp;omega
 ·intro e;simp at e
 ·intro c' hc'
  simp at hc'
  subst hc'
  exact ⟨by rw [k3,hnx];simp,k2⟩
 ·intro a ha
  rcases k5 a ha with ⟨a0,e1,e2⟩ | e
  ·rw [<- e2];exact h10 a0 e1
  ·have:=heap_lt h1.cell;omega
 ·intro j c' hc'
  have hlen':(C.drop k++[c]).length=C.length-k+1:=by simp
  rw [hlen']
  rw [List.getElem?_append] at hc'
  split at hc'
  ·rename_i hj
   rw [List.length_drop] at hj
   rw [List.getElem?_drop] at hc'
   rw [h13 (k+j) c' hc']
   omega
  ·rename_i hj
   rw [List.length_drop] at hj hc'
   have hj0:j-(C.length-k)=0:=by
    have:=(List.getElem?_eq_some_iff.1 hc').1
    simp at this
    omega
   rw [hj0] at hc'
   simp at hc'
   subst hc'
   rw [k3,hnx]
   omega
 ·refine (k4.block mb (heap_lt hm) ?_).trans hm
  rintro (e | ⟨a,e1,e2⟩ | hM)
  ·subst e;rw [h1.cell] at hm;cases hm
  ·have hb:(Value.slice ea C.length ecap).ownBlock=some mb:=by rw [e1];rw [<- e2];rfl
   obtain ⟨cs,hcs⟩:=own_tag h1.evs hb
   rw [hm] at hcs;cases hcs
  ·obtain ⟨cs,t',ht',e | e⟩:=Ms.tag h1.sok hM
   ·rw [hm] at ht';cases ht';cases e
   ·rw [hm] at ht';cases ht';cases e
 ·intro b cs m hb
  refine (k4.block b (heap_lt hb) ?_).trans hb
  rintro (e | ⟨a,e1,e2⟩ | hM)
  ·subst e;rw [h1.cell] at hb;cases hb
  ·have hb2:(Value.slice ea C.length ecap).ownBlock=some b:=by rw [e1];rw [<- e2];rfl
   obtain ⟨cs',hcs⟩:=own_tag h1.evs hb2
   rw [hb] at hcs;cases hcs
  ·obtain ⟨cs',t',ht',e | e⟩:=Ms.tag h1.sok hM
   ·rw [hb] at ht';cases ht';cases e
   ·rw [hb] at ht';cases ht';cases e
structure LInv (x:BT Pay) (name:ByteArray) (L:List (Int×Int)) (B0:Nat) (mb wtb:Nat) (retain:Int) (a i:Nat) (w:World):Prop where
 ex:∃ no ncap ea ecap C E pa pcap sp s dr,WatchAt w wtb retain 60 no ncap (KAt (fun _=>x) 1) ea ecap C E pa pcap [polOf name sp s.stb x] [s]/\Run L (KAt (fun _=>x) 1) i E dr/\(∀ d∈dr,d.1<timeZ L i-retain)/\C.length<=i/\(C=[]->i=0)/\(∀ c,C.getLast? = some c->c.number=i/\c.time=timeZ L i)/\(∀ c∈C,1<=c.time)/\
  a<=i/\s.n=i-a/\s.xs=versF x L a (i-a)/\(∀ a,ea=some a->B0<=a.block)/\B0<=s.stb/\(∀ g,s.sv.ownBlock=some g->B0<=g)
 mon:w.heap[mb]? = some (.cells #[.pointer (some ⟨wtb,0,none⟩)] 104 (0,0))
 wt:B0<=wtb
theorem LInv.tapeR {x:BT Pay} {name:ByteArray} {L:List (Int×Int)} {B0 mb wtb:Nat} {retain:Int} {a i:Nat} {w:World} (h:LInv x name L B0 mb wtb retain a i w) (τ:Tape) (d:Nat):LInv x name L B0 mb wtb retain a i (re w τ d):=by
 obtain ⟨⟨no,ncap,ea,ecap,C,E,pa,pcap,sp,s,dr,h1,h2⟩,h3,h4⟩:=h
 exact ⟨⟨no,ncap,ea,ecap,C,E,pa,pcap,sp,s,dr,h1.tapeR τ d,h2⟩,h3,h4⟩
end Go.Proofs.YtpbbmagjhkakgaaGreatDoor.Ev
namespace Go.Proofs.YtpbbmagjhkakgaaGreatDoor.Ev
open Go.RowKit Go.Deep Go.Maps Go.Proofs.YtpbbmagjhkakgaaGreatDoor.Lf Go.Conc
theorem ownsRow_re {w:World} {B:Nat} {t:TypeId} {s:Nat} {v:Value} {n:Nat} {xs:List Value} (h:w.ownsRow B t s v n xs) (τ:Tape) (d:Nat):(re w τ d).ownsRow B t s v n xs:=h
end Go.Proofs.YtpbbmagjhkakgaaGreatDoor.Ev
