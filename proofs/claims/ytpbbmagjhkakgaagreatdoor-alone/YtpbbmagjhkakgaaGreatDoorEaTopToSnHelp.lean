import Derived.Test.YtpbbmagjhkakgaaGreatDoorEeIsToEaRem
import Derived.Test.YtpbbmagjhkakgaaGreatDoorFaceToEvClone
import Derived.Test.YtpbbmagjhkakgaaGreatDoorEaBackToEaAdd
import Derived.Test.YtpbbmagjhkakgaaGreatDoorEvAdd2ToEaDel
import Derived.Test.YtpbbmagjhkakgaaGreatDoorPureNumToPureRound
import Derived.Laws.IdiomStrings
namespace Go.Proofs.YtpbbmagjhkakgaaGreatDoor
namespace Ev
open Go.RowKit Go.Deep Go.Maps Lf
theorem amend_back (name s:ByteArray) {aj:Nat} {w:World} {R:Value->World->Prop} (i:Nat)
  (hA:Calls Tryz.prog 96 #[.pointer (some ⟨aj,0,none⟩),.string name,.string s] w fun e w'=>e=.returned (.tuple #[.int .i64 (i:Int),.nilIface])/\Calls Tryz.prog 92 #[.pointer (some ⟨aj,0,none⟩),.int .i64 (i:Int)] w' fun e w'=>∃ v,e=.returned v/\R v w') :
  Calls Tryz.prog 51 #[.pointer (some ⟨aj,0,none⟩),.string name,.string s] w fun e w'=>∃ v,e=.returned (.tuple #[v,.nilIface])/\R v w':=by
 go_enter Tryz.func51,Tryz.ntmps51
 go_wp2_with fail
 refine hA.mono ?_
 rintro e w1 ⟨rfl,hB⟩
 go_wp2_with fail
 refine hB.mono ?_
 rintro e w2 ⟨v,rfl,hR⟩
 replace hR:Hid _:=hR
 go_wp2_with fail
 go_ret2
 exact ⟨v,rfl,hR.out⟩
theorem amend_err (name s:ByteArray) {aj:Nat} {w:World} {F:Addr->Prop} {L:TypeId}
  (hA:Calls Tryz.prog 96 #[.pointer (some ⟨aj,0,none⟩),.string name,.string s] w fun e w'=>∃ k T q a,e=.returned (.tuple #[.int .i64 k,.iface T q])/\sB w' (.iface T q) L a/\F a/\Below w.heap.size w w') :
  Calls Tryz.prog 51 #[.pointer (some ⟨aj,0,none⟩),.string name,.string s] w fun e w'=>∃ v a,e=.returned (.tuple #[.slice none 0 0,v])/\sB w' v L a/\F a/\Below w.heap.size w w':=by
 go_enter Tryz.func51,Tryz.ntmps51
 go_wp2_with fail
 refine hA.mono ?_
 rintro e w1 ⟨k,T,q,a,rfl,hE,hF,hb⟩
 have hE:Hid (sB w1 (.iface T q) L a/\F a):=⟨hE,hF⟩
 go_wp2_with fail
 go_ret2
 exact ⟨_,a,rfl,err_pol (aB _ _ _ rfl) (hE.out.1.down ((Below.refl _ w1).al _)),hE.out.2,hb.al _⟩
theorem monamend_back (mb:Nat) (name s:ByteArray) {aj:Nat} {w:World} {R:Value->World->Prop} (hm:w.heap[mb]? = some (.cells #[.pointer (some ⟨aj,0,none⟩)] 104 (0,0)))
  (hA:Calls Tryz.prog 51 #[.pointer (some ⟨aj,0,none⟩),.string name,.string s] w fun e w'=>∃ v,e=.returned (.tuple #[v,.nilIface])/\R v w') :
  Calls Tryz.prog 31 #[.pointer (some ⟨mb,0,none⟩),.string name,.string s] w fun e w'=>∃ v,e=.returned (.tuple #[v,.int .i64 0])/\R v w':=by
 have c0:=ae (i:=0) hm rfl
 go_enter Tryz.func31,Tryz.ntmps31
 go_wp2_with fail
 refine hA.mono ?_
 rintro e w1 ⟨v,rfl,hR⟩
 have hR:Hid (R v w1):=hR
 go_wp2_with fail
 refine (ow w1).mono ?_
 rintro e w2 ⟨rfl,rfl⟩
 go_wp2_with fail
 go_ret2
 exact ⟨v,rfl,hR.out⟩
theorem vo (mb:Nat) (name s:ByteArray) {aj:Nat} {w:World} {F:Addr->Prop} {L:TypeId} {z:Int} (hm:w.heap[mb]? = some (.cells #[.pointer (some ⟨aj,0,none⟩)] 104 (0,0)))
  (hA:Calls Tryz.prog 51 #[.pointer (some ⟨aj,0,none⟩),.string name,.string s] w fun e w'=>∃ v a,e=.returned (.tuple #[.slice none 0 0,v])/\sB w' v L a/\F a/\Below w.heap.size w w')
  (hz:∀ v a w',Below w.heap.size w w'->sB w' v L a->F a->Calls Tryz.prog 40 #[v] w' fun e w2=>e=.returned (.int .i64 z)/\Below w'.heap.size w' w2) :
  Calls Tryz.prog 31 #[.pointer (some ⟨mb,0,none⟩),.string name,.string s] w fun e w'=>e=.returned (.tuple #[.slice none 0 0,.int .i64 z])/\Below w.heap.size w w':=by
 have c0:=ae (i:=0) hm rfl
 replace hz:Hid _:=hz
 go_enter Tryz.func31,Tryz.ntmps31
 go_wp2_with fail
 refine hA.mono ?_
 rintro e w1 ⟨v,a,rfl,hE,hF,hb⟩
 have he:=hz.out v a w1 hb hE hF
 obtain ⟨T0,p0,rfl⟩:=hE.iface
 have Hb:Hid (Below w.heap.size w w1):=hb
 clear hE hb
 go_wp2_with fail
 refine he.mono ?_
 rintro e w2 ⟨rfl,cB⟩
 go_wp2_with fail
 go_ret2
 exact ⟨rfl,Hb.out.tr cB⟩
theorem add_back (name s:ByteArray) {aj:Nat} {w:World} {R:Value->World->Prop} (i:Nat)
  (hA:Calls Tryz.prog 91 #[.pointer (some ⟨aj,0,none⟩),.string name,.string s] w fun e w'=>e=.returned (.tuple #[.int .i64 (i:Int),.nilIface])/\Calls Tryz.prog 92 #[.pointer (some ⟨aj,0,none⟩),.int .i64 (i:Int)] w' fun e w'=>∃ v,e=.returned v/\R v w') :
  Calls Tryz.prog 48 #[.pointer (some ⟨aj,0,none⟩),.string name,.string s] w fun e w'=>∃ v,e=.returned (.tuple #[v,.nilIface])/\R v w':=by
 go_enter Tryz.func48,Tryz.ntmps48
 go_wp2_with fail
 refine hA.mono ?_
 rintro e w1 ⟨rfl,hB⟩
 go_wp2_with fail
 refine hB.mono ?_
 rintro e w2 ⟨v,rfl,hR⟩
 replace hR:Hid _:=hR
 go_wp2_with fail
 go_ret2
 exact ⟨v,rfl,hR.out⟩
theorem add_err (name s:ByteArray) {aj:Nat} {w:World} {F:Addr->Prop} {L:TypeId}
  (hA:Calls Tryz.prog 91 #[.pointer (some ⟨aj,0,none⟩),.string name,.string s] w fun e w'=>∃ k T q a,e=.returned (.tuple #[.int .i64 k,.iface T q])/\sB w' (.iface T q) L a/\F a/\Below w.heap.size w w') :
  Calls Tryz.prog 48 #[.pointer (some ⟨aj,0,none⟩),.string name,.string s] w fun e w'=>∃ v a,e=.returned (.tuple #[.slice none 0 0,v])/\sB w' v L a/\F a/\Below w.heap.size w w':=by
 go_enter Tryz.func48,Tryz.ntmps48
 go_wp2_with fail
 refine hA.mono ?_
 rintro e w1 ⟨k,T,q,a,rfl,hE,hF,hb⟩
 have hE:Hid (sB w1 (.iface T q) L a/\F a):=⟨hE,hF⟩
 go_wp2_with fail
 go_ret2
 exact ⟨_,a,rfl,err_pol (aB _ _ _ rfl) (hE.out.1.down ((Below.refl _ w1).al _)),hE.out.2,hb.al _⟩
theorem monadd_back (mb:Nat) (name s:ByteArray) {aj:Nat} {w:World} {R:Value->World->Prop} (hm:w.heap[mb]? = some (.cells #[.pointer (some ⟨aj,0,none⟩)] 104 (0,0)))
  (hA:Calls Tryz.prog 48 #[.pointer (some ⟨aj,0,none⟩),.string name,.string s] w fun e w'=>∃ v,e=.returned (.tuple #[v,.nilIface])/\R v w') :
  Calls Tryz.prog 27 #[.pointer (some ⟨mb,0,none⟩),.string name,.string s] w fun e w'=>∃ v,e=.returned (.tuple #[v,.int .i64 0])/\R v w':=by
 have c0:=ae (i:=0) hm rfl
 go_enter Tryz.func27,Tryz.ntmps27
 go_wp2_with fail
 refine hA.mono ?_
 rintro e w1 ⟨v,rfl,hR⟩
 have hR:Hid (R v w1):=hR
 go_wp2_with fail
 refine (ow w1).mono ?_
 rintro e w2 ⟨rfl,rfl⟩
 go_wp2_with fail
 go_ret2
 exact ⟨v,rfl,hR.out⟩
theorem monadd_err (mb:Nat) (name s:ByteArray) {aj:Nat} {w:World} {F:Addr->Prop} {L:TypeId} {z:Int} (hm:w.heap[mb]? = some (.cells #[.pointer (some ⟨aj,0,none⟩)] 104 (0,0)))
  (hA:Calls Tryz.prog 48 #[.pointer (some ⟨aj,0,none⟩),.string name,.string s] w fun e w'=>∃ v a,e=.returned (.tuple #[.slice none 0 0,v])/\sB w' v L a/\F a/\Below w.heap.size w w')
  (hz:∀ v a w',Below w.heap.size w w'->sB w' v L a->F a->Calls Tryz.prog 40 #[v] w' fun e w2=>e=.returned (.int .i64 z)/\Below w'.heap.size w' w2) :
  Calls Tryz.prog 27 #[.pointer (some ⟨mb,0,none⟩),.string name,.string s] w fun e w'=>e=.returned (.tuple #[.slice none 0 0,.int .i64 z])/\Below w.heap.size w w':=by
 have c0:=ae (i:=0) hm rfl
 replace hz:Hid _:=hz
 go_enter Tryz.func27,Tryz.ntmps27
 go_wp2_with fail
 refine hA.mono ?_
 rintro e w1 ⟨v,a,rfl,hE,hF,hb⟩
 have he:=hz.out v a w1 hb hE hF
 obtain ⟨T0,p0,rfl⟩:=hE.iface
 have Hb:Hid (Below w.heap.size w w1):=hb
 clear hE hb
 go_wp2_with fail
 refine he.mono ?_
 rintro e w2 ⟨rfl,cB⟩
 go_wp2_with fail
 go_ret2
 exact ⟨rfl,Hb.out.tr cB⟩
theorem lx {α:Type} {l:List α} {a b:α} {i j:Nat} (hi:i<=l.length) (h:(l.take i++a::l.drop i)[j]? = some b):(j=i/\b=a)\/(j≠i/\l[if j<i then j else j-1]? = some b):=by
 have hl:(l.take i).length=i:=by simp;omega
 by_cases h1:j<i
 ·rw [List.getElem?_append_left (by omega),List.getElem?_take,if_pos h1] at h
  exact .inr ⟨by omega,by rw [if_pos h1];exact h⟩
 ·rw [List.getElem?_append_right (by omega),hl] at h
  by_cases h2:j=i
  ·subst h2
   rw [Nat.sub_self] at h
   simp at h
   exact .inl ⟨rfl,h.symm⟩
  ·obtain ⟨k,hk⟩:∃ k,j-i=k+1:=⟨j-i-1,by omega⟩
   rw [hk,List.getElem?_cons_succ,List.getElem?_drop] at h
   refine .inr ⟨h2,?_⟩
   rw [if_neg h1,show j-1=i+k by omega]
   exact h
theorem sents_ins {w W:World} {ps:List bC} {xs:List (BT aO)} (h:bP w ps xs) (hb:Below w.heap.size w W) {i:Nat} (hi:i<=ps.length) {q:bC} {x:BT aO} (hsx:aC 143 0 W x (.pointer q.bV)) (hx:dx x/\aV (ak x)<=1000000/\aK x<=12):bP W (ps.take i++q::ps.drop i) (xs.take i++x::xs.drop i):=by
 have h':=h.down hb
 have hl:=h.len
 refine ⟨by simp;omega,fun j p y hj hy=>?_,fun y hy=>?_⟩
 ·rcases lx hi hj with ⟨rfl,rfl⟩ | ⟨n1,g1⟩
  ·rcases lx (by omega) hy with ⟨_,rfl⟩ | ⟨n2,_⟩
   ·exact hsx
   ·exact absurd rfl n2
  ·rcases lx (by omega) hy with ⟨e,_⟩ | ⟨_,g2⟩
   ·exact absurd e n1
   ·exact h'.each _ p y g1 g2
 ·rcases List.mem_append.1 hy with hy | hy
  ·exact h.fine y (List.mem_of_mem_take hy)
  ·rcases List.mem_cons.1 hy with rfl | hy
   ·exact hx
   ·exact h.fine y (List.mem_of_mem_drop hy)
theorem apart_ins {w:World} {ss:List bt} (h:Apart ss) (hk:∀ s∈ss,eG w s) {i cj:Nat} (hi:i<=ss.length) (hs:w.heap.size<=cj):Apart (ss.take i++⟨cj,.slice none 0 0,0,[]⟩::ss.drop i):=by
 have cz:∀ s∈ss,s.cj<w.heap.size:=fun s hm=>aw (hk s hm).1
 intro a b s t ha hb hab
 rcases lx hi ha with ⟨e1,rfl⟩ | ⟨n1,g1⟩
 ·rcases lx hi hb with ⟨e2,_⟩ | ⟨n2,g2⟩
  ·omega
  ·have:=cz t (List.mem_of_getElem? g2)
   exact ⟨by show cj≠t.cj;omega,fun g hg=>by cases hg⟩
 ·rcases lx hi hb with ⟨e2,rfl⟩ | ⟨n2,g2⟩
  ·have:=cz s (List.mem_of_getElem? g1)
   exact ⟨by show s.cj≠cj;omega,fun g _ hg=>by cases hg⟩
  ·refine h _ _ s t g1 g2 ?_
   split<;>split<;>omega
def fresh (name:ByteArray) (sp:Option Addr) (cj:Nat):bC:=⟨name,sp,some ⟨cj,0,none⟩,0,1,false⟩
theorem add_any (name s:ByteArray) (x:BT aO) {aj:Nat} {ai room:Int} {no:Option Addr} {aI:Nat} {K:List Key} {ea:Option Addr} {az:Nat} {C:List bx} {E:List Pe} {pa:Option Addr} {aM:Nat} {ps:List bC} {ss:List bt} {xs:List (BT aO)} {w:World} (h:bj w aj ai room no aI K ea az C E pa aM ps ss) (jh:bL ps) (hS:bP w ps xs) (h8:ps.length<8) (hN:eR name) (hNs:name.size<=1000) (hm:s.size<=maxLen) (hg:eF w) (l9:14<=w.heap.size) (hr:cI s=(some x,0)) (hX:aV (ak x)<=1000000) (hR:ax x<=ai) (i:Nat) (hi:bq name ps=i) (gQ:b8 name ps=false) :
  Calls Tryz.prog 91 #[.pointer (some ⟨aj,0,none⟩),.string name,.string s] w fun e w'=>∃ v,e=.returned (.tuple #[.int .i64 (i:Int),v])/\(((dN (ef (xs.take i++x::xs.drop i)) (ps.length+1)).length<=40/\v=.nilIface/\∃ sp cj,w.heap.size<=cj/\After aj ai room ea az C E (xs.take i++x::xs.drop i) (ps.take i++fresh name sp cj::ps.drop i) (ss.take i++⟨cj,.slice none 0 0,0,[]⟩::ss.drop i) w w')\/(40<(dN (ef (xs.take i++x::xs.drop i)) (ps.length+1)).length/\ManyAt v w w')):=by
 obtain ⟨hgd,hz,hdx,_⟩:=iJ hr
 have qo:i<=ps.length:=by rw [<- hi];exact jW name ps
 refine add_walk name s x h jh h8 hN hNs hm hg l9 hr hR i hi gQ _ fun sp cj g gc cur V hb hgl hstl hh hP hgc df hsx=>?_
 have hP:b5 cur 0 (ps.take i++fresh name sp cj::ps.drop i):=hP
 have ko:bP V (ps.take i++fresh name sp cj::ps.drop i) (xs.take i++x::xs.drop i):=sents_ins hS hb qo hsx ⟨⟨hgd,hz⟩,hX,hdx⟩
 have hl:(ps.take i++fresh name sp cj::ps.drop i).length=ps.length+1:=by simp;omega
 rcases Nat.lt_or_ge 40 (dN (ef (xs.take i++x::xs.drop i)) (ps.length+1)).length with hk | hk
 ·have:=many_after h hb hh hgl hP (by omega) (by omega:_<=gc) ko (by rw [hl];exact hk)
  rw [hl] at this
  refine this.mono ?_
  rintro e w' ⟨v,rfl,hM⟩
  exact ⟨v,rfl,.inr ⟨hk,hM⟩⟩
 ·have hpl:=h.vz
  have:=qd (ss:=ss.take i++⟨cj,.slice none 0 0,0,[]⟩::ss.drop i) h hb hh hgl hP (by omega) (by omega:_<=gc) ko (by rw [hl];exact hk) (by simp;omega) (fun j t q ht hq=>by
   rcases lx (by omega) ht with ⟨rfl,rfl⟩ | ⟨n1,g1⟩
   ·rcases lx qo hq with ⟨_,rfl⟩ | ⟨n2,_⟩
    ·rfl
    ·exact absurd rfl n2
   ·rcases lx qo hq with ⟨e,_⟩ | ⟨_,g2⟩
    ·exact absurd e n1
    ·exact h.pstr _ t q g1 g2) (fun t ht=>by
   have hold:∀ t∈ss,eG V t:=fun t ht=>eG.move (h.sok t ht) (au.aL (P:=fun _=>False) hb) (dn.none _ _)
   rcases List.mem_append.1 ht with ht | ht
   ·exact hold t (List.mem_of_mem_take ht)
   ·rcases List.mem_cons.1 ht with rfl | ht
    ·exact ⟨df,World.ownsRow_nil _ _ _ _⟩
    ·exact hold t (List.mem_of_mem_drop ht)) (apart_ins h.apart h.sok (by omega) hstl)
  rw [hl] at this
  refine this.mono ?_
  rintro e w' ⟨rfl,hA⟩
  exact ⟨_,rfl,.inl ⟨hk,rfl,sp,cj,hstl,hA⟩⟩
theorem add_twice (name s:ByteArray) (x:BT aO) {aj:Nat} {ai room:Int} {no:Option Addr} {aI:Nat} {K:List Key} {ea:Option Addr} {az:Nat} {C:List bx} {E:List Pe} {pa:Option Addr} {aM:Nat} {ps:List bC} {ss:List bt} {w:World} (h:bj w aj ai room no aI K ea az C E pa aM ps ss) (jh:bL ps) (hN:eR name) (hm:s.size<=maxLen) (hg:eF w) (l9:14<=w.heap.size) (hr:cI s=(some x,0)) (hR:ax x<=ai) (gQ:b8 name ps=true) {a:Addr} (hE:fb w 2 tTwice a) :
  Calls Tryz.prog 91 #[.pointer (some ⟨aj,0,none⟩),.string name,.string s] w fun e w'=>∃ k T q a',e=.returned (.tuple #[.int .i64 k,.iface T q])/\sB w' (.iface T q) 357 a'/\a'=a/\Below w.heap.size w w':=by
 have hpf:=h.tW
 have hRd:=p_ aj ai (.int .i64 room) _ _ _ name s x w h.cell hN hm hg l9 hr hR
 have hf:Hid (∀ W,Below w.heap.size w W->Calls Tryz.prog 97 #[.pointer (some ⟨aj,0,none⟩),.string name] W fun e w'=>e=.returned (.tuple #[.int .i64 (bq name ps:Nat),.bool true])/\Below W.heap.size W w'):=fun W hb=>by
  have:=mC aj (.int .i64 ai) (.int .i64 room) _ _ pa aM ps name W (hb.aE h.cell) (fg.move h.oX (au.aL (P:=fun _=>False) hb) (dn.none _ _)) jh (by omega)
  rw [gQ] at this
  exact this
 have HE:Hid (fb w 2 tTwice a):=hE
 clear h jh gQ hE hg hm hr hR
 generalize bq name ps=pl at *
 go_enter Tryz.func91,Tryz.ntmps91
 go_wp2_with fail
 refine hRd.mono ?_
 rintro e w1 ⟨sp,rfl,hsx,a_⟩
 clear hRd hsx
 go_wp2_with fail
 refine (hf.out w1 a_).mono ?_
 rintro e w2 ⟨rfl,cB⟩
 have qv:=a_.tr cB
 have c:=(HE.out.down qv).cell
 go_wp2_with fail
 go_region
 all_goals go_wp2_with fail
 all_goals go_ret2
 all_goals exact ⟨_,_,_,_,rfl,uB tS,rfl,qv.drew⟩
theorem amend_none (name s:ByteArray) (x:BT aO) {aj:Nat} {ai room:Int} {no:Option Addr} {aI:Nat} {K:List Key} {ea:Option Addr} {az:Nat} {C:List bx} {E:List Pe} {pa:Option Addr} {aM:Nat} {ps:List bC} {ss:List bt} {w:World} (h:bj w aj ai room no aI K ea az C E pa aM ps ss) (jh:bL ps) (hN:eR name) (hm:s.size<=maxLen) (hg:eF w) (l9:14<=w.heap.size) (hr:cI s=(some x,0)) (hR:ax x<=ai) (gQ:b8 name ps=false) {a:Addr} (hE:fb w 3 tNone a) :
  Calls Tryz.prog 96 #[.pointer (some ⟨aj,0,none⟩),.string name,.string s] w fun e w'=>∃ k T q a',e=.returned (.tuple #[.int .i64 k,.iface T q])/\sB w' (.iface T q) 357 a'/\a'=a/\Below w.heap.size w w':=by
 have hpf:=h.tW
 have hRd:=p_ aj ai (.int .i64 room) _ _ _ name s x w h.cell hN hm hg l9 hr hR
 have hf:Hid (∀ W,Below w.heap.size w W->Calls Tryz.prog 97 #[.pointer (some ⟨aj,0,none⟩),.string name] W fun e w'=>e=.returned (.tuple #[.int .i64 (bq name ps:Nat),.bool false])/\Below W.heap.size W w'):=fun W hb=>by
  have:=mC aj (.int .i64 ai) (.int .i64 room) _ _ pa aM ps name W (hb.aE h.cell) (fg.move h.oX (au.aL (P:=fun _=>False) hb) (dn.none _ _)) jh (by omega)
  rw [gQ] at this
  exact this
 have HE:Hid (fb w 3 tNone a):=hE
 clear h jh gQ hE hg hm hr hR
 generalize bq name ps=pl at *
 go_enter Tryz.func96,Tryz.ntmps96
 go_wp2_with fail
 refine hRd.mono ?_
 rintro e w1 ⟨sp,rfl,hsx,a_⟩
 clear hRd hsx
 go_wp2_with fail
 refine (hf.out w1 a_).mono ?_
 rintro e w2 ⟨rfl,cB⟩
 have qv:=a_.tr cB
 have c:=(HE.out.down qv).cell
 go_wp2_with fail
 go_region
 all_goals go_wp2_with fail
 all_goals go_ret2
 all_goals exact ⟨_,_,_,_,rfl,uB tS,rfl,qv.drew⟩
theorem xAt_ins {xs:List (BT aO)} {x:BT aO} {i:Nat} (hi:i<=xs.length):ef (xs.take i++x::xs.drop i) i=x:=by
 have hl:(xs.take i).length=i:=by simp;omega
 unfold ef
 rw [List.getD_eq_getElem?_getD,List.getElem?_append_right (by omega),hl,Nat.sub_self]
 rfl
theorem xAt_set {xs:List (BT aO)} {x:BT aO} {i:Nat} (hi:i<xs.length):ef (xs.set i x) i=x:=by
 unfold ef
 rw [List.getD_eq_getElem?_getD,List.getElem?_set_self hi]
 rfl
theorem ins_self {α:Type} {l:List α} {a:α} {i:Nat} (hi:i<=l.length):(l.take i++a::l.drop i)[i]? = some a:=by
 have hl:(l.take i).length=i:=by simp;omega
 rw [List.getElem?_append_right (by omega),hl,Nat.sub_self]
 rfl
theorem ManyAt.err {v:Value} {w w':World} (h:ManyAt v w w'):∃ T q a,v=.iface T q/\sB w' (.iface T q) 132 a/\Below w.heap.size w w':=by
 obtain ⟨tb,k,rfl,_,hb⟩:=h
 exact ⟨_,_,_,rfl,uB leafMany,hb⟩
theorem monAdd_ok (mb:Nat) (name s:ByteArray) (x:BT aO) {aj:Nat} {ai room:Int} {no:Option Addr} {aI:Nat} {K:List Key} {ea:Option Addr} {az:Nat} {C:List bx} {E:List Pe} {pa:Option Addr} {aM:Nat} {ps:List bC} {ss:List bt} {xs:List (BT aO)} {w:World} (hm:w.heap[mb]? = some (.cells #[.pointer (some ⟨aj,0,none⟩)] 104 (0,0))) (h:bj w aj ai room no aI K ea az C E pa aM ps ss) (jh:bL ps) (hS:bP w ps xs) (hN:eR name) (hz:s.size<=maxLen) (hg:eF w) (l9:14<=w.heap.size) (hr:cI s=(some x,0)) (hX:aV (ak x)<=1000000) (hR:0<=ax x/\ax x<=ai) (hT:∀ c∈C,0<=c.time/\c.time<=1000000000000) (h8:ps.length<8) (hNs:name.size<=1000) (i:Nat) (hi:bq name ps=i) (gQ:b8 name ps=false) (hK:(dN (ef (xs.take i++x::xs.drop i)) (ps.length+1)).length<=40) :
  Calls Tryz.prog 27 #[.pointer (some ⟨mb,0,none⟩),.string name,.string s] w fun e w'=>∃ v,e=.returned (.tuple #[v,.int .i64 0])/\∃ sp cj,w.heap.size<=cj/\AfterB aj ai room ea az C E (xs.take i++x::xs.drop i) (ps.take i++fresh name sp cj::ps.drop i) (ss.take i++⟨cj,.slice none 0 0,0,[]⟩::ss.drop i) i 1 w w' v:=by
 have qo:i<=ps.length:=by rw [<- hi];exact jW name ps
 have hret:=h.ret
 refine monadd_back mb name s hm (add_back name s i ((add_any name s x h jh hS h8 hN hNs hz hg l9 hr hX hR.2 i hi gQ).mono ?_))
 rintro e w' ⟨v,rfl,⟨_,rfl,sp,cj,h1,h2⟩ | ⟨hk,_⟩⟩
 ·refine ⟨rfl,(back_after h2 i (fresh name sp cj) (ins_self qo) (by rw [xAt_ins (by rw [hS.len];exact qo)];omega) hT).mono ?_⟩
  rintro e w2 ⟨v,rfl,hB⟩
  exact ⟨v,rfl,sp,cj,h1,hB⟩
 ·omega
theorem monAmend_ok (mb:Nat) (name s:ByteArray) (x:BT aO) {aj:Nat} {ai room:Int} {no:Option Addr} {aI:Nat} {K:List Key} {ea:Option Addr} {az:Nat} {C:List bx} {E:List Pe} {pa:Option Addr} {aM:Nat} {ps:List bC} {ss:List bt} {xs:List (BT aO)} {w:World} (hm:w.heap[mb]? = some (.cells #[.pointer (some ⟨aj,0,none⟩)] 104 (0,0))) (h:bj w aj ai room no aI K ea az C E pa aM ps ss) (jh:bL ps) (hS:bP w ps xs) (hN:eR name) (hz:s.size<=maxLen) (hg:eF w) (l9:14<=w.heap.size) (hr:cI s=(some x,0)) (hX:aV (ak x)<=1000000) (hR:0<=ax x/\ax x<=ai) (hT:∀ c∈C,0<=c.time/\c.time<=1000000000000) (hver:∀ p∈ps,0<=p.cu/\p.cu<=1000000) (i:Nat) (hi:bq name ps=i) (p:bC) (hp:ps[i]? = some p) (gQ:b8 name ps=true) (hK:(dN (ef (xs.set i x)) ps.length).length<=40) :
  Calls Tryz.prog 31 #[.pointer (some ⟨mb,0,none⟩),.string name,.string s] w fun e w'=>∃ v,e=.returned (.tuple #[v,.int .i64 0])/\∃ sp,AfterB aj ai room ea az C E (xs.set i x) (ps.set i (ld sp p)) ss i (p.cu+1) w w' v:=by
 have qo:i<ps.length:=(List.getElem?_eq_some_iff.1 hp).1
 have hret:=h.ret
 refine monamend_back mb name s hm (amend_back name s i ((amend_any name s x h jh hS hver hN hz hg l9 hr hX hR.2 i hi p hp gQ).mono ?_))
 rintro e w' ⟨v,rfl,⟨_,rfl,sp,h2⟩ | ⟨hk,_⟩⟩
 ·refine ⟨rfl,(back_after h2 i (ld sp p) (List.getElem?_set_self qo) (by rw [xAt_set (by rw [hS.len];exact qo)];omega) hT).mono ?_⟩
  rintro e w2 ⟨v,rfl,hB⟩
  exact ⟨v,rfl,sp,hB⟩
 ·omega
theorem monAdd_many (mb:Nat) (name s:ByteArray) (x:BT aO) {aj:Nat} {ai room:Int} {no:Option Addr} {aI:Nat} {K:List Key} {ea:Option Addr} {az:Nat} {C:List bx} {E:List Pe} {pa:Option Addr} {aM:Nat} {ps:List bC} {ss:List bt} {xs:List (BT aO)} {w:World} (hm:w.heap[mb]? = some (.cells #[.pointer (some ⟨aj,0,none⟩)] 104 (0,0))) (h:bj w aj ai room no aI K ea az C E pa aM ps ss) (jh:bL ps) (hS:bP w ps xs) (hN:eR name) (hz:s.size<=maxLen) (hg:eF w) (pg:jz w) (l9:14<=w.heap.size) (hr:cI s=(some x,0)) (hX:aV (ak x)<=1000000) (hR:ax x<=ai) (h8:ps.length<8) (hNs:name.size<=1000) (i:Nat) (hi:bq name ps=i) (gQ:b8 name ps=false) (hK:40<(dN (ef (xs.take i++x::xs.drop i)) (ps.length+1)).length) :
  Calls Tryz.prog 27 #[.pointer (some ⟨mb,0,none⟩),.string name,.string s] w fun e w'=>e=.returned (.tuple #[.slice none 0 0,.int .i64 8])/\Below w.heap.size w w':=by
 refine monadd_err (F:=fun _=>True) mb name s hm (add_err name s ((add_any name s x h jh hS h8 hN hNs hz hg l9 hr hX hR i hi gQ).mono ?_)) (fun v a w' hb hE _=>errno_many v a w' (hg.below hb) (pg.keep hb.block) hE)
 rintro e w' ⟨v,rfl,⟨hk,_⟩ | ⟨_,hM⟩⟩
 ·omega
 ·obtain ⟨T,q,a,rfl,h1,h2⟩:=hM.err
  exact ⟨_,T,q,a,rfl,h1,trivial,h2⟩
theorem monAmend_many (mb:Nat) (name s:ByteArray) (x:BT aO) {aj:Nat} {ai room:Int} {no:Option Addr} {aI:Nat} {K:List Key} {ea:Option Addr} {az:Nat} {C:List bx} {E:List Pe} {pa:Option Addr} {aM:Nat} {ps:List bC} {ss:List bt} {xs:List (BT aO)} {w:World} (hm:w.heap[mb]? = some (.cells #[.pointer (some ⟨aj,0,none⟩)] 104 (0,0))) (h:bj w aj ai room no aI K ea az C E pa aM ps ss) (jh:bL ps) (hS:bP w ps xs) (hN:eR name) (hz:s.size<=maxLen) (hg:eF w) (pg:jz w) (l9:14<=w.heap.size) (hr:cI s=(some x,0)) (hX:aV (ak x)<=1000000) (hR:ax x<=ai) (hver:∀ p∈ps,0<=p.cu/\p.cu<=1000000) (i:Nat) (hi:bq name ps=i) (p:bC) (hp:ps[i]? = some p) (gQ:b8 name ps=true) (hK:40<(dN (ef (xs.set i x)) ps.length).length) :
  Calls Tryz.prog 31 #[.pointer (some ⟨mb,0,none⟩),.string name,.string s] w fun e w'=>e=.returned (.tuple #[.slice none 0 0,.int .i64 8])/\Below w.heap.size w w':=by
 refine vo (F:=fun _=>True) mb name s hm (amend_err name s ((amend_any name s x h jh hS hver hN hz hg l9 hr hX hR i hi p hp gQ).mono ?_)) (fun v a w' hb hE _=>errno_many v a w' (hg.below hb) (pg.keep hb.block) hE)
 rintro e w' ⟨v,rfl,⟨hk,_⟩ | ⟨_,hM⟩⟩
 ·omega
 ·obtain ⟨T,q,a,rfl,h1,h2⟩:=hM.err
  exact ⟨_,T,q,a,rfl,h1,trivial,h2⟩
theorem monAdd_twice (mb:Nat) (name s:ByteArray) (x:BT aO) {aj:Nat} {ai room:Int} {no:Option Addr} {aI:Nat} {K:List Key} {ea:Option Addr} {az:Nat} {C:List bx} {E:List Pe} {pa:Option Addr} {aM:Nat} {ps:List bC} {ss:List bt} {w:World} (hm:w.heap[mb]? = some (.cells #[.pointer (some ⟨aj,0,none⟩)] 104 (0,0))) (h:bj w aj ai room no aI K ea az C E pa aM ps ss) (jh:bL ps) (hN:eR name) (hz:s.size<=maxLen) (hg:eF w) (pg:jz w) (l9:14<=w.heap.size) (hr:cI s=(some x,0)) (hR:ax x<=ai) (gQ:b8 name ps=true) :
  Calls Tryz.prog 27 #[.pointer (some ⟨mb,0,none⟩),.string name,.string s] w fun e w'=>e=.returned (.tuple #[.slice none 0 0,.int .i64 5])/\Below w.heap.size w w':=by
 obtain ⟨a,hE⟩:=pg.eTwice
 refine monadd_err (F:=fun a'=>a'=a) mb name s hm (add_err name s (add_twice name s x h jh hN hz hg l9 hr hR gQ hE)) (fun v a' w' hb hEr ha=>?_)
 subst ha
 exact errno_twice v a' w' (hg.below hb) (pg.keep hb.block) hEr (hE.down hb)
theorem monAmend_none (mb:Nat) (name s:ByteArray) (x:BT aO) {aj:Nat} {ai room:Int} {no:Option Addr} {aI:Nat} {K:List Key} {ea:Option Addr} {az:Nat} {C:List bx} {E:List Pe} {pa:Option Addr} {aM:Nat} {ps:List bC} {ss:List bt} {w:World} (hm:w.heap[mb]? = some (.cells #[.pointer (some ⟨aj,0,none⟩)] 104 (0,0))) (h:bj w aj ai room no aI K ea az C E pa aM ps ss) (jh:bL ps) (hN:eR name) (hz:s.size<=maxLen) (hg:eF w) (pg:jz w) (l9:14<=w.heap.size) (hr:cI s=(some x,0)) (hR:ax x<=ai) (gQ:b8 name ps=false) :
  Calls Tryz.prog 31 #[.pointer (some ⟨mb,0,none⟩),.string name,.string s] w fun e w'=>e=.returned (.tuple #[.slice none 0 0,.int .i64 6])/\Below w.heap.size w w':=by
 obtain ⟨a,hE⟩:=pg.eNone
 refine vo (F:=fun a'=>a'=a) mb name s hm (amend_err name s (amend_none name s x h jh hN hz hg l9 hr hR gQ hE)) (fun v a' w' hb hEr ha=>?_)
 subst ha
 exact errno_none v a' w' (hg.below hb) (pg.keep hb.block) hEr (hE.down hb)
theorem remove_none (name:ByteArray) {aj:Nat} {ai room:Int} {no:Option Addr} {aI:Nat} {K:List Key} {ea:Option Addr} {az:Nat} {C:List bx} {E:List Pe} {pa:Option Addr} {aM:Nat} {ps:List bC} {ss:List bt} {w:World} (h:bj w aj ai room no aI K ea az C E pa aM ps ss) (jh:bL ps) (gQ:b8 name ps=false) {a:Addr} (hE:fb w 3 tNone a) :
  Calls Tryz.prog 52 #[.pointer (some ⟨aj,0,none⟩),.string name] w fun e w'=>∃ b,e=.returned (.iface 169 (.pointer (some ⟨b,0,none⟩)))/\w'.heap[b]? = some (.cells #[.string name,.iface 357 (.pointer (some a))] 171 (0,0))/\Below w.heap.size w w':=by
 have hpf:=h.tW
 have hf:=mC aj (.int .i64 ai) (.int .i64 room) _ _ pa aM ps name w h.cell h.oX jh (by omega)
 rw [gQ] at hf
 have HE:Hid (fb w 3 tNone a):=hE
 clear h jh gQ hE
 go_enter Tryz.func52,Tryz.ntmps52
 go_wp2_with fail
 refine hf.mono ?_
 rintro e w1 ⟨rfl,a_⟩
 have c:=(HE.out.down a_).cell
 go_wp2_with fail
 go_ret
 exact ⟨_,rfl,aB _ _ _ rfl,a_.al _⟩
theorem vn (mb:Nat) (name:ByteArray) {aj:Nat} {ai room:Int} {no:Option Addr} {aI:Nat} {ea:Option Addr} {az:Nat} {C:List bx} {E:List Pe} {pa:Option Addr} {aM:Nat} {ps:List bC} {ss:List bt} {xs:List (BT aO)} {w:World} (hm:w.heap[mb]? = some (.cells #[.pointer (some ⟨aj,0,none⟩)] 104 (0,0))) (h:bj w aj ai room no aI (dN (ef xs) ps.length) ea az C E pa aM ps ss) (jh:bL ps) (hS:bP w ps xs) (hK:(dN (ef xs) ps.length).length<=40) (i:Nat) (hi:bq name ps=i) (gQ:b8 name ps=true) :
  Calls Tryz.prog 32 #[.pointer (some ⟨mb,0,none⟩),.string name] w fun e w'=>e=.returned (.int .i64 0)/\After aj ai room ea az C E (xs.take i++xs.drop (i+1)) (ps.take i++ps.drop (i+1)) (ss.take i++ss.drop (i+1)) w w':=by
 have hr:=remove_ok name h jh hS hK i hi gQ
 have c0:=ae (i:=0) hm rfl
 clear h jh hS hK hi gQ
 go_enter Tryz.func32,Tryz.ntmps32
 go_wp2_with fail
 refine hr.mono ?_
 rintro e w1 ⟨rfl,hA⟩
 have he:=ow w1
 replace hA:Hid _:=hA
 go_wp2_with fail
 refine he.mono ?_
 rintro e w2 ⟨rfl,rfl⟩
 go_wp2_with fail
 go_ret
 exact ⟨rfl,hA.out⟩
theorem monRemove_none (mb:Nat) (name:ByteArray) {aj:Nat} {ai room:Int} {no:Option Addr} {aI:Nat} {K:List Key} {ea:Option Addr} {az:Nat} {C:List bx} {E:List Pe} {pa:Option Addr} {aM:Nat} {ps:List bC} {ss:List bt} {w:World} (hm:w.heap[mb]? = some (.cells #[.pointer (some ⟨aj,0,none⟩)] 104 (0,0))) (h:bj w aj ai room no aI K ea az C E pa aM ps ss) (jh:bL ps) (gQ:b8 name ps=false) (hg:eF w) (pg:jz w) :
  Calls Tryz.prog 32 #[.pointer (some ⟨mb,0,none⟩),.string name] w fun e w'=>e=.returned (.int .i64 6)/\Below w.heap.size w w':=by
 obtain ⟨a,hE⟩:=pg.eNone
 have hr:=remove_none name h jh gQ hE
 have c0:=ae (i:=0) hm rfl
 have HG:Hid (eF w/\jz w/\fb w 3 tNone a):=⟨hg,pg,hE⟩
 clear h jh gQ hg pg hE
 go_enter Tryz.func32,Tryz.ntmps32
 go_wp2_with fail
 refine hr.mono ?_
 rintro e w1 ⟨b,rfl,hb,a_⟩
 have he:=errno_none (.iface 169 (.pointer (some ⟨b,0,none⟩))) a w1 (HG.out.1.below a_) (HG.out.2.1.keep a_.block) (err_pol hb (uB tS)) (HG.out.2.2.down a_)
 have Hb:Hid (Below w.heap.size w w1):=a_
 clear hb a_
 go_wp2_with fail
 refine he.mono ?_
 rintro e w2 ⟨rfl,cB⟩
 go_wp2_with fail
 go_ret
 exact ⟨rfl,Hb.out.tr cB⟩
end Ev
namespace Ev
open Go.RowKit Go.Deep
def preD (m:Nat):List UInt8:=if m<10 then [] else Lib.decDigits (m/10)
def digD (m:Nat):UInt8:=UInt8.ofNat (48+m % 10)
theorem digD_int (m:Nat):((digD m).toNat:Int)=48+(m:Int) % 10:=by
 unfold digD
 rw [UInt8.toNat_ofNat']
 omega
theorem dec_pre (m:Nat):Lib.decDigits m=preD m++[digD m]:=by
 unfold preD digD
 rw [Lib.decDigits]
 split
 ·rename_i h
  rw [show m % 10=m by omega]
  rfl
 ·rfl
theorem conv_one (W:World) (b:Nat) (k:Int) (c:UInt8) (hk:(c.toNat:Int)=k) (hW:W.cell? ⟨b,0,none⟩=some (.int .u8 k)):(convert 99 9 (.slice (some ⟨b,0,none⟩) 1 1)).run Tryz.prog W=.ok (.string ⟨#[c]⟩) W :=
 run_convert_bytes_back W 99 9 5 ⟨b,0,none⟩ 1 [c] Tryz.underlying99 Tryz.underlying5 Tryz.underlying9 (fun j hj=>by
  have hj0:j=0:=by simpa using hj
  subst hj0
  rw [<- hk] at hW
  simpa [Addr.add] using hW)
set_option maxHeartbeats 2000000 in
set_option maxRecDepth 100000 in
theorem digits_any (n:Nat) (w:World) (hn:n<=1000000) :
  Calls Tryz.prog 20 #[.int .i64 (n:Int)] w fun e w'=>Below w.heap.size w w'/\∃ d,e=.returned (.string d)/\d.data.toList=Lib.decDigits n:=by
 have hcv0:=conv_one (w.alloc (.cells #[.int .u8 (48+(n:Int) % 10)] 5)) w.heap.size (48+(n:Int) % 10) (digD n) (digD_int n) (by rw [World.cell?_alloc_at _ _ _ _ rfl];rfl)
 have hmod:0<=(n:Int) % 10/\(n:Int) % 10<10:=by omega
 go_enter Tryz.func20,Tryz.ntmps20
 go_wp2_with fail
 go_loopw [0,3] (fun nv sv wr=>∃ (m:Nat) (d:ByteArray),nv=.int .i64 (m:Int)/\sv=.string d/\m<=1000000/\d.size+m<=1000001/\Below w.heap.size w wr/\Hid (Lib.decDigits n=preD m++d.data.toList)) (fun nv _ _=>(intOf nv).toNat)
 case atStart=>exact ⟨n,_,rfl,rfl,hn,by show 1+n<=_;omega,(Below.refl _ _).al _,dec_pre n⟩
 case round =>
  clear hcv0 hmod
  obtain ⟨m,d,rfl,rfl,hm,hds,h_,hD⟩:=hrel
  by_cases qF:m<10
  ·have pg:decide ((10:Int)<=(m:Int))=false:=by simp;omega
   have hD2:Hid (d.data.toList=Lib.decDigits n):=by
    show _=_
    rw [hD.out]
    unfold preD
    rw [if_pos qF]
    rfl
   clear hD
   go_wp2_with fail
   go_ret
   exact ⟨h_,d,rfl,hD2.out⟩
  ·have pg:decide ((10:Int)<=(m:Int))=true:=by simp;omega
   have hcv:=conv_one (wr.alloc (.cells #[.int .u8 (48+(m:Int)/10 % 10)] 5)) wr.heap.size (48+(m:Int)/10 % 10) (digD (m/10)) (by have:=digD_int (m/10);omega) (by rw [World.cell?_alloc_at _ _ _ _ rfl];rfl)
   have hno:¬ 9223372036854775807<1+d.size:=by omega
   have hmod:0<=(m:Int)/10 % 10/\(m:Int)/10 % 10<10:=by omega
   have hD2:Hid (Lib.decDigits n=preD (m/10)++((⟨#[digD (m/10)]⟩:ByteArray)++d).data.toList):=by
    show _=_
    rw [hD.out]
    have e:preD m=Lib.decDigits (m/10):=by unfold preD;rw [if_neg qF]
    rw [e,dec_pre (m/10)]
    simp [ByteArray.data_append]
   clear hD
   go_wp2_with fail
   go_roundw
   case rel=>exact ⟨m/10,_,by go_num,rfl,by omega,by rw [ByteArray.size_append];show 1+d.size+m/10<=_;omega,h_.al _,hD2⟩
   case measure=>simp only [intOf];omega
def aP (c n:Int):Int:=(if c<0 then -(c+1) else c) % n
def mj (c:Int):Prop:=-9223372036854775808<=c/\c<=9223372036854775807
theorem bB (c n:Int) (hn:0<n):0<=aP c n/\aP c n<n:=⟨Int.emod_nonneg _ (by omega),Int.emod_lt_of_pos _ hn⟩
set_option maxHeartbeats 1000000 in
theorem jl (c n:Int) (w:World) (hc:mj c) (hn:0<n/\n<=1000000):Calls Tryz.prog 19 #[.int .i64 c,.int .i64 n] w fun e w'=>e=.returned (.int .i64 (aP c n))/\w'=w:=by
 obtain ⟨h1,h2⟩:=hc
 have hne:n≠0:=by omega
 unfold aP
 by_cases h:c<0
 ·have hm:0<=(-(c+1)) % n/\(-(c+1)) % n<n:=⟨Int.emod_nonneg _ hne,Int.emod_lt_of_pos _ hn.1⟩
  have ht:Int.tmod (-(c+1)) n=(-(c+1)) % n:=Int.tmod_eq_emod_of_nonneg (by omega)
  simp only [h,if_true]
  go_enter Tryz.func19,Tryz.ntmps19
  go_wp2_with fail
  go_ret
  exact ⟨rfl,rfl⟩
 ·have hm:0<=c % n/\c % n<n:=⟨Int.emod_nonneg _ hne,Int.emod_lt_of_pos _ hn.1⟩
  have ht:Int.tmod c n=c % n:=Int.tmod_eq_emod_of_nonneg (by omega)
  simp only [h,if_false]
  go_enter Tryz.func19,Tryz.ntmps19
  go_wp2_with fail
  go_ret
  exact ⟨rfl,rfl⟩
def ob (c:Int):Int:=1+aP c 12
theorem pY (c:Int):1<=ob c/\ob c<=12:=by have:=bB c 12 (by decide);unfold ob;omega
theorem later_any (c:Int) (w:World) (hc:mj c):Calls Tryz.prog 22 #[.int .i64 c] w fun e w'=>e=.returned (.int .i64 (ob c))/\w'=w:=by
 have hp:=jl c 12 w hc (by decide)
 have hr:=bB c 12 (by decide)
 unfold ob
 generalize aP c 12=k at *
 go_enter Tryz.func22,Tryz.ntmps22
 go_wp2_with fail
 refine hp.mono ?_
 rintro e w1 ⟨rfl,rfl⟩
 go_wp2_with fail
 go_ret
 exact ⟨rfl,rfl⟩
end Ev
end Go.Proofs.YtpbbmagjhkakgaaGreatDoor
