import Derived.Test.YtpbbmagjhkakgaaGreatDoorEaBack2ToEaAdd
import Derived.Test.YtpbbmagjhkakgaaGreatDoorElAdd2ToEaRem2
import Derived.Test.YtpbbmagjhkakgaaGreatDoorElSemToElInv
namespace Go.Proofs.YtpbbmagjhkakgaaGreatDoor
namespace Ev
open Go.RowKit Go.Deep Go.Maps Lf
theorem lx {α:Type} {l:List α} {a b:α} {i j:Nat} (hi:i<=l.length) (h:(l.take i++a::l.drop i)[j]? = some b):(j=i/\b=a)\/(j≠i/\l[if j<i then j else j-1]? = some b):=by
 have hl:(l.take i).length=i:=by simp;omega
 by_cases h1:j<i
 ·rw [List.getElem?_append_left (by omega),List.getElem?_take,if_pos h1] at h
  exact .inr ⟨by omega,by rw [if_pos h1];exact h⟩
 ·rw [List.getElem?_append_right (by omega),hl] at h
  by_cases h2:j=i
  ·subst h2
   rw [Nat.sub_self] at h
   simp at h
   exact .inl ⟨rfl,h.symm⟩
  ·obtain ⟨k,hk⟩:∃ k,j-i=k+1:=⟨j-i-1,by omega⟩
   rw [hk,List.getElem?_cons_succ,List.getElem?_drop] at h
   refine .inr ⟨h2,?_⟩
   rw [if_neg h1,show j-1=i+k by omega]
   exact h
theorem sents_ins {w W:World} {ps:List bC} {xs:List (BT aO)} (h:bP w ps xs) (hb:Below w.heap.size w W) {i:Nat} (hi:i<=ps.length) {q:bC} {x:BT aO} (hsx:aC 143 0 W x (.pointer q.bV)) (hx:dx x/\aV (ak x)<=1000000/\aK x<=12):bP W (ps.take i++q::ps.drop i) (xs.take i++x::xs.drop i):=by
 have h':=h.down hb
 have hl:=h.len
 refine ⟨by simp;omega,fun j p y hj hy=>?_,fun y hy=>?_⟩
 ·rcases lx hi hj with ⟨rfl,rfl⟩ | ⟨n1,g1⟩
  ·rcases lx (by omega) hy with ⟨_,rfl⟩ | ⟨n2,_⟩
   ·exact hsx
   ·exact absurd rfl n2
  ·rcases lx (by omega) hy with ⟨e,_⟩ | ⟨_,g2⟩
   ·exact absurd e n1
   ·exact h'.each _ p y g1 g2
 ·rcases List.mem_append.1 hy with hy | hy
  ·exact h.fine y (List.mem_of_mem_take hy)
  ·rcases List.mem_cons.1 hy with rfl | hy
   ·exact hx
   ·exact h.fine y (List.mem_of_mem_drop hy)
theorem apart_ins {w:World} {ss:List bt} (h:Apart ss) (hk:∀ s∈ss,eG w s) {i cj:Nat} (hi:i<=ss.length) (hs:w.heap.size<=cj):Apart (ss.take i++⟨cj,.slice none 0 0,0,[]⟩::ss.drop i):=by
 have cz:∀ s∈ss,s.cj<w.heap.size:=fun s hm=>aw (hk s hm).1
 intro a b s t ha hb hab
 rcases lx hi ha with ⟨e1,rfl⟩ | ⟨n1,g1⟩
 ·rcases lx hi hb with ⟨e2,_⟩ | ⟨n2,g2⟩
  ·omega
  ·have:=cz t (List.mem_of_getElem? g2)
   exact ⟨by show cj≠t.cj;omega,fun g hg=>by cases hg⟩
 ·rcases lx hi hb with ⟨e2,rfl⟩ | ⟨n2,g2⟩
  ·have:=cz s (List.mem_of_getElem? g1)
   exact ⟨by show s.cj≠cj;omega,fun g _ hg=>by cases hg⟩
  ·refine h _ _ s t g1 g2 ?_
   split<;>split<;>omega
def fresh (name:ByteArray) (sp:Option Addr) (cj:Nat):bC:=⟨name,sp,some ⟨cj,0,none⟩,0,1,false⟩
theorem add_any (name s:ByteArray) (x:BT aO) {aj:Nat} {ai room:Int} {no:Option Addr} {aI:Nat} {K:List Key} {ea:Option Addr} {az:Nat} {C:List bx} {E:List Pe} {pa:Option Addr} {aM:Nat} {ps:List bC} {ss:List bt} {xs:List (BT aO)} {w:World} (h:bj w aj ai room no aI K ea az C E pa aM ps ss) (jh:bL ps) (hS:bP w ps xs) (h8:ps.length<8) (hN:eR name) (hNs:name.size<=1000) (hm:s.size<=maxLen) (hg:eF w) (l9:14<=w.heap.size) (hr:cI s=(some x,0)) (hX:aV (ak x)<=1000000) (hR:ax x<=ai) (i:Nat) (hi:bq name ps=i) (gQ:b8 name ps=false) :
  Calls Tryz.prog 91 #[.pointer (some ⟨aj,0,none⟩),.string name,.string s] w fun e w'=>∃ v,e=.returned (.tuple #[.int .i64 (i:Int),v])/\(((dN (ef (xs.take i++x::xs.drop i)) (ps.length+1)).length<=40/\v=.nilIface/\∃ sp cj,w.heap.size<=cj/\After aj ai room ea az C E (xs.take i++x::xs.drop i) (ps.take i++fresh name sp cj::ps.drop i) (ss.take i++⟨cj,.slice none 0 0,0,[]⟩::ss.drop i) w w')\/(40<(dN (ef (xs.take i++x::xs.drop i)) (ps.length+1)).length/\ManyAt v w w')):=by
 obtain ⟨hgd,hz,hdx,_⟩:=iJ hr
 have qo:i<=ps.length:=by rw [<- hi];exact jW name ps
 refine add_walk name s x h jh h8 hN hNs hm hg l9 hr hR i hi gQ _ fun sp cj g gc cur V hb hgl hstl hh hP hgc df hsx=>?_
 have hP:b5 cur 0 (ps.take i++fresh name sp cj::ps.drop i):=hP
 have ko:bP V (ps.take i++fresh name sp cj::ps.drop i) (xs.take i++x::xs.drop i):=sents_ins hS hb qo hsx ⟨⟨hgd,hz⟩,hX,hdx⟩
 have hl:(ps.take i++fresh name sp cj::ps.drop i).length=ps.length+1:=by simp;omega
 rcases Nat.lt_or_ge 40 (dN (ef (xs.take i++x::xs.drop i)) (ps.length+1)).length with hk | hk
 ·have:=many_after h hb hh hgl hP (by omega) (by omega:_<=gc) ko (by rw [hl];exact hk)
  rw [hl] at this
  refine this.mono ?_
  rintro e w' ⟨v,rfl,hM⟩
  exact ⟨v,rfl,.inr ⟨hk,hM⟩⟩
 ·have hpl:=h.vz
  have:=qd (ss:=ss.take i++⟨cj,.slice none 0 0,0,[]⟩::ss.drop i) h hb hh hgl hP (by omega) (by omega:_<=gc) ko (by rw [hl];exact hk) (by simp;omega) (fun j t q ht hq=>by
   rcases lx (by omega) ht with ⟨rfl,rfl⟩ | ⟨n1,g1⟩
   ·rcases lx qo hq with ⟨_,rfl⟩ | ⟨n2,_⟩
    ·rfl
    ·exact absurd rfl n2
   ·rcases lx qo hq with ⟨e,_⟩ | ⟨_,g2⟩
    ·exact absurd e n1
    ·exact h.pstr _ t q g1 g2) (fun t ht=>by
   have hold:∀ t∈ss,eG V t:=fun t ht=>eG.move (h.sok t ht) (au.aL (P:=fun _=>False) hb) (dn.none _ _)
   rcases List.mem_append.1 ht with ht | ht
   ·exact hold t (List.mem_of_mem_take ht)
   ·rcases List.mem_cons.1 ht with rfl | ht
    ·exact ⟨df,World.ownsRow_nil _ _ _ _⟩
    ·exact hold t (List.mem_of_mem_drop ht)) (apart_ins h.apart h.sok (by omega) hstl)
  rw [hl] at this
  refine this.mono ?_
  rintro e w' ⟨rfl,hA⟩
  exact ⟨_,rfl,.inl ⟨hk,rfl,sp,cj,hstl,hA⟩⟩
theorem add_twice (name s:ByteArray) (x:BT aO) {aj:Nat} {ai room:Int} {no:Option Addr} {aI:Nat} {K:List Key} {ea:Option Addr} {az:Nat} {C:List bx} {E:List Pe} {pa:Option Addr} {aM:Nat} {ps:List bC} {ss:List bt} {w:World} (h:bj w aj ai room no aI K ea az C E pa aM ps ss) (jh:bL ps) (hN:eR name) (hm:s.size<=maxLen) (hg:eF w) (l9:14<=w.heap.size) (hr:cI s=(some x,0)) (hR:ax x<=ai) (gQ:b8 name ps=true) {a:Addr} (hE:fb w 2 tTwice a) :
  Calls Tryz.prog 91 #[.pointer (some ⟨aj,0,none⟩),.string name,.string s] w fun e w'=>∃ k T q a',e=.returned (.tuple #[.int .i64 k,.iface T q])/\sB w' (.iface T q) 357 a'/\a'=a/\Below w.heap.size w w':=by
 have hpf:=h.tW
 have hRd:=p_ aj ai (.int .i64 room) _ _ _ name s x w h.cell hN hm hg l9 hr hR
 have hf:Hid (∀ W,Below w.heap.size w W->Calls Tryz.prog 97 #[.pointer (some ⟨aj,0,none⟩),.string name] W fun e w'=>e=.returned (.tuple #[.int .i64 (bq name ps:Nat),.bool true])/\Below W.heap.size W w'):=fun W hb=>by
  have:=mC aj (.int .i64 ai) (.int .i64 room) _ _ pa aM ps name W (hb.aE h.cell) (fg.move h.oX (au.aL (P:=fun _=>False) hb) (dn.none _ _)) jh (by omega)
  rw [gQ] at this
  exact this
 have HE:Hid (fb w 2 tTwice a):=hE
 clear h jh gQ hE hg hm hr hR
 generalize bq name ps=pl at *
 go_enter Tryz.func91,Tryz.ntmps91
 go_wp2_with fail
 refine hRd.mono ?_
 rintro e w1 ⟨sp,rfl,hsx,a_⟩
 clear hRd hsx
 go_wp2_with fail
 refine (hf.out w1 a_).mono ?_
 rintro e w2 ⟨rfl,cB⟩
 have qv:=a_.tr cB
 have c:=(HE.out.down qv).cell
 go_wp2_with fail
 go_region
 all_goals go_wp2_with fail
 all_goals go_ret2
 all_goals exact ⟨_,_,_,_,rfl,uB tS,rfl,qv.drew⟩
theorem amend_none (name s:ByteArray) (x:BT aO) {aj:Nat} {ai room:Int} {no:Option Addr} {aI:Nat} {K:List Key} {ea:Option Addr} {az:Nat} {C:List bx} {E:List Pe} {pa:Option Addr} {aM:Nat} {ps:List bC} {ss:List bt} {w:World} (h:bj w aj ai room no aI K ea az C E pa aM ps ss) (jh:bL ps) (hN:eR name) (hm:s.size<=maxLen) (hg:eF w) (l9:14<=w.heap.size) (hr:cI s=(some x,0)) (hR:ax x<=ai) (gQ:b8 name ps=false) {a:Addr} (hE:fb w 3 tNone a) :
  Calls Tryz.prog 96 #[.pointer (some ⟨aj,0,none⟩),.string name,.string s] w fun e w'=>∃ k T q a',e=.returned (.tuple #[.int .i64 k,.iface T q])/\sB w' (.iface T q) 357 a'/\a'=a/\Below w.heap.size w w':=by
 have hpf:=h.tW
 have hRd:=p_ aj ai (.int .i64 room) _ _ _ name s x w h.cell hN hm hg l9 hr hR
 have hf:Hid (∀ W,Below w.heap.size w W->Calls Tryz.prog 97 #[.pointer (some ⟨aj,0,none⟩),.string name] W fun e w'=>e=.returned (.tuple #[.int .i64 (bq name ps:Nat),.bool false])/\Below W.heap.size W w'):=fun W hb=>by
  have:=mC aj (.int .i64 ai) (.int .i64 room) _ _ pa aM ps name W (hb.aE h.cell) (fg.move h.oX (au.aL (P:=fun _=>False) hb) (dn.none _ _)) jh (by omega)
  rw [gQ] at this
  exact this
 have HE:Hid (fb w 3 tNone a):=hE
 clear h jh gQ hE hg hm hr hR
 generalize bq name ps=pl at *
 go_enter Tryz.func96,Tryz.ntmps96
 go_wp2_with fail
 refine hRd.mono ?_
 rintro e w1 ⟨sp,rfl,hsx,a_⟩
 clear hRd hsx
 go_wp2_with fail
 refine (hf.out w1 a_).mono ?_
 rintro e w2 ⟨rfl,cB⟩
 have qv:=a_.tr cB
 have c:=(HE.out.down qv).cell
 go_wp2_with fail
 go_region
 all_goals go_wp2_with fail
 all_goals go_ret2
 all_goals exact ⟨_,_,_,_,rfl,uB tS,rfl,qv.drew⟩
theorem xAt_ins {xs:List (BT aO)} {x:BT aO} {i:Nat} (hi:i<=xs.length):ef (xs.take i++x::xs.drop i) i=x:=by
 have hl:(xs.take i).length=i:=by simp;omega
 unfold ef
 rw [List.getD_eq_getElem?_getD,List.getElem?_append_right (by omega),hl,Nat.sub_self]
 rfl
theorem xAt_set {xs:List (BT aO)} {x:BT aO} {i:Nat} (hi:i<xs.length):ef (xs.set i x) i=x:=by
 unfold ef
 rw [List.getD_eq_getElem?_getD,List.getElem?_set_self hi]
 rfl
theorem ins_self {α:Type} {l:List α} {a:α} {i:Nat} (hi:i<=l.length):(l.take i++a::l.drop i)[i]? = some a:=by
 have hl:(l.take i).length=i:=by simp;omega
 rw [List.getElem?_append_right (by omega),hl,Nat.sub_self]
 rfl
theorem ManyAt.err {v:Value} {w w':World} (h:ManyAt v w w'):∃ T q a,v=.iface T q/\sB w' (.iface T q) 132 a/\Below w.heap.size w w':=by
 obtain ⟨tb,k,rfl,_,hb⟩:=h
 exact ⟨_,_,_,rfl,uB leafMany,hb⟩
theorem monAdd_ok (mb:Nat) (name s:ByteArray) (x:BT aO) {aj:Nat} {ai room:Int} {no:Option Addr} {aI:Nat} {K:List Key} {ea:Option Addr} {az:Nat} {C:List bx} {E:List Pe} {pa:Option Addr} {aM:Nat} {ps:List bC} {ss:List bt} {xs:List (BT aO)} {w:World} (hm:w.heap[mb]? = some (.cells #[.pointer (some ⟨aj,0,none⟩)] 104 (0,0))) (h:bj w aj ai room no aI K ea az C E pa aM ps ss) (jh:bL ps) (hS:bP w ps xs) (hN:eR name) (hz:s.size<=maxLen) (hg:eF w) (l9:14<=w.heap.size) (hr:cI s=(some x,0)) (hX:aV (ak x)<=1000000) (hR:0<=ax x/\ax x<=ai) (hT:∀ c∈C,0<=c.time/\c.time<=1000000000000) (h8:ps.length<8) (hNs:name.size<=1000) (i:Nat) (hi:bq name ps=i) (gQ:b8 name ps=false) (hK:(dN (ef (xs.take i++x::xs.drop i)) (ps.length+1)).length<=40) :
  Calls Tryz.prog 27 #[.pointer (some ⟨mb,0,none⟩),.string name,.string s] w fun e w'=>∃ v,e=.returned (.tuple #[v,.int .i64 0])/\∃ sp cj,w.heap.size<=cj/\AfterB aj ai room ea az C E (xs.take i++x::xs.drop i) (ps.take i++fresh name sp cj::ps.drop i) (ss.take i++⟨cj,.slice none 0 0,0,[]⟩::ss.drop i) i 1 w w' v:=by
 have qo:i<=ps.length:=by rw [<- hi];exact jW name ps
 have hret:=h.ret
 refine monadd_back mb name s hm (add_back name s i ((add_any name s x h jh hS h8 hN hNs hz hg l9 hr hX hR.2 i hi gQ).mono ?_))
 rintro e w' ⟨v,rfl,⟨_,rfl,sp,cj,h1,h2⟩ | ⟨hk,_⟩⟩
 ·refine ⟨rfl,(back_after h2 i (fresh name sp cj) (ins_self qo) (by rw [xAt_ins (by rw [hS.len];exact qo)];omega) hT).mono ?_⟩
  rintro e w2 ⟨v,rfl,hB⟩
  exact ⟨v,rfl,sp,cj,h1,hB⟩
 ·omega
theorem monAmend_ok (mb:Nat) (name s:ByteArray) (x:BT aO) {aj:Nat} {ai room:Int} {no:Option Addr} {aI:Nat} {K:List Key} {ea:Option Addr} {az:Nat} {C:List bx} {E:List Pe} {pa:Option Addr} {aM:Nat} {ps:List bC} {ss:List bt} {xs:List (BT aO)} {w:World} (hm:w.heap[mb]? = some (.cells #[.pointer (some ⟨aj,0,none⟩)] 104 (0,0))) (h:bj w aj ai room no aI K ea az C E pa aM ps ss) (jh:bL ps) (hS:bP w ps xs) (hN:eR name) (hz:s.size<=maxLen) (hg:eF w) (l9:14<=w.heap.size) (hr:cI s=(some x,0)) (hX:aV (ak x)<=1000000) (hR:0<=ax x/\ax x<=ai) (hT:∀ c∈C,0<=c.time/\c.time<=1000000000000) (hver:∀ p∈ps,0<=p.cu/\p.cu<=1000000) (i:Nat) (hi:bq name ps=i) (p:bC) (hp:ps[i]? = some p) (gQ:b8 name ps=true) (hK:(dN (ef (xs.set i x)) ps.length).length<=40) :
  Calls Tryz.prog 31 #[.pointer (some ⟨mb,0,none⟩),.string name,.string s] w fun e w'=>∃ v,e=.returned (.tuple #[v,.int .i64 0])/\∃ sp,AfterB aj ai room ea az C E (xs.set i x) (ps.set i (ld sp p)) ss i (p.cu+1) w w' v:=by
 have qo:i<ps.length:=(List.getElem?_eq_some_iff.1 hp).1
 have hret:=h.ret
 refine monamend_back mb name s hm (amend_back name s i ((amend_any name s x h jh hS hver hN hz hg l9 hr hX hR.2 i hi p hp gQ).mono ?_))
 rintro e w' ⟨v,rfl,⟨_,rfl,sp,h2⟩ | ⟨hk,_⟩⟩
 ·refine ⟨rfl,(back_after h2 i (ld sp p) (List.getElem?_set_self qo) (by rw [xAt_set (by rw [hS.len];exact qo)];omega) hT).mono ?_⟩
  rintro e w2 ⟨v,rfl,hB⟩
  exact ⟨v,rfl,sp,hB⟩
 ·omega
theorem monAdd_many (mb:Nat) (name s:ByteArray) (x:BT aO) {aj:Nat} {ai room:Int} {no:Option Addr} {aI:Nat} {K:List Key} {ea:Option Addr} {az:Nat} {C:List bx} {E:List Pe} {pa:Option Addr} {aM:Nat} {ps:List bC} {ss:List bt} {xs:List (BT aO)} {w:World} (hm:w.heap[mb]? = some (.cells #[.pointer (some ⟨aj,0,none⟩)] 104 (0,0))) (h:bj w aj ai room no aI K ea az C E pa aM ps ss) (jh:bL ps) (hS:bP w ps xs) (hN:eR name) (hz:s.size<=maxLen) (hg:eF w) (pg:jz w) (l9:14<=w.heap.size) (hr:cI s=(some x,0)) (hX:aV (ak x)<=1000000) (hR:ax x<=ai) (h8:ps.length<8) (hNs:name.size<=1000) (i:Nat) (hi:bq name ps=i) (gQ:b8 name ps=false) (hK:40<(dN (ef (xs.take i++x::xs.drop i)) (ps.length+1)).length) :
  Calls Tryz.prog 27 #[.pointer (some ⟨mb,0,none⟩),.string name,.string s] w fun e w'=>e=.returned (.tuple #[.slice none 0 0,.int .i64 8])/\Below w.heap.size w w':=by
 refine monadd_err (F:=fun _=>True) mb name s hm (add_err name s ((add_any name s x h jh hS h8 hN hNs hz hg l9 hr hX hR i hi gQ).mono ?_)) (fun v a w' hb hE _=>errno_many v a w' (hg.below hb) (pg.keep hb.block) hE)
 rintro e w' ⟨v,rfl,⟨hk,_⟩ | ⟨_,hM⟩⟩
 ·omega
 ·obtain ⟨T,q,a,rfl,h1,h2⟩:=hM.err
  exact ⟨_,T,q,a,rfl,h1,trivial,h2⟩
theorem monAmend_many (mb:Nat) (name s:ByteArray) (x:BT aO) {aj:Nat} {ai room:Int} {no:Option Addr} {aI:Nat} {K:List Key} {ea:Option Addr} {az:Nat} {C:List bx} {E:List Pe} {pa:Option Addr} {aM:Nat} {ps:List bC} {ss:List bt} {xs:List (BT aO)} {w:World} (hm:w.heap[mb]? = some (.cells #[.pointer (some ⟨aj,0,none⟩)] 104 (0,0))) (h:bj w aj ai room no aI K ea az C E pa aM ps ss) (jh:bL ps) (hS:bP w ps xs) (hN:eR name) (hz:s.size<=maxLen) (hg:eF w) (pg:jz w) (l9:14<=w.heap.size) (hr:cI s=(some x,0)) (hX:aV (ak x)<=1000000) (hR:ax x<=ai) (hver:∀ p∈ps,0<=p.cu/\p.cu<=1000000) (i:Nat) (hi:bq name ps=i) (p:bC) (hp:ps[i]? = some p) (gQ:b8 name ps=true) (hK:40<(dN (ef (xs.set i x)) ps.length).length) :
  Calls Tryz.prog 31 #[.pointer (some ⟨mb,0,none⟩),.string name,.string s] w fun e w'=>e=.returned (.tuple #[.slice none 0 0,.int .i64 8])/\Below w.heap.size w w':=by
 refine vo (F:=fun _=>True) mb name s hm (amend_err name s ((amend_any name s x h jh hS hver hN hz hg l9 hr hX hR i hi p hp gQ).mono ?_)) (fun v a w' hb hE _=>errno_many v a w' (hg.below hb) (pg.keep hb.block) hE)
 rintro e w' ⟨v,rfl,⟨hk,_⟩ | ⟨_,hM⟩⟩
 ·omega
 ·obtain ⟨T,q,a,rfl,h1,h2⟩:=hM.err
  exact ⟨_,T,q,a,rfl,h1,trivial,h2⟩
theorem monAdd_twice (mb:Nat) (name s:ByteArray) (x:BT aO) {aj:Nat} {ai room:Int} {no:Option Addr} {aI:Nat} {K:List Key} {ea:Option Addr} {az:Nat} {C:List bx} {E:List Pe} {pa:Option Addr} {aM:Nat} {ps:List bC} {ss:List bt} {w:World} (hm:w.heap[mb]? = some (.cells #[.pointer (some ⟨aj,0,none⟩)] 104 (0,0))) (h:bj w aj ai room no aI K ea az C E pa aM ps ss) (jh:bL ps) (hN:eR name) (hz:s.size<=maxLen) (hg:eF w) (pg:jz w) (l9:14<=w.heap.size) (hr:cI s=(some x,0)) (hR:ax x<=ai) (gQ:b8 name ps=true) :
  Calls Tryz.prog 27 #[.pointer (some ⟨mb,0,none⟩),.string name,.string s] w fun e w'=>e=.returned (.tuple #[.slice none 0 0,.int .i64 5])/\Below w.heap.size w w':=by
 obtain ⟨a,hE⟩:=pg.eTwice
 refine monadd_err (F:=fun a'=>a'=a) mb name s hm (add_err name s (add_twice name s x h jh hN hz hg l9 hr hR gQ hE)) (fun v a' w' hb hEr ha=>?_)
 subst ha
 exact errno_twice v a' w' (hg.below hb) (pg.keep hb.block) hEr (hE.down hb)
theorem monAmend_none (mb:Nat) (name s:ByteArray) (x:BT aO) {aj:Nat} {ai room:Int} {no:Option Addr} {aI:Nat} {K:List Key} {ea:Option Addr} {az:Nat} {C:List bx} {E:List Pe} {pa:Option Addr} {aM:Nat} {ps:List bC} {ss:List bt} {w:World} (hm:w.heap[mb]? = some (.cells #[.pointer (some ⟨aj,0,none⟩)] 104 (0,0))) (h:bj w aj ai room no aI K ea az C E pa aM ps ss) (jh:bL ps) (hN:eR name) (hz:s.size<=maxLen) (hg:eF w) (pg:jz w) (l9:14<=w.heap.size) (hr:cI s=(some x,0)) (hR:ax x<=ai) (gQ:b8 name ps=false) :
  Calls Tryz.prog 31 #[.pointer (some ⟨mb,0,none⟩),.string name,.string s] w fun e w'=>e=.returned (.tuple #[.slice none 0 0,.int .i64 6])/\Below w.heap.size w w':=by
 obtain ⟨a,hE⟩:=pg.eNone
 refine vo (F:=fun a'=>a'=a) mb name s hm (amend_err name s (amend_none name s x h jh hN hz hg l9 hr hR gQ hE)) (fun v a' w' hb hEr ha=>?_)
 subst ha
 exact errno_none v a' w' (hg.below hb) (pg.keep hb.block) hEr (hE.down hb)
def nP:ByteArray:=⟨#[112]⟩
def others:List ByteArray:=[⟨#[112]⟩,⟨#[113,114]⟩,⟨#[113,115]⟩]
structure kz (x:BT aO) (L:List (Int×Int)) (B0 i v:Nat) (ps:List bC) (ss:List bt) (xs:List (BT aO)):Prop where
 sorted:bL ps
 names:∀ p∈ps,p.name∈others
 cu:∀ p∈ps,0<=p.cu/\p.cu<=v
 the:∃ (k:Nat) (p:bC) (s:bt),ps[k]? = some p/\p.name=nP/\p.cu=1/\xs[k]? = some x/\ss[k]? = some s/\s.n=i/\s.xs=nO x L i
 cG:∀ s∈ss,s.n<=i/\B0<=s.cj/\∀ g,s.sv.ownBlock=some g->B0<=g
structure dM (R:Int) (x:BT aO) (L:List (Int×Int)) (B0 mb aj i v m:Nat) (w:World):Prop where
 ex:∃ no aI ea az C E pa aM ps ss xs dr,bj w aj R 60 no aI (dN (ef xs) ps.length) ea az C E pa aM ps ss/\Run L (dN (ef xs) ps.length) i E dr/\(∀ d∈dr,d.1<aW L i-R)/\C.length<=i/\(C=[]->i=0)/\(∀ c,C.getLast? = some c->c.number=i/\c.time=aW L i)/\(∀ c∈C,0<=c.time/\c.time<=1000000000000)/\(∀ a,ea=some a->B0<=a.block)/\
  kz x L B0 i v ps ss xs/\bP w ps xs/\((dN (ef xs) ps.length).length=m/\m<=40)/\∀ (j:Nat) (p:bC),ps[j]? = some p->(p.node:Int)=nAt (ef xs) j
 mon:w.heap[mb]? = some (.cells #[.pointer (some ⟨aj,0,none⟩)] 104 (0,0))
 wt:B0<=aj
theorem dM.aU {R:Int} {x:BT aO} {L:List (Int×Int)} {B0 mb aj i v m:Nat} {w:World} (h:dM R x L B0 mb aj i v m w) (τ:Tape) (d:Nat):dM R x L B0 mb aj i v m (re w τ d):=by
 obtain ⟨⟨no,aI,ea,az,C,E,pa,aM,ps,ss,xs,dr,h1,h2,h3,h4,h5,h6,h7,h8,h9,qF,h11⟩,hm,hw⟩:=h
 exact ⟨⟨no,aI,ea,az,C,E,pa,aM,ps,ss,xs,dr,h1.aU τ d,h2,h3,h4,h5,h6,h7,h8,h9,⟨qF.len,fun j p y a b=>cU (w:=w) (w':=re w τ d) (fun _ _ hk=>hk) (qF.each j p y a b),qF.fine⟩,h11⟩,hm,hw⟩
theorem vN (X:Nat->BT aO) {qs:List bC} (h:bL qs):bL (dR X qs):=by
 refine List.pairwise_iff_getElem.2 fun a b ha hb hab=>?_
 obtain ⟨q1,e1,f1⟩:=ma (List.getElem?_eq_getElem ha)
 obtain ⟨q2,e2,f2⟩:=ma (List.getElem?_eq_getElem hb)
 rw [f1,f2]
 have l1:=(List.getElem?_eq_some_iff.1 e1).1
 have l2:=(List.getElem?_eq_some_iff.1 e2).1
 have:=List.pairwise_iff_getElem.1 h a b l1 l2 hab
 rw [(List.getElem?_eq_some_iff.1 e1).2,(List.getElem?_eq_some_iff.1 e2).2] at this
 exact this
theorem polInv_polsN {x:BT aO} {L:List (Int×Int)} {B0 i v:Nat} {qs:List bC} {ss:List bt} {xs:List (BT aO)} (X:Nat->BT aO) (h:kz x L B0 i v qs ss xs):kz x L B0 i v (dR X qs) ss xs:=by
 refine ⟨vN X h.sorted,fun p hp=>?_,fun p hp=>?_,?_,h.cG⟩
 ·obtain ⟨j,hj⟩:=List.mem_iff_getElem?.1 hp
  obtain ⟨q,e,rfl⟩:=ma hj
  exact h.names q (List.mem_of_getElem? e)
 ·obtain ⟨j,hj⟩:=List.mem_iff_getElem?.1 hp
  obtain ⟨q,e,rfl⟩:=ma hj
  exact h.cu q (List.mem_of_getElem? e)
 ·obtain ⟨k,p,s,a1,a2,a3,a4⟩:=h.the
  refine ⟨k,{ p with node:=(nAt X k).toNat },s,?_,a2,a3,a4⟩
  unfold dR
  rw [List.getElem?_mapIdx,a1]
  rfl
theorem dM.after {R:Int} {x:BT aO} {L:List (Int×Int)} {B0 mb aj i v:Nat} {w w':World} {no0:Option Addr} {vp:Nat} {K0:List Key} {ea:Option Addr} {az:Nat} {C:List bx} {E:List Pe} {pa:Option Addr} {aM:Nat} {ps:List bC} {ss0:List bt} {dr:List uj} {xs:List (BT aO)} {qs:List bC} {ss:List bt}
  (h1:bj w aj R 60 no0 vp K0 ea az C E pa aM ps ss0) (h2:Run L K0 i E dr) (h3:∀ d∈dr,d.1<aW L i-R) (h4:C.length<=i) (h5:C=[]->i=0) (h6:∀ c,C.getLast? = some c->c.number=i/\c.time=aW L i) (h7:∀ c∈C,0<=c.time/\c.time<=1000000000000) (h8:∀ a,ea=some a->B0<=a.block) (hm:w.heap[mb]? = some (.cells #[.pointer (some ⟨aj,0,none⟩)] 104 (0,0))) (hw:B0<=aj)
  (hA:After aj R 60 ea az C E xs qs ss w w') (hP:kz x L B0 i v qs ss xs) (hK:(dN (ef xs) qs.length).length<=40):dM R x L B0 mb aj i v (dN (ef xs) qs.length).length w'/\au (fun b=>B0<=b) w w':=by
 obtain ⟨no,aI,Cs,pb,vw,a1,a2,a3,a4,a5,a6⟩:=hA
 have hpl:(dR (ef xs) qs).length=qs.length:=by simp [dR]
 have hlE:C.length=E.length:=h1.len
 have fD:∀ (j:Nat) c,Cs[j]? = some c->∃ c0,C[j]? = some c0/\c.number=c0.number/\c.time=c0.time:=fun j c hc=>by
  have hl:=(List.getElem?_eq_some_iff.1 hc).1
  have h0:C[j]? = some C[j]:=List.getElem?_eq_getElem (by omega)
  exact ⟨_,h0,a5 j c _ hc h0⟩
 have dQ:=h2.judged (dN (ef xs) qs.length)
 rw [<- hlE] at dQ
 refine ⟨⟨⟨no,aI,ea,az,Cs,_,_,vw,dR (ef xs) qs,ss,xs,dr,by rw [hpl];exact a1,by rw [hpl];exact dQ,h3,by omega,fun e=>h5 (List.length_eq_zero_iff.1 (by rw [<- a4,e];rfl)),fun c hc=>?_,fun c hc=>?_,h8,polInv_polsN _ hP,a3,by rw [hpl];exact ⟨rfl,hK⟩,fun j p hj=>?_⟩,?_,hw⟩,?_⟩
 ·have uY:Cs[Cs.length-1]? = some c:=by rw [<- List.getLast?_eq_getElem?];exact hc
  obtain ⟨c0,e0,e1,e2⟩:=fD _ c uY
  rw [a4,<- List.getLast?_eq_getElem?] at e0
  rw [e1,e2]
  exact h6 c0 e0
 ·obtain ⟨j,hj⟩:=List.mem_iff_getElem?.1 hc
  obtain ⟨c0,e0,_,e2⟩:=fD j c hj
  rw [e2]
  exact h7 c0 (List.mem_of_getElem? e0)
 ·obtain ⟨q,_,rfl⟩:=ma hj
  exact Int.toNat_of_nonneg (mQ _ _)
 ·refine (a6.block mb (aw hm) ?_).trans hm
  rintro (e | ⟨a,ha,e⟩)
  ·subst e;rw [h1.cell] at hm;cases hm
  ·subst ha
   obtain ⟨cg,hcg⟩:=dG h1.uC (g:=a.block) rfl
   rw [e,hm] at hcg
   cases hcg
 ·exact (au.rL a6).mono fun b _ hb=>by
   rcases hb with e | ⟨a,ha,e⟩
   ·rw [e];exact hw
   ·rw [<- e];exact h8 a ha
end Ev
end Go.Proofs.YtpbbmagjhkakgaaGreatDoor
