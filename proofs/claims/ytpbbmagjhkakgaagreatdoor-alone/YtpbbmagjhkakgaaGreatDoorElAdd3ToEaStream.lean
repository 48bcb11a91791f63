import Derived.Test.YtpbbmagjhkakgaaGreatDoorElAdd2ToEaRem2
import Derived.Test.YtpbbmagjhkakgaaGreatDoorElVerdictToEaBack
import Derived.Test.YtpbbmagjhkakgaaGreatDoorEaFind
import Derived.Test.YtpbbmagjhkakgaaGreatDoorEvAddToEvAdd2
import Derived.Test.YtpbbmagjhkakgaaGreatDoorEeNoToSnAtoms
import Derived.Test.YtpbbmagjhkakgaaGreatDoorEvStateToEaMany
namespace Go.Proofs.YtpbbmagjhkakgaaGreatDoor
namespace Ev
open Go.RowKit Go.Deep Go.Maps Lf
def holdW (w:World) (node:Nat) (c:bx):Bool :=
 match c.so with
 | some a=>match w.cell? ⟨a.block,a.off+node,none⟩ with
  | some (.bool b)=>b
  | _=>false
 | none=>false
theorem holdW_is {w:World} {node:Nat} {c:bx} {e:Pe} (h:cZ w c e) (hn:node<e.so.length):∃ sb so,c.so=some ⟨sb,so,none⟩/\sb<w.heap.size/\node<c.sl/\w.cell? ⟨sb,so+node,none⟩=some (.bool (holdW w node c))/\holdW w node c=e.at (node:Int):=by
 obtain ⟨sb,s1,s2,s3⟩:=h.so
 have hb:=cZ.bit s3 hn
 have hh:holdW w node c=e.at (node:Int):=by
  unfold holdW
  rw [s1]
  simp only [Nat.zero_add]
  rw [hb]
 exact ⟨sb,0,s1,s2,by rw [h.sl];exact hn,by rw [Nat.zero_add,hh];exact hb,hh⟩
theorem streamOf_any (name:ByteArray) {aj:Nat} {ai room:Int} {no:Option Addr} {aI:Nat} {K:List Key} {ea:Option Addr} {az:Nat} {C:List bx} {E:List Pe} {pa:Option Addr} {aM:Nat} {ps:List bC} {ss:List bt} {w:World} (h:bj w aj ai room no aI K ea az C E pa aM ps ss) (jh:bL ps) (i:Nat) (hi:bq name ps=i) (gQ:b8 name ps=true) (s:bt) (hs:ss[i]? = some s) :
  Calls Tryz.prog 93 #[.pointer (some ⟨aj,0,none⟩),.string name] w fun e w'=>e=.returned (.tuple #[.pointer (some ⟨s.cj,0,none⟩),.nilIface])/\Below w.heap.size w w':=by
 have hpf:=h.tW
 have hf:=mC aj (.int .i64 ai) (.int .i64 room) _ _ pa aM ps name w h.cell h.oX jh (by omega)
 rw [hi,gQ] at hf
 obtain ⟨p,hp,_⟩:=(jY name ps).1 gQ
 rw [hi] at hp
 have qo:i<ps.length:=(List.getElem?_eq_some_iff.1 hp).1
 have df:=h.pstr i s p hs hp
 obtain ⟨_,e,_⟩ | ⟨pb,po,arr,m,rfl,h2,h3⟩:=h.oX
 ·subst e;simp at hp
 obtain ⟨_,_,_,_,a4⟩:=h3 i p hp
 rw [df] at a4
 have Hw:Hid (∀ W,Below w.heap.size w W->W.cell? ⟨aj,4,none⟩=some (.slice (some ⟨pb,po,none⟩) ps.length aM)/\W.cell? ⟨pb,po+i*5+4,none⟩=some (.pointer (some ⟨s.cj,0,none⟩))):=fun W hb=>⟨ae (hb.aE h.cell) rfl,ae (hb.aE h2) a4⟩
 clear h jh hi gQ hp df h2 h3 a4
 generalize ps.length=n at *
 go_enter Tryz.func93,Tryz.ntmps93
 go_wp2_with fail
 refine hf.mono ?_
 rintro e w1 ⟨rfl,hb⟩
 obtain ⟨c4,y4⟩:=Hw.out w1 hb
 clear hf
 go_wp2_with fail
 go_ret2
 exact ⟨rfl,hb⟩
theorem watchStream_of (name:ByteArray) (aj:Nat) (s:bt) (w:World) (hf:Calls Tryz.prog 93 #[.pointer (some ⟨aj,0,none⟩),.string name] w fun e w'=>e=.returned (.tuple #[.pointer (some ⟨s.cj,0,none⟩),.nilIface])/\Below w.heap.size w w') (h:eG w s) (hn:s.n<=1000000) (h1:∀ u∈s.xs,u.oneCell'=true) :
  Calls Tryz.prog 49 #[.pointer (some ⟨aj,0,none⟩),.string name] w fun e w'=>∃ v,e=.returned (.tuple #[v,.nilIface])/\w'.ownsRow w.heap.size 59 4 v s.n s.xs/\Below w.heap.size w w':=by
 have Hs:Hid (w.heap[s.cj]? = some (.cells #[s.sv] 177 (0,0))/\w.ownsRow 0 59 4 s.sv s.n s.xs):=h
 clear h
 obtain ⟨cj,sv,n,xs⟩:=s
 simp only at *
 go_enter Tryz.func49,Tryz.ntmps49
 go_wp2_with fail
 refine hf.mono ?_
 rintro e w1 ⟨rfl,hb⟩
 have df:=hb.aE Hs.out.1
 have bT:w1.ownsRow 0 59 4 sv n xs:=dw Hs.out.2 (fun k hk=>hb.block k (Hs.out.2.lt k hk).2)
 have hrow0:=bT
 have c0:=ae (i:=0) df rfl
 have oK:=hb.size
 clear hf
 obtain ⟨e1,⟨rfl,e2⟩ | ⟨g,cap,cur,rfl,_⟩⟩:=bT
 ·go_wp2_with fail
  refine (cloneVer_nil 0 0 w1).mono ?_
  rintro e w2 ⟨rfl,rfl⟩
  go_wp2_with fail
  go_ret2
  refine ⟨_,rfl,?_,hb⟩
  rw [e2] at e1 ⊢
  simp at e1
  subst e1
  exact World.ownsRow_nil _ _ _ _
 ·have om:=cloneVer_some g 0 n cap xs w1 e1 hn (fun j u hj=>by rw [Nat.zero_add];exact gH hrow0 rfl hj) h1
  clear hrow0 e1
  go_wp2_with fail
  refine om.mono ?_
  rintro e w2 ⟨v,rfl,hr,cB⟩
  go_wp2_with fail
  go_ret2
  exact ⟨_,rfl,oY hr oK,hb.tr cB⟩
theorem monStream_any (mb:Nat) (name:ByteArray) {aj:Nat} {ai room:Int} {no:Option Addr} {aI:Nat} {K:List Key} {ea:Option Addr} {az:Nat} {C:List bx} {E:List Pe} {pa:Option Addr} {aM:Nat} {ps:List bC} {ss:List bt} {w:World} (hmb:w.heap[mb]? = some (.cells #[.pointer (some ⟨aj,0,none⟩)] 104 (0,0))) (h:bj w aj ai room no aI K ea az C E pa aM ps ss) (jh:bL ps) (i:Nat) (hi:bq name ps=i) (gQ:b8 name ps=true) (s:bt) (hs:ss[i]? = some s) (hn:s.n<=1000000) (h1:∀ u∈s.xs,u.oneCell'=true) :
  Calls Tryz.prog 28 #[.pointer (some ⟨mb,0,none⟩),.string name] w fun e w'=>∃ v,e=.returned (.tuple #[v,.int .i64 0])/\w'.ownsRow w.heap.size 59 4 v s.n s.xs/\Below w.heap.size w w':=by
 have hf:=watchStream_of name aj s w (streamOf_any name h jh i hi gQ s hs) (h.sok s (List.mem_of_getElem? hs)) hn h1
 have c0:=ae (i:=0) hmb rfl
 clear hmb h jh hi gQ hs
 go_enter Tryz.func28,Tryz.ntmps28
 go_wp2_with fail
 refine hf.mono ?_
 rintro e w1 ⟨v,rfl,hr,hb⟩
 go_wp2_with fail
 refine (ow w1).mono ?_
 rintro e w2 ⟨rfl,rfl⟩
 go_wp2_with fail
 go_ret2
 exact ⟨v,rfl,hr,hb⟩
theorem pastWork (aj:Nat) (n rm ev pv:Value) (no:Option Addr) (m aI:Nat) (w:World) (h:w.heap[aj]? = some (.cells #[n,rm,.slice no m aI,ev,pv] 153 (0,0))):Calls Tryz.prog 95 #[.pointer (some ⟨aj,0,none⟩)] w fun e w'=>e=.returned (.int .i64 (m:Int))/\w'=w:=by
 have c2:w.cell? ⟨aj,2,none⟩=some (.slice no m aI):=ae h rfl
 go_enter Tryz.func95,Tryz.ntmps95
 go_wp2_with fail
 go_ret
 exact ⟨rfl,rfl⟩
theorem watchWork (aj:Nat) (n rm ev pv:Value) (no:Option Addr) (m aI:Nat) (w:World) (h:w.heap[aj]? = some (.cells #[n,rm,.slice no m aI,ev,pv] 153 (0,0))):Calls Tryz.prog 50 #[.pointer (some ⟨aj,0,none⟩)] w fun e w'=>e=.returned (.int .i64 (m:Int))/\w'=w:=by
 have hp:=pastWork aj n rm ev pv no m aI w h
 go_enter Tryz.func50,Tryz.ntmps50
 go_wp2_with fail
 refine hp.mono ?_
 rintro e w1 ⟨rfl,rfl⟩
 go_wp2_with fail
 go_ret
 exact ⟨rfl,rfl⟩
theorem monWork (mb aj:Nat) (n rm ev pv:Value) (no:Option Addr) (m aI:Nat) (w:World) (hm:w.heap[mb]? = some (.cells #[.pointer (some ⟨aj,0,none⟩)] 104 (0,0))) (h:w.heap[aj]? = some (.cells #[n,rm,.slice no m aI,ev,pv] 153 (0,0))):Calls Tryz.prog 30 #[.pointer (some ⟨mb,0,none⟩)] w fun e w'=>e=.returned (.int .i64 (m:Int))/\w'=w:=by
 have hp:=watchWork aj n rm ev pv no m aI w h
 have c0:w.cell? ⟨mb,0,none⟩=some (.pointer (some ⟨aj,0,none⟩)):=ae hm rfl
 go_enter Tryz.func30,Tryz.ntmps30
 go_wp2_with fail
 refine hp.mono ?_
 rintro e w1 ⟨rfl,rfl⟩
 go_wp2_with fail
 go_ret
 exact ⟨rfl,rfl⟩
end Ev
end Go.Proofs.YtpbbmagjhkakgaaGreatDoor
