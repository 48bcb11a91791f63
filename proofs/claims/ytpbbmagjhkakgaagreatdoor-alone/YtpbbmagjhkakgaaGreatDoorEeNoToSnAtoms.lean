import Derived.Test.YtpbbmagjhkakgaaGreatDoorEeTab
import Derived.Test.YtpbbmagjhkakgaaGreatDoorPureEndsToFace2
import Derived.Test.YtpbbmagjhkakgaaGreatDoorEvAddToEvAdd2
import Derived.Test.YtpbbmagjhkakgaaGreatDoorPureNumToWindow
import Derived.Laws.IdiomStrings
namespace Go.Proofs.YtpbbmagjhkakgaaGreatDoor
section
open Go.RowKit Go.Extern.Stop Go.Stop Go.Extern
structure fb (w:World) (g:Nat) (text:List UInt8) (a:Addr):Prop where
 cell:w.cell? ⟨g,0,none⟩=some (.iface 357 (.pointer (some a)))
 str:∃ s:ByteArray,w.cell? a=some (.string s)/\s.data.toList=text
 heap:∃ c t,w.heap[a.block]? = some (.cells c t (0,0))
theorem fb.keep {w W:World} {g:Nat} {text:List UInt8} {a:Addr} (h:fb w g text a) (hb:∀ k,k<w.heap.size->W.heap[k]? = w.heap[k]?):fb W g text a:=by
 obtain ⟨h1,⟨s,h2,h3⟩,c,t,h4⟩:=h
 exact ⟨by rw [World.cell?_of_block (w:=w) (a:=⟨g,0,none⟩) (hb g (i_ h1))];exact h1,⟨s,by rw [World.cell?_of_block (w:=w) (a:=a) (hb a.block (aw h4))];exact h2,h3⟩,c,t,by rw [hb a.block (aw h4)];exact h4⟩
theorem fb.down {w W:World} {g:Nat} {text:List UInt8} {a:Addr} (h:fb w g text a) (hb:Below w.heap.size w W):fb W g text a:=h.keep hb.block
theorem fb.ne {w:World} {g1 g2:Nat} {t1 t2:List UInt8} {a1 a2:Addr} (h1:fb w g1 t1 a1) (h2:fb w g2 t2 a2) (hne:t1≠t2):a1≠a2:=by
 rintro rfl
 obtain ⟨s1,c1,e1⟩:=h1.str
 obtain ⟨s2,c2,e2⟩:=h2.str
 rw [c1] at c2
 cases c2
 exact hne (e1.symm.trans e2)
def wraps:List TypeId:=[169,154,125,201]
def sB (w:World) (v:Value) (L:TypeId) (a:Addr):Prop:=∃ n,∀ ok:TypeId->Prop,(∀ X∈wraps,ok X)->iV ok w n v L a
theorem sB.down {w W:World} (hb:Below w.heap.size w W) {v:Value} {L:TypeId} {a:Addr} (h:sB w v L a):sB W v L a:=by
 obtain ⟨n,h⟩:=h
 exact ⟨n,fun ok ho=>(h ok ho).down hb⟩
theorem isNo {w:World} {v:Value} {a1 a2:Addr} {g1 g2:Nat} {t1 t2:List UInt8} (hE:sB w v 357 a1) (h1:fb w g1 t1 a1) (h2:fb w g2 t2 a2) (hne:t1≠t2) :
  Calls Tryz.prog 75 #[v,.iface 357 (.pointer (some a2))] w fun e w'=>e=.returned (.bool false)/\w'=w:=by
 obtain ⟨n,hc⟩:=hE
 obtain ⟨i,hi,hcmp⟩:=Option.map_eq_some_iff.1 eComp
 obtain ⟨j,hj,hjs⟩:=Option.map_eq_some_iff.1 eSize
 obtain ⟨c1,x1,e1⟩:=h1.heap
 obtain ⟨c2,x2,e2⟩:=h2.heap
 exact rH (fun _=>True) w n v _ a1 a2 false (hc _ fun _ _=>trivial) (.inl ⟨rfl,run_eql_iface_ptr_other w Tryz.underlying89 Tryz.underlying357 hi hcmp hj (by rw [hjs];decide) (h1.ne h2 hne) e1 e2⟩)
theorem isYes {w:World} {v:Value} {a1:Addr} (hE:sB w v 357 a1) :
  Calls Tryz.prog 75 #[v,.iface 357 (.pointer (some a1))] w fun e w'=>e=.returned (.bool true)/\w'=w:=by
 obtain ⟨n,hc⟩:=hE
 obtain ⟨i,hi,hcmp⟩:=Option.map_eq_some_iff.1 eComp
 obtain ⟨j,hj,hjs⟩:=Option.map_eq_some_iff.1 eSize
 exact rH (fun _=>True) w n v _ a1 a1 true (hc _ fun _ _=>trivial) (.inl ⟨rfl,run_eql_iface_ptr_same (P:=Tryz.prog) w a1 Tryz.underlying89 Tryz.underlying357 hi hcmp hj⟩)
theorem isTyp {w:World} {v:Value} {L:TypeId} {a1 a2:Addr} (hE:sB w v L a1) (hL:L≠357) :
  Calls Tryz.prog 75 #[v,.iface 357 (.pointer (some a2))] w fun e w'=>e=.returned (.bool false)/\w'=w:=by
 obtain ⟨n,hc⟩:=hE
 exact rH (fun _=>True) w n v L a1 a2 false (hc _ fun _ _=>trivial) (.inr ⟨hL,rfl⟩)
theorem sB.iface {w:World} {v:Value} {L:TypeId} {a:Addr} (h:sB w v L a):∃ T p,v=.iface T p:=by
 obtain ⟨n,hc⟩:=h
 exact (hc (fun _=>True) fun _ _=>trivial).iface
theorem offWDeep:∀ X∈wraps,iW 130 X:=by
 intro X hX
 simp only [wraps,List.mem_cons,List.not_mem_nil,or_false] at hX
 rcases hX with rfl | rfl | rfl | rfl
 ·exact offDeepPol
 ·exact offDeepEvt
 ·exact offDeepTxt
 ·exact offDeepFlt
set_option maxHeartbeats 400000 in
theorem isADeep {w:World} {v:Value} {L:TypeId} {a:Addr} {r:Bool} (hE:sB w v L a) (hr:(L=130/\r=true)\/(iW 130 L/\r=false)) (hg:eF w) :
  Calls Tryz.prog 76 #[v] w fun e w'=>e=.returned (.bool r)/\Below w.heap.size w w':=by
 have hb:Below w.heap.size w (w.alloc (.cells #[.pointer none] 130)):=(Below.refl _ _).al _
 obtain ⟨n,hc⟩:=hE.down hb
 have hk:=aB w (.cells #[.pointer none] 130 (0,0)) _ rfl
 have hA:=qM 130 218 targDeep _ n v L a r w.heap.size (hc _ offWDeep) hr hk (hg.below hb).et
 obtain ⟨T0,p0,rfl⟩:=hE.iface
 clear hr hg hE hc
 go_enter Tryz.func76,Tryz.ntmps76
 go_wp2_with fail
 refine hA.mono ?_
 rintro e w2 ⟨rfl,ho⟩
 go_wp2_with fail
 go_ret
 exact ⟨rfl,((Below.refl _ _).al _).trans (ho.below (Nat.le_refl _) (by simp))⟩
theorem offWFar:∀ X∈wraps,iW 131 X:=by
 intro X hX
 simp only [wraps,List.mem_cons,List.not_mem_nil,or_false] at hX
 rcases hX with rfl | rfl | rfl | rfl
 ·exact offFarPol
 ·exact offFarEvt
 ·exact offFarTxt
 ·exact offFarFlt
set_option maxHeartbeats 400000 in
theorem isAFar {w:World} {v:Value} {L:TypeId} {a:Addr} {r:Bool} (hE:sB w v L a) (hr:(L=131/\r=true)\/(iW 131 L/\r=false)) (hg:eF w) :
  Calls Tryz.prog 77 #[v] w fun e w'=>e=.returned (.bool r)/\Below w.heap.size w w':=by
 have hb:Below w.heap.size w (w.alloc (.cells #[.pointer none] 131)):=(Below.refl _ _).al _
 obtain ⟨n,hc⟩:=hE.down hb
 have hk:=aB w (.cells #[.pointer none] 131 (0,0)) _ rfl
 have hA:=qM 131 219 targFar _ n v L a r w.heap.size (hc _ offWFar) hr hk (hg.below hb).et
 obtain ⟨T0,p0,rfl⟩:=hE.iface
 clear hr hg hE hc
 go_enter Tryz.func77,Tryz.ntmps77
 go_wp2_with fail
 refine hA.mono ?_
 rintro e w2 ⟨rfl,ho⟩
 go_wp2_with fail
 go_ret
 exact ⟨rfl,((Below.refl _ _).al _).trans (ho.below (Nat.le_refl _) (by simp))⟩
theorem offWMany:∀ X∈wraps,iW 132 X:=by
 intro X hX
 simp only [wraps,List.mem_cons,List.not_mem_nil,or_false] at hX
 rcases hX with rfl | rfl | rfl | rfl
 ·exact offManyPol
 ·exact offManyEvt
 ·exact offManyTxt
 ·exact offManyFlt
set_option maxHeartbeats 400000 in
theorem isAMany {w:World} {v:Value} {L:TypeId} {a:Addr} {r:Bool} (hE:sB w v L a) (hr:(L=132/\r=true)\/(iW 132 L/\r=false)) (hg:eF w) :
  Calls Tryz.prog 78 #[v] w fun e w'=>e=.returned (.bool r)/\Below w.heap.size w w':=by
 have hb:Below w.heap.size w (w.alloc (.cells #[.pointer none] 132)):=(Below.refl _ _).al _
 obtain ⟨n,hc⟩:=hE.down hb
 have hk:=aB w (.cells #[.pointer none] 132 (0,0)) _ rfl
 have hA:=qM 132 220 targMany _ n v L a r w.heap.size (hc _ offWMany) hr hk (hg.below hb).et
 obtain ⟨T0,p0,rfl⟩:=hE.iface
 clear hr hg hE hc
 go_enter Tryz.func78,Tryz.ntmps78
 go_wp2_with fail
 refine hA.mono ?_
 rintro e w2 ⟨rfl,ho⟩
 go_wp2_with fail
 go_ret
 exact ⟨rfl,((Below.refl _ _).al _).trans (ho.below (Nat.le_refl _) (by simp))⟩
def tNs:List UInt8:=[110,111,32,115,101,110,116,101,110,99,101]
def tTime:List UInt8:=[97,32,116,105,109,101,32,116,104,97,116,32,109,97,121,32,110,111,116,32,98,101]
def tAtoms:List UInt8:=[97,116,111,109,115,32,116,104,97,116,32,109,97,121,32,110,111,116,32,98,101]
def tName:List UInt8:=[110,111,32,110,97,109,101]
def tTwice:List UInt8:=[116,104,101,114,101,32,105,115,32,115,117,99,104,32,97,32,112,111,108,105,99,121]
def tNone:List UInt8:=[116,104,101,114,101,32,105,115,32,110,111,32,115,117,99,104,32,112,111,108,105,99,121]
def tFull:List UInt8:=[116,104,101,114,101,32,97,114,101,32,97,115,32,109,97,110,121,32,112,111,108,105,99,105,101,115,32,97,115,32,109,97,121,32,98,101]
structure jz (w:World):Prop where
 eNs:∃ a,fb w 0 tNs a
 eTime:∃ a,fb w 5 tTime a
 eAtoms:∃ a,fb w 6 tAtoms a
 eName:∃ a,fb w 1 tName a
 eTwice:∃ a,fb w 2 tTwice a
 eNone:∃ a,fb w 3 tNone a
 eFull:∃ a,fb w 4 tFull a
theorem jz.keep {w W:World} (h:jz w) (hb:∀ k,k<w.heap.size->W.heap[k]? = w.heap[k]?):jz W:=by
 obtain ⟨⟨a1,h1⟩,⟨a2,h2⟩,⟨a3,h3⟩,⟨a4,h4⟩,⟨a5,h5⟩,⟨a6,h6⟩,⟨a7,h7⟩⟩:=h
 exact ⟨⟨a1,h1.keep hb⟩,⟨a2,h2.keep hb⟩,⟨a3,h3.keep hb⟩,⟨a4,h4.keep hb⟩,⟨a5,h5.keep hb⟩,⟨a6,h6.keep hb⟩,⟨a7,h7.keep hb⟩⟩
theorem err_pol {w:World} {b:Nat} {name:ByteArray} {v:Value} {L:TypeId} {a:Addr} (hb:w.heap[b]? = some (.cells #[.string name,v] 171 (0,0))) (h:sB w v L a):sB w (.iface 169 (.pointer (some ⟨b,0,none⟩))) L a:=by
 obtain ⟨n,h⟩:=h
 refine ⟨n+1,fun ok ho=>.wrap (ho _ (by simp [wraps])) wrapPol (fun W hW=>?_) (h ok ho)⟩
 have c1:=ae (i:=1) (hW.aE hb) rfl
 obtain ⟨T0,p0,rfl⟩:=(h (fun _=>True) fun _ _=>trivial).iface
 go_enter Tryz.func262,Tryz.ntmps262
 go_wp2_with fail
 go_ret
 exact ⟨rfl,rfl⟩
theorem uB {w:World} {T:TypeId} {a:Addr} (h:LeafT T):sB w (.iface T (.pointer (some a))) T a:=⟨0,fun _ _=>.leaf h⟩
set_option maxHeartbeats 1000000 in
theorem errno_twice (v:Value) (a:Addr) (w:World) (hg:eF w) (pg:jz w) (hE:sB w v 357 a) (hs:fb w 2 tTwice a) :
  Calls Tryz.prog 40 #[v] w fun e w'=>e=.returned (.int .i64 5)/\Below w.heap.size w w':=by
 obtain ⟨⟨a0,h0⟩,_,_,⟨a1,h1⟩,⟨a2,h2⟩,⟨a3,h3⟩,⟨a4,h4⟩⟩:=pg
 obtain ⟨T0,p0,rfl⟩:=hE.iface
 obtain rfl:a=a2:=by have:=hs.cell.symm.trans h2.cell;simpa using this
 have E0:Hid (sB w (.iface T0 p0) 357 a):=hE
 have G0:Hid (eF w):=hg
 have S0:Hid _:=h0
 have S1:Hid _:=h1
 have S2:Hid _:=h2
 have S3:Hid _:=h3
 have S4:Hid _:=h4
 have SS:Hid _:=hs
 clear hE hg hs
 have c:=h0.cell
 go_enter Tryz.func40,Tryz.ntmps40
 go_wp2_with fail
 refine (isNo (E0.out.down (Below.refl _ w)) (SS.out.down (Below.refl _ w)) (S0.out.down (Below.refl _ w)) (by decide)).mono ?_
 rintro e v1 ⟨rfl,ev⟩
 obtain rfl:=ev.symm
 go_wp2_with fail
 refine (isADeep (r:=false) (E0.out.down (Below.refl _ w)) (.inr ⟨s_,rfl⟩) (G0.out.below (Below.refl _ w))).mono ?_
 rintro e w1 ⟨rfl,a_⟩
 have HB1:=a_
 have c2:=(S1.out.down HB1).cell
 go_wp2_with fail
 refine (isNo (E0.out.down HB1) (SS.out.down HB1) (S1.out.down HB1) (by decide)).mono ?_
 rintro e v1 ⟨rfl,ev⟩
 obtain rfl:=ev.symm
 go_wp2_with fail
 refine (isAFar (r:=false) (E0.out.down HB1) (.inr ⟨vu,rfl⟩) (G0.out.below HB1)).mono ?_
 rintro e w2 ⟨rfl,cB⟩
 have HB2:=HB1.tr cB
 have c4:=(S2.out.down HB2).cell
 go_wp2_with fail
 refine (isYes (E0.out.down HB2)).mono ?_
 rintro e v1 ⟨rfl,ev⟩
 obtain rfl:=ev.symm
 go_wp2_with fail
 go_ret
 exact ⟨rfl,HB2⟩
set_option maxHeartbeats 1000000 in
theorem errno_none (v:Value) (a:Addr) (w:World) (hg:eF w) (pg:jz w) (hE:sB w v 357 a) (hs:fb w 3 tNone a) :
  Calls Tryz.prog 40 #[v] w fun e w'=>e=.returned (.int .i64 6)/\Below w.heap.size w w':=by
 obtain ⟨⟨a0,h0⟩,_,_,⟨a1,h1⟩,⟨a2,h2⟩,⟨a3,h3⟩,⟨a4,h4⟩⟩:=pg
 obtain ⟨T0,p0,rfl⟩:=hE.iface
 obtain rfl:a=a3:=by have:=hs.cell.symm.trans h3.cell;simpa using this
 have E0:Hid (sB w (.iface T0 p0) 357 a):=hE
 have G0:Hid (eF w):=hg
 have S0:Hid _:=h0
 have S1:Hid _:=h1
 have S2:Hid _:=h2
 have S3:Hid _:=h3
 have S4:Hid _:=h4
 have SS:Hid _:=hs
 clear hE hg hs
 have c:=h0.cell
 go_enter Tryz.func40,Tryz.ntmps40
 go_wp2_with fail
 refine (isNo (E0.out.down (Below.refl _ w)) (SS.out.down (Below.refl _ w)) (S0.out.down (Below.refl _ w)) (by decide)).mono ?_
 rintro e v1 ⟨rfl,ev⟩
 obtain rfl:=ev.symm
 go_wp2_with fail
 refine (isADeep (r:=false) (E0.out.down (Below.refl _ w)) (.inr ⟨s_,rfl⟩) (G0.out.below (Below.refl _ w))).mono ?_
 rintro e w1 ⟨rfl,a_⟩
 have HB1:=a_
 have c2:=(S1.out.down HB1).cell
 go_wp2_with fail
 refine (isNo (E0.out.down HB1) (SS.out.down HB1) (S1.out.down HB1) (by decide)).mono ?_
 rintro e v1 ⟨rfl,ev⟩
 obtain rfl:=ev.symm
 go_wp2_with fail
 refine (isAFar (r:=false) (E0.out.down HB1) (.inr ⟨vu,rfl⟩) (G0.out.below HB1)).mono ?_
 rintro e w2 ⟨rfl,cB⟩
 have HB2:=HB1.tr cB
 have c4:=(S2.out.down HB2).cell
 go_wp2_with fail
 refine (isNo (E0.out.down HB2) (SS.out.down HB2) (S2.out.down HB2) (by decide)).mono ?_
 rintro e v1 ⟨rfl,ev⟩
 obtain rfl:=ev.symm
 have c5:=(S3.out.down HB2).cell
 go_wp2_with fail
 refine (isYes (E0.out.down HB2)).mono ?_
 rintro e v1 ⟨rfl,ev⟩
 obtain rfl:=ev.symm
 go_wp2_with fail
 go_ret
 exact ⟨rfl,HB2⟩
set_option maxHeartbeats 1000000 in
theorem errno_many (v:Value) (a:Addr) (w:World) (hg:eF w) (pg:jz w) (hE:sB w v 132 a) :
  Calls Tryz.prog 40 #[v] w fun e w'=>e=.returned (.int .i64 8)/\Below w.heap.size w w':=by
 obtain ⟨⟨a0,h0⟩,_,_,⟨a1,h1⟩,⟨a2,h2⟩,⟨a3,h3⟩,⟨a4,h4⟩⟩:=pg
 obtain ⟨T0,p0,rfl⟩:=hE.iface
 have E0:Hid (sB w (.iface T0 p0) 132 a):=hE
 have G0:Hid (eF w):=hg
 have S0:Hid _:=h0
 have S1:Hid _:=h1
 have S2:Hid _:=h2
 have S3:Hid _:=h3
 have S4:Hid _:=h4
 clear hE hg
 have c:=h0.cell
 go_enter Tryz.func40,Tryz.ntmps40
 go_wp2_with fail
 refine (isTyp (E0.out.down (Below.refl _ w)) (by decide)).mono ?_
 rintro e v1 ⟨rfl,ev⟩
 obtain rfl:=ev.symm
 go_wp2_with fail
 refine (isADeep (r:=false) (E0.out.down (Below.refl _ w)) (.inr ⟨offDeepMany,rfl⟩) (G0.out.below (Below.refl _ w))).mono ?_
 rintro e w1 ⟨rfl,a_⟩
 have HB1:=a_
 have c2:=(S1.out.down HB1).cell
 go_wp2_with fail
 refine (isTyp (E0.out.down HB1) (by decide)).mono ?_
 rintro e v1 ⟨rfl,ev⟩
 obtain rfl:=ev.symm
 go_wp2_with fail
 refine (isAFar (r:=false) (E0.out.down HB1) (.inr ⟨offFarMany,rfl⟩) (G0.out.below HB1)).mono ?_
 rintro e w2 ⟨rfl,cB⟩
 have HB2:=HB1.tr cB
 have c4:=(S2.out.down HB2).cell
 go_wp2_with fail
 refine (isTyp (E0.out.down HB2) (by decide)).mono ?_
 rintro e v1 ⟨rfl,ev⟩
 obtain rfl:=ev.symm
 have c5:=(S3.out.down HB2).cell
 go_wp2_with fail
 refine (isTyp (E0.out.down HB2) (by decide)).mono ?_
 rintro e v1 ⟨rfl,ev⟩
 obtain rfl:=ev.symm
 have c6:=(S4.out.down HB2).cell
 go_wp2_with fail
 refine (isTyp (E0.out.down HB2) (by decide)).mono ?_
 rintro e v1 ⟨rfl,ev⟩
 obtain rfl:=ev.symm
 go_wp2_with fail
 refine (isAMany (r:=true) (E0.out.down HB2) (.inl ⟨rfl,rfl⟩) (G0.out.below HB2)).mono ?_
 rintro e w3 ⟨rfl,pU⟩
 have HB3:=HB2.tr pU
 go_wp2_with fail
 go_ret
 exact ⟨rfl,HB3⟩
end
namespace Ev
open Go.RowKit Go.Deep
def preD (m:Nat):List UInt8:=if m<10 then [] else Lib.decDigits (m/10)
def digD (m:Nat):UInt8:=UInt8.ofNat (48+m % 10)
theorem digD_int (m:Nat):((digD m).toNat:Int)=48+(m:Int) % 10:=by
 unfold digD
 rw [UInt8.toNat_ofNat']
 omega
theorem dec_pre (m:Nat):Lib.decDigits m=preD m++[digD m]:=by
 unfold preD digD
 rw [Lib.decDigits]
 split
 ·rename_i h
  rw [show m % 10=m by omega]
  rfl
 ·rfl
theorem conv_one (W:World) (b:Nat) (k:Int) (c:UInt8) (hk:(c.toNat:Int)=k) (hW:W.cell? ⟨b,0,none⟩=some (.int .u8 k)):(convert 99 9 (.slice (some ⟨b,0,none⟩) 1 1)).run Tryz.prog W=.ok (.string ⟨#[c]⟩) W :=
 run_convert_bytes_back W 99 9 5 ⟨b,0,none⟩ 1 [c] Tryz.underlying99 Tryz.underlying5 Tryz.underlying9 (fun j hj=>by
  have hj0:j=0:=by simpa using hj
  subst hj0
  rw [<- hk] at hW
  simpa [Addr.add] using hW)
set_option maxHeartbeats 2000000 in
set_option maxRecDepth 100000 in
theorem digits_any (n:Nat) (w:World) (hn:n<=1000000) :
  Calls Tryz.prog 20 #[.int .i64 (n:Int)] w fun e w'=>Below w.heap.size w w'/\∃ d,e=.returned (.string d)/\d.data.toList=Lib.decDigits n:=by
 have hcv0:=conv_one (w.alloc (.cells #[.int .u8 (48+(n:Int) % 10)] 5)) w.heap.size (48+(n:Int) % 10) (digD n) (digD_int n) (by rw [World.cell?_alloc_at _ _ _ _ rfl];rfl)
 have hmod:0<=(n:Int) % 10/\(n:Int) % 10<10:=by omega
 go_enter Tryz.func20,Tryz.ntmps20
 go_wp2_with fail
 go_loopw [0,3] (fun nv sv wr=>∃ (m:Nat) (d:ByteArray),nv=.int .i64 (m:Int)/\sv=.string d/\m<=1000000/\d.size+m<=1000001/\Below w.heap.size w wr/\Hid (Lib.decDigits n=preD m++d.data.toList)) (fun nv _ _=>(intOf nv).toNat)
 case atStart=>exact ⟨n,_,rfl,rfl,hn,by show 1+n<=_;omega,(Below.refl _ _).al _,dec_pre n⟩
 case round =>
  clear hcv0 hmod
  obtain ⟨m,d,rfl,rfl,hm,hds,h_,hD⟩:=hrel
  by_cases qF:m<10
  ·have pg:decide ((10:Int)<=(m:Int))=false:=by simp;omega
   have hD2:Hid (d.data.toList=Lib.decDigits n):=by
    show _=_
    rw [hD.out]
    unfold preD
    rw [if_pos qF]
    rfl
   clear hD
   go_wp2_with fail
   go_ret
   exact ⟨h_,d,rfl,hD2.out⟩
  ·have pg:decide ((10:Int)<=(m:Int))=true:=by simp;omega
   have hcv:=conv_one (wr.alloc (.cells #[.int .u8 (48+(m:Int)/10 % 10)] 5)) wr.heap.size (48+(m:Int)/10 % 10) (digD (m/10)) (by have:=digD_int (m/10);omega) (by rw [World.cell?_alloc_at _ _ _ _ rfl];rfl)
   have hno:¬ 9223372036854775807<1+d.size:=by omega
   have hmod:0<=(m:Int)/10 % 10/\(m:Int)/10 % 10<10:=by omega
   have hD2:Hid (Lib.decDigits n=preD (m/10)++((⟨#[digD (m/10)]⟩:ByteArray)++d).data.toList):=by
    show _=_
    rw [hD.out]
    have e:preD m=Lib.decDigits (m/10):=by unfold preD;rw [if_neg qF]
    rw [e,dec_pre (m/10)]
    simp [ByteArray.data_append]
   clear hD
   go_wp2_with fail
   go_roundw
   case rel=>exact ⟨m/10,_,by go_num,rfl,by omega,by rw [ByteArray.size_append];show 1+d.size+m/10<=_;omega,h_.al _,hD2⟩
   case measure=>simp only [intOf];omega
def aP (c n:Int):Int:=(if c<0 then -(c+1) else c) % n
def mj (c:Int):Prop:=-9223372036854775808<=c/\c<=9223372036854775807
theorem bB (c n:Int) (hn:0<n):0<=aP c n/\aP c n<n:=⟨Int.emod_nonneg _ (by omega),Int.emod_lt_of_pos _ hn⟩
set_option maxHeartbeats 1000000 in
theorem jl (c n:Int) (w:World) (hc:mj c) (hn:0<n/\n<=1000000):Calls Tryz.prog 19 #[.int .i64 c,.int .i64 n] w fun e w'=>e=.returned (.int .i64 (aP c n))/\w'=w:=by
 obtain ⟨h1,h2⟩:=hc
 have hne:n≠0:=by omega
 unfold aP
 by_cases h:c<0
 ·have hm:0<=(-(c+1)) % n/\(-(c+1)) % n<n:=⟨Int.emod_nonneg _ hne,Int.emod_lt_of_pos _ hn.1⟩
  have ht:Int.tmod (-(c+1)) n=(-(c+1)) % n:=Int.tmod_eq_emod_of_nonneg (by omega)
  simp only [h,if_true]
  go_enter Tryz.func19,Tryz.ntmps19
  go_wp2_with fail
  go_ret
  exact ⟨rfl,rfl⟩
 ·have hm:0<=c % n/\c % n<n:=⟨Int.emod_nonneg _ hne,Int.emod_lt_of_pos _ hn.1⟩
  have ht:Int.tmod c n=c % n:=Int.tmod_eq_emod_of_nonneg (by omega)
  simp only [h,if_false]
  go_enter Tryz.func19,Tryz.ntmps19
  go_wp2_with fail
  go_ret
  exact ⟨rfl,rfl⟩
def ob (c:Int):Int:=1+aP c 12
theorem pY (c:Int):1<=ob c/\ob c<=12:=by have:=bB c 12 (by decide);unfold ob;omega
theorem later_any (c:Int) (w:World) (hc:mj c):Calls Tryz.prog 22 #[.int .i64 c] w fun e w'=>e=.returned (.int .i64 (ob c))/\w'=w:=by
 have hp:=jl c 12 w hc (by decide)
 have hr:=bB c 12 (by decide)
 unfold ob
 generalize aP c 12=k at *
 go_enter Tryz.func22,Tryz.ntmps22
 go_wp2_with fail
 refine hp.mono ?_
 rintro e w1 ⟨rfl,rfl⟩
 go_wp2_with fail
 go_ret
 exact ⟨rfl,rfl⟩
def ni (i:Nat):ByteArray:=⟨#[(97+i).toUInt8]⟩
def bitN (n i:Nat):Bool:=(n/2 ^ i) % 2==1
def dC (n:Nat):Nat->List ByteArray
 | 0=>[]
 | i+1=>if bitN n i then dC n i++[ni i] else dC n i
def jQ (n:Nat):List ByteArray:=dC n 3
theorem qN (n:Nat):∀ i,(dC n i).length<=i
 | 0=>Nat.le_refl _
 | i+1=>by
  have:=qN n i
  unfold dC
  split
  ·simp;omega
  ·omega
theorem bit_at (n i:Nat) (hn:n<8) (hi:i<3):bits BinOp.and IntKind.i64 ((n:Int)/2 ^ i) 1=if bitN n i then 1 else 0:=by
 have h1:n=0\/n=1\/n=2\/n=3\/n=4\/n=5\/n=6\/n=7:=by omega
 have h2:i=0\/i=1\/i=2:=by omega
 rcases h1 with rfl | rfl | rfl | rfl | rfl | rfl | rfl | rfl<;>rcases h2 with rfl | rfl | rfl<;>decide
theorem ltr_at (i:Nat) (hi:i<3):(⟨#[97,98,99]⟩:ByteArray).extract i (i+1)=ni i:=by
 have h2:i=0\/i=1\/i=2:=by omega
 rcases h2 with rfl | rfl | rfl<;>decide
set_option maxRecDepth 100000 in
set_option maxHeartbeats 4000000 in
theorem atoms_any (c:Int) (w:World) (hc:mj c):Calls Tryz.prog 25 #[.int .i64 c] w fun e w'=>∃ v,e=.returned v/\w'.ownsRow w.heap.size 9 1 v (jQ (aP c 8).toNat).length (fH (jQ (aP c 8).toNat))/\Below w.heap.size w w':=by
 have hp:=jl c 8 w hc (by decide)
 have hr:=bB c 8 (by decide)
 obtain ⟨n,hn⟩:∃ n:Nat,aP c 8=n:=⟨(aP c 8).toNat,by omega⟩
 rw [hn] at hp hr ⊢
 have hn8:n<8:=by omega
 simp only [Int.toNat_natCast]
 obtain ⟨i0,hi,lr,iU,lu⟩:=info_parts infoStr
 clear hn hr
 go_enter Tryz.func25,Tryz.ntmps25
 go_wp2_with fail
 refine hp.mono ?_
 rintro e w1 ⟨rfl,rfl⟩
 clear hp
 go_wp2_with fail
 go_loopw [5,3] (fun iv v wr=>∃ i:Nat,iv=.int .i64 i/\i<=3/\wr.ownsRow w1.heap.size 9 1 v (dC n i).length (fH (dC n i))/\Below w1.heap.size w1 wr) (fun iv _ _=>3-(intOf iv).toNat)
 case atStart=>exact ⟨0,rfl,Nat.zero_le _,World.ownsRow_nil _ _ _ _,Below.refl _ _⟩
 case round =>
  obtain ⟨i,rfl,tP,cE,h_⟩:=hrel
  by_cases qo:i<3
  ·have hbit:=bit_at n i hn8 qo
   have hle:=qN n i
   have hws:=h_.size
   by_cases hbt:bitN n i=true
   ·rw [if_pos hbt] at hbit
    have hltr:=ltr_at i qo
    have kU:Hid (dC n (i+1)=dC n i++[ni i]):=by show _=_;rw [dC,if_pos hbt]
    clear hbt
    have hll:Hid ((fH (dC n i)).length=(dC n i).length):=strsV_len _
    generalize hA:dC n i=A at *
    generalize ni i=lt at *
    go_wp2_with (at_builtin;refine wpList_append_own _ rfl _ _ 31 rfl w1.heap.size 9 i0 _ 1 16 Tryz.underlying31 hi lr iU lu rfl (by decide) _ _ _ rfl (cE.alloc _) ⟨wr.heap.size,0,none⟩ 1 1 [.string lt] rfl rfl ?c1 ?c2 ?c3 ?c4 ?c5 ?_)
    case c1=>exact cell_one_new wr _ _
    case c2=>simp [Value.oneCell']
    case c3=>unfold maxLen;omega
    case c4=>omega
    case c5=>simp;omega
    intro v' w2 dm bz _
    have cB:Below w1.heap.size w1 w2:=(h_.al _).grown bz (Nat.le_trans h_.size (by simp)) (fun k e=>(cE.lt k e).1)
    go_wp2_with fail
    go_roundw
    case rel=>exact ⟨i+1,by go_num,by omega,by rw [kU.out];simpa [fH] using dm,cB⟩
    case measure=>simp only [intOf];omega
   ·rw [if_neg hbt] at hbit
    have kU:Hid (dC n (i+1)=dC n i):=by show _=_;rw [dC,if_neg hbt]
    clear hbt
    generalize dC n i=A at *
    go_wp2_with fail
    go_roundw
    case rel=>exact ⟨i+1,by go_num,by omega,by rw [kU.out];exact cE,h_⟩
    case measure=>simp only [intOf];omega
  ·obtain rfl:i=3:=by omega
   go_wp2_with fail
   go_ret
   exact ⟨_,rfl,cE,h_⟩
end Ev
end Go.Proofs.YtpbbmagjhkakgaaGreatDoor
