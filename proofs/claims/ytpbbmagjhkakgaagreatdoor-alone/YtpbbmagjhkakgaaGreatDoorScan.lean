import Derived.Test.YtpbbmagjhkakgaaGreatDoorPureNumToWindow
import Derived.Test.YtpbbmagjhkakgaaGreatDoorPureToLfTape
import Derived.Test.YtpbbmagjhkakgaaGreatDoorShelfToExpect
namespace Go.Proofs.YtpbbmagjhkakgaaGreatDoor
open Go.RowKit
set_option maxHeartbeats 400000 in
theorem whyNoSign_any (rest:ByteArray) (r:Int) (w:World) :
  Calls Tryz.prog 152 #[.string rest,.int .i32 r] w fun e w'=>(∃ s,e=.returned (.string s))/\w'=w:=by
 by_cases hr:r=65533
 ·subst hr
  go_enter Tryz.func152,Tryz.ntmps152
  go_wp2_with (go_at_call 185;refine (Tryz.strings_HasPrefix _ _ _).mono ?_;rintro e w' ⟨rfl,rfl⟩)
  all_goals go_ret
  all_goals exact ⟨⟨_,rfl⟩,rfl⟩
 ·have hr':(r==65533)=false:=by simp [hr]
  go_enter Tryz.func152,Tryz.ntmps152
  go_wp2_with fail
  go_ret
  exact ⟨⟨_,rfl⟩,rfl⟩
theorem infoTok:(Tryz.prog.info? 260).map (fun i=>(i.zero,i.size,i.bytes))=some (some (.agg #[.int .i32 0,.int .i64 0,.string ⟨#[]⟩]),3,32):=by kernel_rfl
theorem kB (w:World) (t:Tok) (e:TypeId):∀ j u,(cq t)[j]? = some u->(w.alloc (.cells #[.int .i32 t.sign,.int .i64 t.place,.string t.word] e)).cell? ((⟨w.heap.size,0,none⟩:Addr).add j)=some u:=by
 intro j u hj
 have hh:=aB w (.cells #[.int .i32 t.sign,.int .i64 t.place,.string t.word] e (0,0)) _ rfl
 have:(⟨w.heap.size,0,none⟩:Addr).add j=⟨w.heap.size,j,none⟩:=by simp [Addr.add];omega
 rw [this]
 exact ae hh (by simpa [cq] using hj)
theorem tok_one (t:Tok):∀ u,u∈cq t->u.oneCell'=true:=by
 intro u hu
 simp [cq] at hu
 rcases hu with rfl | rfl | rfl<;>rfl
theorem jT (ts:List Tok) (t:Tok):((ts++[t]).map cq).flatten=(ts.map cq).flatten++cq t:=by simp
theorem ft (ts:List Tok):(ts.map cq).flatten.length=ts.length*3:=by
 induction ts with
 | nil=>rfl
 | cons a l ih=>simp only [List.map_cons,List.flatten_cons,List.length_append,ih,List.length_cons];simp [cq];omega
theorem own_slice {w:World} {base size n:Nat} {e:TypeId} {v:Value} {xs:List Value} (h:w.ownsRow base e size v n xs) (hn:0<n):∃ g cap,v=.slice (some ⟨g,0,none⟩) n cap/\base<=g/\g<w.heap.size/\n<=cap/\cap<=maxLen:=by
 obtain ⟨_,⟨_,hz⟩ | ⟨g,cap,cur,hv,hg,hh,hn,hm,hs,ht⟩⟩:=h
 ·omega
 ·exact ⟨g,cap,hv,hg,aw hh,hn,hm⟩
theorem iter_grown {w W w2:World} {o:Obj} {s:ByteArray} {p n:Nat} {e:TypeId} {size:Nat} {v:Value} {xs:List Value} (hit:W.heap[w.heap.size]? = some (.stringIter s p)) (cE:W.ownsRow (w.heap.size+1) e size v n xs) (hg:(W.alloc o).grownBy w2 v.ownBlock) :
  w2.heap[w.heap.size]? = some (.stringIter s p):=by
 have hl:=aw hit
 rw [hg.block _ (by simp;omega) (fun h=>by have:=(cE.lt _ h.symm).1;omega),Lib.alloc_old W o _ hl]
 exact hit
theorem toks_of_own {base:Nat} {w:World} {v:Value} {ts:List Tok} (h:w.ownsRow base 260 3 v ts.length (ts.map cq).flatten) (hne:ts≠[]):qK w.heap.size w v ts:=by
 obtain ⟨hl,⟨_,hz⟩ | ⟨g,cap,cur,hv,hg,hh,hn,hm,hs,ht⟩⟩:=h
 ·exact absurd (List.length_eq_zero_iff.1 hz) hne
 ·refine ⟨g,0,cap,cur,_,_,cur.toList.drop (ts.length*3),hv,aw hh,hh,hn,hm,?_⟩
  rw [<- ht,List.drop_zero,List.take_append_drop]
def ScanEnd (w:World) (res:Option (List Tok)) (e:Ending) (w':World):Prop :=
 Below w.heap.size w w'/\((∃ ts v,res=some ts/\e=.returned (.tuple #[v,.nilIface])/\qK w'.heap.size w' v ts/\Ends ts/\ts.length<=305)
  \/(res=none/\∃ fa,e=.returned (.tuple #[.slice none 0 0,.iface 201 (.pointer (some fa))])))
set_option maxHeartbeats 4000000 in
set_option maxRecDepth 100000 in
theorem scan_any (s:ByteArray) (w:World) (hs:s.size<=300) :
  Calls Tryz.prog 113 #[.string s] w (ScanEnd w (cJ s s.size 0 32 [])):=by
 generalize oH:cJ s s.size 0 32 []=res
 go_enter Tryz.func113,Tryz.ntmps113
 go_wp2
 go_loopw [4,5] (fun v l wr=>∃ (pos b:Nat) (last:Int) (bp:List Tok),wr.heap[w.heap.size]? = some (.stringIter s pos)/\wr.ownsRow (w.heap.size+1) 260 3 v bp.length (bp.map cq).flatten/\l=.int .i32 last/\Below w.heap.size w wr/\Hid (cJ s b pos last bp=res)/\s.size<=pos+b/\Mid pos last bp/\pos<=304) (fun _ _ wr=>s.size-wr.iterPos w.heap.size)
 case atStart =>
  refine ⟨0,s.size,32,[],?_,World.ownsRow_nil _ _ _ _,rfl,?_,oH,by omega,Mid.start,by omega⟩
  ·exact World.iter_heap w s 0
  ·exact (Below.refl _ _).al (.stringIter s 0)
 case round =>
  clear oH
  obtain ⟨pos,b,last,bp,hit,cE,rfl,h_,hsc,hfu,hmid,fE⟩:=hrel
  have hlen:=hmid.len
  by_cases hp:pos<s.size
  ·have nh:∀ ty,(Instr.next (.pointer (some ⟨w.heap.size,0,none⟩)) true ty).run Tryz.prog wr=_:=fun ty=>Lib.run_next_any_at wr w.heap.size s pos ty hit hp
   have hwd:=width_pos s pos hp
   have hwl:=width_le s pos
   obtain ⟨f,rfl⟩:∃ f,b=f+1:=⟨b-1,by omega⟩
   have hit2:=Lib.iterAt_heap wr w.heap.size s pos (pos+(Utf8.decode s pos).2) hit
   have sO:=Lib.below_iterAt h_ (k:=w.heap.size) (Nat.le_refl _) s (pos+(Utf8.decode s pos).2)
   have gi:=ownsRow_iterAt cE (k:=w.heap.size) (by omega) s (pos+(Utf8.decode s pos).2)
   have hS:Hid (res=(if bM (Utf8.decode s pos).1 = -2 then none
    else if bM (Utf8.decode s pos).1=last/\gR (bM (Utf8.decode s pos).1)=true then
     cJ s f (pos+(Utf8.decode s pos).2) (bM (Utf8.decode s pos).1) (growF s pos bp)
    else if bM (Utf8.decode s pos).1=32 then cJ s f (pos+(Utf8.decode s pos).2) (bM (Utf8.decode s pos).1) bp
    else cJ s f (pos+(Utf8.decode s pos).2) (bM (Utf8.decode s pos).1) (bp++[⟨bM (Utf8.decode s pos).1,pos,Utf8.encode (Utf8.decode s pos).1⟩]))):=by
    show _=_
    rw [<- hsc.out]
    show cJ s (f+1) pos last bp=_
    rw [cJ,if_pos hp]
   have hm:Hid (wr.iterPos w.heap.size=pos):=iterPos_of hit
   have hsg:=signF_ne (Utf8.decode s pos).1
   go_wp2_with fail
   refine (signOf_any _ _).mono ?_
   rintro e w1 ⟨rfl,rfl⟩
   clear nh hit cE h_ hsc
   generalize wr.iterAt w.heap.size s (pos+(Utf8.decode s pos).2)=W at *
   generalize ((Utf8.decode s pos).1:Int)=r at *
   generalize (Utf8.decode s pos).2=wid at *
   generalize bM r=sg at *
   by_cases h2:sg = -2
   ·have hR:Hid (res=none):=by show _=_;rw [hS.out,if_pos h2]
    subst h2
    clear hS
    go_wp2_with fail
    refine (whyNoSign_any _ _ _).mono ?_
    rintro e w1 ⟨⟨str,rfl⟩,rfl⟩
    go_wp2_with fail
    go_ret2
    exact ⟨sO.al _,.inr ⟨hR.out,_,rfl⟩⟩
   ·have q1:(sg==-2)=false:=by simp [h2]
    have kS:sg≠-1:=by omega
    by_cases hj:sg=last/\gR sg=true
    ·have hR:Hid (res=cJ s f (pos+wid) sg (growF s pos bp)):=by show _=_;rw [hS.out,if_neg h2,if_pos hj]
     obtain ⟨hl,hjb⟩:=hj
     subst hl
     obtain ⟨ts,t,rfl⟩:∃ ts t,bp=ts++[t]:=⟨bp.dropLast,bp.getLast (hmid.join hjb),(List.dropLast_concat_getLast (hmid.join hjb)).symm⟩
     rw [pT] at hR
     obtain ⟨g,cap,hv,hg1,hg2,cW,hmax⟩:=own_slice gi (by simp)
     subst hv
     simp only [List.length_append,List.length_cons,List.length_nil,Nat.zero_add] at *
     have cp:W.cell? ⟨g,ts.length*3+1,none⟩=some (.int .i64 t.place):=by
      rw [gi.cellAt _ (by omega),jT,List.getElem?_append_right (by rw [ft];omega),ft]
      simp [cq]
     have cw:W.cell? ⟨g,ts.length*3+2,none⟩=some (.string t.word):=by
      rw [gi.cellAt _ (by omega),jT,List.getElem?_append_right (by rw [ft];omega),ft]
      simp [cq]
     have fw:W.frozen? ⟨g,ts.length*3+2,none⟩=false:=gi.frozenAt _
     have htp:=hmid.each t (by simp)
     obtain ⟨_,_,hp0,hp1⟩:=htp
     unfold maxLen at hmax
     go_wp2_with fail
     refine (joins_any _ _).mono ?_
     rintro e w1 ⟨rfl,rfl⟩
     clear hS h2 hsg
     go_wp2_with fail
     have hR':Hid (cJ s f (pos+wid) sg (ts++[⟨t.sign,t.place,s.extract t.place.toNat (pos+1)⟩])=res):=hR.out.symm
     have hit3:(w1.setCell ⟨g,ts.length*3+2,none⟩ (.string (s.extract t.place.toNat (pos+1)))).heap[w.heap.size]? = some (.stringIter s (pos+wid)):=by
      rw [Below.heap_setCell _ _ _ _ (by show w.heap.size≠g;omega)];exact hit2
     refine ⟨⟨pos+wid,f,sg,ts++[⟨t.sign,t.place,s.extract t.place.toNat (pos+1)⟩],hit3,?_,rfl,?_,hR',by omega,hmid.grow (by omega) hs,by omega⟩,?_⟩
     ·have:=(gi.stored (ts.length*3+2) (.string (s.extract t.place.toNat (pos+1)))).1
      rw [jT] at this
      rw [jT]
      rw [List.set_append_right _ _ (by rw [ft];omega),ft] at this
      have e2:ts.length*3+2-ts.length*3=2:=by omega
      rw [e2] at this
      simpa [cq] using this
     ·exact sO.setCell (p:=⟨g,ts.length*3+2,none⟩) (by show w.heap.size<=g;omega) _
     ·rw [iterPos_of hit3,hm.out];omega
    ·have hR:Hid (res=if sg=32 then cJ s f (pos+wid) sg bp else cJ s f (pos+wid) sg (bp++[⟨sg,pos,Utf8.encode r⟩])):=by show _=_;rw [hS.out,if_neg h2,if_neg hj]
     clear hS h2 hsg
     have hj2:(sg==last)=false\/((sg==last)=true/\gR sg=false):=by
      by_cases hl:sg=last
      ·exact .inr ⟨by simp [hl],by cases hb:gR sg with | true=>exact absurd ⟨hl,hb⟩ hj | false=>rfl⟩
      ·exact .inl (by simp [hl])
     clear hj
     obtain ⟨i0,hi,lr,iU,lu⟩:=info_parts infoTok
     by_cases h32:sg=32
     ·have hR2:Hid (cJ s f (pos+wid) 32 bp=res):=by show _=_;rw [hR.out,if_pos h32,h32]
      subst h32
      clear hR
      have hm3:=hmid.blank (p2:=pos+wid) (by omega)
      rcases hj2 with hj2 | ⟨hj2,hj3⟩
      ·go_wp2_with fail
       exact ⟨⟨pos+wid,f,32,bp,hit2,gi,rfl,sO,hR2,by omega,hm3,by omega⟩,by rw [iterPos_of hit2,hm.out];omega⟩
      ·go_wp2_with fail
       refine (joins_any _ _).mono ?_
       rintro e w1 ⟨rfl,rfl⟩
       go_wp2_with fail
       exact ⟨⟨pos+wid,f,32,bp,hit2,gi,rfl,sO,hR2,by omega,hm3,by omega⟩,by rw [iterPos_of hit2,hm.out];omega⟩
     ·have hR2:Hid (cJ s f (pos+wid) sg (bp++[⟨sg,pos,Utf8.encode r⟩])=res):=by show _=_;rw [hR.out,if_neg h32]
      have q3:(sg != 32)=true:=by simp [h32]
      clear hR h32
      rcases hj2 with hj2 | ⟨hj2,hj3⟩
      ·go_wp2_with (at_builtin;refine wpList_append_own _ rfl _ _ 204 rfl (w.heap.size+1) 260 i0 _ 3 32 Tryz.underlying204 hi lr iU lu rfl (by decide) _ _ _ rfl (gi.alloc _) ⟨W.heap.size,0,none⟩ 1 1 (cq ⟨sg,pos,Utf8.encode r⟩) rfl rfl ?c1 ?c2 ?c3 ?c4 ?c5 ?_)
       case c1=>exact kB W ⟨sg,pos,Utf8.encode r⟩ _
       case c2=>exact tok_one _
       case c3=>unfold maxLen;omega
       case c4=>omega
       case c5=>have:=sO.size;have:=aw hit2;simp;omega
       intro v' w2 dm bz _
       go_wp2_with fail
       have hit3:=iter_grown hit2 gi bz
       refine ⟨⟨pos+wid,f,sg,bp++[⟨sg,pos,Utf8.encode r⟩],hit3,?_,rfl,?_,hR2,by omega,hmid.more (by omega) kS,by omega⟩,?_⟩
       ·rw [jT];simpa using dm
       ·exact (sO.al _).grown bz (by have:=sO.size;simp;omega) (fun k hk=>by have:=(gi.lt k hk).1;omega)
       ·rw [iterPos_of hit3,hm.out];omega
      ·go_wp2_with fail
       refine (joins_any _ _).mono ?_
       rintro e w1 ⟨rfl,rfl⟩
       go_wp2_with (at_builtin;refine wpList_append_own _ rfl _ _ 204 rfl (w.heap.size+1) 260 i0 _ 3 32 Tryz.underlying204 hi lr iU lu rfl (by decide) _ _ _ rfl (gi.alloc _) ⟨w1.heap.size,0,none⟩ 1 1 (cq ⟨sg,pos,Utf8.encode r⟩) rfl rfl ?c1 ?c2 ?c3 ?c4 ?c5 ?_)
       case c1=>exact kB w1 ⟨sg,pos,Utf8.encode r⟩ _
       case c2=>exact tok_one _
       case c3=>unfold maxLen;omega
       case c4=>omega
       case c5=>have:=sO.size;have:=aw hit2;simp;omega
       intro v' w2 dm bz _
       go_wp2_with fail
       have hit3:=iter_grown hit2 gi bz
       refine ⟨⟨pos+wid,f,sg,bp++[⟨sg,pos,Utf8.encode r⟩],hit3,?_,rfl,?_,hR2,by omega,hmid.more (by omega) kS,by omega⟩,?_⟩
       ·rw [jT];simpa using dm
       ·exact (sO.al _).grown bz (by have:=sO.size;simp;omega) (fun k hk=>by have:=(gi.lt k hk).1;omega)
       ·rw [iterPos_of hit3,hm.out];omega
  ·have nh:∀ ty,(Instr.next (.pointer (some ⟨w.heap.size,0,none⟩)) true ty).run Tryz.prog wr=_:=fun ty=>Lib.run_next_end_at wr w.heap.size s pos ty hit hp
   have hR:Hid (res=some (bp++[eS s])):=by show _=_;rw [<- hsc.out,mg s b pos last bp hp]
   have hends:=hmid.ends s
   obtain ⟨i0,hi,lr,iU,lu⟩:=info_parts infoTok
   clear hsc
   go_wp2_with (at_builtin;refine wpList_append_own _ rfl _ _ 204 rfl (w.heap.size+1) 260 i0 _ 3 32 Tryz.underlying204 hi lr iU lu rfl (by decide) _ _ _ rfl (cE.alloc _) ⟨wr.heap.size,0,none⟩ 1 1 (cq (eS s)) rfl rfl ?c1 ?c2 ?c3 ?c4 ?c5 ?_)
   case c1=>exact kB wr (eS s) _
   case c2=>exact tok_one _
   case c3=>unfold maxLen;omega
   case c4=>omega
   case c5=>have:=aw hit;simp;omega
   intro v' w2 dm bz _
   go_wp2_with fail
   go_ret2
   have hown3:w2.ownsRow (w.heap.size+1) 260 3 v' (bp++[eS s]).length ((bp++[eS s]).map cq).flatten:=by rw [jT];simpa using dm
   refine ⟨?_,.inl ⟨_,_,hR.out,rfl,toks_of_own hown3 (by simp),hends,by simp;omega⟩⟩
   exact (h_.al _).grown bz (by have:=h_.size;simp;omega) (fun k hk=>by have:=(cE.lt k hk).1;omega)
end Go.Proofs.YtpbbmagjhkakgaaGreatDoor
