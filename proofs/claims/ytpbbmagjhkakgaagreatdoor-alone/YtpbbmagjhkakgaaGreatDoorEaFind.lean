import Derived.Test.YtpbbmagjhkakgaaGreatDoorEaSortToEdTake3
import Derived.Test.YtpbbmagjhkakgaaGreatDoorEvStateToEaMany
namespace Go.Proofs.YtpbbmagjhkakgaaGreatDoor
namespace Ev
open Go.RowKit Go.Deep Go.Maps Lf
set_option maxHeartbeats 1000000 in
theorem compare_any (p:bC) (name:ByteArray) (w:World):Calls Tryz.prog 140 #[polVal p,.string name] w fun e w'=>e=.returned (.int .i64 (qR p.name name))/\Below w.heap.size w w':=by
 have hs:=fun W=>Tryz.strings_Compare p.name name W
 unfold qR
 generalize Lib.compareBytes p.name.data.toList name.data.toList=c at *
 unfold polVal
 go_enter Tryz.func140,Tryz.ntmps140
 go_wp2_with fail
 refine (hs _).mono ?_
 rintro e w1 ⟨rfl,rfl⟩
 go_wp2_with fail
 go_ret
 exact ⟨rfl,(Below.refl _ _).al _⟩
set_option maxRecDepth 100000 in
set_option maxHeartbeats 4000000 in
theorem search_any (pb po cap:Nat) (arr:Array Value) (m:Nat×Nat) (ps:List bC) (name:ByteArray) (w:World) (hp:w.heap[pb]? = some (.cells arr 183 m)) (hP:b5 arr po ps) (hs:bL ps) (hl:ps.length<=1000000) :
  Calls Tryz.prog 139 #[.slice (some ⟨pb,po,none⟩) ps.length cap,.string name,.func (.func 140) #[] #[]] w fun e w'=>e=.returned (.tuple #[.int .i64 (bq name ps:Nat),.bool (b8 name ps)])/\Below w.heap.size w w':=by
 have Hcs:Hid (∀ W (j:Nat) p,Below w.heap.size w W->ps[j]? = some p->W.cell? ⟨pb,po+j*5,none⟩=some (.string p.name)/\W.cell? ⟨pb,po+j*5+1,none⟩=some (.pointer p.bV)/\W.cell? ⟨pb,po+j*5+2,none⟩=some (.int .i64 p.node)/\W.cell? ⟨pb,po+j*5+3,none⟩=some (.int .i64 p.cu)/\W.cell? ⟨pb,po+j*5+4,none⟩=some (.pointer p.cG)):=fun W j p hb hj=>by
  have h:=hb.aE hp
  obtain ⟨a0,a1,a2,a3,a4⟩:=hP j p hj
  exact ⟨ae h a0,ae h a1,ae h a2,ae h a3,ae h a4⟩
 have hcmp:=fun p W=>compare_any p name W
 have Hlt:Hid (∀ (i:Nat) (p:bC),ps[i]? = some p->(qR p.name name<0↔i<bq name ps)):=fun i p=>l_ name ps i p hs
 have Hth:Hid (∀ p,ps[bq name ps]? = some p->b8 name ps=decide (qR p.name name=0)):=fun p hp=>by
  unfold b8
  rw [hp]
  simp [lY]
 have Hno:Hid (¬ bq name ps<ps.length->b8 name ps=false):=fun h=>by
  unfold b8
  rw [List.getElem?_eq_none (by omega)]
 have hle:=jW name ps
 have fD:Hid (∀ j,j<ps.length->∃ p,ps[j]? = some p):=fun j hj=>⟨_,List.getElem?_eq_getElem hj⟩
 generalize b8 name ps=th at *
 generalize bq name ps=pl at *
 generalize ps.length=n at *
 unfold polVal at hcmp
 clear hP hp hs
 go_enter Tryz.func139,Tryz.ntmps139
 go_wp2_with fail
 go_loopw [9,10] (fun iv jv wr=>∃ i j:Nat,iv=.int .i64 i/\jv=.int .i64 j/\i<=pl/\pl<=j/\j<=n/\Below w.heap.size w wr) (fun iv jv _=>(intOf jv).toNat-(intOf iv).toNat)
 case atStart=>exact ⟨0,n,rfl,rfl,Nat.zero_le _,hle,Nat.le_refl _,Below.refl _ _⟩
 case round =>
  obtain ⟨lo,hi,rfl,rfl,h1,h2,h3,hb⟩:=hrel
  by_cases cz:lo<hi
  ·obtain ⟨p,hp⟩:=fD.out ((lo+hi)/2) (by omega)
   obtain ⟨y0,y1,y2,y3,y4⟩:=Hcs.out _ _ p hb hp
   have hc:=hcmp p
   have hpl:=Hlt.out _ p hp
   have Hb:Hid (Below w.heap.size w wr):=hb
   clear hcmp hb hp
   generalize qR p.name name=c at *
   by_cases lj:c<0
   ·have hq:=hpl.1 lj
    clear hpl
    go_wp2_with fail
    refine (hc _).mono ?_
    rintro e w1 ⟨rfl,a_⟩
    go_wp2_with fail
    go_roundw
    case rel=>exact ⟨(lo+hi)/2+1,hi,by rw [show ((lo:Int)+(hi:Int))/2+1=(((lo+hi)/2+1:Nat):Int) by omega],rfl,by omega,h2,h3,Hb.out.tr a_⟩
    case measure=>simp only [intOf];omega
   ·have hq:¬ (lo+hi)/2<pl:=fun h=>lj (hpl.2 h)
    clear hpl
    go_wp2_with fail
    refine (hc _).mono ?_
    rintro e w1 ⟨rfl,a_⟩
    go_wp2_with fail
    go_roundw
    case rel=>exact ⟨lo,(lo+hi)/2,rfl,by rw [show ((lo:Int)+(hi:Int))/2=(((lo+hi)/2:Nat):Int) by omega],h1,by omega,by omega,Hb.out.tr a_⟩
    case measure=>simp only [intOf];omega
  ·obtain rfl:lo=pl:=by omega
   by_cases hn:lo<n
   ·obtain ⟨p,hp⟩:=fD.out lo hn
    obtain ⟨y0,y1,y2,y3,y4⟩:=Hcs.out _ _ p hb hp
    have hc:=hcmp p
    have ht:=Hth.out p hp
    have Hb:Hid (Below w.heap.size w wr):=hb
    clear hcmp hb hp
    generalize qR p.name name=c at *
    by_cases lj:c=0
    ·subst lj
     go_wp2_with fail
     refine (hc _).mono ?_
     rintro e w1 ⟨rfl,a_⟩
     go_wp2_with fail
     go_ret2
     exact ⟨by rw [ht];rfl,Hb.out.tr a_⟩
    ·go_wp2_with fail
     refine (hc _).mono ?_
     rintro e w1 ⟨rfl,a_⟩
     go_wp2_with fail
     go_ret2
     exact ⟨by rw [ht];simp [lj],Hb.out.tr a_⟩
   ·have ht:=Hno.out hn
    subst ht
    have Hb:Hid (Below w.heap.size w wr):=hb
    clear hcmp hb
    go_wp2_with fail
    go_ret2
    exact ⟨rfl,Hb.out⟩
theorem mC (aj:Nat) (rt rm nv ev:Value) (pa:Option Addr) (aM:Nat) (ps:List bC) (name:ByteArray) (w:World) (hw:w.heap[aj]? = some (.cells #[rt,rm,nv,ev,.slice pa ps.length aM] 153 (0,0))) (hP:fg w pa aM ps) (hs:bL ps) (hl:ps.length<=1000000) :
  Calls Tryz.prog 97 #[.pointer (some ⟨aj,0,none⟩),.string name] w fun e w'=>e=.returned (.tuple #[.int .i64 (bq name ps:Nat),.bool (b8 name ps)])/\Below w.heap.size w w':=by
 rcases hP with ⟨rfl,rfl,rfl⟩ | ⟨pb,po,fA,mp,rfl,hp,hP⟩
 ·refine (find0 aj rt rm nv ev name w hw).mono ?_
  rintro e w' ⟨rfl,rfl⟩
  exact ⟨rfl,Below.refl _ _⟩
 ·have c4:=ae (i:=4) hw rfl
  have hs:=search_any pb po aM fA mp ps name w hp hP hs hl
  generalize bq name ps=pl at *
  generalize b8 name ps=th at *
  generalize ps.length=n at *
  go_enter Tryz.func97,Tryz.ntmps97
  go_wp2_with fail
  refine hs.mono ?_
  rintro e w1 ⟨rfl,a_⟩
  go_wp2_with fail
  go_ret2
  exact ⟨rfl,a_⟩
end Ev
end Go.Proofs.YtpbbmagjhkakgaaGreatDoor
