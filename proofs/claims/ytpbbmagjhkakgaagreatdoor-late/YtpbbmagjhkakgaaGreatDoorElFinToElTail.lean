import Derived.Test.YtpbbmagjhkakgaaGreatDoorElLoop3ToElLoop6
import Derived.Test.YtpbbmagjhkakgaaGreatDoorSnSeen0ToSmLoop
import Derived.Deep.QuietTactic
import Derived.BigQuiet
namespace Go.Proofs.YtpbbmagjhkakgaaGreatDoor.Ev
open Go.RowKit Go.Deep Go.Maps Go.Proofs.YtpbbmagjhkakgaaGreatDoor.Lf Go.Conc
noncomputable def strm9:Code:=seqC fin9 0
noncomputable def ops28:Array Oper:=opsR strm9
noncomputable def tail9:Code:=match fin9 with
 | .seq _ x=>x
 | _=>.skip
theorem fin9_is:fin9=.seq strm9 tail9:=rfl
theorem rg28:strm9=.region 28 ops28 false:=rfl
theorem sz28:ops28.size=7:=rfl
def E9 (eo:Option Addr) (ln cap:Nat) (vs:ByteArray) (m a:Nat) (back st:Value):List (Nat×Value):=[(1,.slice eo ln cap),(12,.string vs),(16,.int .i64 (m:Int)),(17,.int .i64 (a:Int)),(19,.int .i64 ((a:Int)+1)),(20,back),(23,st),(24,.int .i64 0)]
theorem strm9_lead {x:BT Pay} {L:List (Int×Int)} {eo:Option Addr} {cap:Nat} {sp vs:ByteArray} {mb wtb m a:Nat} {n:Int} {w0 w:World} {A:Act} {K:Goroutine->World->Prop} (h1:m<=25) (h:K9 x L eo cap sp vs mb wtb m a n w0 m A w) (b:Frame) (cs:List Frame) (hcs:∀ fr∈cs,okFrame fr)
  (hfin:∀ A w v f st,f<=a->Fx 227 (E9 eo L.length cap vs m a v st) A->w.ownsRow w0.heap.size 59 4 v (a-f) (versF x L f (a-f))->w.ownsRow w0.heap.size 59 4 st (m-a) (versF x L a (m-a))->SpareR (fun _=>False) w0 w->LeadsR Tryz.prog K (G (b.at A [.code tail9]) cs) w) :
  LeadsR Tryz.prog K (G (b.at A [.code fin9]) cs) w:=by
 have hP:=plain_prog
 have hi0:∀ it∈([]:List Item),okItem it:=by simp
 have hi1:∀ (c:Code),∀ it∈[Item.code c],okItem it:=fun c=>okItems_cons trivial (by simp)
 obtain ⟨v,f,hf,hA,hK,hs⟩:=h
 unfold F9 at hA
 rw [fin9_is]
 refine LeadsR.seq hP hi0 hcs ?_
 rw [rg28]
 refine LeadsR.region hP (hi1 _) hcs ?_
 rw [sz28]
 simp only [List.range,List.range.loop]
 refine mvF ⟨_,rfl,rfl,rfl,rfl⟩ hA rfl (by decide) (hi1 _) hcs fun A hA=>?_
 refine callFx ⟨_,rfl,rfl,rfl,rfl⟩ Tryz.func28 (by decide) rfl hA rfl (by decide) (hi1 _) hcs (lstream_H hK.late h1) (fun e w' x=>by obtain ⟨v,x1,_⟩:=x;exact ⟨_,x1⟩) ?_
 rintro vv w1 A ⟨st,hv,hst,hs1⟩ hA
 cases hv
 refine mvF ⟨_,rfl,rfl,rfl,rfl⟩ hA rfl (by decide) (hi1 _) hcs fun A hA=>?_
 refine extF ⟨_,rfl,rfl,rfl,rfl⟩ hA rfl (v:=st) rfl (by decide) (hi1 _) hcs fun A hA=>?_
 refine extF ⟨_,rfl,rfl,rfl,rfl⟩ hA rfl (v:=.int .i64 0) rfl (by decide) (hi1 _) hcs fun A hA=>?_
 refine asgF ⟨_,rfl,rfl,rfl,rfl⟩ hA rfl (by decide) (hi1 _) hcs fun A hA=>?_
 refine asgF ⟨_,rfl,rfl,rfl,rfl⟩ hA rfl (by decide) (hi1 _) hcs fun A hA=>?_
 refine LeadsR.nil hP (hi1 _) hcs (hfin A w1 v f st hf (hA.less ?_) (hK.move hs1).row (row_mono hst hs.size) (hs.trans hs1))
 unfold E9
 simp only [List.forall_mem_cons,List.not_mem_nil,false_implies,implies_true,and_true]
 exact ⟨rfl,rfl,rfl,rfl,rfl,rfl,rfl,rfl⟩
theorem late_top (R:List Int) (o1:Option Addr) (cpR:Nat) (L:List (Int×Int)) (eo:Option Addr) (cap:Nat) (at_:Int) (w:World) (hat:I64 at_) (hg:Glob w) (hw7:14<=w.heap.size) (hlR:R.length<=4611686018427387904) (hIR:∀ r∈R,I64 r) (hR:RawAt w o1 R) (hLm:L.length<=9223372036854775807) (hL:∀ p∈L,I64 p.1/\I64 p.2) (hC:ComesAt w eo L)
  (htail:∀ (x:BT Pay) (m a f:Nat) (v st:Value) (A:Act) (w':World) (cs:List Frame),m=min L.length 25->a<=m->f<=a->Fx 227 (E9 eo L.length cap (verS x L m) m a v st) A->w'.ownsRow w.heap.size 59 4 v (a-f) (versF x L f (a-f))->w'.ownsRow w.heap.size 59 4 st (m-a) (versF x L a (m-a))->SpareR (fun _=>False) w w'->(∀ fr∈cs,okFrame fr)->LeadsR Tryz.prog (fun g w'=>∃ e fr,g=G fr cs/\okFrame fr/\LawPost w e w'/\fr.fn=9/\fr.leaving Tryz.prog w' e) (G ((base 9).at A [.code tail9]) cs) w') :
  HCalls Tryz.prog 9 #[.slice o1 R.length cpR,.slice eo L.length cap,.int .i64 at_] w (LawPost w):=by
 refine late_pre R o1 cpR L eo cap at_ w hat hg hw7 hlR hIR hR hLm hL hC fun x sp vs mb wtb w' A cs _ tx hgx hn0 hn1 hvs hA hY hs hcs=>?_
 have hpr:=pickZ_range at_ (((min L.length 25:Nat):Int)+1) (by omega)
 have hae:((pickZ at_ (((min L.length 25:Nat):Int)+1)).toNat:Int)=pickZ at_ (((min L.length 25:Nat):Int)+1):=Int.toNat_of_nonneg hpr.1
 rw [<- hae] at hA
 have ha:(pickZ at_ (((min L.length 25:Nat):Int)+1)).toNat<=min L.length 25:=by omega
 generalize (pickZ at_ (((min L.length 25:Nat):Int)+1)).toNat=a at *
 generalize hm:min L.length 25=m at *
 subst hvs
 refine loop9_lead ha tx hgx (n:=reachT x+20) (by omega) hn0 hg hw7 hLm hL hC (by omega) (by omega) (hA.less ?_) hY hs (base 9) cs hcs fun A w1 h=>strm9_lead (by omega) h (base 9) cs hcs fun A w2 v f st hf hA h1 h2 h3=>htail x m a f v st A w2 cs rfl ha hf hA h1 h2 h3 hcs
 simp only [List.forall_mem_cons,List.not_mem_nil,false_implies,implies_true,and_true]
 exact ⟨rfl,rfl,rfl,rfl,rfl,rfl,rfl,rfl,rfl⟩
noncomputable def chk29:Code:=seqC tail9 0
noncomputable def tail31:Code:=match tail9 with
 | .seq _ x=>x
 | _=>.skip
theorem tail9_is:tail9=.seq chk29 tail31:=rfl
set_option maxRecDepth 100000 in
set_option maxHeartbeats 16000000 in
theorem chk29_go (eo:Option Addr) (ln cap:Nat) (vs:ByteArray) (m a:Nat) (back:Value) (so:Option Addr) (k sc:Nat) (hk:(k:Int)=m-a) (hm:m<=25) (A:Act) (w:World) (Q:Act->World->Prop) (hA:Fx 227 (E9 eo ln cap vs m a back (.slice so k sc)) A) (hQ:∀ A',Fx 227 (E9 eo ln cap vs m a back (.slice so k sc)) A'->Q A' w):chk29.wp Tryz.prog (fun e A' w'=>e=.normal/\Q A' w') A w:=by
 replace hQ:Hid _:=hQ
 obtain ⟨u,hu,rfl⟩:=open227 hA.size hA.defers
 have k1:=hu 1 _ (hA.get 1 _ rfl)
 have k12:=hu 12 _ (hA.get 12 _ rfl)
 have k16:=hu 16 _ (hA.get 16 _ rfl)
 have k17:=hu 17 _ (hA.get 17 _ rfl)
 have k19:=hu 19 _ (hA.get 19 _ rfl)
 have k20:=hu 20 _ (hA.get 20 _ rfl)
 have k23:=hu 23 _ (hA.get 23 _ rfl)
 have k24:=hu 24 _ (hA.get 24 _ rfl)
 clear hu hA
 simp only [k1,k12,k16,k17,k19,k20,k23,k24]
 clear k1 k12 k16 k17 k19 k20 k23 k24
 simp only [chk29,tail9,seqC,fin9,rest9,body9,Tryz.f9,Option.getD_some]
 go_wp2_with fail
 first | refine hQ.out _ ?_ | refine ⟨rfl,hQ.out _ ?_⟩
 refine Fx.of rfl rfl ?_
 unfold E9
 simp only [List.forall_mem_cons,List.not_mem_nil,false_implies,implies_true,and_true]
 exact ⟨rfl,rfl,rfl,rfl,rfl,rfl,rfl,rfl⟩
noncomputable def back31:Code:=seqC tail31 0
noncomputable def tail37:Code:=match tail31 with
 | .seq _ x=>x
 | _=>.skip
noncomputable def strm37:Code:=seqC tail37 0
noncomputable def fin42:Code:=match tail37 with
 | .seq _ x=>x
 | _=>.skip
theorem tail31_is:tail31=.seq back31 (.seq strm37 fin42):=rfl
def Rows9 (w:World) (o:Option Addr) (n f:Nat) (b:Nat->Bool):Prop:=∀ j,j<n->∃ g,o=some ⟨g,0,none⟩/\w.cell? ⟨g,j*4,none⟩=some (.int .i64 (((f+j:Nat):Int)+1))/\w.cell? ⟨g,j*4+3,none⟩=some (.bool (b (f+j)))
theorem rows9_of {w:World} {B n f:Nat} {x:BT Pay} {L:List (Int×Int)} {v:Value} (h:w.ownsRow B 59 4 v n (versF x L f n)):∃ o c,v=.slice o n c/\Rows9 w o n f (verZ x L):=by
 have h0:=h
 obtain ⟨e1,⟨rfl,e2⟩ | ⟨g,c,cur,rfl,_⟩⟩:=h
 ·subst e2
  exact ⟨none,0,rfl,fun j hj=>absurd hj (Nat.not_lt_zero _)⟩
 ·refine ⟨_,c,rfl,fun j hj=>?_⟩
  obtain ⟨g0,_,_,g3⟩:=versF_get x L f n j hj
  have c0:=row_cell h0 rfl g0
  rw [show (f:Int)+j+1=((f+j:Nat):Int)+1 by omega] at c0
  exact ⟨g,rfl,c0,row_cell h0 rfl g3⟩
def Still (w w':World):Prop:=(∀ a,w'.cell? a=w.cell? a)/\SpareR (fun _=>False) w w'
theorem Still.refl (w:World):Still w w:=⟨fun _=>rfl,SpareR.of_below (Below.refl _ _)⟩
theorem Still.drewN {w w':World} (h:Still w w') (n:Nat):Still w (w'.drewN n):=⟨h.1,h.2.trans (SpareR.of_below (below_drewN _ _))⟩
theorem Still.rows {w w':World} (h:Still w w') {o:Option Addr} {n f:Nat} {b:Nat->Bool} (hr:Rows9 w o n f b):Rows9 w' o n f b:=fun j hj=>by
 obtain ⟨g,h1,h2,h3⟩:=hr j hj
 exact ⟨g,h1,(h.1 _).trans h2,(h.1 _).trans h3⟩
set_option maxRecDepth 100000 in
set_option maxHeartbeats 16000000 in
theorem back31_go (eo:Option Addr) (ln cap:Nat) (vs:ByteArray) (m a n f c:Nat) (o:Option Addr) (st:Value) (b:Nat->Bool) (hn:f+n=a) (ham:a<=m) (hm:m<=25) (hs:vs.size=m) (hx:∀ j,j<m->vs.extract j (j+1)=bitS (b j)) (A:Act) (w:World) (Q:Act->World->Prop) (hA:Fx 227 (E9 eo ln cap vs m a (.slice o n c) st) A) (hr:Rows9 w o n f b) (hQ:∀ A' w',Fx 227 (E9 eo ln cap vs m a (.slice o n c) st) A'->Still w w'->Q A' w'):back31.wp Tryz.prog (fun e A' w'=>e=.normal/\Q A' w') A w:=by
 replace hQ:Hid _:=hQ
 have Hr:Hid (Rows9 w o n f b):=hr
 have Hx:Hid (∀ j,j<m->vs.extract j (j+1)=bitS (b j)):=hx
 clear hr hx
 obtain ⟨u,hu,rfl⟩:=open227 hA.size hA.defers
 have k1:=hu 1 _ (hA.get 1 _ rfl)
 have k12:=hu 12 _ (hA.get 12 _ rfl)
 have k16:=hu 16 _ (hA.get 16 _ rfl)
 have k17:=hu 17 _ (hA.get 17 _ rfl)
 have k19:=hu 19 _ (hA.get 19 _ rfl)
 have k20:=hu 20 _ (hA.get 20 _ rfl)
 have k23:=hu 23 _ (hA.get 23 _ rfl)
 have k24:=hu 24 _ (hA.get 24 _ rfl)
 clear hu hA
 simp only [k1,k12,k16,k17,k19,k20,k23,k24]
 clear k1 k12 k16 k17 k19 k20 k23 k24
 simp only [back31,tail31,tail9,seqC,fin9,rest9,body9,Tryz.f9,Option.getD_some]
 go_wp2_with fail
 go_loopw [25] (fun jv wr=>∃ j:Nat,j<=n/\jv=.int .i64 j/\Still w wr) (fun jv _=>n-(intOf jv).toNat)
 case atStart=>exact ⟨0,Nat.zero_le _,rfl,Still.refl _⟩
 case round =>
  obtain ⟨j,hj,rfl,hst⟩:=hrel
  by_cases hji:j<n
  ·obtain ⟨g,ho,c0,c3⟩:=Hr.out j hji
   have hxj:=Hx.out (f+j) (by omega)
   have c0':=(hst.1 _).trans c0
   have c3':=(hst.1 _).trans c3
   have Hst:Hid (Still w wr):=hst
   subst ho
   obtain ⟨z,hz⟩:∃ z:Int,z=((f+j:Nat):Int)+1:=⟨_,rfl⟩
   obtain ⟨q,hq⟩:∃ q,q=f+j:=⟨_,rfl⟩
   rw [<- hz] at c0'
   rw [<- hq] at c3' hxj hz
   have z1:decide (z<1)=false:=by simp;omega
   have z2:decide ((a:Int)+1<=z)=false:=by simp;omega
   have z3:(z-1).toNat=q:=by omega
   have z4:z.toNat=q+1:=by omega
   have z5:(0:Int)<=z-1:=by omega
   have z6:(0:Int)<=z:=by omega
   have z7:z<=(vs.size:Int):=by omega
   have z8:z-1<=z:=by omega
   have z9:IntKind.i64.wrap (z-1)=z-1:=by rw [IntKind.wrap_i64];omega
   have zq:z=q+1:=hz
   have z10:z<=25:=by omega
   have Hz:Hid (z=(q:Int)+1/\q=f+j):=⟨hz,hq⟩
   clear hz hq zq
   cases j with
   | zero =>
    simp only [Nat.zero_mul,Nat.zero_add] at c0' c3'
    clear c0 c3 hst
    cases hb:b q with
    | true =>
     rw [hb] at c3' hxj
     simp only [bitS,if_true] at hxj
     go_wp2_with fail
     go_quiet (fail)
     go_wp2_with fail
     go_roundw
     case rel=>exact ⟨1,by omega,by go_num,Hst.out.drewN _⟩
     case measure=>simp only [intOf];omega
    | false =>
     rw [hb] at c3' hxj
     simp only [bitS,Bool.false_eq_true,if_false] at hxj
     go_wp2_with fail
     go_quiet (fail)
     go_wp2_with fail
     go_roundw
     case rel=>exact ⟨1,by omega,by go_num,Hst.out.drewN _⟩
     case measure=>simp only [intOf];omega
   | succ p =>
    obtain ⟨g2,ho2,d0,_⟩:=Hr.out p (by omega)
    cases ho2
    have d0':=(hst.1 _).trans d0
    obtain ⟨y,hy⟩:∃ y:Int,y=((f+p:Nat):Int)+1:=⟨_,rfl⟩
    rw [<- hy] at d0'
    have y1:(z==y+1)=true:=by
     obtain ⟨h1,h2⟩:=Hz.out
     simp
     omega
    have y2:IntKind.i64.wrap (y+1)=y+1:=by rw [IntKind.wrap_i64];omega
    have y3:1<=y/\y<=25:=by omega
    clear c0 c3 d0 hst hy
    cases hb:b q with
    | true =>
     rw [hb] at c3' hxj
     simp only [bitS,if_true] at hxj
     go_wp2_with fail
     go_quiet (fail)
     go_wp2_with fail
     go_roundw
     case rel=>exact ⟨p+2,by omega,by go_num,Hst.out.drewN _⟩
     case measure=>simp only [intOf];omega
    | false =>
     rw [hb] at c3' hxj
     simp only [bitS,Bool.false_eq_true,if_false] at hxj
     go_wp2_with fail
     go_quiet (fail)
     go_wp2_with fail
     go_roundw
     case rel=>exact ⟨p+2,by omega,by go_num,Hst.out.drewN _⟩
     case measure=>simp only [intOf];omega
  ·obtain rfl:j=n:=by omega
   have Hst:Hid (Still w wr):=hst
   clear hst
   go_wp2_with fail
   first | refine hQ.out _ _ ?_ Hst.out | refine ⟨rfl,hQ.out _ _ ?_ Hst.out⟩
   refine Fx.of rfl rfl ?_
   unfold E9
   simp only [List.forall_mem_cons,List.not_mem_nil,false_implies,implies_true,and_true]
   exact ⟨rfl,rfl,rfl,rfl,rfl,rfl,rfl,rfl⟩
end Go.Proofs.YtpbbmagjhkakgaaGreatDoor.Ev
