import Derived.Test.YtpbbmagjhkakgaaGreatDoorLfRelyToLfShut
import Derived.Test.YtpbbmagjhkakgaaGreatDoorLfTreeToLfWalk
namespace Go.Proofs.YtpbbmagjhkakgaaGreatDoor.Lf
open Go Go.Conc
open Go.ConcN (sumTo upd sumTo_upd upd_ne upd_same)
variable {P : Program}
section
variable {c : Nat} {z : Value} {B₀ : Nat} {R0 : (Nat → Prop) → World → World → Prop} {D0 : (Nat → Prop) → World → World → Array Event → Prop} {RB : (Nat → Prop) → World → World → Prop} {DB : (Nat → Prop) → World → World → Array Event → Prop} {CA CB : (Nat → Prop) → Touch → Prop} {n κ : Nat} {K : Goroutine → World → Prop}
structure St (P:Program) (c B₀:Nat) (z:Value) (R0 RB:(Nat->Prop)->World->World->Prop) (CA CB:(Nat->Prop)->Touch->Prop) (n κ:Nat) (LB:List Value) (T:Nat->Prop) (b:Goroutine) (wb:World) (LA:List Value) (S:Nat->Prop) (g:Goroutine) (wa:World) (gs:Array Goroutine) (x:Goroutine) (w:World) (t:Trace) (q:Nat->Nat) (buf:Array Value) (s r:Nat):Prop where
 r0:R0 S wa w
 rB:RB T wb w
 apt:Apt B₀ S T w
 zero:gs[0]? = some x
 child:gs[κ]? = some b
 sit:LooksAs x g\/(x=parked g #[rcase c z] (.recv true)/\AtR P c z R0 CA S g wa/\buf=#[])
 leave:LeavX P (fun j=>j=κ) t gs q
 trace:∃ B,TI True κ B (CA S) (CB T) t
 chan:w.heap[c]? = some (.chan n buf false s r false)
 list:LA=buf.toList++LB
 room:buf.size+LB.length<=n
section
variable {LB LA : List Value} {S T : Nat → Prop} {b g x : Goroutine} {wb wa w : World} {gs : Array Goroutine} {t : Trace} {q : Nat → Nat} {buf : Array Value} {s r : Nat}
theorem St.at (H:Pair c B₀ R0 D0 RB DB CA CB) (h:St P c B₀ z R0 RB CA CB n κ LB T b wb LA S g wa gs x w t q buf s r) (d:Nat):St P c B₀ z R0 RB CA CB n κ LB T b wb LA S g wa gs x (w.at d) t q buf s r:=by
 exact ⟨H.t0.trans _ _ _ _ h.r0 (H.at0 _ w d),H.tB.trans _ _ _ _ h.rB (H.atB _ w d),h.apt.same rfl,h.zero,h.child,h.sit,h.leave,h.trace,h.chan,h.list,h.room⟩
theorem St.stays (h:St P c B₀ z R0 RB CA CB n κ LB T b wb LA S g wa gs x w t q buf s r) (a a':Goroutine):woken P a a' w x=x:=by
 rcases h.sit with h1 | ⟨rfl,_,_⟩
 ·exact woken_running h1.status
 ·exact woken_recv_open a a' h.chan
theorem St.awake (h:St P c B₀ z R0 RB CA CB n κ LB T b wb LA S g wa gs x w t q buf s r) (hb:b.status=.running):∀ y∈gs,awake y:=by
 intro y hy
 obtain ⟨i,hi,rfl⟩:=Array.mem_iff_getElem.1 hy
 rcases Nat.eq_zero_or_pos i with rfl | hpos
 ·have:gs[0]=x:=by simpa [Array.getElem?_eq_getElem hi] using h.zero
  rw [this]
  rcases h.sit with h1 | ⟨h1,_,_⟩
  ·exact awake_of (.inl h1.status)
  ·exact awake_of (.inr (.inl (by rw [h1];rfl)))
 ·by_cases hk:i=κ
  ·subst hk
   have:gs[i]=b:=by simpa [Array.getElem?_eq_getElem hi] using h.child
   rw [this];exact awake_of (.inl hb)
  ·exact awake_of ((h.leave.old i _ hpos hk (Array.getElem?_eq_getElem hi)).status.elim .inl fun x=>.inr (.inr x))
theorem St.slip (hb:b.status=.running) (h:St P c B₀ z R0 RB CA CB n κ LB T b wb LA S g wa gs x w t q buf s r) {i:Nat} {y:Goroutine} {sl:Option (Nat×Nat)} (hi:gs[i]? = some y) (hy:y.status=.running) (hpos:0<i) (hk:i≠κ) :
  ∃ gs' u q',runT P (crowd gs w sl) i=(.next (crowd gs' w sl),u)/\gs'.size=gs.size/\sumTo gs.size q'<sumTo gs.size q/\St P c B₀ z R0 RB CA CB n κ LB T b wb LA S g wa gs' x w (t++u) q' buf s r:=by
 obtain ⟨gs',u,q',e1,e2,e3,e4,e5,e6⟩:=Go.Proofs.YtpbbmagjhkakgaaGreatDoor.Lf.slip (w:=w) (sl:=sl) h.leave hi hy hpos hk
 obtain ⟨B,hT⟩:=h.trace
 obtain ⟨B',_,hT2⟩:=hT.still (fun op hop=>(e5 op hop).2.1) (fun op hop=>⟨.inl (by rw [(e5 op hop).1];omega),.inl (by rw [(e5 op hop).1];exact hk)⟩)
 exact ⟨gs',u,q',e1,e2,e3,h.r0,h.rB,h.apt,e6 0 x (.inl rfl) h.zero h.stays,e6 κ b (.inr rfl) h.child (fun a a'=>woken_running hb),h.sit,e4,⟨B',hT2⟩,h.chan,h.list,h.room⟩
end
theorem phase_core (H:Pair c B₀ R0 D0 RB DB CA CB) (hκ:κ≠0) {LB:List Value} {T:Nat->Prop} {b:Goroutine} {wb:World} (hb:b.status=.running)
  (mv:∀ {LA:List Value} {S:Nat->Prop} {g:Goroutine} {wa:World},SA P c z R0 D0 CA K LA S g wa->∀ gs x w sl t q buf s r,St P c B₀ z R0 RB CA CB n κ LB T b wb LA S g wa gs x w t q buf s r->∃ m' u,runT P (crowd gs w sl) κ=(.next m',u)/\Ends0 P K m' (t++u))
  {LA:List Value} {S:Nat->Prop} {g:Goroutine} {wa:World} (hA:SA P c z R0 D0 CA K LA S g wa) :
  ∀ (M:Nat) (gs:Array Goroutine) (x:Goroutine) (w:World) (sl:Option (Nat×Nat)) (t:Trace) (q:Nat->Nat) (buf:Array Value) (s r:Nat),sumTo gs.size q<=M->St P c B₀ z R0 RB CA CB n κ LB T b wb LA S g wa gs x w t q buf s r->Ends0 P K (crowd gs w sl) t:=by
 have hparked:∀ {LA:List Value} {S:Nat->Prop} {g:Goroutine} {wa:World},SA P c z R0 D0 CA K LA S g wa->∀ (M:Nat) (gs:Array Goroutine) (x:Goroutine) (w:World) (sl:Option (Nat×Nat)) (t:Trace) (q:Nat->Nat) (buf:Array Value) (s r:Nat),sumTo gs.size q<=M->x.status=.blocked->
   St P c B₀ z R0 RB CA CB n κ LB T b wb LA S g wa gs x w t q buf s r->Ends0 P K (crowd gs w sl) t:=by
  intro LA S g wa hA M
  induction M using Nat.strongRecOn with
  | _ M ihM =>
   intro gs x w sl t q buf s r hM hx hS
   obtain ⟨i,y,d,sl',hi,hy,hst⟩:=crowd_pick (P:=P) (w:=w) (sl:=sl) (hS.awake hb) ⟨κ,b,hS.child,hb⟩
   have hS':=hS.at H d
   rcases Nat.eq_zero_or_pos i with rfl | hpos
   ·rw [hS.zero] at hi
    obtain rfl:=Option.some.inj hi
    rw [hx] at hy;cases hy
   ·by_cases hk:i=κ
    ·subst hk
     obtain ⟨m',u,e1,e2⟩:=mv hA gs x (w.at d) sl' t q buf s r hS'
     exact Ends0.step (hst.trans e1) e2
    ·obtain ⟨gs',u,q',e1,e2,e3,e4⟩:=hS'.slip hb (sl:=sl') hi hy hpos hk
     exact Ends0.step (hst.trans e1) (ihM _ (Nat.lt_of_lt_of_le e3 hM) gs' x _ sl' _ q' buf s r (by rw [e2];exact Nat.le_refl _) hx e4)
 induction hA with
 | @own LA S g wa f hs h1 h2 ih =>
  intro M
  induction M using Nat.strongRecOn with
  | _ M ihM =>
   intro gs x w sl t q buf s r hM hS
   rcases hS.sit with hx | ⟨hx,_,_⟩
   case inr=>exact hparked (.own f hs h1 h2) M gs x w sl t q buf s r hM (by rw [hx];rfl) hS
   obtain ⟨i,y,d,sl',hi,hy,hst⟩:=crowd_pick (P:=P) (w:=w) (sl:=sl) (hS.awake hb) ⟨κ,b,hS.child,hb⟩
   have hS':=hS.at H d
   rcases Nat.eq_zero_or_pos i with rfl | hpos
   ·obtain rfl:y=x:=by rw [hS.zero] at hi;exact (Option.some.inj hi).symm
    obtain ⟨a1,a2⟩:=h1 _ hS'.r0
    have hgo:=(hx.step (P:=P) true (w.at d)).trans a1
    obtain ⟨b1,b2,b3,b4⟩:=H.d0 _ _ _ _ _ hS'.apt a2
    have hrun:=runT_crowd_go (P:=P) (w:=w.at d) (sl:=sl') (i:=0) hi (show stepG P (0==0) y (w.at d)=_ from hgo)
    have hlt:0<gs.size:=(Array.getElem?_eq_some_iff.1 hi).1
    have hmn:=H.mono _ _ (grow_sub S (w.at d) (f (w.at d)).2.1)
    obtain ⟨B,hT⟩:=hS'.trace
    obtain ⟨B',_,hT2⟩:=(hT.mono (Nat.le_refl B) hmn.1 (fun _ x=>x)).evs0 hκ (H.apart _ _ _ (hS'.apt.grow0 b4)) (fn:=y.frame.fn) (pos:=y.frame.place) b3
    refine Ends0.step (hst.trans hrun) (ih _ hS'.r0 _ _ _ _ sl' _ q buf s r (Nat.le_refl _) ⟨H.refl0 _ _,H.tB.trans _ _ _ _ hS'.rB b1,hS'.apt.grow0 b4,by simp [hlt],?_,.inl (.self (h2 _ hS'.r0).running),?_,⟨B',hT2⟩,b2.trans hS'.chan,hS.list,hS.room⟩)
    ·rw [Array.getElem?_setIfInBounds_ne (Ne.symm hκ),Array.getElem?_map,hS.child]
     simp [woken_running hb]
    ·refine hS.leave.turn (by simp) (fun j v hj hjk hv=>?_) (fun op hop=>by obtain ⟨e,_,rfl⟩:=Go.Conc.mem_ofEvents hop;exact ⟨.inl rfl,hlt⟩)
     rw [Array.getElem?_setIfInBounds_ne (by omega),Array.getElem?_map] at hv
     obtain ⟨z',hz,rfl⟩:=Option.map_eq_some_iff.1 hv
     rw [woken_quitsD (hS.leave.old j z' hj hjk hz)]
     exact hz
   ·by_cases hk:i=κ
    ·subst hk
     obtain ⟨m',u,e1,e2⟩:=mv (.own f hs h1 h2) gs x (w.at d) sl' t q buf s r hS'
     exact Ends0.step (hst.trans e1) e2
    ·obtain ⟨gs',u,q',e1,e2,e3,e4⟩:=hS'.slip hb (sl:=sl') hi hy hpos hk
     exact Ends0.step (hst.trans e1) (ihM _ (Nat.lt_of_lt_of_le e3 hM) gs' x _ sl' _ q' buf s r (by rw [e2];exact Nat.le_refl _) e4)
 | @recv v LA S g wa hs h1 h2 ih =>
  intro M
  induction M using Nat.strongRecOn with
  | _ M ihM =>
   intro gs x w sl t q buf s r hM hS
   rcases hS.sit with hx | ⟨hx,_,_⟩
   case inr=>exact hparked (.recv hs h1 h2) M gs x w sl t q buf s r hM (by rw [hx];rfl) hS
   obtain ⟨i,y,d,sl',hi,hy,hst⟩:=crowd_pick (P:=P) (w:=w) (sl:=sl) (hS.awake hb) ⟨κ,b,hS.child,hb⟩
   have hS':=hS.at H d
   rcases Nat.eq_zero_or_pos i with rfl | hpos
   ·obtain rfl:y=x:=by rw [hS.zero] at hi;exact (Option.some.inj hi).symm
    obtain ⟨es,a1,a2⟩:=h1 _ hS'.r0
    have hcm:=(hx.step (P:=P) true (w.at d)).trans a1
    have hlt:0<gs.size:=(Array.getElem?_eq_some_iff.1 hi).1
    obtain ⟨B,hT⟩:=hS'.trace
    obtain ⟨B',_,hT2⟩:=hT.evs0 hκ (H.apart _ _ _ hS'.apt) (fn:=y.frame.fn) (pos:=y.frame.place) a2
    have hnb:∀ (j:Nat) (g':Goroutine),j≠0->gs[j]? = some g'->g'.status≠.blocked:=fun j g' hj hg'=>by
     by_cases hk:j=κ
     ·subst hk;rw [hS.child] at hg';obtain rfl:=Option.some.inj hg';rw [hb];simp
     ·rcases (hS.leave.old j g' (by omega) hk hg').status with e | e<;>rw [e]<;>simp
    by_cases hsz:buf=#[]
    ·
     subst hsz
     have hrun:=crowd_waits (P:=P) (gs:=gs) (w:=w.at d) (sl:=sl') (i:=0) hi (show stepG P (0==0) y (w.at d)=_ from hcm) (fun cc hcc=>by
      simp at hcc;subst hcc
      exact ways_recv_none hS'.chan (no_partners hnb))
     refine Ends0.step (hst.trans hrun) (hparked (.recv hs h1 h2) _ _ (parked g #[rcase c z] (.recv true)) _ sl' _ q #[] s r (Nat.le_refl _) rfl ⟨hS'.r0,hS'.rB,hS'.apt,by simp [hlt],?_,.inr ⟨rfl,h1,rfl⟩,?_,⟨B',hT2⟩,hS'.chan,hS.list,hS.room⟩)
     ·rw [Array.getElem?_setIfInBounds_ne (Ne.symm hκ)];exact hS.child
     ·refine hS.leave.turn (by simp) (fun j v hj hjk hv=>?_) (fun op hop=>by obtain ⟨e,_,rfl⟩:=Go.Conc.mem_ofEvents hop;exact ⟨.inl rfl,hlt⟩)
      rw [Array.getElem?_setIfInBounds_ne (by omega)] at hv;exact hv
    ·
     obtain ⟨l0,hl0⟩:∃ l0,buf.toList=v::l0:=by
      have:=hS.list
      cases hbl:buf.toList with
      | nil=>exact absurd (by simpa using hbl) hsz
      | cons a l=>rw [hbl] at this;simp at this;exact ⟨l,by rw [this.1]⟩
     obtain ⟨hsz',hhd,htl⟩:=take_head hl0.symm
     have hrun:=crowd_recv_buf (P:=P) (gs:=gs) (w:=w.at d) (sl:=sl') (i:=0) hi (show stepG P (0==0) y (w.at d)=_ from hcm) hS'.chan hsz' (no_partners hnb)
     rw [finishComm_recv,hhd] at hrun
     have hput:=H.put0 S (w.at d) n (buf.extract 1 buf.size) false s (r+1) false
     have hputB:=H.putB T (w.at d) n (buf.extract 1 buf.size) false s (r+1) false
     obtain ⟨B'',_,hT3⟩:=hT2.still (u:=#[{ g:=0,fn:=g.frame.fn,pos:=g.frame.place,act:=.recv c r n },{ g:=0,fn:=g.frame.fn,pos:=g.frame.place,act:=.recvDone c r }]) (fun op hop=>by simp at hop;rcases hop with rfl | rfl<;>rfl) (fun op hop=>by simp at hop;rcases hop with rfl | rfl<;>simp)
     refine Ends0.step (hst.trans hrun) (ih _ (H.t0.trans _ _ _ _ hS'.r0 hput) _ _ _ _ sl' _ q (buf.extract 1 buf.size) s (r+1) (Nat.le_refl _) ⟨H.refl0 _ _,H.tB.trans _ _ _ _ hS'.rB hputB,hS'.apt.same (setChan_size _ _ _ _ _ _ _ _),by simp [hlt],?_,.inl (.self rfl),?_,⟨B'',by rw [<- Array.append_assoc];exact hT3⟩,setChan_same hS'.chan,?_,?_⟩)
     ·rw [Array.getElem?_setIfInBounds_ne (Ne.symm hκ)];exact hS.child
     ·refine hS.leave.turn (by simp) (fun j v hj hjk hv=>?_) (fun op hop=>?_)
      ·rw [Array.getElem?_setIfInBounds_ne (by omega)] at hv;exact hv
      ·rcases Array.mem_append.1 hop with hop | hop
       ·obtain ⟨e,_,rfl⟩:=Go.Conc.mem_ofEvents hop;exact ⟨.inl rfl,hlt⟩
       ·simp at hop;rcases hop with rfl | rfl<;>exact ⟨.inl rfl,hlt⟩
     ·have:=hS.list
      rw [hl0] at this
      simp at this
      rw [htl];exact this
     ·have:=hS.room
      simp
      omega
   ·by_cases hk:i=κ
    ·subst hk
     obtain ⟨m',u,e1,e2⟩:=mv (.recv hs h1 h2) gs x (w.at d) sl' t q buf s r hS'
     exact Ends0.step (hst.trans e1) e2
    ·obtain ⟨gs',u,q',e1,e2,e3,e4⟩:=hS'.slip hb (sl:=sl') hi hy hpos hk
     exact Ends0.step (hst.trans e1) (ihM _ (Nat.lt_of_lt_of_le e3 hM) gs' x _ sl' _ q' buf s r (by rw [e2];exact Nat.le_refl _) e4)
 | @fin S g wa hs h1 h2 =>
  intro M
  induction M using Nat.strongRecOn with
  | _ M ihM =>
   intro gs x w sl t q buf s r hM hS
   rcases hS.sit with hx | ⟨hx,_,_⟩
   case inr=>exact hparked (.fin hs h1 h2) M gs x w sl t q buf s r hM (by rw [hx];rfl) hS
   obtain ⟨i,y,d,sl',hi,hy,hst⟩:=crowd_pick (P:=P) (w:=w) (sl:=sl) (hS.awake hb) ⟨κ,b,hS.child,hb⟩
   have hS':=hS.at H d
   rcases Nat.eq_zero_or_pos i with rfl | hpos
   ·obtain rfl:y=x:=by rw [hS.zero] at hi;exact (Option.some.inj hi).symm
    obtain ⟨es,a1,a2⟩:=h1 _ hS'.r0
    have hcm:=(hx.step (P:=P) true (w.at d)).trans a1
    have hlt:0<gs.size:=(Array.getElem?_eq_some_iff.1 hi).1
    obtain ⟨B,hT⟩:=hS'.trace
    obtain ⟨B',_,hT2⟩:=hT.evs0 hκ (H.apart _ _ _ hS'.apt) (fn:=y.frame.fn) (pos:=y.frame.place) a2
    have hnb:∀ (j:Nat) (g':Goroutine),j≠0->gs[j]? = some g'->g'.status≠.blocked:=fun j g' hj hg'=>by
     by_cases hk:j=κ
     ·subst hk;rw [hS.child] at hg';obtain rfl:=Option.some.inj hg';rw [hb];simp
     ·rcases (hS.leave.old j g' (by omega) hk hg').status with e | e<;>rw [e]<;>simp
    obtain rfl:buf=#[]:=by
     have:=hS.list
     simp at this
     exact this.1
    have hrun:=crowd_waits (P:=P) (gs:=gs) (w:=w.at d) (sl:=sl') (i:=0) hi (show stepG P (0==0) y (w.at d)=_ from hcm) (fun cc hcc=>by
     simp at hcc;subst hcc
     exact ways_recv_none hS'.chan (no_partners hnb))
    refine Ends0.step (hst.trans hrun) (hparked (.fin hs h1 h2) _ _ (parked g #[rcase c z] (.recv true)) _ sl' _ q #[] s r (Nat.le_refl _) rfl ⟨hS'.r0,hS'.rB,hS'.apt,by simp [hlt],?_,.inr ⟨rfl,h1,rfl⟩,?_,⟨B',hT2⟩,hS'.chan,hS.list,hS.room⟩)
    ·rw [Array.getElem?_setIfInBounds_ne (Ne.symm hκ)];exact hS.child
    ·refine hS.leave.turn (by simp) (fun j v hj hjk hv=>?_) (fun op hop=>by obtain ⟨e,_,rfl⟩:=Go.Conc.mem_ofEvents hop;exact ⟨.inl rfl,hlt⟩)
     rw [Array.getElem?_setIfInBounds_ne (by omega)] at hv;exact hv
   ·by_cases hk:i=κ
    ·subst hk
     obtain ⟨m',u,e1,e2⟩:=mv (.fin hs h1 h2) gs x (w.at d) sl' t q buf s r hS'
     exact Ends0.step (hst.trans e1) e2
    ·obtain ⟨gs',u,q',e1,e2,e3,e4⟩:=hS'.slip hb (sl:=sl') hi hy hpos hk
     exact Ends0.step (hst.trans e1) (ihM _ (Nat.lt_of_lt_of_le e3 hM) gs' x _ sl' _ q' buf s r (by rw [e2];exact Nat.le_refl _) e4)
end
end Go.Proofs.YtpbbmagjhkakgaaGreatDoor.Lf
namespace Go.Proofs.YtpbbmagjhkakgaaGreatDoor.Lf
open Go Go.Conc
open Go.ConcN (sumTo upd sumTo_upd upd_ne upd_same)
variable {P : Program}
section
variable {c : Nat} {z : Value} {B₀ : Nat} {R0 : (Nat → Prop) → World → World → Prop} {D0 : (Nat → Prop) → World → World → Array Event → Prop} {RB : (Nat → Prop) → World → World → Prop} {DB : (Nat → Prop) → World → World → Array Event → Prop} {CA CB : (Nat → Prop) → Touch → Prop} {n κ : Nat} {K : Goroutine → World → Prop}
theorem phase (H:Pair c B₀ R0 D0 RB DB CA CB) (hκ:κ≠0) {LB:List Value} {T:Nat->Prop} {b:Goroutine} {wb:World} (hB:SB P c RB DB CB n LB T b wb) :
  ∀ {LA:List Value} {S:Nat->Prop} {g:Goroutine} {wa:World},SA P c z R0 D0 CA K LA S g wa->∀ (gs:Array Goroutine) (x:Goroutine) (w:World) (sl:Option (Nat×Nat)) (t:Trace) (q:Nat->Nat) (buf:Array Value) (s r:Nat),St P c B₀ z R0 RB CA CB n κ LB T b wb LA S g wa gs x w t q buf s r->Ends0 P K (crowd gs w sl) t:=by
 have hk0:(κ==0)=false:=by simp [hκ]
 induction hB with
 | @own LB T b wb f hs h1 h2 ih =>
  intro LA S g wa hA gs x w sl t q buf s r hS
  refine phase_core H hκ hs (fun {LA S g wa} hA gs x w sl t q buf s r hS=>?_) hA _ gs x w sl t q buf s r (Nat.le_refl _) hS
  obtain ⟨a1,a2⟩:=h1 _ hS.rB
  obtain ⟨b1,b2,b3,b4⟩:=H.dB _ _ _ _ _ hS.apt a2
  have hrun:=runT_crowd_go (P:=P) (w:=w) (sl:=sl) (i:=κ) hS.child (by rw [hk0];exact a1)
  have hlt:κ<gs.size:=(Array.getElem?_eq_some_iff.1 hS.child).1
  have hmn:=H.mono _ _ (grow_sub T w (f w).2.1)
  obtain ⟨B,hT⟩:=hS.trace
  obtain ⟨B',_,hT2⟩:=(hT.mono (Nat.le_refl B) (fun _ x=>x) hmn.2).evsC hκ (H.apart _ _ _ (hS.apt.growC b4)) (fn:=b.frame.fn) (pos:=b.frame.place) b3
  refine ⟨_,_,hrun,ih _ hS.rB hA _ x _ sl _ q buf s r ⟨H.t0.trans _ _ _ _ hS.r0 b1,H.reflB _ _,hS.apt.growC b4,?_,by simp [hlt],hS.sit,?_,⟨B',hT2⟩,b2.trans hS.chan,hS.list,hS.room⟩⟩
  ·rw [Array.getElem?_setIfInBounds_ne hκ,Array.getElem?_map,hS.zero]
   rcases hS.sit with h3 | ⟨rfl,_,_⟩
   ·simp [woken_running h3.status]
   ·simp [woken_recv_open b (f w).1 (b2.trans hS.chan)]
  ·refine hS.leave.turn (by simp) (fun j v hj hjk hv=>?_) (fun op hop=>by obtain ⟨e,_,rfl⟩:=Go.Conc.mem_ofEvents hop;exact ⟨.inr rfl,hlt⟩)
   rw [Array.getElem?_setIfInBounds_ne (Ne.symm hjk),Array.getElem?_map] at hv
   obtain ⟨z',hz,rfl⟩:=Option.map_eq_some_iff.1 hv
   rw [woken_quitsD (hS.leave.old j z' hj hjk hz)]
   exact hz
 | @send v y LB T b wb hs h1 h2 ih =>
  intro LA S g wa hA gs x w sl t q buf s r hS
  refine phase_core H hκ hs (fun {LA S g wa} hA gs x w sl t q buf s r hS=>?_) hA _ gs x w sl t q buf s r (Nat.le_refl _) hS
  obtain ⟨es,a1,a2⟩:=h1 _ hS.rB
  have hcm:stepG P (κ==0) b w=.comm b #[scase c v y] true .send w es:=by rw [hk0];exact a1
  have hlt:κ<gs.size:=(Array.getElem?_eq_some_iff.1 hS.child).1
  have hlt0:0<gs.size:=(Array.getElem?_eq_some_iff.1 hS.zero).1
  obtain ⟨B,hT⟩:=hS.trace
  obtain ⟨B',_,hT2⟩:=hT.evsC hκ (H.apart _ _ _ hS.apt) (fn:=b.frame.fn) (pos:=b.frame.place) a2
  have hout:∀ j v,0<j->j≠κ->gs[j]? = some v->v.status≠.blocked:=fun j v hj hjk hv=>by rcases (hS.leave.old j v hj hjk hv).status with e | e<;>rw [e]<;>simp
  rcases hS.sit with hx | ⟨rfl,hat,rfl⟩
  ·
   have hroom:buf.size<n:=by have:=hS.room;simp at this;omega
   have hrun:=crowd_send_room (P:=P) (gs:=gs) (w:=w) (sl:=sl) (i:=κ) hS.child hcm hS.chan hroom (no_partners fun j g' hj hg'=>by
    rcases Nat.eq_zero_or_pos j with rfl | hpos
    ·rw [hS.zero] at hg';obtain rfl:=Option.some.inj hg';rw [hx.status];simp
    ·exact hout j g' hpos hj hg')
   rw [finishComm_send] at hrun
   have hput:=H.put0 S w n (buf.push v) false (s+1) r false
   have hputB:=H.putB T w n (buf.push v) false (s+1) r false
   obtain ⟨B'',_,hT3⟩:=hT2.still (u:=#[{ g:=κ,fn:=b.frame.fn,pos:=b.frame.place,act:=.send c s },{ g:=κ,fn:=b.frame.fn,pos:=b.frame.place,act:=.sendDone c s }]) (fun op hop=>by simp at hop;rcases hop with rfl | rfl<;>rfl) (fun op hop=>by simp at hop;rcases hop with rfl | rfl<;>simp)
   refine ⟨_,_,hrun,ih _ (H.tB.trans _ _ _ _ hS.rB hputB) hA _ x _ sl _ q (buf.push v) (s+1) r ⟨H.t0.trans _ _ _ _ hS.r0 hput,H.reflB _ _,hS.apt.same (setChan_size _ _ _ _ _ _ _ _),?_,by simp [hlt],.inl hx,?_,⟨B'',by rw [<- Array.append_assoc];exact hT3⟩,setChan_same hS.chan,by rw [hS.list];simp,by have:=hS.room;simp at this ⊢;omega⟩⟩
   ·rw [Array.getElem?_setIfInBounds_ne hκ];exact hS.zero
   ·refine hS.leave.turn (by simp) (fun j v hj hjk hv=>?_) (fun op hop=>?_)
    ·rw [Array.getElem?_setIfInBounds_ne (Ne.symm hjk)] at hv;exact hv
    ·rcases Array.mem_append.1 hop with hop | hop
     ·obtain ⟨e,_,rfl⟩:=Go.Conc.mem_ofEvents hop;exact ⟨.inr rfl,hlt⟩
     ·simp at hop;rcases hop with rfl | rfl<;>exact ⟨.inr rfl,hlt⟩
  ·
   have hp:partners (gs.setIfInBounds κ ph) c false=[(0,0)]:=by
    have:=partners_one (gs:=gs.setIfInBounds κ ph) (r:=c) (send:=false) (j:=0) (g:=parked g #[rcase c z] (.recv true)) (by rw [Array.getElem?_setIfInBounds_ne hκ];exact hS.zero) (fun j g' hj hg'=>by
     rcases getElem?_stand gs κ j g' hg' with ⟨_,rfl⟩ | ⟨hne,hg''⟩
     ·exact offersAt_ph c false
     ·exact offersAt_of_not_blocked (hout j g' (by omega) hne hg'') c false)
    rw [this,offersAt_parked_recv]
    simp
   have hrun:=crowd_send_meets (P:=P) (gs:=gs) (w:=w) (sl:=sl) (i:=κ) (j:=0) hS.child hcm hS.chan (Ne.symm hκ) hS.zero hp
   rw [finishComm_send,finishComm_recv] at hrun
   have hput:=H.put0 S w n #[] false (s+1) (r+1) false
   have hputB:=H.putB T w n #[] false (s+1) (r+1) false
   have hll:=hS.list
   simp at hll
   have hA':∀ w₁,R0 S wa w₁->SA P c z R0 D0 CA K LB S (Go.Conc.served g (recvd true v true)) w₁:=by
    cases hA with
    | own f k1 k2 k3 =>
     obtain ⟨e1,e2,_⟩:=hat _ hS.r0
     rw [(k2 _ hS.r0).1] at e2;cases e2
    | recv k1 k2 k3 =>
     simp only [List.cons.injEq] at hll
     obtain ⟨rfl,rfl⟩:=hll
     exact k3
    | fin k1 k2 k3=>cases hll
   obtain ⟨B'',_,hT3⟩:=hT2.still (u:=#[{ g:=κ,fn:=b.frame.fn,pos:=b.frame.place,act:=.send c s },{ g:=0,fn:=g.frame.fn,pos:=g.frame.place,act:=.recv c r n },{ g:=κ,fn:=b.frame.fn,pos:=b.frame.place,act:=.sendDone c s },{ g:=0,fn:=g.frame.fn,pos:=g.frame.place,act:=.recvDone c r }]) (fun op hop=>by simp at hop;rcases hop with rfl | rfl | rfl | rfl<;>rfl) (fun op hop=>by simp at hop;rcases hop with rfl | rfl | rfl | rfl<;>simp)
   refine ⟨_,_,hrun,ih _ (H.tB.trans _ _ _ _ hS.rB hputB) (hA' _ (H.t0.trans _ _ _ _ hS.r0 hput)) _ (Go.Conc.served g (recvd true v true)) _ sl _ q #[] (s+1) (r+1) ⟨H.refl0 _ _,H.reflB _ _,hS.apt.same (setChan_size _ _ _ _ _ _ _ _),?_,by simp [hlt],.inl (.self rfl),?_,⟨B'',by rw [<- Array.append_assoc];exact hT3⟩,setChan_same hS.chan,by simp,by have:=hS.room;simp at this ⊢;omega⟩⟩
   ·rw [Array.getElem?_setIfInBounds_ne hκ];simp [hlt0]
   ·refine hS.leave.turn (by simp) (fun j v hj hjk hv=>?_) (fun op hop=>?_)
    ·rw [Array.getElem?_setIfInBounds_ne (Ne.symm hjk),Array.getElem?_setIfInBounds_ne (by omega)] at hv;exact hv
    ·rcases Array.mem_append.1 hop with hop | hop
     ·obtain ⟨e,_,rfl⟩:=Go.Conc.mem_ofEvents hop;exact ⟨.inr rfl,hlt⟩
     ·simp at hop;rcases hop with rfl | rfl | rfl | rfl
      ·exact ⟨.inr rfl,hlt⟩
      ·exact ⟨.inl rfl,hlt0⟩
      ·exact ⟨.inr rfl,hlt⟩
      ·exact ⟨.inl rfl,hlt0⟩
 | @close T b b' wb qb hs hw h1 hq =>
  intro LA S g wa hA gs x w sl t q buf s r hS
  refine phase_core H hκ hs (fun {LA S g wa} hA gs x w sl t q buf s r hS=>?_) hA _ gs x w sl t q buf s r (Nat.le_refl _) hS
  obtain ⟨es,a1,a2⟩:=h1 w buf s r hS.rB hS.chan
  have hrun:=runT_crowd_go (P:=P) (w:=w) (sl:=sl) (i:=κ) hS.child (by rw [hk0];exact a1)
  have hlt:κ<gs.size:=(Array.getElem?_eq_some_iff.1 hS.child).1
  have hput:=H.put0 S w n buf true s r false
  obtain ⟨B,hT⟩:=hS.trace
  obtain ⟨B',_,hT2⟩:=hT.evsC hκ (H.apart _ _ _ hS.apt) (fn:=b.frame.fn) (pos:=b.frame.place) a2
  obtain ⟨B'',_,hT3⟩:=hT2.still (u:=#[{ g:=κ,fn:=b.frame.fn,pos:=b.frame.place,act:=.close c }]) (fun op hop=>by simp at hop;subst hop;rfl) (fun op hop=>by simp at hop;subst hop;simp)
  have htr:t++MemOp.ofEvents κ b.frame.fn b.frame.place (es.push ⟨.obj c,true,true⟩)=t++MemOp.ofEvents κ b.frame.fn b.frame.place es++#[{ g:=κ,fn:=b.frame.fn,pos:=b.frame.place,act:=.close c }]:=by
   rw [ofEvents_push,Array.push_eq_append,<- Array.append_assoc];rfl
  have hdeaf:Deaf (t++MemOp.ofEvents κ b.frame.fn b.frame.place (es.push ⟨.obj c,true,true⟩)) κ=0:=by rw [htr];exact hT3.hearsC trivial
  have hShut:Shut κ c (t++MemOp.ofEvents κ b.frame.fn b.frame.place (es.push ⟨.obj c,true,true⟩)):=by
   rw [htr]
   have hpos:(t++MemOp.ofEvents κ b.frame.fn b.frame.place es++#[({ g:=κ,fn:=b.frame.fn,pos:=b.frame.place,act:=.close c }:MemOp)])[(t++MemOp.ofEvents κ b.frame.fn b.frame.place es).size]? = some { g:=κ,fn:=b.frame.fn,pos:=b.frame.place,act:=.close c }:=by
    rw [Array.getElem?_append_right (Nat.le_refl _)];simp
   refine ⟨_,by rw [act?_of hpos],by unfold Trace.g?;rw [hpos];rfl,⟨κ,by unfold Trace.g?;rw [hpos];rfl,by rw [deaf_old (Nat.le_refl _)];exact hT2.hearsC trivial⟩,fun i a ha hg=>?_⟩
   obtain ⟨y,hy,hya⟩:=touch_of ha
   rcases getElem?_append_cases hy with ⟨hi,_⟩ | ⟨_,hyu⟩
   ·exact hi
   ·simp at hyu;subst hyu;cases hya
  have hq':b'.status=.running\/b'.status=.finished:=hq.status
  have hwk:∀ o,woken P b b' (w.setChan c n buf true s r false) o=o.again (w.setChan c n buf true s r false):=by
   intro o;unfold Go.Conc.woken;rcases hq' with h | h<;>simp [hw,h]
  have hx:∃ x',((gs.map (woken P b b' (w.setChan c n buf true s r false))).setIfInBounds κ b')[0]? = some x'/\LooksAs x' g:=by
   rw [Array.getElem?_setIfInBounds_ne hκ,Array.getElem?_map,hS.zero]
   rcases hS.sit with h3 | ⟨rfl,_,_⟩
   ·exact ⟨x,by simp [woken_running h3.status],h3⟩
   ·exact ⟨{ parked g #[rcase c z] (.recv true) with status:=.running },by rw [Option.map_some,hwk,again_recv_closed (setChan_same hS.chan)],⟨rfl,rfl,rfl,rfl⟩⟩
  obtain ⟨x',hx1,hx2⟩:=hx
  refine ⟨_,_,hrun,phase_shut H hκ hA _ T _ x' _ sl _ (upd q κ qb) buf s r (Nat.le_refl _) (hS.apt.same (setChan_size _ _ _ _ _ _ _ _)) (H.t0.trans _ _ _ _ hS.r0 hput) hx2 hx1 (by simpa using hlt) ⟨fun j v hj _ hv=>?_,fun j hj=>?_⟩ ⟨B'',by rw [htr];exact hT3.weak⟩ hShut (setChan_same hS.chan) (by rw [hS.list];simp)⟩
  ·by_cases hjk:j=κ
   ·subst hjk
    rw [Array.getElem?_setIfInBounds_self_of_lt (by simpa using hlt)] at hv
    obtain rfl:=Option.some.inj hv
    rw [upd_same,hdeaf]
    exact hq
   ·rw [Array.getElem?_setIfInBounds_ne (Ne.symm hjk),Array.getElem?_map] at hv
    obtain ⟨z',hz,rfl⟩:=Option.map_eq_some_iff.1 hv
    have hqj:=hS.leave.old j z' hj hjk hz
    rw [woken_quitsD hqj,upd_ne q qb hjk,Deaf_off t _ (fun op hop e=>by obtain ⟨e',_,rfl⟩:=Go.Conc.mem_ofEvents hop;exact hjk e.symm)]
    exact hqj
  ·rw [Deaf_off t _ (fun op hop e=>by obtain ⟨e',_,rfl⟩:=Go.Conc.mem_ofEvents hop;simp at hj;simp at e;omega)]
   exact hS.leave.above j (by simpa using hj)
end
end Go.Proofs.YtpbbmagjhkakgaaGreatDoor.Lf
namespace Go.Proofs.YtpbbmagjhkakgaaGreatDoor.Lf
open Go Go.Conc
open Go.ConcN (sumTo upd sumTo_upd upd_ne upd_same)
variable {P : Program} {K : Goroutine → World → Prop}
def Forks (P:Program) (K:Goroutine->World->Prop) (g' child:Goroutine) (w':World):Prop :=
 ∃ (c:Nat) (z:Value) (R0:(Nat->Prop)->World->World->Prop) (D0:(Nat->Prop)->World->World->Array Event->Prop) (RB:(Nat->Prop)->World->World->Prop) (DB:(Nat->Prop)->World->World->Array Event->Prop) (CA CB:(Nat->Prop)->Touch->Prop) (n:Nat) (L:List Value),
  Pair c w'.heap.size R0 D0 RB DB CA CB/\SB P c RB DB CB n L (fun _=>False) child w'/\SA P c z R0 D0 CA K L (fun _=>False) g' w'/\w'.heap[c]? = some (.chan n #[] false 0 0 false)/\L.length<=n
theorem Leads.spawn {g:Goroutine} {w:World} (hg:g.status=.running) (h:∀ d,∃ g' child w' es,stepG P true g (w.at d)=.spawn g' child w' es/\(∀ e∈es,e.loc≠.mark .disable/\e.loc≠.mark .enable)/\Forks P K g' child w'):Leads P K g w:=by
 have main:∀ (M:Nat) (gs:Array Goroutine) (d0:Nat) (sl:Option (Nat×Nat)) (t:Trace) (q:Nat->Nat),sumTo gs.size q<=M->gs[0]? = some g->LeavX P (fun _=>False) t gs q->(∃ B,Past (fun _=>False) B t)->Ends0 P K (crowd gs (w.at d0) sl) t:=by
  intro M
  induction M using Nat.strongRecOn with
  | _ M ihM =>
   intro gs d0 sl t q hM h0 hL hB
   have haw:∀ x∈gs,awake x:=by
    intro x hx
    obtain ⟨i,hi,rfl⟩:=Array.mem_iff_getElem.1 hx
    rcases Nat.eq_zero_or_pos i with rfl | hpos
    ·have:gs[0]=g:=by simpa [Array.getElem?_eq_getElem hi] using h0
     rw [this];exact awake_of (.inl hg)
    ·exact awake_of ((hL.old i _ hpos (fun x=>x) (Array.getElem?_eq_getElem hi)).status.elim .inl fun x=>.inr (.inr x))
   obtain ⟨i,x,d,sl',hi,hx,hst⟩:=crowd_pick (P:=P) (w:=w.at d0) (sl:=sl) haw ⟨0,g,h0,hg⟩
   have hw:(w.at d0).at d=w.at d:=rfl
   rw [hw] at hst
   have hlt:0<gs.size:=(Array.getElem?_eq_some_iff.1 h0).1
   obtain ⟨B,hB⟩:=hB
   rcases Nat.eq_zero_or_pos i with rfl | hpos
   ·obtain rfl:x=g:=by rw [h0] at hi;exact (Option.some.inj hi).symm
    obtain ⟨g',child,w',es,a1,a2,c,z,R0,D0,RB,DB,CA,CB,n,L,H,hSB,hSA,hc,hn⟩:=h d
    have hrun:=runT_crowd_spawn (P:=P) (w:=w.at d) (sl:=sl') (i:=0) hi (show stepG P (0==0) x (w.at d)=_ from a1)
    have hown:∀ op∈MemOp.ofEvents 0 x.frame.fn x.frame.place es,op.g=0:=fun op hop=>by obtain ⟨e,_,rfl⟩:=Go.Conc.mem_ofEvents hop;rfl
    have hdf:Deaf (t++MemOp.ofEvents 0 x.frame.fn x.frame.place es) 0=Deaf t 0:=by rw [Deaf_own];exact deafBehind_still a2 _
    obtain ⟨B',hb1,hb2⟩:=low_all (MemOp.ofEvents 0 x.frame.fn x.frame.place es) B
    have hP:=(hB.mono hb1).app0 hown (fun _ _ _ _ h=>h.elim) hdf hb2
    have hk:Deaf (t++MemOp.ofEvents 0 x.frame.fn x.frame.place es) gs.size=0:=by rw [Deaf_off t _ (fun op hop e=>by have:=hown op hop;omega)];exact hL.above _ (Nat.le_refl _)
    have hT:=TI.fork (CA:=CA (fun _=>False)) (CB:=CB (fun _=>False)) (hc:=True) hP hk (x:={ g:=0,fn:=x.frame.fn,pos:=x.frame.place,act:=.go gs.size }) (y:={ g:=gs.size,fn:=child.frame.fn,pos:=x.frame.place,act:=.start }) ⟨rfl,rfl⟩ ⟨rfl,rfl⟩
    have htr:∀ a b:MemOp,t++((MemOp.ofEvents 0 x.frame.fn x.frame.place es).push a |>.push b)=t++MemOp.ofEvents 0 x.frame.fn x.frame.place es++#[a,b]:=by
     intro a b
     apply Array.ext'
     simp
    have hκ:gs.size≠0:=by omega
    refine Ends0.step (hst.trans hrun) (phase H hκ hSB hSA _ g' w' sl' _ q #[] 0 0 ⟨H.refl0 _ _,H.reflB _ _,⟨fun _ x=>x.elim,fun _ x=>x.elim,fun _ x=>x.elim,Nat.le_refl _⟩,?_,?_,.inl (.self hSA.running),⟨fun j y hj hjk hy=>?_,fun j hj=>?_⟩,⟨B',by rw [htr];exact hT⟩,hc,by simp,by simpa using hn⟩)
    ·rw [Array.getElem?_push_lt (by simpa using hlt)];simp
    ·have e:gs.size=(gs.setIfInBounds 0 g').size:=by simp
     rw [e,Array.getElem?_push_size]
    ·have hjl:j<gs.size:=by
      have:=(Array.getElem?_eq_some_iff.1 hy).1
      simp at this;omega
     have hy':gs[j]? = some y:=by
      rw [Array.getElem?_push_lt (by simpa using hjl)] at hy
      simp only [Array.getElem_setIfInBounds_ne (by simpa using hjl) (show 0≠j by omega)] at hy
      rw [Array.getElem?_eq_getElem hjl];exact hy
     rw [htr,Deaf_off _ #[_,_] (fun op hop e=>by simp at hop;rcases hop with rfl | rfl<;>simp at e<;>omega),Deaf_off t _ (fun op hop e=>by have:=hown op hop;omega)]
     exact hL.old j y hj (fun x=>x) hy'
    ·simp at hj
     rw [htr,Deaf_off _ #[_,_] (fun op hop e=>by simp at hop;rcases hop with rfl | rfl<;>simp at e<;>omega),Deaf_off t _ (fun op hop e=>by have:=hown op hop;omega)]
     exact hL.above j (by omega)
   ·obtain ⟨gs',u,q',e1,e2,e3,e4,e5,e6⟩:=slip (w:=w.at d) (sl:=sl') hL hi hx hpos (fun x=>x)
    refine Ends0.step (hst.trans e1) (ihM _ (Nat.lt_of_lt_of_le e3 hM) gs' d sl' _ q' (by rw [e2];exact Nat.le_refl _) (e6 0 g (.inl rfl) h0 fun a a'=>woken_running hg) e4 ⟨B,?_⟩)
    exact hB.appMute (g:=i) (by omega) (fun op hop=>(e5 op hop).1) (fun op hop=>(e5 op hop).2.1) (fun op hop=>(e5 op hop).2.2 B)
 intro gs sl t hf
 obtain ⟨h0,⟨q,hL⟩,hB⟩:=hf
 exact main _ gs w.drawn sl t q (Nat.le_refl _) h0 (LeavX.of hL _) hB
theorem LeadsR.spawn {g:Goroutine} {w:World} (hg:g.status=.running) (h:∀ τ d,∃ g' child w' es,stepG P true g (re w τ d)=.spawn g' child w' es/\(∀ e∈es,e.loc≠.mark .disable/\e.loc≠.mark .enable)/\Forks P K g' child w'):LeadsR P K g w :=
 fun τ _=>Leads.spawn hg fun d'=>h τ d'
end Go.Proofs.YtpbbmagjhkakgaaGreatDoor.Lf
namespace Go.Proofs.YtpbbmagjhkakgaaGreatDoor.Lf
open Go Go.Conc
variable {P : Program} {K : Goroutine → World → Prop} {b : Frame} {k : List Item} {cs : List Frame} {a : Act} {w : World}
theorem LeadsR.seq (hP:Plain P) {x y:Code} (hi:∀ it∈k,okItem it) (hc:∀ fr∈cs,okFrame fr) (h:LeadsR P K (G (b.at a (.code x::.code y::k)) cs) w):LeadsR P K (G (b.at a (.code (.seq x y)::k)) cs) w :=
 LeadsR.move hP (fine_at hi hc) (fun _=>.one step_seq) fun _=>h
theorem LeadsR.code {c:Code} {Q:Exit->Act->World->Prop} (h:HWp P c Q a w) (hb:Behind Q k cs) (hk:∀ e a' w' g,Q e a' w'->At b k cs g e a'->LeadsR P K g w'):LeadsR P K (G (b.at a (.code c::k)) cs) w :=
 (h b k cs hb).trans fun g w' ⟨e,a',h1,h2⟩=>hk e a' w' g h1 h2
theorem LeadsR.piece (hP:Plain P) {c:Code} (J:Act->World->Prop) (hJ:∀ a w τ d,J a w->J a (re w τ d)) (hi:∀ it∈k,okItem it) (hc:∀ fr∈cs,okFrame fr) (h:∀ τ d,c.wp P (fun e a' w'=>e=.normal/\J a' w') a (re w τ d)) (hk:∀ a' w',J a' w'->LeadsR P K (G (b.at a' k) cs) w'):LeadsR P K (G (b.at a (.code c::k)) cs) w :=
 LeadsR.code (Q:=fun e a' w'=>e=.normal/\J a' w') (HWp.of_wp hP (fun e a w τ d x=>⟨x.1,hJ _ _ _ _ x.2⟩) (fun a w x=>by cases x.1) h) ⟨hi,hc,fun _ _ _ x=>(by cases x.1),fun _ _ _ x=>(by cases x.1)⟩
  fun e a' w' g x y=>by
   obtain ⟨rfl,x⟩:=x
   obtain rfl:g=_:=y
   exact hk a' w' x
theorem LeadsR.val (hP:Plain P) {ops:Array Oper} {i:Nat} {rest:List Nat} {o:Oper} {v:Value} {w':World} (ho:ops[i]? = some o) (hw:Region.wanted o (yielded ops a.tmps)=true)
  (hr:∀ τ d,(execOp a.eval o).run P (re w τ d)=.ok (.value v) (re w' τ d)) (hi:∀ it∈k,okItem it) (hc:∀ fr∈cs,okFrame fr)
  (h:LeadsR P K (G (b.at (a.put o.dst v) (.inRegion ops rest::k)) cs) w'):LeadsR P K (G (b.at a (.inRegion ops (i::rest)::k)) cs) w:=by
 have hfin:(b.at a (.inRegion ops (i::rest)::k)).finish v=b.at (a.put o.dst v) (.inRegion ops rest::k):=by rw [Frame.finish_at,ho];rfl
 have h1:LeadsR P (fun g x=>g=G (b.at (a.put o.dst v) (.inRegion ops rest::k)) cs/\∃ τ d,x=re w' τ d) (G (b.at a (.inRegion ops (i::rest)::k)) cs) w:=by
  refine .of_steps hP ?_ (fine_ops hi hc) fun τ d=>⟨_,re w' τ d,.one (step_lone_go (fr':=b.at (a.put o.dst v) (.inRegion ops rest::k)) (cs':=cs) ?_),G_not_lost _ _,fun _=>⟨rfl,τ,d,rfl⟩⟩
  ·rintro g x τ d ⟨rfl,τ',d',rfl⟩
   exact ⟨rfl,τ,d,rfl⟩
  ·rw [stepG_op ho hw,<- hfin];simp [stepG.apply,hr,Frame.at]
 refine h1.trans ?_
 rintro g x ⟨rfl,τ,d,rfl⟩
 exact h.other τ d
theorem LeadsR.non (hP:Plain P) {ops:Array Oper} {i:Nat} {rest:List Nat} {o:Oper} {w':World} (ho:ops[i]? = some o) (hw:Region.wanted o (yielded ops a.tmps)=true)
  (hr:∀ τ d,(execOp a.eval o).run P (re w τ d)=.ok .skip (re w' τ d)) (hi:∀ it∈k,okItem it) (hc:∀ fr∈cs,okFrame fr)
  (h:LeadsR P K (G (b.at (a.put o.dst undef) (.inRegion ops rest::k)) cs) w'):LeadsR P K (G (b.at a (.inRegion ops (i::rest)::k)) cs) w:=by
 have hfin:(b.at a (.inRegion ops (i::rest)::k)).finish undef=b.at (a.put o.dst undef) (.inRegion ops rest::k):=by rw [Frame.finish_at,ho];rfl
 have h1:LeadsR P (fun g x=>g=G (b.at (a.put o.dst undef) (.inRegion ops rest::k)) cs/\∃ τ d,x=re w' τ d) (G (b.at a (.inRegion ops (i::rest)::k)) cs) w:=by
  refine .of_steps hP ?_ (fine_ops hi hc) fun τ d=>⟨_,re w' τ d,.one (step_lone_go (fr':=b.at (a.put o.dst undef) (.inRegion ops rest::k)) (cs':=cs) ?_),G_not_lost _ _,fun _=>⟨rfl,τ,d,rfl⟩⟩
  ·rintro g x τ d ⟨rfl,τ',d',rfl⟩
   exact ⟨rfl,τ,d,rfl⟩
  ·rw [stepG_op ho hw,<- hfin];simp [stepG.apply,hr,Frame.at]
 refine h1.trans ?_
 rintro g x ⟨rfl,τ,d,rfl⟩
 exact h.other τ d
theorem LeadsR.region (hP:Plain P) {id:Nat} {ops:Array Oper} (hi:∀ it∈k,okItem it) (hc:∀ fr∈cs,okFrame fr) (h:LeadsR P K (G (b.at a (.inRegion ops (List.range ops.size)::k)) cs) w):LeadsR P K (G (b.at a (.code (.region id ops false)::k)) cs) w :=
 LeadsR.move hP (fine_at hi hc) (fun _=>.one step_region) fun _=>h
theorem LeadsR.nil (hP:Plain P) {ops:Array Oper} (hi:∀ it∈k,okItem it) (hc:∀ fr∈cs,okFrame fr) (h:LeadsR P K (G (b.at a k) cs) w):LeadsR P K (G (b.at a (.inRegion ops []::k)) cs) w :=
 LeadsR.move hP (fine_ops hi hc) (fun _=>.one step_region_end) fun _=>h
theorem LeadsR.draw (hP:Plain P) {id:Nat} {ops:Array Oper} (hi:∀ it∈k,okItem it) (hc:∀ fr∈cs,okFrame fr) (h:∀ t,LeadsR P K (G (b.at a (.inRegion ops (Region.schedule (P.follows .mixedOrders) ops t)::k)) cs) w):LeadsR P K (G (b.at a (.code (.region id ops true)::k)) cs) w:=by
 have h1:LeadsR P (fun g w'=>(∃ t,g=G (b.at a (.inRegion ops (Region.schedule (P.follows .mixedOrders) ops t)::k)) cs)/\∃ τ d,w'=re w τ d) (G (b.at a (.code (.region id ops true)::k)) cs) w:=by
  refine .of_steps hP ?_ (fine_at hi hc) fun τ d=>?_
  ·rintro g w' τ d ⟨h1,τ',d',rfl⟩
   exact ⟨h1,τ,d,rfl⟩
  ·exact ⟨_,re w τ (d+1),.one step_region_draw,G_not_lost _ _,fun _=>⟨⟨_,rfl⟩,τ,d+1,rfl⟩⟩
 refine h1.trans ?_
 rintro g w' ⟨⟨t,rfl⟩,τ,d,rfl⟩
 exact (h t).other τ d
theorem LeadsR.enter (hP:Plain P) {ops:Array Oper} {i:Nat} {rest:List Nat} {o:Oper} {f:FuncId} {args:Array Value} (ho:ops[i]? = some o) (hw:Region.wanted o (yielded ops a.tmps)=true)
  (hr:∀ τ d,(execOp a.eval o).run P (re w τ d)=.ok (.enter f args) (re w τ d)) (hi:∀ it∈k,okItem it) (hc:∀ fr∈cs,okFrame fr)
  (h:LeadsR P K (G (Frame.enter P f args .normal) (b.at a (.inRegion ops (i::rest)::k)::cs)) w):LeadsR P K (G (b.at a (.inRegion ops (i::rest)::k)) cs) w:=by
 refine LeadsR.step hP (fine_ops hi hc) (fun τ d=>.one (step_lone_go (fr':=Frame.enter P f args .normal) (cs':=b.at a (.inRegion ops (i::rest)::k)::cs) ?_)) fun _=>h
 rw [stepG_op ho hw];simp [stepG.apply,hr,Frame.at]
theorem LeadsR.call (hP:Plain P) {ops:Array Oper} {i:Nat} {rest:List Nat} {o:Oper} {f:FuncId} {args:Array Value} {R:Ending->World->Prop} (ho:ops[i]? = some o) (hw:Region.wanted o (yielded ops a.tmps)=true)
  (hr:∀ τ d,(execOp a.eval o).run P (re w τ d)=.ok (.enter f args) (re w τ d)) (hi:∀ it∈k,okItem it) (hc:∀ fr∈cs,okFrame fr) (h:HCalls P f args w R) (hR:∀ e w',R e w'->∃ v,e=.returned v)
  (hk:∀ v w',R (.returned v) w'->LeadsR P K (G (b.at (a.put o.dst v) (.inRegion ops rest::k)) cs) w'):LeadsR P K (G (b.at a (.inRegion ops (i::rest)::k)) cs) w:=by
 have hfin:∀ v,(b.at a (.inRegion ops (i::rest)::k)).finish v=b.at (a.put o.dst v) (.inRegion ops rest::k):=by
  intro v;rw [Frame.finish_at,ho];rfl
 have hfr:okFrame (b.at a (.inRegion ops (i::rest)::k)):=okFrame_at (okItems_cons trivial hi)
 refine LeadsR.enter hP ho hw hr hi hc ((h _ (okFrames_cons hfr hc)).trans ?_)
 rintro g w' ⟨e,fr,rfl,h2,h3,_,h5⟩
 obtain ⟨v,rfl⟩:=hR e w' h3
 refine LeadsR.step hP (fine_G h2 (okFrames_cons hfr hc)) (fr':=b.at (a.put o.dst v) (.inRegion ops rest::k)) (cs':=cs) (fun τ d=>.one ?_) fun _=>hk v w' h3
 rw [<- hfin];exact step_leave_returned (leaving_re h5 τ d)
def allOrders (md:Region.Mode) (ops:Array Oper):Nat->Array Bool->List (List Nat)
 | 0,_=>[[]]
 | fuel+1,listed=>if Region.ready md ops listed=[] then [[]] else (Region.ready md ops listed).flatMap fun i=>(allOrders md ops fuel (listed.setIfInBounds i true)).map (i::·)
theorem linearise_go_acc (md:Region.Mode) (ops:Array Oper):∀ (fuel t:Nat) (listed:Array Bool) (acc:List Nat),Region.linearise.go md ops fuel t listed acc=acc.reverse++Region.linearise.go md ops fuel t listed []
 | 0,_,_,acc=>by simp [Region.linearise.go]
 | fuel+1,t,listed,acc=>by
  simp only [Region.linearise.go]
  split
  ·rename_i i hi
   rw [linearise_go_acc md ops fuel _ _ (i::acc),linearise_go_acc md ops fuel _ _ [i]]
   simp
  ·simp
theorem linearise_mem (md:Region.Mode) (ops:Array Oper):∀ (fuel t:Nat) (listed:Array Bool),Region.linearise.go md ops fuel t listed []∈allOrders md ops fuel listed
 | 0,_,_=>by simp [Region.linearise.go,allOrders]
 | fuel+1,t,listed=>by
  have hgo:Region.linearise.go md ops (fuel+1) t listed []=(match (Region.ready md ops listed)[t % (Region.ready md ops listed).length]? with
   | some i=>Region.linearise.go md ops fuel (t/(Region.ready md ops listed).length) (listed.setIfInBounds i true) [i]
   | none=>[].reverse):=rfl
  rw [hgo]
  cases hi:(Region.ready md ops listed)[t % (Region.ready md ops listed).length]? with
  | none =>
   have hnil:Region.ready md ops listed=[]:=by
    rcases Nat.eq_zero_or_pos (Region.ready md ops listed).length with h | h
    ·exact List.length_eq_zero_iff.1 h
    ·have:=List.getElem?_eq_none_iff.1 hi
     have:=Nat.mod_lt t h
     omega
   simp [allOrders,hnil]
  | some i =>
   have hm:i∈Region.ready md ops listed:=List.mem_of_getElem? hi
   have hne:Region.ready md ops listed≠[]:=fun h=>by rw [h] at hm;cases hm
   simp only [allOrders,if_neg hne]
   rw [linearise_go_acc]
   refine List.mem_flatMap.2 ⟨i,hm,List.mem_map.2 ⟨_,linearise_mem md ops fuel (t/(Region.ready md ops listed).length) _,by simp⟩⟩
theorem schedule_mem (hm:P.follows .mixedOrders=true) (ops:Array Oper) (t:Nat):Region.schedule (P.follows .mixedOrders) ops t∈allOrders .any ops ops.size (Array.replicate ops.size false):=by
 simp only [Region.schedule,hm,Bool.true_or,if_true]
 exact linearise_mem .any ops _ t _
theorem HCalls.of_lead {f:FuncId} {fn:Func} {c:Code} {args:Array Value} {R:Ending->World->Prop} (hf:P.funcs[f]? = some fn) (hb:fn.body=some c)
  (h:∀ cs,(∀ fr∈cs,okFrame fr)->LeadsR P (fun g w'=>∃ e fr,g=G fr cs/\okFrame fr/\R e w'/\fr.fn=f/\fr.leaving P w' e) (G ((base f).at { tmps:=args++Array.replicate (fn.ntmps-args.size) undef,defers:=[] } [.code c]) cs) w):HCalls P f args w R:=by
 intro cs hcs
 rw [enter_at args hf hb]
 exact h cs hcs
theorem LeadsR.ret (hP:Plain P) {f:FuncId} {fn:Func} {R:Ending->World->Prop} {v:Value} (hi:∀ it∈k,okItem it) (hc:∀ fr∈cs,okFrame fr) (hf:P.funcs[f]? = some fn) (hd:a.defers=[]) (hr:∀ τ d,(results fn a.tmps).run P (re w τ d)=.ok v (re w τ d)) (hR:∀ τ d,R (.returned v) (re w τ d)) :
  LeadsR P (fun g w'=>∃ e fr,g=G fr cs/\okFrame fr/\R e w'/\fr.fn=f/\fr.leaving P w' e) (G ((base f).at a (.code .ret::k)) cs) w :=
 LeadsR.code (Q:=fun e a' w'=>e=.ret/\a'=a/\∃ τ d,w'=re w τ d) (HWp.ret hP fun τ d=>⟨rfl,rfl,τ,d,rfl⟩) ⟨hi,hc,fun _ _ _ x=>(by cases x.1),fun _ _ _ x=>(by cases x.1)⟩ fun e a' w' g x y=>by
  obtain ⟨rfl,rfl,τ,d,rfl⟩:=x
  obtain ⟨todo,h3,rfl⟩:=y
  exact .here fun τ' d'=>⟨.returned v,_,rfl,h3,hR τ' d',rfl,rfl,hd,rfl,fn,hf,hr τ' d'⟩
end Go.Proofs.YtpbbmagjhkakgaaGreatDoor.Lf
