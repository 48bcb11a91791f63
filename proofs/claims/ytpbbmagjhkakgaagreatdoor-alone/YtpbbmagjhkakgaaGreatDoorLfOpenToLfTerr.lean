import Derived.Test.YtpbbmagjhkakgaaGreatDoorLfLostToLfShut
namespace Go.Proofs.YtpbbmagjhkakgaaGreatDoor
namespace Lf
open Go Go.Conc
open Go.ConcN (sumTo upd sumTo_upd upd_ne upd_same)
variable {P : Program}
section
variable {c : Nat} {z : Value} {iN : Nat} {R0 : (Nat → Prop) → World → World → Prop} {D0 : (Nat → Prop) → World → World → Array Event → Prop} {RB : (Nat → Prop) → World → World → Prop} {DB : (Nat → Prop) → World → World → Array Event → Prop} {CA CB : (Nat → Prop) → Touch → Prop} {n κ : Nat} {K : Goroutine → World → Prop}
structure St (P:Program) (c iN:Nat) (z:Value) (R0 RB:(Nat->Prop)->World->World->Prop) (CA CB:(Nat->Prop)->Touch->Prop) (n κ:Nat) (LB:List Value) (T:Nat->Prop) (b:Goroutine) (wb:World) (LA:List Value) (S:Nat->Prop) (g:Goroutine) (wa:World) (gs:Array Goroutine) (x:Goroutine) (w:World) (t:Trace) (q:Nat->Nat) (buf:Array Value) (s r:Nat):Prop where
 r0:R0 S wa w
 rB:RB T wb w
 apt:Apt iN S T w
 zero:gs[0]? = some x
 child:gs[κ]? = some b
 sit:kZ x g\/(x=parked g #[rcase c z] (.recv true)/\AtR P c z R0 CA S g wa/\buf=#[])
 leave:ot P (fun j=>j=κ) t gs q
 trace:∃ B,TI True κ B (CA S) (CB T) t
 chan:w.heap[c]? = some (.chan n buf false s r false)
 list:LA=buf.toList++LB
 room:buf.size+LB.length<=n
section
variable {LB LA : List Value} {S T : Nat → Prop} {b g x : Goroutine} {wb wa w : World} {gs : Array Goroutine} {t : Trace} {q : Nat → Nat} {buf : Array Value} {s r : Nat}
theorem St.at (H:Pair c iN R0 D0 RB DB CA CB) (h:St P c iN z R0 RB CA CB n κ LB T b wb LA S g wa gs x w t q buf s r) (d:Nat):St P c iN z R0 RB CA CB n κ LB T b wb LA S g wa gs x (w.at d) t q buf s r:=by
 exact ⟨H.t0.trans _ _ _ _ h.r0 (H.at0 _ w d),H.tB.trans _ _ _ _ h.rB (H.atB _ w d),h.apt.same rfl,h.zero,h.child,h.sit,h.leave,h.trace,h.chan,h.list,h.room⟩
theorem St.stays (h:St P c iN z R0 RB CA CB n κ LB T b wb LA S g wa gs x w t q buf s r) (a a':Goroutine):woken P a a' w x=x:=by
 rcases h.sit with h1 | ⟨rfl,_,_⟩
 ·exact woken_running h1.status
 ·exact woken_recv_open a a' h.chan
theorem St.awake (h:St P c iN z R0 RB CA CB n κ LB T b wb LA S g wa gs x w t q buf s r) (hb:b.status=.running):∀ y∈gs,awake y:=by
 intro y hy
 obtain ⟨i,hi,rfl⟩:=Array.mem_iff_getElem.1 hy
 rcases Nat.eq_zero_or_pos i with rfl | fE
 ·have:gs[0]=x:=by simpa [Array.getElem?_eq_getElem hi] using h.zero
  rw [this]
  rcases h.sit with h1 | ⟨h1,_,_⟩
  ·exact awake_of (.inl h1.status)
  ·exact awake_of (.inr (.inl (by rw [h1];rfl)))
 ·by_cases hk:i=κ
  ·subst hk
   have:gs[i]=b:=by simpa [Array.getElem?_eq_getElem hi] using h.child
   rw [this];exact awake_of (.inl hb)
  ·exact awake_of ((h.leave.old i _ fE hk (Array.getElem?_eq_getElem hi)).status.elim .inl fun x=>.inr (.inr x))
theorem St.slip (hb:b.status=.running) (h:St P c iN z R0 RB CA CB n κ LB T b wb LA S g wa gs x w t q buf s r) {i:Nat} {y:Goroutine} {sl:Option (Nat×Nat)} (hi:gs[i]? = some y) (hy:y.status=.running) (fE:0<i) (hk:i≠κ) :
  ∃ mN u q',runT P (crowd gs w sl) i=(.next (crowd mN w sl),u)/\mN.size=gs.size/\sumTo gs.size q'<sumTo gs.size q/\St P c iN z R0 RB CA CB n κ LB T b wb LA S g wa mN x w (t++u) q' buf s r:=by
 obtain ⟨mN,u,q',e1,e2,e3,e4,e5,e6⟩:=Go.Proofs.YtpbbmagjhkakgaaGreatDoor.Lf.slip (w:=w) (sl:=sl) h.leave hi hy fE hk
 obtain ⟨B,hT⟩:=h.trace
 obtain ⟨B',_,rZ⟩:=hT.still (fun op aN=>(e5 op aN).2.1) (fun op aN=>⟨.inl (by rw [(e5 op aN).1];omega),.inl (by rw [(e5 op aN).1];exact hk)⟩)
 exact ⟨mN,u,q',e1,e2,e3,h.r0,h.rB,h.apt,e6 0 x (.inl rfl) h.zero h.stays,e6 κ b (.inr rfl) h.child (fun a a'=>woken_running hb),h.sit,e4,⟨B',rZ⟩,h.chan,h.list,h.room⟩
end
theorem tX (H:Pair c iN R0 D0 RB DB CA CB) (oL:κ≠0) {LB:List Value} {T:Nat->Prop} {b:Goroutine} {wb:World} (hb:b.status=.running)
  (mv:∀ {LA:List Value} {S:Nat->Prop} {g:Goroutine} {wa:World},SA P c z R0 D0 CA K LA S g wa->∀ gs x w sl t q buf s r,St P c iN z R0 RB CA CB n κ LB T b wb LA S g wa gs x w t q buf s r->∃ m' u,runT P (crowd gs w sl) κ=(.next m',u)/\eN P K m' (t++u))
  {LA:List Value} {S:Nat->Prop} {g:Goroutine} {wa:World} (hA:SA P c z R0 D0 CA K LA S g wa) :
  ∀ (M:Nat) (gs:Array Goroutine) (x:Goroutine) (w:World) (sl:Option (Nat×Nat)) (t:Trace) (q:Nat->Nat) (buf:Array Value) (s r:Nat),sumTo gs.size q<=M->St P c iN z R0 RB CA CB n κ LB T b wb LA S g wa gs x w t q buf s r->eN P K (crowd gs w sl) t:=by
 have u6:∀ {LA:List Value} {S:Nat->Prop} {g:Goroutine} {wa:World},SA P c z R0 D0 CA K LA S g wa->∀ (M:Nat) (gs:Array Goroutine) (x:Goroutine) (w:World) (sl:Option (Nat×Nat)) (t:Trace) (q:Nat->Nat) (buf:Array Value) (s r:Nat),sumTo gs.size q<=M->x.status=.blocked->
   St P c iN z R0 RB CA CB n κ LB T b wb LA S g wa gs x w t q buf s r->eN P K (crowd gs w sl) t:=by
  intro LA S g wa hA M
  induction M using Nat.strongRecOn with
  | _ M ihM =>
   intro gs x w sl t q buf s r hM hx hS
   obtain ⟨i,y,d,jo,hi,hy,df⟩:=crowd_pick (P:=P) (w:=w) (sl:=sl) (hS.awake hb) ⟨κ,b,hS.child,hb⟩
   have ko:=hS.at H d
   rcases Nat.eq_zero_or_pos i with rfl | fE
   ·rw [hS.zero] at hi
    obtain rfl:=Option.some.inj hi
    rw [hx] at hy;cases hy
   ·by_cases hk:i=κ
    ·subst hk
     obtain ⟨m',u,e1,e2⟩:=mv hA gs x (w.at d) jo t q buf s r ko
     exact eN.step (df.trans e1) e2
    ·obtain ⟨mN,u,q',e1,e2,e3,e4⟩:=ko.slip hb (sl:=jo) hi hy fE hk
     exact eN.step (df.trans e1) (ihM _ (Nat.lt_of_lt_of_le e3 hM) mN x _ jo _ q' buf s r (by rw [e2];exact Nat.le_refl _) hx e4)
 induction hA with
 | @own LA S g wa f hs h1 h2 ih =>
  intro M
  induction M using Nat.strongRecOn with
  | _ M ihM =>
   intro gs x w sl t q buf s r hM hS
   rcases hS.sit with hx | ⟨hx,_,_⟩
   case inr=>exact u6 (.own f hs h1 h2) M gs x w sl t q buf s r hM (by rw [hx];rfl) hS
   obtain ⟨i,y,d,jo,hi,hy,df⟩:=crowd_pick (P:=P) (w:=w) (sl:=sl) (hS.awake hb) ⟨κ,b,hS.child,hb⟩
   have ko:=hS.at H d
   rcases Nat.eq_zero_or_pos i with rfl | fE
   ·obtain rfl:y=x:=by rw [hS.zero] at hi;exact (Option.some.inj hi).symm
    obtain ⟨a1,a2⟩:=h1 _ ko.r0
    have hgo:=(hx.step (P:=P) true (w.at d)).trans a1
    obtain ⟨b1,b2,b3,b4⟩:=H.d0 _ _ _ _ _ ko.apt a2
    have dQ:=runT_crowd_go (P:=P) (w:=w.at d) (sl:=jo) (i:=0) hi (show stepG P (0==0) y (w.at d)=_ from hgo)
    have cz:0<gs.size:=(Array.getElem?_eq_some_iff.1 hi).1
    have hmn:=H.mono _ _ (grow_sub S (w.at d) (f (w.at d)).2.1)
    obtain ⟨B,hT⟩:=ko.trace
    obtain ⟨B',_,rZ⟩:=(hT.mono (Nat.le_refl B) hmn.1 (fun _ x=>x)).evs0 oL (H.apart _ _ _ (ko.apt.grow0 b4)) (fn:=y.frame.fn) (pos:=y.frame.place) b3
    refine eN.step (df.trans dQ) (ih _ ko.r0 _ _ _ _ jo _ q buf s r (Nat.le_refl _) ⟨H.refl0 _ _,H.tB.trans _ _ _ _ ko.rB b1,ko.apt.grow0 b4,by simp [cz],?_,.inl (.self (h2 _ ko.r0).running),?_,⟨B',rZ⟩,b2.trans ko.chan,hS.list,hS.room⟩)
    ·rw [Array.getElem?_setIfInBounds_ne (Ne.symm oL),Array.getElem?_map,hS.child]
     simp [woken_running hb]
    ·refine hS.leave.turn (by simp) (fun j v hj n9 hv=>?_) (fun op aN=>by obtain ⟨e,_,rfl⟩:=Go.Conc.mem_ofEvents aN;exact ⟨.inl rfl,cz⟩)
     rw [Array.getElem?_setIfInBounds_ne (by omega),Array.getElem?_map] at hv
     obtain ⟨z',hz,rfl⟩:=Option.map_eq_some_iff.1 hv
     rw [woken_quitsD (hS.leave.old j z' hj n9 hz)]
     exact hz
   ·by_cases hk:i=κ
    ·subst hk
     obtain ⟨m',u,e1,e2⟩:=mv (.own f hs h1 h2) gs x (w.at d) jo t q buf s r ko
     exact eN.step (df.trans e1) e2
    ·obtain ⟨mN,u,q',e1,e2,e3,e4⟩:=ko.slip hb (sl:=jo) hi hy fE hk
     exact eN.step (df.trans e1) (ihM _ (Nat.lt_of_lt_of_le e3 hM) mN x _ jo _ q' buf s r (by rw [e2];exact Nat.le_refl _) e4)
 | @recv v LA S g wa hs h1 h2 ih =>
  intro M
  induction M using Nat.strongRecOn with
  | _ M ihM =>
   intro gs x w sl t q buf s r hM hS
   rcases hS.sit with hx | ⟨hx,_,_⟩
   case inr=>exact u6 (.recv hs h1 h2) M gs x w sl t q buf s r hM (by rw [hx];rfl) hS
   obtain ⟨i,y,d,jo,hi,hy,df⟩:=crowd_pick (P:=P) (w:=w) (sl:=sl) (hS.awake hb) ⟨κ,b,hS.child,hb⟩
   have ko:=hS.at H d
   rcases Nat.eq_zero_or_pos i with rfl | fE
   ·obtain rfl:y=x:=by rw [hS.zero] at hi;exact (Option.some.inj hi).symm
    obtain ⟨es,a1,a2⟩:=h1 _ ko.r0
    have sa:=(hx.step (P:=P) true (w.at d)).trans a1
    have cz:0<gs.size:=(Array.getElem?_eq_some_iff.1 hi).1
    obtain ⟨B,hT⟩:=ko.trace
    obtain ⟨B',_,rZ⟩:=hT.evs0 oL (H.apart _ _ _ ko.apt) (fn:=y.frame.fn) (pos:=y.frame.place) a2
    have hnb:∀ (j:Nat) (g':Goroutine),j≠0->gs[j]? = some g'->g'.status≠.blocked:=fun j g' hj oq=>by
     by_cases hk:j=κ
     ·subst hk;rw [hS.child] at oq;obtain rfl:=Option.some.inj oq;rw [hb];simp
     ·rcases (hS.leave.old j g' (by omega) hk oq).status with e | e<;>rw [e]<;>simp
    by_cases oK:buf=#[]
    ·
     subst oK
     have dQ:=crowd_waits (P:=P) (gs:=gs) (w:=w.at d) (sl:=jo) (i:=0) hi (show stepG P (0==0) y (w.at d)=_ from sa) (fun cc hcc=>by
      simp at hcc;subst hcc
      exact ways_recv_none ko.chan (iH hnb))
     refine eN.step (df.trans dQ) (u6 (.recv hs h1 h2) _ _ (parked g #[rcase c z] (.recv true)) _ jo _ q #[] s r (Nat.le_refl _) rfl ⟨ko.r0,ko.rB,ko.apt,by simp [cz],?_,.inr ⟨rfl,h1,rfl⟩,?_,⟨B',rZ⟩,ko.chan,hS.list,hS.room⟩)
     ·rw [Array.getElem?_setIfInBounds_ne (Ne.symm oL)];exact hS.child
     ·refine hS.leave.turn (by simp) (fun j v hj n9 hv=>?_) (fun op aN=>by obtain ⟨e,_,rfl⟩:=Go.Conc.mem_ofEvents aN;exact ⟨.inl rfl,cz⟩)
      rw [Array.getElem?_setIfInBounds_ne (by omega)] at hv;exact hv
    ·
     obtain ⟨l0,hl0⟩:∃ l0,buf.toList=v::l0:=by
      have:=hS.list
      cases hbl:buf.toList with
      | nil=>exact absurd (by simpa using hbl) oK
      | cons a l=>rw [hbl] at this;simp at this;exact ⟨l,by rw [this.1]⟩
     obtain ⟨hsz',hhd,htl⟩:=take_head hl0.symm
     have dQ:=crowd_recv_buf (P:=P) (gs:=gs) (w:=w.at d) (sl:=jo) (i:=0) hi (show stepG P (0==0) y (w.at d)=_ from sa) ko.chan hsz' (iH hnb)
     rw [finishComm_recv,hhd] at dQ
     have tQ:=H.put0 S (w.at d) n (buf.extract 1 buf.size) false s (r+1) false
     have hputB:=H.putB T (w.at d) n (buf.extract 1 buf.size) false s (r+1) false
     obtain ⟨B'',_,hT3⟩:=rZ.still (u:=#[{ g:=0,fn:=g.frame.fn,pos:=g.frame.place,act:=.recv c r n },{ g:=0,fn:=g.frame.fn,pos:=g.frame.place,act:=.recvDone c r }]) (fun op aN=>by simp at aN;rcases aN with rfl | rfl<;>rfl) (fun op aN=>by simp at aN;rcases aN with rfl | rfl<;>simp)
     refine eN.step (df.trans dQ) (ih _ (H.t0.trans _ _ _ _ ko.r0 tQ) _ _ _ _ jo _ q (buf.extract 1 buf.size) s (r+1) (Nat.le_refl _) ⟨H.refl0 _ _,H.tB.trans _ _ _ _ ko.rB hputB,ko.apt.same (fV _ _ _ _ _ _ _ _),by simp [cz],?_,.inl (.self rfl),?_,⟨B'',by rw [<- Array.append_assoc];exact hT3⟩,gN ko.chan,?_,?_⟩)
     ·rw [Array.getElem?_setIfInBounds_ne (Ne.symm oL)];exact hS.child
     ·refine hS.leave.turn (by simp) (fun j v hj n9 hv=>?_) (fun op aN=>?_)
      ·rw [Array.getElem?_setIfInBounds_ne (by omega)] at hv;exact hv
      ·rcases Array.mem_append.1 aN with aN | aN
       ·obtain ⟨e,_,rfl⟩:=Go.Conc.mem_ofEvents aN;exact ⟨.inl rfl,cz⟩
       ·simp at aN;rcases aN with rfl | rfl<;>exact ⟨.inl rfl,cz⟩
     ·have:=hS.list
      rw [hl0] at this
      simp at this
      rw [htl];exact this
     ·have:=hS.room
      simp
      omega
   ·by_cases hk:i=κ
    ·subst hk
     obtain ⟨m',u,e1,e2⟩:=mv (.recv hs h1 h2) gs x (w.at d) jo t q buf s r ko
     exact eN.step (df.trans e1) e2
    ·obtain ⟨mN,u,q',e1,e2,e3,e4⟩:=ko.slip hb (sl:=jo) hi hy fE hk
     exact eN.step (df.trans e1) (ihM _ (Nat.lt_of_lt_of_le e3 hM) mN x _ jo _ q' buf s r (by rw [e2];exact Nat.le_refl _) e4)
 | @fin S g wa hs h1 h2 =>
  intro M
  induction M using Nat.strongRecOn with
  | _ M ihM =>
   intro gs x w sl t q buf s r hM hS
   rcases hS.sit with hx | ⟨hx,_,_⟩
   case inr=>exact u6 (.fin hs h1 h2) M gs x w sl t q buf s r hM (by rw [hx];rfl) hS
   obtain ⟨i,y,d,jo,hi,hy,df⟩:=crowd_pick (P:=P) (w:=w) (sl:=sl) (hS.awake hb) ⟨κ,b,hS.child,hb⟩
   have ko:=hS.at H d
   rcases Nat.eq_zero_or_pos i with rfl | fE
   ·obtain rfl:y=x:=by rw [hS.zero] at hi;exact (Option.some.inj hi).symm
    obtain ⟨es,a1,a2⟩:=h1 _ ko.r0
    have sa:=(hx.step (P:=P) true (w.at d)).trans a1
    have cz:0<gs.size:=(Array.getElem?_eq_some_iff.1 hi).1
    obtain ⟨B,hT⟩:=ko.trace
    obtain ⟨B',_,rZ⟩:=hT.evs0 oL (H.apart _ _ _ ko.apt) (fn:=y.frame.fn) (pos:=y.frame.place) a2
    have hnb:∀ (j:Nat) (g':Goroutine),j≠0->gs[j]? = some g'->g'.status≠.blocked:=fun j g' hj oq=>by
     by_cases hk:j=κ
     ·subst hk;rw [hS.child] at oq;obtain rfl:=Option.some.inj oq;rw [hb];simp
     ·rcases (hS.leave.old j g' (by omega) hk oq).status with e | e<;>rw [e]<;>simp
    obtain rfl:buf=#[]:=by
     have:=hS.list
     simp at this
     exact this.1
    have dQ:=crowd_waits (P:=P) (gs:=gs) (w:=w.at d) (sl:=jo) (i:=0) hi (show stepG P (0==0) y (w.at d)=_ from sa) (fun cc hcc=>by
     simp at hcc;subst hcc
     exact ways_recv_none ko.chan (iH hnb))
    refine eN.step (df.trans dQ) (u6 (.fin hs h1 h2) _ _ (parked g #[rcase c z] (.recv true)) _ jo _ q #[] s r (Nat.le_refl _) rfl ⟨ko.r0,ko.rB,ko.apt,by simp [cz],?_,.inr ⟨rfl,h1,rfl⟩,?_,⟨B',rZ⟩,ko.chan,hS.list,hS.room⟩)
    ·rw [Array.getElem?_setIfInBounds_ne (Ne.symm oL)];exact hS.child
    ·refine hS.leave.turn (by simp) (fun j v hj n9 hv=>?_) (fun op aN=>by obtain ⟨e,_,rfl⟩:=Go.Conc.mem_ofEvents aN;exact ⟨.inl rfl,cz⟩)
     rw [Array.getElem?_setIfInBounds_ne (by omega)] at hv;exact hv
   ·by_cases hk:i=κ
    ·subst hk
     obtain ⟨m',u,e1,e2⟩:=mv (.fin hs h1 h2) gs x (w.at d) jo t q buf s r ko
     exact eN.step (df.trans e1) e2
    ·obtain ⟨mN,u,q',e1,e2,e3,e4⟩:=ko.slip hb (sl:=jo) hi hy fE hk
     exact eN.step (df.trans e1) (ihM _ (Nat.lt_of_lt_of_le e3 hM) mN x _ jo _ q' buf s r (by rw [e2];exact Nat.le_refl _) e4)
end
end Lf
namespace Lf
open Go Go.Conc
open Go.ConcN (sumTo upd sumTo_upd upd_ne upd_same)
variable {P : Program}
section
variable {c : Nat} {z : Value} {iN : Nat} {R0 : (Nat → Prop) → World → World → Prop} {D0 : (Nat → Prop) → World → World → Array Event → Prop} {RB : (Nat → Prop) → World → World → Prop} {DB : (Nat → Prop) → World → World → Array Event → Prop} {CA CB : (Nat → Prop) → Touch → Prop} {n κ : Nat} {K : Goroutine → World → Prop}
theorem phase (H:Pair c iN R0 D0 RB DB CA CB) (oL:κ≠0) {LB:List Value} {T:Nat->Prop} {b:Goroutine} {wb:World} (hB:SB P c RB DB CB n LB T b wb) :
  ∀ {LA:List Value} {S:Nat->Prop} {g:Goroutine} {wa:World},SA P c z R0 D0 CA K LA S g wa->∀ (gs:Array Goroutine) (x:Goroutine) (w:World) (sl:Option (Nat×Nat)) (t:Trace) (q:Nat->Nat) (buf:Array Value) (s r:Nat),St P c iN z R0 RB CA CB n κ LB T b wb LA S g wa gs x w t q buf s r->eN P K (crowd gs w sl) t:=by
 have hk0:(κ==0)=false:=by simp [oL]
 induction hB with
 | @own LB T b wb f hs h1 h2 ih =>
  intro LA S g wa hA gs x w sl t q buf s r hS
  refine tX H oL hs (fun {LA S g wa} hA gs x w sl t q buf s r hS=>?_) hA _ gs x w sl t q buf s r (Nat.le_refl _) hS
  obtain ⟨a1,a2⟩:=h1 _ hS.rB
  obtain ⟨b1,b2,b3,b4⟩:=H.dB _ _ _ _ _ hS.apt a2
  have dQ:=runT_crowd_go (P:=P) (w:=w) (sl:=sl) (i:=κ) hS.child (by rw [hk0];exact a1)
  have cz:κ<gs.size:=(Array.getElem?_eq_some_iff.1 hS.child).1
  have hmn:=H.mono _ _ (grow_sub T w (f w).2.1)
  obtain ⟨B,hT⟩:=hS.trace
  obtain ⟨B',_,rZ⟩:=(hT.mono (Nat.le_refl B) (fun _ x=>x) hmn.2).evsC oL (H.apart _ _ _ (hS.apt.growC b4)) (fn:=b.frame.fn) (pos:=b.frame.place) b3
  refine ⟨_,_,dQ,ih _ hS.rB hA _ x _ sl _ q buf s r ⟨H.t0.trans _ _ _ _ hS.r0 b1,H.reflB _ _,hS.apt.growC b4,?_,by simp [cz],hS.sit,?_,⟨B',rZ⟩,b2.trans hS.chan,hS.list,hS.room⟩⟩
  ·rw [Array.getElem?_setIfInBounds_ne oL,Array.getElem?_map,hS.zero]
   rcases hS.sit with h3 | ⟨rfl,_,_⟩
   ·simp [woken_running h3.status]
   ·simp [woken_recv_open b (f w).1 (b2.trans hS.chan)]
  ·refine hS.leave.turn (by simp) (fun j v hj n9 hv=>?_) (fun op aN=>by obtain ⟨e,_,rfl⟩:=Go.Conc.mem_ofEvents aN;exact ⟨.inr rfl,cz⟩)
   rw [Array.getElem?_setIfInBounds_ne (Ne.symm n9),Array.getElem?_map] at hv
   obtain ⟨z',hz,rfl⟩:=Option.map_eq_some_iff.1 hv
   rw [woken_quitsD (hS.leave.old j z' hj n9 hz)]
   exact hz
 | @send v y LB T b wb hs h1 h2 ih =>
  intro LA S g wa hA gs x w sl t q buf s r hS
  refine tX H oL hs (fun {LA S g wa} hA gs x w sl t q buf s r hS=>?_) hA _ gs x w sl t q buf s r (Nat.le_refl _) hS
  obtain ⟨es,a1,a2⟩:=h1 _ hS.rB
  have sa:stepG P (κ==0) b w=.comm b #[scase c v y] true .send w es:=by rw [hk0];exact a1
  have cz:κ<gs.size:=(Array.getElem?_eq_some_iff.1 hS.child).1
  have hlt0:0<gs.size:=(Array.getElem?_eq_some_iff.1 hS.zero).1
  obtain ⟨B,hT⟩:=hS.trace
  obtain ⟨B',_,rZ⟩:=hT.evsC oL (H.apart _ _ _ hS.apt) (fn:=b.frame.fn) (pos:=b.frame.place) a2
  have hout:∀ j v,0<j->j≠κ->gs[j]? = some v->v.status≠.blocked:=fun j v hj n9 hv=>by rcases (hS.leave.old j v hj n9 hv).status with e | e<;>rw [e]<;>simp
  rcases hS.sit with hx | ⟨rfl,hat,rfl⟩
  ·
   have oI:buf.size<n:=by have:=hS.room;simp at this;omega
   have dQ:=crowd_send_room (P:=P) (gs:=gs) (w:=w) (sl:=sl) (i:=κ) hS.child sa hS.chan oI (iH fun j g' hj oq=>by
    rcases Nat.eq_zero_or_pos j with rfl | fE
    ·rw [hS.zero] at oq;obtain rfl:=Option.some.inj oq;rw [hx.status];simp
    ·exact hout j g' fE hj oq)
   rw [finishComm_send] at dQ
   have tQ:=H.put0 S w n (buf.push v) false (s+1) r false
   have hputB:=H.putB T w n (buf.push v) false (s+1) r false
   obtain ⟨B'',_,hT3⟩:=rZ.still (u:=#[{ g:=κ,fn:=b.frame.fn,pos:=b.frame.place,act:=.send c s },{ g:=κ,fn:=b.frame.fn,pos:=b.frame.place,act:=.sendDone c s }]) (fun op aN=>by simp at aN;rcases aN with rfl | rfl<;>rfl) (fun op aN=>by simp at aN;rcases aN with rfl | rfl<;>simp)
   refine ⟨_,_,dQ,ih _ (H.tB.trans _ _ _ _ hS.rB hputB) hA _ x _ sl _ q (buf.push v) (s+1) r ⟨H.t0.trans _ _ _ _ hS.r0 tQ,H.reflB _ _,hS.apt.same (fV _ _ _ _ _ _ _ _),?_,by simp [cz],.inl hx,?_,⟨B'',by rw [<- Array.append_assoc];exact hT3⟩,gN hS.chan,by rw [hS.list];simp,by have:=hS.room;simp at this ⊢;omega⟩⟩
   ·rw [Array.getElem?_setIfInBounds_ne oL];exact hS.zero
   ·refine hS.leave.turn (by simp) (fun j v hj n9 hv=>?_) (fun op aN=>?_)
    ·rw [Array.getElem?_setIfInBounds_ne (Ne.symm n9)] at hv;exact hv
    ·rcases Array.mem_append.1 aN with aN | aN
     ·obtain ⟨e,_,rfl⟩:=Go.Conc.mem_ofEvents aN;exact ⟨.inr rfl,cz⟩
     ·simp at aN;rcases aN with rfl | rfl<;>exact ⟨.inr rfl,cz⟩
  ·
   have hp:partners (gs.setIfInBounds κ ph) c false=[(0,0)]:=by
    have:=partners_one (gs:=gs.setIfInBounds κ ph) (r:=c) (send:=false) (j:=0) (g:=parked g #[rcase c z] (.recv true)) (by rw [Array.getElem?_setIfInBounds_ne oL];exact hS.zero) (fun j g' hj oq=>by
     rcases getElem?_stand gs κ j g' oq with ⟨_,rfl⟩ | ⟨hne,hg''⟩
     ·exact offersAt_ph c false
     ·exact offersAt_of_not_blocked (hout j g' (by omega) hne hg'') c false)
    rw [this,offersAt_parked_recv]
    simp
   have dQ:=crowd_send_meets (P:=P) (gs:=gs) (w:=w) (sl:=sl) (i:=κ) (j:=0) hS.child sa hS.chan (Ne.symm oL) hS.zero hp
   rw [finishComm_send,finishComm_recv] at dQ
   have tQ:=H.put0 S w n #[] false (s+1) (r+1) false
   have hputB:=H.putB T w n #[] false (s+1) (r+1) false
   have hll:=hS.list
   simp at hll
   have sN:∀ w₁,R0 S wa w₁->SA P c z R0 D0 CA K LB S (Go.Conc.served g (recvd true v true)) w₁:=by
    cases hA with
    | own f k1 k2 k3 =>
     obtain ⟨e1,e2,_⟩:=hat _ hS.r0
     rw [(k2 _ hS.r0).1] at e2;cases e2
    | recv k1 k2 k3 =>
     simp only [List.cons.injEq] at hll
     obtain ⟨rfl,rfl⟩:=hll
     exact k3
    | fin k1 k2 k3=>cases hll
   obtain ⟨B'',_,hT3⟩:=rZ.still (u:=#[{ g:=κ,fn:=b.frame.fn,pos:=b.frame.place,act:=.send c s },{ g:=0,fn:=g.frame.fn,pos:=g.frame.place,act:=.recv c r n },{ g:=κ,fn:=b.frame.fn,pos:=b.frame.place,act:=.sendDone c s },{ g:=0,fn:=g.frame.fn,pos:=g.frame.place,act:=.recvDone c r }]) (fun op aN=>by simp at aN;rcases aN with rfl | rfl | rfl | rfl<;>rfl) (fun op aN=>by simp at aN;rcases aN with rfl | rfl | rfl | rfl<;>simp)
   refine ⟨_,_,dQ,ih _ (H.tB.trans _ _ _ _ hS.rB hputB) (sN _ (H.t0.trans _ _ _ _ hS.r0 tQ)) _ (Go.Conc.served g (recvd true v true)) _ sl _ q #[] (s+1) (r+1) ⟨H.refl0 _ _,H.reflB _ _,hS.apt.same (fV _ _ _ _ _ _ _ _),?_,by simp [cz],.inl (.self rfl),?_,⟨B'',by rw [<- Array.append_assoc];exact hT3⟩,gN hS.chan,by simp,by have:=hS.room;simp at this ⊢;omega⟩⟩
   ·rw [Array.getElem?_setIfInBounds_ne oL];simp [hlt0]
   ·refine hS.leave.turn (by simp) (fun j v hj n9 hv=>?_) (fun op aN=>?_)
    ·rw [Array.getElem?_setIfInBounds_ne (Ne.symm n9),Array.getElem?_setIfInBounds_ne (by omega)] at hv;exact hv
    ·rcases Array.mem_append.1 aN with aN | aN
     ·obtain ⟨e,_,rfl⟩:=Go.Conc.mem_ofEvents aN;exact ⟨.inr rfl,cz⟩
     ·simp at aN;rcases aN with rfl | rfl | rfl | rfl
      ·exact ⟨.inr rfl,cz⟩
      ·exact ⟨.inl rfl,hlt0⟩
      ·exact ⟨.inr rfl,cz⟩
      ·exact ⟨.inl rfl,hlt0⟩
 | @close T b b' wb qb hs hw h1 hq =>
  intro LA S g wa hA gs x w sl t q buf s r hS
  refine tX H oL hs (fun {LA S g wa} hA gs x w sl t q buf s r hS=>?_) hA _ gs x w sl t q buf s r (Nat.le_refl _) hS
  obtain ⟨es,a1,a2⟩:=h1 w buf s r hS.rB hS.chan
  have dQ:=runT_crowd_go (P:=P) (w:=w) (sl:=sl) (i:=κ) hS.child (by rw [hk0];exact a1)
  have cz:κ<gs.size:=(Array.getElem?_eq_some_iff.1 hS.child).1
  have tQ:=H.put0 S w n buf true s r false
  obtain ⟨B,hT⟩:=hS.trace
  obtain ⟨B',_,rZ⟩:=hT.evsC oL (H.apart _ _ _ hS.apt) (fn:=b.frame.fn) (pos:=b.frame.place) a2
  obtain ⟨B'',_,hT3⟩:=rZ.still (u:=#[{ g:=κ,fn:=b.frame.fn,pos:=b.frame.place,act:=.close c }]) (fun op aN=>by simp at aN;subst aN;rfl) (fun op aN=>by simp at aN;subst aN;simp)
  have htr:t++MemOp.ofEvents κ b.frame.fn b.frame.place (es.push ⟨.obj c,true,true⟩)=t++MemOp.ofEvents κ b.frame.fn b.frame.place es++#[{ g:=κ,fn:=b.frame.fn,pos:=b.frame.place,act:=.close c }]:=by
   rw [ofEvents_push,Array.push_eq_append,<- Array.append_assoc];rfl
  have hdeaf:Deaf (t++MemOp.ofEvents κ b.frame.fn b.frame.place (es.push ⟨.obj c,true,true⟩)) κ=0:=by rw [htr];exact hT3.rA trivial
  have hShut:Shut κ c (t++MemOp.ofEvents κ b.frame.fn b.frame.place (es.push ⟨.obj c,true,true⟩)):=by
   rw [htr]
   have fE:(t++MemOp.ofEvents κ b.frame.fn b.frame.place es++#[({ g:=κ,fn:=b.frame.fn,pos:=b.frame.place,act:=.close c }:MemOp)])[(t++MemOp.ofEvents κ b.frame.fn b.frame.place es).size]? = some { g:=κ,fn:=b.frame.fn,pos:=b.frame.place,act:=.close c }:=by
    rw [Array.getElem?_append_right (Nat.le_refl _)];simp
   refine ⟨_,by rw [act?_of fE],by unfold Trace.g?;rw [fE];rfl,⟨κ,by unfold Trace.g?;rw [fE];rfl,by rw [deaf_old (Nat.le_refl _)];exact rZ.rA trivial⟩,fun i a ha hg=>?_⟩
   obtain ⟨y,hy,hya⟩:=touch_of ha
   rcases getElem?_append_cases hy with ⟨hi,_⟩ | ⟨_,hyu⟩
   ·exact hi
   ·simp at hyu;subst hyu;cases hya
  have hq':b'.status=.running\/b'.status=.finished:=hq.status
  have hwk:∀ o,woken P b b' (w.setChan c n buf true s r false) o=o.again (w.setChan c n buf true s r false):=by
   intro o;unfold Go.Conc.woken;rcases hq' with h | h<;>simp [hw,h]
  have hx:∃ x',((gs.map (woken P b b' (w.setChan c n buf true s r false))).setIfInBounds κ b')[0]? = some x'/\kZ x' g:=by
   rw [Array.getElem?_setIfInBounds_ne oL,Array.getElem?_map,hS.zero]
   rcases hS.sit with h3 | ⟨rfl,_,_⟩
   ·exact ⟨x,by simp [woken_running h3.status],h3⟩
   ·exact ⟨{ parked g #[rcase c z] (.recv true) with status:=.running },by rw [Option.map_some,hwk,again_recv_closed (gN hS.chan)],⟨rfl,rfl,rfl,rfl⟩⟩
  obtain ⟨x',qy,hx2⟩:=hx
  refine ⟨_,_,dQ,phase_shut H oL hA _ T _ x' _ sl _ (upd q κ qb) buf s r (Nat.le_refl _) (hS.apt.same (fV _ _ _ _ _ _ _ _)) (H.t0.trans _ _ _ _ hS.r0 tQ) hx2 qy (by simpa using cz) ⟨fun j v hj _ hv=>?_,fun j hj=>?_⟩ ⟨B'',by rw [htr];exact hT3.weak⟩ hShut (gN hS.chan) (by rw [hS.list];simp)⟩
  ·by_cases n9:j=κ
   ·subst n9
    rw [Array.getElem?_setIfInBounds_self_of_lt (by simpa using cz)] at hv
    obtain rfl:=Option.some.inj hv
    rw [upd_same,hdeaf]
    exact hq
   ·rw [Array.getElem?_setIfInBounds_ne (Ne.symm n9),Array.getElem?_map] at hv
    obtain ⟨z',hz,rfl⟩:=Option.map_eq_some_iff.1 hv
    have hqj:=hS.leave.old j z' hj n9 hz
    rw [woken_quitsD hqj,upd_ne q qb n9,gq t _ (fun op aN e=>by obtain ⟨e',_,rfl⟩:=Go.Conc.mem_ofEvents aN;exact n9 e.symm)]
    exact hqj
  ·rw [gq t _ (fun op aN e=>by obtain ⟨e',_,rfl⟩:=Go.Conc.mem_ofEvents aN;simp at hj;simp at e;omega)]
   exact hS.leave.above j (by simpa using hj)
end
end Lf
namespace Lf
open Go Go.Conc
variable {P : Program}
theorem dH (fr:Frame) (cs:List Frame):¬ Lost (G fr cs):=fun h=>h.lost.elim (fun x=>x rfl) (fun x=>x rfl)
theorem first_step' (hP:Plain P) {n:Nat} {g:Goroutine} {w:World} {g':Goroutine} {w':World} (hg:dx g) (oq:¬ Lost g') (h:runN P (n+1) (solo g w)=.next (solo g' w')) :
  ∃ g1 w1 ops,stepT P (solo g w)=(.next (solo g1 w1),ops)/\dx g1/\Alone P g w g1 w1 ops/\runN P n (solo g1 w1)=.next (solo g' w'):=by
 simp only [runN] at h
 cases hx:stepT P (solo g w) with
 | mk s ops =>
  have hs:step P (solo g w)=s:=by rw [step,hx]
  rw [hs] at h
  cases s with
  | ended o x=>cases h
  | next m1 =>
   rcases solo_step hP hg.ok hg.status hx with h2 | ⟨g1,w1,rfl,h3 | ⟨_,h4⟩⟩
   ·have:=runN_size h;simp [solo] at this;omega
   ·exact absurd (lost_run hP h3 h) oq
   ·exact ⟨g1,w1,ops,rfl,(h4 hg.offers).1,(h4 hg.offers).2,h⟩
theorem run_fine (hP:Plain P):∀ {n:Nat} {g:Goroutine} {w:World} {g':Goroutine} {w':World},dx g->¬ Lost g'->runN P n (solo g w)=.next (solo g' w')->dx g':=by
 intro n
 induction n with
 | zero=>intro g w g' w' hg _ h;simp only [runN,Stepped.next.injEq] at h;have:=congrArg (fun m:Machine=>m.gs[0]?) h;simp [solo] at this;exact this▸hg
 | succ n ih =>
  intro g w g' w' hg oq h
  obtain ⟨g1,w1,_,_,h2,_,h4⟩:=first_step' hP hg oq h
  exact ih h2 oq h4
theorem tD {fr:Frame} {cs:List Frame} (h1:aA fr) (h2:∀ x∈cs,aA x):dx (G fr cs):=⟨⟨h1,h2,fun _ h=>by cases h⟩,rfl,rfl,rfl⟩
theorem mU {fn:Func} {tmps:Array Value} {w:World} {v:Value} (h:(results fn tmps).run P w=.ok v w) (τ:Tape) (d:Nat):(results fn tmps).run P (re w τ d)=.ok v (re w τ d):=by
 have h1:((results fn tmps).runT P w #[]).1=.ok v w:=(Sem.runT_fst P _ w #[]).trans h
 obtain ⟨m,e1,e2⟩:=mV P (results fn tmps) 0 w #[] (results_fit (P:=P) fn tmps) (by rw [h1];rfl)
 rw [h1] at e1 e2
 simp only [reR,Result.ok.injEq,true_and] at e1
 have hm:m=0:=by have:=congrArg World.drawn e1;simp [re] at this;omega
 subst hm
 have:=congrArg Prod.fst (e2 τ d (fun j hj=>absurd hj (Nat.not_lt_zero j)))
 rw [Sem.runT_fst] at this
 simpa [reR] using this
theorem tT {fr:Frame} {w:World} {e:Ending} (h:fr.leaving P w e) (τ:Tape) (d:Nat):fr.leaving P (re w τ d) e:=by
 cases e with
 | returned v=>obtain ⟨h1,h2,h3,fn,h4,h5⟩:=h;exact ⟨h1,h2,h3,fn,h4,mU h5 τ d⟩
 | panicked chain=>exact h
 | outgrown=>trivial
def af (P:Program) (K:Goroutine->World->Prop) (g:Goroutine) (w:World):Prop:=∀ τ d,kP P K g (re w τ d)
theorem af.leads {K:Goroutine->World->Prop} {g:Goroutine} {w:World} (h:af P K g w):kP P K g w:=h w.tape w.drawn
theorem af.other {K:Goroutine->World->Prop} {g:Goroutine} {w:World} (h:af P K g w) (τ:Tape) (d:Nat):af P K g (re w τ d):=fun vX d'=>h vX d'
theorem af.trans {K L:Goroutine->World->Prop} {g:Goroutine} {w:World} (h:af P K g w) (hk:∀ g' w',K g' w'->af P L g' w'):af P L g w:=fun τ d=>(h τ d).trans fun g' w' x=>(hk g' w' x).leads
theorem af.mono {K L:Goroutine->World->Prop} {g:Goroutine} {w:World} (h:af P K g w) (hk:∀ g' w',K g' w'->L g' w'):af P L g w:=fun τ d=>(h τ d).mono hk
theorem af.of_steps (hP:Plain P) {K:Goroutine->World->Prop} (hK:∀ g w τ d,K g w->K g (re w τ d)) {g:Goroutine} {w:World} (hg:dx g) (h:∀ τ d,∃ g' w',Steps P (solo g (re w τ d)) (solo g' w')/\¬ Lost g'/\(dx g'->K g' w')):af P K g w:=by
 intro τ₀ d₀
 refine tree_leads (tree_of_comes hP hK hg fun τ d=>?_)
 obtain ⟨g',w',⟨n,hn⟩,h2,h3⟩:=h τ d
 have hf:=run_fine hP hg h2 hn
 exact ⟨n,g',w',hn,hf,h3 hf⟩
def bZ (P:Program) (f:FuncId) (args:Array Value) (w:World) (R:Ending->World->Prop):Prop :=
 ∀ cs,(∀ fr∈cs,aA fr)->af P (fun g w'=>∃ e fr,g=G fr cs/\aA fr/\R e w'/\fr.fn=f/\fr.leaving P w' e) (G (Frame.enter P f args .normal) cs) w
theorem bZ.mono {f:FuncId} {args:Array Value} {w:World} {R R':Ending->World->Prop} (h:bZ P f args w R) (hr:∀ e w',R e w'->R' e w'):bZ P f args w R' :=
 fun cs bn=>(h cs bn).mono fun _ _ ⟨e,fr,h1,h2,h3,h4,h5⟩=>⟨e,fr,h1,h2,hr _ _ h3,h4,h5⟩
theorem bZ.of_calls (hP:Plain P) {f:FuncId} {args:Array Value} {w:World} {R:Ending->World->Prop} (hR:∀ e w τ d,R e w->R e (re w τ d)) (hno:∀ w,¬ R .outgrown w) (h:∀ τ d,Calls P f args (re w τ d) R):bZ P f args w R:=by
 intro cs bn
 have bH:=tD (eV (P:=P) f args .normal) bn
 refine af.of_steps hP ?_ bH fun τ d=>?_
 ·rintro g w τ d ⟨e,fr,h1,h2,h3,h4,h5⟩
  exact ⟨e,fr,h1,h2,hR _ _ _ _ h3,h4,tT h5 τ d⟩
 ·obtain ⟨e,w',fr,h1,h2,h3,h4⟩:=h τ d cs
  have hs:Steps P (lone (Frame.enter P f args .normal) cs (re w τ d)) (lone fr cs w'):=by
   cases e with
   | returned v=>exact h2
   | panicked c=>exact h2
   | outgrown=>exact absurd h1 (hno _)
  exact ⟨G fr cs,w',hs,dH fr cs,fun hf=>⟨e,fr,rfl,hf.ok.frame,h1,h3,h4⟩⟩
end Lf
namespace Lf
open Go Go.Conc
open Go.ConcN (sumTo upd sumTo_upd upd_ne upd_same)
variable {P : Program} {K : Goroutine → World → Prop}
def Forks (P:Program) (K:Goroutine->World->Prop) (g' child:Goroutine) (w':World):Prop :=
 ∃ (c:Nat) (z:Value) (R0:(Nat->Prop)->World->World->Prop) (D0:(Nat->Prop)->World->World->Array Event->Prop) (RB:(Nat->Prop)->World->World->Prop) (DB:(Nat->Prop)->World->World->Array Event->Prop) (CA CB:(Nat->Prop)->Touch->Prop) (n:Nat) (L:List Value),
  Pair c w'.heap.size R0 D0 RB DB CA CB/\SB P c RB DB CB n L (fun _=>False) child w'/\SA P c z R0 D0 CA K L (fun _=>False) g' w'/\w'.heap[c]? = some (.chan n #[] false 0 0 false)/\L.length<=n
theorem kP.spawn {g:Goroutine} {w:World} (hg:g.status=.running) (h:∀ d,∃ g' child w' es,stepG P true g (w.at d)=.spawn g' child w' es/\(∀ e∈es,e.loc≠.mark .disable/\e.loc≠.mark .enable)/\Forks P K g' child w'):kP P K g w:=by
 have main:∀ (M:Nat) (gs:Array Goroutine) (d0:Nat) (sl:Option (Nat×Nat)) (t:Trace) (q:Nat->Nat),sumTo gs.size q<=M->gs[0]? = some g->ot P (fun _=>False) t gs q->(∃ B,Past (fun _=>False) B t)->eN P K (crowd gs (w.at d0) sl) t:=by
  intro M
  induction M using Nat.strongRecOn with
  | _ M ihM =>
   intro gs d0 sl t q hM h0 hL hB
   have haw:∀ x∈gs,awake x:=by
    intro x hx
    obtain ⟨i,hi,rfl⟩:=Array.mem_iff_getElem.1 hx
    rcases Nat.eq_zero_or_pos i with rfl | fE
    ·have:gs[0]=g:=by simpa [Array.getElem?_eq_getElem hi] using h0
     rw [this];exact awake_of (.inl hg)
    ·exact awake_of ((hL.old i _ fE (fun x=>x) (Array.getElem?_eq_getElem hi)).status.elim .inl fun x=>.inr (.inr x))
   obtain ⟨i,x,d,jo,hi,hx,df⟩:=crowd_pick (P:=P) (w:=w.at d0) (sl:=sl) haw ⟨0,g,h0,hg⟩
   have hw:(w.at d0).at d=w.at d:=rfl
   rw [hw] at df
   have cz:0<gs.size:=(Array.getElem?_eq_some_iff.1 h0).1
   obtain ⟨B,hB⟩:=hB
   rcases Nat.eq_zero_or_pos i with rfl | fE
   ·obtain rfl:x=g:=by rw [h0] at hi;exact (Option.some.inj hi).symm
    obtain ⟨g',child,w',es,a1,a2,c,z,R0,D0,RB,DB,CA,CB,n,L,H,hSB,hSA,hc,hn⟩:=h d
    have dQ:=runT_crowd_spawn (P:=P) (w:=w.at d) (sl:=jo) (i:=0) hi (show stepG P (0==0) x (w.at d)=_ from a1)
    have cE:∀ op∈MemOp.ofEvents 0 x.frame.fn x.frame.place es,op.g=0:=fun op aN=>by obtain ⟨e,_,rfl⟩:=Go.Conc.mem_ofEvents aN;rfl
    have hdf:Deaf (t++MemOp.ofEvents 0 x.frame.fn x.frame.place es) 0=Deaf t 0:=by rw [Deaf_own];exact deafBehind_still a2 _
    obtain ⟨B',a_,cB⟩:=vk (MemOp.ofEvents 0 x.frame.fn x.frame.place es) B
    have hP:=(hB.mono a_).app0 cE (fun _ _ _ _ h=>h.elim) hdf cB
    have hk:Deaf (t++MemOp.ofEvents 0 x.frame.fn x.frame.place es) gs.size=0:=by rw [gq t _ (fun op aN e=>by have:=cE op aN;omega)];exact hL.above _ (Nat.le_refl _)
    have hT:=TI.fork (CA:=CA (fun _=>False)) (CB:=CB (fun _=>False)) (hc:=True) hP hk (x:={ g:=0,fn:=x.frame.fn,pos:=x.frame.place,act:=.go gs.size }) (y:={ g:=gs.size,fn:=child.frame.fn,pos:=x.frame.place,act:=.start }) ⟨rfl,rfl⟩ ⟨rfl,rfl⟩
    have htr:∀ a b:MemOp,t++((MemOp.ofEvents 0 x.frame.fn x.frame.place es).push a |>.push b)=t++MemOp.ofEvents 0 x.frame.fn x.frame.place es++#[a,b]:=by
     intro a b
     apply Array.ext'
     simp
    have oL:gs.size≠0:=by omega
    refine eN.step (df.trans dQ) (phase H oL hSB hSA _ g' w' jo _ q #[] 0 0 ⟨H.refl0 _ _,H.reflB _ _,⟨fun _ x=>x.elim,fun _ x=>x.elim,fun _ x=>x.elim,Nat.le_refl _⟩,?_,?_,.inl (.self hSA.running),⟨fun j y hj n9 hy=>?_,fun j hj=>?_⟩,⟨B',by rw [htr];exact hT⟩,hc,by simp,by simpa using hn⟩)
    ·rw [Array.getElem?_push_lt (by simpa using cz)];simp
    ·have e:gs.size=(gs.setIfInBounds 0 g').size:=by simp
     rw [e,Array.getElem?_push_size]
    ·have hjl:j<gs.size:=by
      have:=(Array.getElem?_eq_some_iff.1 hy).1
      simp at this;omega
     have hy':gs[j]? = some y:=by
      rw [Array.getElem?_push_lt (by simpa using hjl)] at hy
      simp only [Array.getElem_setIfInBounds_ne (by simpa using hjl) (show 0≠j by omega)] at hy
      rw [Array.getElem?_eq_getElem hjl];exact hy
     rw [htr,gq _ #[_,_] (fun op aN e=>by simp at aN;rcases aN with rfl | rfl<;>simp at e<;>omega),gq t _ (fun op aN e=>by have:=cE op aN;omega)]
     exact hL.old j y hj (fun x=>x) hy'
    ·simp at hj
     rw [htr,gq _ #[_,_] (fun op aN e=>by simp at aN;rcases aN with rfl | rfl<;>simp at e<;>omega),gq t _ (fun op aN e=>by have:=cE op aN;omega)]
     exact hL.above j (by omega)
   ·obtain ⟨mN,u,q',e1,e2,e3,e4,e5,e6⟩:=slip (w:=w.at d) (sl:=jo) hL hi hx fE (fun x=>x)
    refine eN.step (df.trans e1) (ihM _ (Nat.lt_of_lt_of_le e3 hM) mN d jo _ q' (by rw [e2];exact Nat.le_refl _) (e6 0 g (.inl rfl) h0 fun a a'=>woken_running hg) e4 ⟨B,?_⟩)
    exact hB.appMute (g:=i) (by omega) (fun op aN=>(e5 op aN).1) (fun op aN=>(e5 op aN).2.1) (fun op aN=>(e5 op aN).2.2 B)
 intro gs sl t hf
 obtain ⟨h0,⟨q,hL⟩,hB⟩:=hf
 exact main _ gs w.drawn sl t q (Nat.le_refl _) h0 (ot.of hL _) hB
theorem af.spawn {g:Goroutine} {w:World} (hg:g.status=.running) (h:∀ τ d,∃ g' child w' es,stepG P true g (re w τ d)=.spawn g' child w' es/\(∀ e∈es,e.loc≠.mark .disable/\e.loc≠.mark .enable)/\Forks P K g' child w'):af P K g w :=
 fun τ _=>kP.spawn hg fun d'=>h τ d'
end Lf
namespace Lf
open Go Go.Conc
structure qJ (c B:Nat) (M Ro:Nat->Prop):Prop where
 chan:c<B
 m:∀ b,M b->b<B/\b≠c
 ro:∀ b,Ro b->b<B/\b≠c/\¬ M b
section
variable (c B : Nat) (M Ro : Nat → Prop)
structure R0w (S:Nat->Prop) (w w':World):Prop where
 size:w.heap.size<=w'.heap.size
 block:∀ b,b≠c->b<w.heap.size->(S b\/b<B)->w'.heap[b]? = w.heap[b]?
 os:w'.os=w.os
 output:w'.output=w.output
 tape:w'.tape=w.tape
structure RBw (T:Nat->Prop) (w w':World):Prop where
 size:w.heap.size<=w'.heap.size
 block:∀ b,b≠c->b<w.heap.size->(T b\/Ro b)->w'.heap[b]? = w.heap[b]?
def CA1 (S:Nat->Prop) (a:Touch):Prop:=∃ ad,a.loc=.cell ad/\(S ad.block\/(ad.block<B/\(a.write=true->M ad.block)))
def CB1 (T:Nat->Prop) (a:Touch):Prop:=(∃ ad,a.loc=.cell ad/\(T ad.block\/(Ro ad.block/\a.write=false)))\/a.loc=.obj c
structure tu (S:Nat->Prop) (w w':World) (es:Array Event):Prop where
 size:w.heap.size<=w'.heap.size
 block:∀ b,b<w.heap.size->¬ S b->¬ M b->w'.heap[b]? = w.heap[b]?
 uC:∀ e∈es,EvK (CA1 B M (grow S w w')) e
structure mY (T:Nat->Prop) (w w':World) (es:Array Event):Prop where
 size:w.heap.size<=w'.heap.size
 block:∀ b,b<w.heap.size->¬ T b->w'.heap[b]? = w.heap[b]?
 os:w'.os=w.os
 output:w'.output=w.output
 tape:w'.tape=w.tape
 uC:∀ e∈es,EvK (CB1 c Ro (grow T w w')) e
theorem put_block {c:Nat} {w:World} {n:Nat} {buf:Array Value} {cl:Bool} {s r:Nat} {tm:Bool} {b:Nat} (h:b≠c):(w.setChan c n buf cl s r tm).heap[b]? = w.heap[b]?:=by
 simp only [World.setChan];rw [Array.getElem?_setIfInBounds_ne (Ne.symm h)]
theorem gI (H:qJ c B M Ro):Pair c B (R0w c B) (tu B M) (RBw c Ro) (mY c Ro) (CA1 B M) (CB1 c Ro) where
 t0:=⟨fun S x y z h k=>⟨Nat.le_trans h.size k.size,fun b h1 h2 h3=>(k.block b h1 (Nat.lt_of_lt_of_le h2 h.size) h3).trans (h.block b h1 h2 h3),k.os.trans h.os,k.output.trans h.output,k.tape.trans h.tape⟩,fun S w=>⟨Nat.le_refl _,fun _ _ _ _=>rfl,fun e he=>by simp at he⟩,fun S w=>⟨Nat.le_refl _,fun _ _ _ _=>rfl,fun e he=>by simp at he⟩⟩
 tB:=⟨fun S x y z h k=>⟨Nat.le_trans h.size k.size,fun b h1 h2 h3=>(k.block b h1 (Nat.lt_of_lt_of_le h2 h.size) h3).trans (h.block b h1 h2 h3)⟩,fun S w=>⟨Nat.le_refl _,fun _ _ _=>rfl,rfl,rfl,rfl,fun e he=>by simp at he⟩,fun S w=>⟨Nat.le_refl _,fun _ _ _=>rfl,rfl,rfl,rfl,fun e he=>by simp at he⟩⟩
 refl0 S w:=⟨Nat.le_refl _,fun _ _ _ _=>rfl,rfl,rfl,rfl⟩
 reflB S w:=⟨Nat.le_refl _,fun _ _ _ _=>rfl⟩
 at0 S w d:=⟨Nat.le_refl _,fun _ _ _ _=>rfl,rfl,rfl,rfl⟩
 atB S w d:=⟨Nat.le_refl _,fun _ _ _ _=>rfl⟩
 put0 S w n buf cl s r tm:=⟨by rw [fV];exact Nat.le_refl _,fun b h _ _=>put_block h,rfl,rfl,rfl⟩
 putB S w n buf cl s r tm:=⟨by rw [fV];exact Nat.le_refl _,fun b h _ _=>put_block h⟩
 d0 S T w w' es hA h:=by
  refine ⟨⟨h.size,fun b hc hb hT=>h.block b hb ?_ ?_⟩,h.block c (Nat.lt_of_lt_of_le H.chan hA.low) ?_ ?_,h.uC,h.size⟩
  ·intro hS
   rcases hT with hT | hT
   ·exact hA.st b hS hT
   ·have:=(H.ro b hT).1;have:=(hA.s b hS).1;omega
  ·intro hM
   rcases hT with hT | hT
   ·have:=(H.m b hM).1;have:=(hA.t b hT).1;omega
   ·exact (H.ro b hT).2.2 hM
  ·intro hS;have:=(hA.s c hS).1;have:=H.chan;omega
  ·intro hM;exact (H.m c hM).2 rfl
 dB S T w w' es hA h:=by
  refine ⟨⟨h.size,fun b hc hb hS=>h.block b hb ?_,h.os,h.output,h.tape⟩,h.block c (Nat.lt_of_lt_of_le H.chan hA.low) ?_,h.uC,h.size⟩
  ·intro hT
   rcases hS with hS | hS
   ·exact hA.st b hS hT
   ·have:=(hA.t b hT).1;omega
  ·intro hT;have:=(hA.t c hT).1;have:=H.chan;omega
 mono S S' h:=⟨fun a ⟨ad,h1,h2⟩=>⟨ad,h1,h2.imp (h _) id⟩,fun a x=>x.imp (fun ⟨ad,h1,h2⟩=>⟨ad,h1,h2.imp (h _) id⟩) id⟩
 apart S T w hA:=by
  have key:∀ a b:Touch,CA1 B M S a->CB1 c Ro T b->a.loc=b.loc->(a.write=true\/b.write=true)->False:=by
   rintro a b ⟨ad,h1,h2⟩ (⟨ad',k1,k2⟩ | k1) hl hw
   case inr=>rw [h1,k1] at hl;cases hl
   rw [h1,k1] at hl
   cases hl
   rcases h2 with h2 | ⟨h2,h3⟩
   ·rcases k2 with k2 | ⟨k2,_⟩
    ·exact hA.st _ h2 k2
    ·have:=(hA.s _ h2).1;have:=(H.ro _ k2).1;omega
   ·rcases k2 with k2 | ⟨k2,k3⟩
    ·have:=(hA.t _ k2).1;omega
    ·rcases hw with hw | hw
     ·exact (H.ro _ k2).2.2 (h3 hw)
     ·rw [k3] at hw;cases hw
  intro a b said ha hb
  exact ⟨fun h=>key a b ha hb h.1 (by simpa using h.2.2.1),fun h=>key a b ha hb h.1.symm (by have:=h.2.2.1;simpa using this.symm)⟩
end
section
variable {c B : Nat} {M Ro : Nat → Prop}
theorem EvK.cell {C:Touch->Prop} {ad:Addr} {wr:Bool} (h:C ⟨.cell ad,wr,.plain⟩):EvK C ⟨.cell ad,wr,false⟩:=by
 refine ⟨fun x hx _=>?_,by simp,by simp⟩
 cases wr<;>(simp [MemAct.ofEvent,MemAct.touch?] at hx;subst hx;exact h)
theorem bw (w:World) (o:Obj) {b:Nat} (h:b<w.heap.size):(w.alloc o).heap[b]? = w.heap[b]?:=by
 simp only [World.alloc];rw [Array.getElem?_push_lt h,Array.getElem?_eq_getElem h]
theorem iF (w:World) (o:Obj):(w.alloc o).heap[w.heap.size]? = some o:=by simp only [World.alloc];rw [Array.getElem?_push_size]
theorem aG (w:World) (o:Obj):(w.alloc o).heap.size=w.heap.size+1:=by simp only [World.alloc];rw [Array.size_push]
theorem mY.alloc (T:Nat->Prop) (w:World) (o:Obj):mY c Ro T w (w.alloc o) #[]:=⟨by rw [aG];omega,fun b h _=>bw w o h,rfl,rfl,rfl,fun e he=>by simp at he⟩
theorem tu.alloc (S:Nat->Prop) (w:World) (o:Obj):tu B M S w (w.alloc o) #[]:=⟨by rw [aG];omega,fun b h _ _=>bw w o h,fun e he=>by simp at he⟩
theorem mY.reads {T:Nat->Prop} {w:World} {es:Array Event} (h:∀ e∈es,EvK (CB1 c Ro T) e):mY c Ro T w w es:=⟨Nat.le_refl _,fun _ _ _=>rfl,rfl,rfl,rfl,by rw [aD];exact h⟩
theorem tu.reads {S:Nat->Prop} {w:World} {es:Array Event} (h:∀ e∈es,EvK (CA1 B M S) e):tu B M S w w es:=⟨Nat.le_refl _,fun _ _ _ _=>rfl,by rw [aD];exact h⟩
end
end Lf
end Go.Proofs.YtpbbmagjhkakgaaGreatDoor
