import Derived.Test.YtpbbmagjhkakgaaGreatDoorLfFitsToLfMade
import Derived.Lone
import Derived.RunT
import Derived.Conc.CrowdComm
namespace Go.Proofs.YtpbbmagjhkakgaaGreatDoor
namespace Lf
open Go Go.Conc
variable {P : Program}
theorem n7 {dying:Option Dying} (g:Goroutine) (h:g.dying=dying):(dying.isSome=true->g.dying≠none):=fun h'=>by rw [h];intro h0;rw [h0] at h';cases h'
theorem oP {dying:Option Dying} {F:World->GStep} {w:World} (x:Goroutine) (hx:kW x) (hd:dying.isSome=true->x.dying≠none) (hs:∀ t,x.status≠.sleeping t) (hp:x.status≠.parked) (ho:x.offers=none) (hF:∀ τ d,F (re w τ d)=.go x (re w τ d)):Local dying.isSome F w:=by
 have h0:=hF w.tape w.drawn
 rw [re_self] at h0
 unfold Local
 rw [h0]
 exact ⟨hx,hd,hs,hp,fun _ _=>⟨ho,rfl,0,rfl,fun τ d _=>hF τ d⟩⟩
theorem dL {dying:Bool} {F:World->GStep} {w:World} {o:Outcome} {w':World} {es:Array Event} (h:F w=.ended o w' es):Local dying F w:=by
 unfold Local;rw [h];trivial
theorem fe {dying:Bool} {α:Type} {r:Result α} {K:Result α->GStep} {g:Goroutine} {w':World} (h1:kW g) (h2:dying=true->g.dying≠none) (h3:∀ t,g.status≠.sleeping t) (h4:g.status≠.parked) (h5:g.offers=none) (h6:fG r=true) (h7:∀ τ d,K (reR τ d r)=.go g (re w' τ d)):Made dying r K (.go g w') :=
 ⟨rfl,h1,h2,h3,h4,fun _ _=>⟨h5,h6,h7⟩⟩
theorem qW {fr:Frame} {callers:List Frame} {dying:Option Dying} (hg:kW ⟨fr,callers,.running,dying,none⟩) (hc:∀ d,dying=some d->d.calling=true) (v:Value) {α:Type} {r:Result α} {K:Result α->GStep} {w:World} (hr:fG r=true) (hK:∀ τ d,K (reR τ d r)=doReturn P true fr callers dying v (re w τ d)) :
  Made dying.isSome r K (doReturn P true fr callers dying v w):=by
 have go:∀ {x:Goroutine},kW x->(dying.isSome=true->x.dying≠none)->x.status=.running->x.offers=none->(∀ w,doReturn P true fr callers dying v w=.go x w)->Made dying.isSome r K (doReturn P true fr callers dying v w):=by
  intro x h1 h2 h3 h4 h5
  rw [h5]
  exact fe h1 h2 (by rw [h3];simp) (by rw [h3];simp) h4 hr (fun τ d=>by rw [hK,h5])
 cases callers with
 | cons c rest =>
  have hcf:aA c:=hg.callers c List.mem_cons_self
  cases hk:fr.kind with
  | normal=>exact go (hg.pop rfl (cO hcf v) (eO _ _) .running) (n7 _ rfl) rfl rfl (fun w=>by simp only [doReturn,hk])
  | wrapped=>exact go (hg.pop rfl (cO hcf v) (eO _ _) .running) (n7 _ rfl) rfl rfl (fun w=>by simp only [doReturn,hk])
  | early=>exact go (hg.pop rfl hcf rfl .running) (n7 _ rfl) rfl rfl (fun w=>by simp only [doReturn,hk])
  | _ =>
   have e:∃ c':Frame,c'.todo=c.todo/\c'.kind=c.kind/\∀ w,doReturn P true fr (c::rest) dying v w=.go { frame:=c',callers:=rest,status:=.running,dying } w:=by
    simp only [doReturn,hk]
    split
    ·split
     ·exact ⟨{ c with mode:=.returning },rfl,rfl,fun _=>rfl⟩
     ·exact ⟨{ c with mode:=.panicking _ },rfl,rfl,fun _=>rfl⟩
    ·exact ⟨c,rfl,rfl,fun _=>rfl⟩
   obtain ⟨c',e1,e2,e3⟩:=e
   exact go (hg.pop rfl (dU hcf e1) e2 .running) (n7 _ rfl) rfl rfl e3
 | nil =>
  cases hk:fr.kind with
  | report =>
   have e:(∃ d',d'.calling=false/\∀ w,doReturn P true fr [] dying v w=.go { frame:=fr,callers:=[],status:=.running,dying:=some d' } w)\/∃ o,doReturn P true fr [] dying v w=.ended o w:=by
    simp only [doReturn,hk]
    split
    ·exact .inl ⟨_,rfl,fun _=>rfl⟩
    ·exact .inr ⟨_,rfl⟩
    ·rename_i h _;exact absurd rfl h
   rcases e with ⟨d',e1,e2⟩ | ⟨o,e⟩
   ·exact go (x:={ frame:=fr,callers:=[],status:=.running,dying:=some d' }) (kW.dead rfl e1 hg.frame (fun _ h=>by cases h)) (fun _ h=>by cases h) rfl rfl e2
   ·rw [e];exact trivial
  | _ =>
   have hnd:dying=none:=by
    cases hdd:dying with
    | none=>rfl
    | some d =>
     have:=hg.dying d hdd (hc d hdd)
     simp [lowest,hk] at this
   subst hnd
   have e:(∃ f,∀ w,doReturn P true fr [] none v w=.go { frame:=Frame.enter P f #[] .normal,callers:=[],status:=.running,dying:=none } w)\/∃ o,doReturn P true fr [] none v w=.ended o w:=by
    simp only [doReturn,hk,Bool.not_true,Bool.false_eq_true,if_false]
    split
    ·exact .inl ⟨_,fun _=>rfl⟩
    ·exact .inr ⟨_,rfl⟩
   rcases e with ⟨f,e⟩ | ⟨o,e⟩
   ·exact go (x:={ frame:=Frame.enter P f #[] .normal,callers:=[],status:=.running,dying:=none }) ⟨eV _ _ _,(fun _ h=>by cases h),(fun _ h=>by cases h)⟩ (fun h=>by cases h) rfl rfl e
   ·rw [e];exact trivial
theorem results_fit (fn:Func) (tmps:Array Value):Fit P (fun _=>True) 0 (results fn tmps):=by
 unfold results
 refine aQ (fAm (fun x=>?_) _) fun _=>aq P _
 cases x with
 | tmp t=>exact aq P _
 | cell a t=>exact aQ (jS P _) fun _=>fF P _ _
theorem fT (hP:Plain P) {fr:Frame} {callers:List Frame} {dying:Option Dying} (hg:kW ⟨fr,callers,.running,dying,none⟩) (d:Deferred) (w:World):Local dying.isSome (fun w=>callDeferred P fr callers dying d w) w:=by
 by_cases h0:d.target=.nil/\∃ c,fr.mode=.panicking c
 ·obtain ⟨h1,c,h2⟩:=h0
  have:∃ o,callDeferred P fr callers dying d w=.ended o w:=by
   unfold callDeferred
   rw [h1,h2]
   exact ⟨_,rfl⟩
  obtain ⟨o,e⟩:=this
  exact dL e
 ·have e:∃ (φ:Result Next->Array Event->Array Event) (K:Result Next->GStep),(∀ w,callDeferred P fr callers dying d w=GStep.after (φ ((invoke d.target d.args).runT P w #[]).1 ((invoke d.target d.args).runT P w #[]).2) (K ((invoke d.target d.args).runT P w #[]).1))/\
    (∀ r es,fG r=true->φ r es=seen P fr.fn es)/\∀ r:Result Next,(∀ a w',r=.ok a w'->cX a)->Made dying.isSome r K (K r):=by
   refine ⟨fun r es=>seen P fr.fn (match r with | .halt .blocked _ | .halt .waiting _=>#[] | _=>es),?K,?main,?uC,?rest⟩
   case main =>
    intro w
    unfold callDeferred
    refine (if_neg fun h=>h0 ?_).trans ?_
    ·cases h1:d.target<;>rw [h1] at h<;>first | (simp at h;done) | skip
     cases h2:fr.mode<;>rw [h2] at h<;>first | (simp at h;done) | skip
     exact ⟨rfl,_,rfl⟩
    generalize (invoke d.target d.args).runT P w #[]=x
    obtain ⟨r,es⟩:=x
    dsimp only
    exact rfl
   case uC =>
    intro r es hr
    cases r with
    | ok a w=>rfl
    | halt x w=>cases x<;>first | rfl | (simp [fG] at hr;done)
   case rest =>
    intro r hL
    cases r with
    | ok n w' =>
     have hn:=hL n w' rfl
     cases n with
     | enter f args=>exact fe (hg.push (eV _ _ _) hg.frame rfl _) (n7 _ rfl) (by simp) (by simp) rfl rfl (fun _ _=>rfl)
     | round l f t a b=>exact fe (hg.push (td _ _ _ _ _ _) hg.frame rfl _) (n7 _ rfl) (by simp) (by simp) rfl rfl (fun _ _=>rfl)
     | row row args =>
      obtain rfl:row = "runtime.print$piece":=hn
      exact fe (hg.push (okFrame_row _ _) hg.frame rfl _) (n7 _ rfl) (by simp) (by simp) rfl rfl (fun _ _=>rfl)
     | recover =>
      have e:∃ cs,k_ callers cs/\∀ w,(match fr.mode,tryRecover fr callers with | .returning,some (_,callers)=>GStep.go { frame:=fr,callers,status:=.running,dying } w | _,_=>GStep.go { frame:=fr,callers,status:=.running,dying } w)=.go { frame:=fr,callers:=cs,status:=.running,dying } w:=by
       split
       ·rename_i h;exact ⟨_,jq h,fun _=>rfl⟩
       ·exact ⟨callers,rfl,fun _=>rfl⟩
      obtain ⟨cs,h1,h2⟩:=e
      exact Eq.mpr (congrArg (Made dying.isSome (Result.ok Next.recover w') _) (h2 w')) (fe ((hg.here hg.frame rfl .running).sim h1) (n7 _ rfl) (by simp) (by simp) rfl rfl (fun τ d=>h2 (re w' τ d)))
     | coroswitch c x =>
      cases x with
      | true=>exact ⟨rfl,hg,rfl,n7 _ rfl,fun _=>⟨rfl,rfl,fun _ _=>rfl⟩⟩
      | false=>exact trivial
     | value v=>exact fe (hg.here hg.frame rfl _) (n7 _ rfl) (by simp) (by simp) rfl rfl (fun _ _=>rfl)
     | skip=>exact fe (hg.here hg.frame rfl _) (n7 _ rfl) (by simp) (by simp) rfl rfl (fun _ _=>rfl)
     | defer d=>exact fe (hg.here hg.frame rfl _) (n7 _ rfl) (by simp) (by simp) rfl rfl (fun _ _=>rfl)
     | spawn d=>exact fe (hg.here hg.frame rfl _) (n7 _ rfl) (by simp) (by simp) rfl rfl (fun _ _=>rfl)
     | comm a b c=>exact fe (hg.here hg.frame rfl _) (n7 _ rfl) (by simp) (by simp) rfl rfl (fun _ _=>rfl)
     | _=>exact hn.elim
    | halt x w' =>
     cases x with
     | panic v=>exact fe (hg.here (eW hg.frame _) (iB _ _) _) (n7 _ rfl) (by simp) (by simp) rfl rfl (fun _ _=>rfl)
     | goexit=>exact fe (hg.here (eW hg.frame _) (iB _ _) _) (n7 _ rfl) (by simp) (by simp) rfl rfl (fun _ _=>rfl)
     | fatal m=>exact endFatal_ok hg.frame callers dying m w' _ _
     | throw m=>exact qY hg.frame m w' _ _
     | blocked=>exact ⟨rfl,hg.here (fr':={ fr with defers:=d::fr.defers }) (dU (fr:=fr) hg.frame rfl) rfl _,n7 _ rfl,by simp,by simp,fun _ h=>by cases h⟩
     | waiting=>exact ⟨rfl,hg.here (fr':={ fr with defers:=d::fr.defers }) (dU (fr:=fr) hg.frame rfl) rfl _,n7 _ rfl,by simp,by simp,fun _ h=>by cases h⟩
     | _=>exact trivial
  obtain ⟨φ,K,h1,h2,h3⟩:=e
  refine oQ (pQ hP _ _) _ fr.fn K w (fun w=>⟨_,h1 w,fun hr=>.inl (h2 _ _ hr),fun w' ha hr hr'=>?_⟩) (h3 _ fun a w' h=>runT_leaf _ 0 w #[] (pQ hP _ _) h)
  rw [h1 w',h2 _ _ hr,h2 _ _ hr',ha]
end Lf
namespace Lf
open Go Go.Conc
variable {P : Program}
theorem pZ {α:Type} {L:α->Prop} {s:Sem α} (hs:Fit P L 0 s) {dying:Bool} {fn:FuncId} {w:World} {F:World->GStep}
  (h:∃ K:Result α->GStep,(∀ w,F w=GStep.after (seen P fn (s.runT P w #[]).2) (K (s.runT P w #[]).1))/\∀ r,Made dying r K (K r)):Local dying F w:=by
 obtain ⟨K,h1,h2⟩:=h
 refine oQ hs _ fn K w (fun w=>⟨_,h1 w,fun _=>.inl rfl,fun w' ha _ _=>?_⟩) (h2 _)
 rw [h1 w',ha]
theorem local_doReturn {fr:Frame} {callers:List Frame} {dying:Option Dying} (hg:kW ⟨fr,callers,.running,dying,none⟩) (hc:∀ d,dying=some d->d.calling=true) (v:Value) {F:World->GStep} (hF:∀ w,F w=doReturn P true fr callers dying v w) (w:World):Local dying.isSome F w:=by
 refine oQ (L:=fun _=>True) (s:=(pure ():Sem Unit)) (aq P ()) _ fr.fn (fun r=>match r with | .ok _ w=>doReturn P true fr callers dying v w | .halt _ w=>.ended (.stuck "" "") w) w (fun w=>⟨#[],?_,fun _=>.inr rfl,fun w' _ _ _=>?_⟩) ?_
 ·rw [hF,aZ];rfl
 ·rw [hF,aZ];rfl
 ·exact qW hg hc v rfl (fun _ _=>rfl)
theorem local_dead {dying:Bool} {F:World->GStep} {w w':World} {fr:Frame} {d:Dying} (hf:aA fr) (h1:d.calling=false) (h:F w=.go { frame:=fr,callers:=[],status:=.running,dying:=some d } w'):Local dying F w:=by
 unfold Local;rw [h]
 exact ⟨kW.dead rfl h1 hf (fun _ h=>by cases h),(fun _ h=>by cases h),(by simp),(by simp),(fun h=>by cases h)⟩
theorem local_unwind (hP:Plain P) {fr:Frame} {callers:List Frame} {dying:Option Dying} (hg:kW ⟨fr,callers,.running,dying,none⟩) (hc:∀ d,dying=some d->d.calling=true) (w:World):Local dying.isSome (fun w=>unwind P true fr callers dying w) w:=by
 cases hd:fr.defers with
 | cons d ds =>
  have oq:kW ⟨{ fr with defers:=ds },callers,.running,dying,none⟩:=hg.here (fr':={ fr with defers:=ds }) (dU (fr:=fr) hg.frame rfl) rfl _
  obtain ⟨t,args⟩:=d
  cases t with
  | collected block =>
   refine pZ (P:=P) (s:=Instr.takeDeferred block) (pJ P block) (fn:=fr.fn) ⟨?K,?main,?rest⟩
   case main =>
    intro w
    unfold unwind
    rw [hd]
    dsimp only
    generalize (Instr.takeDeferred block).runT P w #[]=x
    obtain ⟨r,es⟩:=x
    dsimp only
    exact rfl
   case rest =>
    intro r
    cases r with
    | ok a w=>exact fe (hg.here (fr':={ fr with defers:=a++ds }) (dU (fr:=fr) hg.frame rfl) rfl _) (n7 _ rfl) (by simp) (by simp) rfl rfl (fun _ _=>rfl)
    | halt x w=>exact trivial
  | fn a b =>
   have e:∀ w,unwind P true fr callers dying w=callDeferred P { fr with defers:=ds } callers dying ⟨.fn a b,args⟩ w:=fun w=>by unfold unwind;rw [hd]
   simp only [e];exact fT hP oq _ w
  | nil =>
   have e:∀ w,unwind P true fr callers dying w=callDeferred P { fr with defers:=ds } callers dying ⟨.nil,args⟩ w:=fun w=>by unfold unwind;rw [hd]
   simp only [e];exact fT hP oq _ w
  | builtin a b c d =>
   have e:∀ w,unwind P true fr callers dying w=callDeferred P { fr with defers:=ds } callers dying ⟨.builtin a b c d,args⟩ w:=fun w=>by unfold unwind;rw [hd]
   simp only [e];exact fT hP oq _ w
  | coroexit c =>
   have e:∀ w,unwind P true fr callers dying w=callDeferred P { fr with defers:=ds } callers dying ⟨.coroexit c,args⟩ w:=fun w=>by unfold unwind;rw [hd]
   simp only [e];exact fT hP oq _ w
 | nil =>
  cases hm:fr.mode with
  | run=>exact dL (o:=.stuck "unwind: the frame is running" (fr.pos P)) (w':=w) (es:=#[]) (by unfold unwind;rw [hd,hm])
  | panicking chain =>
   by_cases hcat:fr.catches P=true
   ·exact dL (o:=.unsupported (.noEntry "a panic or Goexit out of a method that fmt calls behind a cut's door") (fr.pos P)) (w':=w) (es:=#[]) (by unfold unwind;rw [hd,hm];simp only [hcat,if_true])
   ·cases callers with
    | cons c rest =>
     exact oP _ (hg.pop rfl (eW (hg.callers c List.mem_cons_self) chain) (iB _ _) .running) (n7 _ rfl) (by simp) (by simp) rfl (fun τ d=>by unfold unwind;rw [hd,hm];simp only [hcat,if_false,Bool.false_eq_true])
    | nil =>
     cases hdy':dying with
     | none =>
      subst hdy'
      by_cases pg:(chain.head?.any (·.goexit))=true
      ·exact oP (dying:=none) { frame:=fr,callers:=[],status:=.finished,dying:=none } (hg.here hg.frame rfl _) (fun h=>by cases h) (by simp) (by simp) rfl (fun τ d=>by unfold unwind;rw [hd,hm];simp only [hcat,pg,if_false,if_true,Bool.false_eq_true])
      ·have e:(∃ d w',d.calling=false/\unwind P true fr [] none w=.go { frame:=fr,callers:=[],status:=.running,dying:=some d } w')\/∃ o w',unwind P true fr [] none w=.ended o w':=by
        unfold unwind;rw [hd,hm];simp only [hcat,pg,if_false,Bool.false_eq_true]
        split
        ·exact .inl ⟨_,_,rfl,rfl⟩
        ·exact .inr ⟨_,_,rfl⟩
        ·exact .inr ⟨_,_,rfl⟩
       rcases e with ⟨d,w',h1,h2⟩ | ⟨o,w',h⟩
       ·exact local_dead hg.frame h1 h2
       ·exact dL h
     | some d =>
      have e:(∃ d' w',d'.calling=false/\unwind P true fr [] (some d) w=.go { frame:=fr,callers:=[],status:=.running,dying:=some d' } w')\/∃ o w',unwind P true fr [] (some d) w=.ended o w':=by
       unfold unwind;rw [hd,hm];simp only [hcat,if_false,Bool.false_eq_true]
       split
       ·unfold endPrinting
        dsimp only
        split
        ·exact .inl ⟨_,_,rfl,rfl⟩
        ·exact .inr ⟨_,_,rfl⟩
       ·exact .inr ⟨_,_,rfl⟩
      rcases e with ⟨d',w',h1,h⟩ | ⟨o,w',h⟩
      ·exact local_dead hg.frame h1 h
      ·exact dL h
  | returning =>
   cases hf:P.funcs[fr.fn]? with
   | none=>exact local_doReturn (P:=P) hg hc (fr.tmps.getD 0 undef) (fun w=>by unfold unwind;rw [hd,hm];simp only [hf]) w
   | some fn =>
    refine pZ (P:=P) (s:=results fn fr.tmps) (results_fit fn fr.tmps) (fn:=fr.fn) ⟨?K2,?main2,?rest2⟩
    case main2 =>
     intro w
     unfold unwind
     rw [hd,hm]
     simp only [hf]
     generalize (results fn fr.tmps).runT P w #[]=x
     obtain ⟨r,es⟩:=x
     dsimp only
     exact rfl
    case rest2 =>
     intro r
     cases r with
     | ok v w=>exact qW hg hc v rfl (fun _ _=>rfl)
     | halt x w=>cases x<;>exact trivial
end Lf
namespace Lf
open Go Go.Conc
variable {P : Program}
theorem piece_next:Extern.next "runtime.print$piece"=some (Extern.PrintPieces.piece #[] #[]):=by rfl
theorem local_then {α:Type} {L:α->Prop} {s:Sem α} (hs:Fit P L 0 s) {dying:Bool} {fn:FuncId} {w:World} {F:World->GStep} {E:α->World->GStep} {H:Halt->World->GStep}
  (hF:∀ w,F w=match s.runT P w #[] with | (r,es)=>GStep.after (seen P fn es) (match r with | .ok a w=>E a w | .halt x w=>H x w)) (hE:∀ a w,Local dying (E a) w) (hH:∀ x w,∃ o,H x w=.ended o w):Local dying F w:=by
 cases hr:(s.runT P w #[]).1 with
 | halt x w' =>
  obtain ⟨o,ho⟩:=hH x w'
  refine dL (o:=o) (w':=w') (es:=seen P fn (s.runT P w #[]).2) ?_
  rw [hF w]
  show GStep.after (seen P fn (s.runT P w #[]).2) (match (s.runT P w #[]).1 with | .ok a w=>E a w | .halt x w=>H x w)=_
  rw [hr];simp only [ho,GStep.after,Array.append_empty]
 | ok a w' =>
  obtain ⟨m,e1,e2⟩:=mV P s 0 w #[] hs (by rw [hr];rfl)
  have js:deafBehind 0 (seen P fn (s.runT P w #[]).2)=0:=by
   rw [seen_even fn (runT_synced s w #[] (fun e he=>by simp at he))]
   exact runT_even s 0 w #[] 0 hs (by rw [hr];rfl) rfl
  generalize hes:seen P fn (s.runT P w #[]).2=ev at js
  have hFw:F w=GStep.after ev (E a w'):=by
   rw [hF w,<- hes]
   show GStep.after (seen P fn (s.runT P w #[]).2) (match (s.runT P w #[]).1 with | .ok a w=>E a w | .halt x w=>H x w)=_
   rw [hr]
  rw [hr] at e1 e2
  simp only [reR,Result.ok.injEq,true_and] at e1
  refine nI (E:=fun w=>GStep.after ev (E a w)) (w':=w') (m:=m) hFw e1 (fun τ d ha=>?_) ?_
  ·rw [hF,e2 τ d ha]
   simp only [reR,hes]
  ·have h:=hE a w'
   have hev':∀ es,deafBehind 0 es=0->deafBehind 0 (ev++es)=0:=fun es h=>by rw [my,js,h]
   unfold Local at h ⊢
   dsimp only
   cases hx:E a w' with
   | go g w'' es =>
    rw [hx] at h
    obtain ⟨a1,a2,a3,a4,a5⟩:=h
    exact ⟨a1,a2,a3,a4,fun x y=>let ⟨b1,b2,m',b3,b4⟩:=a5 x y;⟨b1,hev' _ b2,m',b3,fun τ d ha=>by rw [b4 τ d ha];rfl⟩⟩
   | comm g cs b sh w'' es =>
    rw [hx] at h
    obtain ⟨a1,a0,a2,a5⟩:=h
    exact ⟨a1,a0,a2,fun x=>let ⟨b1,b2,m',b3,b4⟩:=a5 x;⟨b1,hev' _ b2,m',b3,fun τ d ha=>by rw [b4 τ d ha];rfl⟩⟩
   | coroswitch g c y w'' es =>
    rw [hx] at h
    obtain ⟨a1,a0,a2,a5⟩:=h
    exact ⟨a1,a0,a2,fun x=>let ⟨b1,b2,m',b3,b4⟩:=a5 x;⟨b1,hev' _ b2,m',b3,fun τ d ha=>by rw [b4 τ d ha];rfl⟩⟩
   | spawn=>exact trivial
   | ended=>exact trivial
   | _=>rw [hx] at h;exact h.elim
theorem exitTo_mem {id:Nat}:∀ {k k':List Item},exitTo id k=some k'->∀ x∈k',x∈k:=by
 intro k
 induction k with
 | nil=>intro k' h;simp [exitTo] at h
 | cons a k ih =>
  intro k' h x hx
  unfold exitTo at h
  split at h
  ·rename_i heq
   cases heq
   split at h
   ·cases h;exact List.mem_cons_of_mem _ hx
   ·exact List.mem_cons_of_mem _ (ih h x hx)
  ·rename_i heq
   cases heq
   exact List.mem_cons_of_mem _ (ih h x hx)
  ·cases h
theorem gotoIn_mem {id:Nat}:∀ {k k':List Item},gotoIn id k=some k'->∀ x∈k',x∈k\/aR x:=by
 intro k
 induction k with
 | nil=>intro k' h;simp [gotoIn] at h
 | cons a k ih =>
  intro k' h x hx
  unfold gotoIn at h
  split at h
  ·rename_i heq
   cases heq
   split at h
   ·cases h
    rcases List.mem_cons.1 hx with rfl | hx
    ·exact .inr trivial
    ·exact .inl hx
   ·exact (ih h x hx).imp (List.mem_cons_of_mem _) (fun h=>h)
  ·rename_i heq
   cases heq
   exact (ih h x hx).imp (List.mem_cons_of_mem _) (fun h=>h)
  ·cases h
theorem local_exec (hP:Plain P) {fr:Frame} {callers:List Frame} {dying:Option Dying} (hg:kW ⟨fr,callers,.running,dying,none⟩) (hc:∀ d,dying=some d->d.calling=true) (w:World):Local dying.isSome (fun w=>stepG.exec P true true fr callers dying w) w:=by
 have to:∀ (todo:List Item),(∀ it∈todo,it∈fr.todo\/aR it)->(∀ w,stepG.exec P true true fr callers dying w=.go { frame:={ fr with todo },callers,status:=.running,dying } w)->Local dying.isSome (fun w=>stepG.exec P true true fr callers dying w) w:=by
  intro todo h1 h2
  exact oP _ (hg.here (fr':={ fr with todo }) (jk (fr:=fr) hg.frame h1) rfl .running) (n7 _ rfl) (by simp) (by simp) rfl (fun τ d=>h2 _)
 have leave:∀ (jump:Option Code),(fr.roundOf=none->(∀ w,stepG.exec P true true fr callers dying w=.go { frame:={ fr with mode:=.returning },callers,status:=.running,dying } w)\/∃ o,stepG.exec P true true fr callers dying w=.ended o w)->
   (∀ l,fr.roundOf=some l->∃ K:Result Value->GStep,(∀ w,stepG.exec P true true fr callers dying w=GStep.after (seen P fr.fn ((Instr.endRound l jump).runT P w #[]).2) (K ((Instr.endRound l jump).runT P w #[]).1))/\(∀ v w,K (.ok v w)=doReturn P true fr callers dying v w)/\∀ x w,∃ o,K (.halt x w)=.ended o w)->
   Local dying.isSome (fun w=>stepG.exec P true true fr callers dying w) w:=by
  intro jump h h'
  cases hr:fr.roundOf with
  | none =>
   rcases h hr with h | ⟨o,h⟩
   ·exact oP _ (hg.here (fr':={ fr with mode:=.returning }) (dU (fr:=fr) hg.frame rfl) rfl .running) (n7 _ rfl) (by simp) (by simp) rfl (fun τ d=>h _)
   ·exact dL h
  | some l =>
   obtain ⟨K,h1,h2,h3⟩:=h' l hr
   refine pZ (P:=P) (tH P l jump) (fn:=fr.fn) ⟨K,h1,fun r=>?_⟩
   cases r with
   | ok v w=>rw [h2];exact qW hg hc v rfl (fun _ _=>h2 _ _)
   | halt x w=>obtain ⟨o,h⟩:=h3 x w;rw [h];exact trivial
 have round:∀ (jump:Option Code) (l:Nat),fr.roundOf=some l->(∀ w,stepG.exec P true true fr callers dying w=match (Instr.endRound l jump).runT P w #[] with | (r,es)=>GStep.after (seen P fr.fn es) (match r with | .ok v w=>doReturn P true fr callers dying v w | .halt _ w=>.ended (.stuck "range over a function: no such loop" (fr.pos P)) w))->
   ∃ K:Result Value->GStep,(∀ w,stepG.exec P true true fr callers dying w=GStep.after (seen P fr.fn ((Instr.endRound l jump).runT P w #[]).2) (K ((Instr.endRound l jump).runT P w #[]).1))/\(∀ v w,K (.ok v w)=doReturn P true fr callers dying v w)/\∀ x w,∃ o,K (.halt x w)=.ended o w:=by
  intro jump l hr h
  exact ⟨fun r=>match r with | .ok v w=>doReturn P true fr callers dying v w | .halt _ w=>.ended (.stuck "range over a function: no such loop" (fr.pos P)) w,h,fun _ _=>rfl,fun _ _=>⟨_,rfl⟩⟩
 cases ht:fr.todo with
 | nil=>exact leave none (fun hr=>.inl fun w=>by simp only [stepG.exec,ht,hr,if_true]) (fun l hr=>round none l hr fun w=>by simp only [stepG.exec,ht,hr];rfl)
 | cons it k =>
  have sub:∀ x∈k,x∈fr.todo:=fun x hx=>by rw [ht];exact List.mem_cons_of_mem _ hx
  have sub1:∀ {a:Item},aR a->∀ x∈a::k,x∈fr.todo\/aR x:=fun {a} ha x hx=>by
   rcases List.mem_cons.1 hx with rfl | hx
   ·exact .inr ha
   ·exact .inl (sub x hx)
  have sub2:∀ {a b:Item},aR a->aR b->∀ x∈a::b::k,x∈fr.todo\/aR x:=fun {a b} ha hb x hx=>by
   rcases List.mem_cons.1 hx with rfl | hx
   ·exact .inr ha
   ·exact sub1 hb x hx
  cases it with
  | code c =>
   cases c with
   | skip=>exact to k (fun x hx=>.inl (sub x hx)) (fun w=>by simp only [stepG.exec,ht])
   | label l=>exact to k (fun x hx=>.inl (sub x hx)) (fun w=>by simp only [stepG.exec,ht])
   | seq a b=>exact to (.code a::.code b::k) (sub2 trivial trivial) (fun w=>by simp only [stepG.exec,ht])
   | block id b=>exact to (.code b::.inBlock id::k) (sub2 trivial trivial) (fun w=>by simp only [stepG.exec,ht])
   | loop b=>exact to (.code b::.inLoop b::k) (sub2 trivial trivial) (fun w=>by simp only [stepG.exec,ht])
   | scope b=>exact to (.code b::.inScope b::k) (sub2 trivial trivial) (fun w=>by simp only [stepG.exec,ht])
   | cond c a b =>
    cases he:fr.eval c with
    | bool t=>exact to (.code (if t then a else b)::k) (sub1 trivial) (fun w=>by simp only [stepG.exec,ht,he])
    | _=>exact dL (o:=.stuck "cond: bool expected" (fr.pos P)) (w':=w) (es:=#[]) (by simp only [stepG.exec,ht,he])
   | ret=>exact leave (some .ret) (fun hr=>.inl fun w=>by simp only [stepG.exec,ht,hr,if_true]) (fun l hr=>round (some .ret) l hr fun w=>by simp only [stepG.exec,ht,hr];rfl)
   | exit id =>
    cases he:exitTo id k with
    | some k'=>exact to k' (fun x hx=>.inl (sub x (exitTo_mem he x hx))) (fun w=>by simp only [stepG.exec,ht,he,Option.elim])
    | none=>exact leave (some (.exit id)) (fun hr=>.inr ⟨.stuck "exit, goto: no such block or label" (fr.pos P),by simp only [stepG.exec,ht,hr,he,Option.elim,Bool.false_eq_true,if_false]⟩) (fun l hr=>round (some (.exit id)) l hr fun w=>by simp only [stepG.exec,ht,hr,he,Option.elim];rfl)
   | goto l =>
    cases he:gotoIn l k with
    | some k'=>exact to k' (fun x hx=>(gotoIn_mem he x hx).imp (sub x) id) (fun w=>by simp only [stepG.exec,ht,he,Option.elim])
    | none=>exact leave (some (.goto l)) (fun hr=>.inr ⟨.stuck "exit, goto: no such block or label" (fr.pos P),by simp only [stepG.exec,ht,hr,he,Option.elim,Bool.false_eq_true,if_false]⟩) (fun l' hr=>round (some (.goto l)) l' hr fun w=>by simp only [stepG.exec,ht,hr,he,Option.elim];rfl)
   | refuse why=>exact dL (w':=w) (es:=#[]) (by simp only [stepG.exec,ht];rfl)
   | region id ops draw =>
    cases draw with
    | false=>exact to (.inRegion ops (List.range ops.size)::k) (sub1 trivial) (fun w=>by simp only [stepG.exec,ht,Bool.not_false,if_true])
    | true =>
     refine oQ (L:=fun _=>True) (s:=choose (.order fr.fn id)) (bD P _) _ fr.fn (fun r=>match r with | .ok t w=>.go { frame:={ fr with todo:=.inRegion ops (Region.schedule (P.follows .mixedOrders) ops t)::k },callers,status:=.running,dying } w | .halt _ w=>.ended (.stuck "order" (fr.pos P)) w) w (fun w=>⟨#[],?_,fun _=>.inr rfl,fun w' _ _ _=>?_⟩) ?_
     ·simp only [stepG.exec,ht,Bool.not_true,Bool.false_eq_true,if_false,aZ];rfl
     ·simp only [stepG.exec,ht,Bool.not_true,Bool.false_eq_true,if_false,aZ];rfl
     ·exact fe (hg.here (fr':={ fr with todo:=.inRegion ops _::k }) (jk (fr:=fr) hg.frame (sub1 trivial)) rfl .running) (n7 _ rfl) (by simp) (by simp) rfl rfl (fun _ _=>rfl)
   | rangeFunc f ps a b =>
    refine local_then (P:=P) (s:=Instr.enterLoop fr.fn fr.tmps ps a b fr.roundOf) (sJ P _ _ _ _ _ _) (fn:=fr.fn) (E:=fun x w=>stepG.apply P true { fr with todo:=.inRangeFunc x.1::k,defers:=x.2++fr.defers } callers dying (do let d <- resolve ({ fr with todo:=.inRangeFunc x.1::k,defers:=x.2++fr.defers }:Frame).eval { callee:=.value f,args:=#[.const (.func (.yield x.1) #[] #[])],argTypes:=#[] } 0;invoke d.target d.args) w) (H:=fun _ w=>.ended (.stuck "range over a function: no such loop" (fr.pos P)) w) (fun w=>?_) (fun x w=>?_) (fun _ _=>⟨_,rfl⟩)
    ·simp only [stepG.exec,ht]
     generalize (Instr.enterLoop fr.fn fr.tmps ps a b fr.roundOf).runT P w #[]=x
     obtain ⟨r,es⟩:=x
     cases r with
     | ok y w=>obtain ⟨l,mk⟩:=y;rfl
     | halt y w=>rfl
    ·refine nH (hg.here (fr':={ fr with todo:=.inRangeFunc x.1::k,defers:=x.2++fr.defers }) (jk (fr:=fr) hg.frame (sub1 trivial)) rfl .running) (aQ (nF P _ _ _) fun _=>pQ hP _ _) w
  | inBlock id=>exact to k (fun x hx=>.inl (sub x hx)) (fun w=>by simp only [stepG.exec,ht])
  | inScope b=>exact to k (fun x hx=>.inl (sub x hx)) (fun w=>by simp only [stepG.exec,ht])
  | inLoop b=>exact to (.code b::.inLoop b::k) (sub2 trivial trivial) (fun w=>by simp only [stepG.exec,ht])
  | inRangeFunc l=>exact dL (w':=w) (es:=#[]) (by simp only [stepG.exec,ht];rfl)
  | call a b c d=>exact (hg.frame (.call a b c d) (by show _∈fr.todo;rw [ht];exact List.mem_cons_self):False).elim
  | extern row args =>
   obtain rfl:row = "runtime.print$piece":=hg.frame (.extern row args) (by show _∈fr.todo;rw [ht];exact List.mem_cons_self)
   have e:∀ w,stepG.exec P true true fr callers dying w=stepG.apply P true fr callers dying (Extern.PrintPieces.piece #[] #[] args) w:=fun w=>by simp only [stepG.exec,ht,piece_next,Option.elim]
   simp only [e];exact nH hg (fit_piece _ _ _) w
  | beginRound =>
   have e:∃ s,Fit P cX 0 s/\∀ w,stepG.exec P true true fr callers dying w=stepG.apply P true fr callers dying s w:=by
    refine ⟨_,?_,fun w=>by simp only [stepG.exec,ht];rfl⟩
    refine aQ ?_ fun _=>⟨rfl,trivial⟩
    cases fr.roundOf with
    | none=>exact ag P _
    | some l=>exact ra P l
   obtain ⟨s,h1,h2⟩:=e
   simp only [h2];exact nH hg h1 w
  | endRangeFunc l =>
   refine pZ (P:=P) (s:=Instr.endLoop l) (uJ P l) (fn:=fr.fn) ⟨?K,?main,?rest⟩
   case main =>
    intro w
    simp only [stepG.exec,ht]
    generalize (Instr.endLoop l).runT P w #[]=x
    obtain ⟨r,es⟩:=x
    dsimp only
    exact rfl
   case rest =>
    intro r
    cases r with
    | ok j w =>
     refine fe (hg.here (fr':={ fr with todo:=(j.map Item.code).toList++k }) (jk (fr:=fr) hg.frame fun x hx=>?_) rfl .running) (n7 _ rfl) (by simp) (by simp) rfl rfl (fun _ _=>rfl)
     rcases List.mem_append.1 hx with hx | hx
     ·cases j with
      | none=>cases hx
      | some c=>simp at hx;subst hx;exact .inr trivial
     ·exact .inl (sub x hx)
    | halt x w =>
     cases x with
     | panic v=>exact fe (hg.here (eW hg.frame _) (iB _ _) _) (n7 _ rfl) (by simp) (by simp) rfl rfl (fun _ _=>rfl)
     | _=>exact trivial
  | inRegion ops l =>
   cases l with
   | nil=>exact to k (fun x hx=>.inl (sub x hx)) (fun w=>by simp only [stepG.exec,ht])
   | cons i l =>
    by_cases hw:(((ops[i]?).map (Region.wanted · (yielded ops fr.tmps))).getD false)=true
    ·have e:∀ w,stepG.exec P true true fr callers dying w=stepG.oper P true fr callers dying w:=fun w=>by simp only [stepG.exec,ht,hw,if_true]
     simp only [e]
     cases ho:fr.oper? with
     | none=>exact dL (o:=.stuck "no operation here" (fr.pos P)) (w':=w) (es:=#[]) (by simp only [stepG.oper,ho])
     | some o =>
      have e:∃ s,Fit P cX 0 s/\∀ w,stepG.oper P true fr callers dying w=stepG.apply P true fr callers dying s w:=by
       simp only [stepG.oper,ho]
       split
       ·exact ⟨_,aQ (nF P _ _ _) fun _=>aQ (pI P _ _) fun _=>fit_ok (n:=.skip) trivial,fun _=>rfl⟩
       ·exact ⟨_,fit_execOp hP _ _,fun _=>rfl⟩
      obtain ⟨s,h1,h2⟩:=e
      simp only [h2];exact nH hg h1 w
    ·exact oP _ (hg.here (cO hg.frame undef) (eO _ _) .running) (n7 _ rfl) (by simp) (by simp) rfl (fun τ d=>by simp only [stepG.exec,ht,hw,if_false,Bool.false_eq_true])
theorem die_ok {fr:Frame} (hf:aA fr) {d:Dying} (hcal:d.calling=false) (w:World):(∃ o w' es,die P fr d w=.ended o w' es)\/∃ fr' st d' w' es,die P fr d w=.go { frame:=fr',callers:=[],status:=st,dying:=some d' } w' es/\aA fr'/\(d'.calling=true->fr'.kind=.report)/\(st=.running\/st=.blocked):=by
 have stay:∀ (d':Dying) (st:GoStatus) (w':World) (es:Array Event),d'.calling=false->(st=.running\/st=.blocked)->∃ fr' st' d'' w'' es',GStep.go { frame:=fr,callers:=[],status:=st,dying:=some d' } w' es=.go { frame:=fr',callers:=[],status:=st',dying:=some d'' } w'' es'/\aA fr'/\(d''.calling=true->fr'.kind=.report)/\(st'=.running\/st'=.blocked) :=
  fun d' st w' es h1 h2=>⟨_,_,_,_,_,rfl,hf,fun h=>(by rw [h1] at h;cases h),h2⟩
 unfold die
 split
 ·rename_i f _
  unfold writeOn
  split
  ·exact .inl ⟨_,_,_,rfl⟩
  ·dsimp only
   split
   ·exact .inr (stay _ _ _ _ hcal (.inl rfl))
   ·exact .inr (stay _ _ _ _ hcal (.inr rfl))
   ·exact .inl ⟨_,_,_,rfl⟩
   ·exact .inl ⟨_,_,_,rfl⟩
 ·split
  ·split
   ·exact .inr (stay _ _ _ _ hcal (.inr rfl))
   ·refine .inl ?_
    unfold endWith
    dsimp only
    split
    ·split<;>exact ⟨_,_,_,rfl⟩
    ·exact ⟨_,_,_,rfl⟩
    ·exact ⟨_,_,_,rfl⟩
  ·rename_i v mark rest _
   dsimp only
   split
   ·exact .inr (stay _ _ _ _ hcal (.inl rfl))
   ·split
    ·exact .inr (stay _ _ _ _ hcal (.inl rfl))
    ·exact .inl ⟨_,_,_,rfl⟩
   ·rename_i t recv name _
    generalize (invoke (.fn (.method name) #[]) #[.iface t recv]).runT P w #[]=x
    obtain ⟨r,es⟩:=x
    dsimp only
    split
    ·exact .inr ⟨_,_,_,_,_,rfl,eV _ _ _,fun _=>rfl,.inl rfl⟩
    ·exact .inr (stay _ _ _ _ hcal (.inl rfl))
    ·exact .inl ⟨_,_,_,rfl⟩
    ·unfold endPrinting
     dsimp only
     split
     ·exact .inr (stay _ _ _ _ rfl (.inl rfl))
     ·exact .inl ⟨_,_,_,rfl⟩
    ·exact .inl ⟨_,_,_,rfl⟩
   ·exact .inl ⟨_,_,_,rfl⟩
theorem local_stepG (hP:Plain P) {g:Goroutine} (hg:kW g) (w:World):Local g.dying.isSome (fun w=>stepG P true g w) w:=by
 obtain ⟨fr,callers,st,dying,off⟩:=g
 have oq:kW ⟨fr,callers,.running,dying,none⟩:=hg.top hg.frame rfl _ _
 by_cases hd:∃ d,dying=some d/\d.calling=false
 ·obtain ⟨d,rfl,hcal⟩:=hd
  have e:∀ w,stepG P true ⟨fr,callers,st,some d,off⟩ w=die P fr d w:=fun w=>by
   unfold stepG
   obtain ⟨a,b,c,e,f,g,h⟩:=d;simp only at hcal;subst hcal;rfl
  simp only [e]
  rcases die_ok (P:=P) (fr:=fr) hg.frame hcal w with ⟨o,w',es,h⟩ | ⟨fr',st',d',w',es,h,h1,h2,h3⟩
  ·exact dL h
  ·unfold Local
   dsimp only
   rw [h]
   refine ⟨⟨h1,(fun _ h=>by cases h),fun d'' hd hc=>?_⟩,(fun _ h=>by cases h),?_,?_,(fun h=>by cases h)⟩
   ·cases hd;exact h2 hc
   ·rcases h3 with rfl | rfl<;>simp
   ·rcases h3 with rfl | rfl<;>simp
 ·have hc:∀ d,dying=some d->d.calling=true:=fun d h=>by
   cases hcal:d.calling with
   | true=>rfl
   | false=>exact absurd ⟨d,h,hcal⟩ hd
  cases hm:fr.mode with
  | run =>
   have e:∀ w,stepG P true ⟨fr,callers,st,dying,off⟩ w=stepG.exec P true true fr callers dying w:=fun w=>by
    unfold stepG
    cases hdd:dying with
    | none=>simp only [hm]
    | some d=>have:=hc d hdd;obtain ⟨a,b,c,e,f,g,h⟩:=d;simp only at this;subst this;simp only [hm]
   simp only [e];exact local_exec hP oq hc w
  | _ =>
   have e:∀ w,stepG P true ⟨fr,callers,st,dying,off⟩ w=unwind P true fr callers dying w:=fun w=>by
    unfold stepG
    cases hdd:dying with
    | none=>simp only [hm]
    | some d=>have:=hc d hdd;obtain ⟨a,b,c,e,f,g,h⟩:=d;simp only at this;subst this;simp only [hm]
   simp only [e];exact local_unwind hP oq hc w
end Lf
namespace Lf
open Go Go.Conc
variable {P : Program}
def NoP (gs:Array Goroutine):Prop:=∀ r s,partners gs r s=[]
theorem ways_noP {gs:Array Goroutine} (h:NoP gs) (w:World) (c:CommCase):ways w gs c=ways w #[] c:=by
 have h0:∀ r s,partners #[] r s=[]:=fun r s=>by simp [partners]
 unfold ways
 split
 ·split<;>simp only [h _ _,h0 _ _]
 ·rfl
def rI (gs:Array Goroutine) (rest:Rest):Stepped->Stepped
 | .next m=>.next { world:=m.world,gs:=gs.setIfInBounds 0 (m.gs.getD 0 default),rest }
 | .ended o w=>.ended o w
theorem noP_ph:NoP #[ph]:=fun r s=>by simp [partners,ph]
theorem mX {rest:Rest} (h:rest.timers=#[]) (cases:Array CommCase) (w:World):waitingAt rest cases w=some w:=by
 have h1:timerAhead rest w.os.mono cases=false:=by
  have:=timerAhead_crowd #[] w none w.os.mono cases
  unfold timerAhead at this ⊢
  rw [h];exact this
 unfold waitingAt
 rw [h1];rfl
def mT:Rest:={ timers:=#[],alone:=none,slice:=none }
theorem ways_way {w:World} {c:CommCase} {x:Way} (h:x∈ways w #[] c):∀ a b,x≠.partner a b:=by
 have h0:∀ r s,partners #[] r s=[]:=fun r s=>by simp [partners]
 intro a b e
 subst e
 unfold ways at h
 split at h
 ·split at h
  ·simp only [h0] at h
   split at h<;>first | (simp at h;done) | (split at h<;>simp at h)
  ·simp only [h0] at h
   split at h<;>first | (simp at h;done) | (split at h<;>simp at h)
  ·cases h
 ·cases h
theorem pick_way {w:World} {l:List (Nat×CommCase×List Way)} (hl:∀ x∈l,∀ y∈x.2.2,∀ a b,y≠.partner a b) {k:Nat} {c:CommCase} {y:Way} {w':World}
  (h:(do
   let a <- choose (.select l.length)
   let b <- choose (.extern "which waiting goroutine is the partner" (l.getD a (0,default,[])).2.2.length)
   pure ((l.getD a (0,default,[])).1,(l.getD a (0,default,[])).2.1,(l.getD a (0,default,[])).2.2.getD b .closed):Sem (Nat×CommCase×Way)).run P w=.ok (k,c,y) w'):∀ a b,y≠.partner a b:=by
 refine runT_leaf (P:=P) (L:=fun x=>∀ a b,x.2.2≠.partner a b) _ 0 w #[] ?_ ((Sem.runT_fst P _ w #[]).trans h)
 refine aQ (bD P _) fun a=>aQ (bD P _) fun b=>⟨rfl,?_⟩
 intro x z
 simp only [List.getD_eq_getElem?_getD]
 cases h1:l[a]? with
 | none=>simp
 | some e =>
  cases h2:e.2.2[b]? with
  | none=>simp [h2]
  | some u=>simp only [Option.getD_some,h2];exact hl e (List.mem_of_getElem? h1) u (List.mem_of_getElem? h2) x z
theorem comm_lone {gs:Array Goroutine} {rest:Rest} (hp:NoP gs) (ht:rest.timers=#[]) (g:Goroutine) (cases:Array CommCase) (blocking:Bool) (shape:CommShape) (w:World) :
  communicate P rest gs 0 g cases blocking shape w=(rI gs rest (communicate P mT #[ph] 0 g cases blocking shape w).1,(communicate P mT #[ph] 0 g cases blocking shape w).2):=by
 unfold communicate
 simp only [ways_noP hp,ways_noP noP_ph,hp _ _,noP_ph _ _,mX ht,mX (rest:=mT) rfl]
 split
 ·rfl
 split
 ·split
  ·simp [rI]
  ·simp [rI]
 ·split
  ·rfl
  ·split
   ·split
    ·simp [rI]
    ·rfl
   ·simp [rI]
   ·simp [rI]
   ·simp [rI]
   ·refine absurd rfl (pick_way ?_ ‹Sem.run P _ w=Result.ok _ _› _ _)
    intro x hx y hy
    obtain ⟨⟨c,k⟩,_,rfl⟩:=List.mem_map.1 (List.mem_filter.1 hx).1
    exact ways_way hy
   ·refine absurd rfl (pick_way ?_ ‹Sem.run P _ w=Result.ok _ _› _ _)
    intro x hx y hy
    obtain ⟨⟨c,k⟩,_,rfl⟩:=List.mem_map.1 (List.mem_filter.1 hx).1
    exact ways_way hy
   ·rfl
theorem fit_pick (l:List (Nat×CommCase×List Way)):Fit P (fun _=>True) 0 (do
   let a <- choose (.select l.length)
   let b <- choose (.extern "which waiting goroutine is the partner" (l.getD a (0,default,[])).2.2.length)
   pure ((l.getD a (0,default,[])).1,(l.getD a (0,default,[])).2.1,(l.getD a (0,default,[])).2.2.getD b .closed):Sem (Nat×CommCase×Way)) :=
 aQ (bD P _) fun _=>aQ (bD P _) fun _=>aq P _
theorem comm_local (g:Goroutine) (cases:Array CommCase) (blocking:Bool) (shape:CommShape) (w:World) :
  (∃ o w',(communicate P mT #[ph] 0 g cases blocking shape w).1=.ended o w')\/
  (communicate P mT #[ph] 0 g cases blocking shape w=(.next { world:=w,gs:=#[{ g with status:=.blocked,offers:=some (cases,shape) }],rest:=mT },#[]))\/
  (∃ (g':Goroutine) (w':World) (acts:Array MemAct) (m:Nat),
   g'.callers=g.callers/\g'.dying=g.dying/\(g'.status=.running\/g'.status=g.status)/\(g'.offers=none\/g'.offers=g.offers)/\(∀ a∈acts,∀ m,a≠.mark m)/\((∃ v,g'.frame=g.frame.finish v)\/∃ v,g'.frame=g.frame.raise v)/\
   w'=re w' w.tape (w.drawn+m)/\communicate P mT #[ph] 0 g cases blocking shape w=(.next { world:=w',gs:=#[g'],rest:=mT },acts.map fun a=>{ g:=0,fn:=g.frame.fn,pos:=g.frame.place,act:=a })/\
   ∀ τ d,Alike w m τ d->communicate P mT #[ph] 0 g cases blocking shape (re w τ d)=(.next { world:=re w' τ (d+m),gs:=#[g'],rest:=mT },acts.map fun a=>{ g:=0,fn:=g.frame.fn,pos:=g.frame.place,act:=a })):=by
 have hh:∀ τ d,(re w τ d).heap=w.heap:=fun _ _=>rfl
 have hws:∀ τ d c,ways (re w τ d) #[] c=ways w #[] c:=fun _ _ _=>rfl
 unfold communicate
 simp only [ways_noP noP_ph,noP_ph _ _,mX (rest:=mT) rfl,hh,hws]
 split
 ·exact .inl ⟨_,_,rfl⟩
 rename_i hill
 split
 ·split
  ·exact .inr (.inl (by simp))
  ·refine .inr (.inr ⟨g.finishComm P cases shape (-1) undef false,w,#[],0,rfl,rfl,.inl rfl,.inl rfl,(by simp),.inl ⟨_,rfl⟩,rfl,by simp,fun τ d _=>by simp⟩)
 ·rename_i hne
  generalize hl:(List.filter (fun x=>!x.2.snd.isEmpty) (List.map (fun x=>(x.snd,x.fst,ways w #[] x.fst)) cases.zipIdx.toList))=l
  have hl2:∀ x∈l,∀ y∈x.2.2,∀ a b,y≠.partner a b:=by
   intro x hx y hy
   rw [<- hl] at hx
   obtain ⟨⟨c,k⟩,_,rfl⟩:=List.mem_map.1 (List.mem_filter.1 hx).1
   exact ways_way hy
  have hway:=fun k c y w' h=>pick_way (P:=P) (w:=w) hl2 (k:=k) (c:=c) (y:=y) (w':=w') h
  have hal:=mV P _ 0 w #[] (fit_pick (P:=P) l)
  simp only [Sem.runT_fst] at hal
  generalize hp:(do
   let a <- choose (.select l.length)
   let b <- choose (.extern "which waiting goroutine is the partner" (l.getD a (0,default,[])).2.2.length)
   pure ((l.getD a (0,default,[])).1,(l.getD a (0,default,[])).2.1,(l.getD a (0,default,[])).2.2.getD b .closed):Sem (Nat×CommCase×Way))=pk at hal hway ⊢
  cases hr:pk.run P w with
  | halt x w1=>exact .inl ⟨_,_,rfl⟩
  | ok x w1 =>
   obtain ⟨k,c,way⟩:=x
   have hnp:=hway k c way w1 hr
   obtain ⟨m,e1,e2⟩:=hal (by rw [hr];rfl)
   rw [hr] at e1 e2
   simp only [reR,Result.ok.injEq,true_and] at e1
   have e3:∀ τ d,Alike w m τ d->pk.run P (re w τ d)=.ok (k,c,way) (re w1 τ (d+m)):=fun τ d ha=>by
    have:=congrArg Prod.fst (e2 τ d ha)
    rw [Sem.runT_fst] at this
    exact this
   have hpan:∀ w,(runtimePanic (.plain "send on closed channel"):Sem Unit).run P w=.halt (.panic (.iface P.rt.plainError (strVal "send on closed channel"))) w:=fun w=>rfl
   have hh1:∀ τ d,(re w1 τ d).heap=w1.heap:=fun _ _=>rfl
   dsimp only
   generalize hrr:Goroutine.again.match_3 (fun _=>Nat) c.chan (fun r=>r) (fun _=>0)=rr
   cases way with
   | partner a b=>exact absurd rfl (hnp a b)
   | sendClosed =>
    refine .inr (.inr ⟨{ g with frame:=g.frame.raise [{ v:=.iface P.rt.plainError (strVal "send on closed channel"),recovered:=false }] },w1,#[],m,rfl,rfl,.inr rfl,.inr rfl,by simp,.inr ⟨_,rfl⟩,e1,by simp only [hpan];simp,fun τ d ha=>by simp only [e3 τ d ha,hpan];simp⟩)
   | closed =>
    refine .inr (.inr ⟨g.finishComm P cases shape k c.zero false,w1,#[.recvClosed rr],m,rfl,rfl,.inl rfl,.inl rfl,by simp,.inl ⟨_,rfl⟩,e1,by simp,fun τ d ha=>by simp only [e3 τ d ha,hrr];simp⟩)
   | buffer =>
    cases ho:w1.heap[rr]? with
    | none=>exact .inl ⟨_,_,rfl⟩
    | some o =>
     cases o with
     | chan cap buf closed bV rcvd tm =>
      cases hs:c.send with
      | some v =>
       refine .inr (.inr ⟨g.finishComm P cases shape k undef false,{ w1 with heap:=w1.heap.setIfInBounds rr (.chan cap (buf.push v) closed (bV+1) rcvd tm) },#[.send rr bV,.sendDone rr bV],m,rfl,rfl,.inl rfl,.inl rfl,by simp,.inl ⟨_,rfl⟩,by rw [e1];rfl,by simp,fun τ d ha=>by simp only [e3 τ d ha,hh1,hrr,ho,hs];simp [re]⟩)
      | none =>
       refine .inr (.inr ⟨g.finishComm P cases shape k (buf.getD 0 undef) true,{ w1 with heap:=w1.heap.setIfInBounds rr (.chan cap (buf.extract 1 buf.size) closed bV (rcvd+1) tm) },#[.recv rr rcvd cap,.recvDone rr rcvd],m,rfl,rfl,.inl rfl,.inl rfl,by simp,.inl ⟨_,rfl⟩,by rw [e1];rfl,by simp,fun τ d ha=>by simp only [e3 τ d ha,hh1,hrr,ho,hs];simp [re]⟩)
     | _=>exact .inl ⟨_,_,rfl⟩
end Lf
namespace Lf
open Go Go.Conc
variable {P : Program}
structure dx (g:Goroutine):Prop where
 ok:kW g
 status:g.status=.running
 dying:g.dying=none
 offers:g.offers=none
structure Lost (g:Goroutine):Prop where
 ok:kW g
 awake:∀ t,g.status≠.sleeping t
 lost:g.dying≠none\/g.status≠.running
structure Alone (P:Program) (g:Goroutine) (w:World) (g':Goroutine) (w':World) (ops:Array MemOp):Prop where
 own:∀ op∈ops,op.g=0
 hears:∀ t,Deaf t 0=0->Deaf (t++ops) 0=0
 alike:∃ m,w'=re w' w.tape (w.drawn+m)/\∀ τ d,Alike w m τ d->stepT P (solo g (re w τ d))=(.next (solo g' (re w' τ (d+m))),ops)
 beside:∀ (gs:Array Goroutine) (sl:Option (Nat×Nat)),gs[0]? = some g->(∀ i x,0<i->gs[i]? = some x->x.status=.running\/x.status=.finished)->
  ∃ f:Goroutine->Goroutine,(∀ x,(x.status=.running\/x.status=.finished)->f x=x)/\runT P (crowd gs w sl) 0=(.next (crowd ((gs.map f).setIfInBounds 0 g') w' sl),ops)
theorem noP_stand {gs:Array Goroutine} (h:∀ i x,0<i->gs[i]? = some x->x.status=.running\/x.status=.finished):NoP (gs.setIfInBounds 0 ph):=by
 intro r s
 refine partners_nil fun j x hx=>?_
 rcases getElem?_stand gs 0 j x hx with ⟨_,rfl⟩ | ⟨hj,hx⟩
 ·exact offersAt_ph r s
 ·refine offersAt_of_not_blocked ?_ r s
  rcases h j x (by omega) hx with h | h<;>rw [h]<;>simp
theorem Deaf_acts (t:Trace) (fn:FuncId) (pos:String) (acts:Array MemAct) (h:∀ a∈acts,∀ m,a≠.mark m):Deaf (t++acts.map fun a=>{ g:=0,fn,pos,act:=a }) 0=Deaf t 0:=by
 obtain ⟨l⟩:=acts
 induction l generalizing t with
 | nil=>simp
 | cons a l ih =>
  have h1:=ih (t++#[{ g:=0,fn,pos,act:=a }]) (fun x hx=>h x (by simp at hx ⊢;exact .inr hx))
  have e:(t++(Array.map (fun a=>({ g:=0,fn,pos,act:=a }:MemOp)) ⟨a::l⟩))=t++#[{ g:=0,fn,pos,act:=a }]++Array.map (fun a=>({ g:=0,fn,pos,act:=a }:MemOp)) ⟨l⟩:=by
   rw [Array.append_assoc];simp
  rw [e,h1]
  show Trace.deaf _ 0 _=Trace.deaf t 0 t.size
  have hne:=h a (by simp)
  rw [Array.size_append]
  have hlast:(t++#[({ g:=0,fn,pos,act:=a }:MemOp)])[t.size]? = some { g:=0,fn,pos,act:=a }:=by rw [Array.getElem?_append_right (Nat.le_refl _)];simp
  have hold:∀ n,n<=t.size->Trace.deaf (t++#[({ g:=0,fn,pos,act:=a }:MemOp)]) 0 n=Trace.deaf t 0 n:=by
   intro n
   induction n with
   | zero=>intro _;rfl
   | succ n ihn =>
    intro hn
    unfold Trace.deaf
    rw [getElem?_append_old (by omega),ihn (by omega)]
  rw [<- hold t.size (Nat.le_refl _)]
  show Trace.deaf (t++#[_]) 0 (t.size+1)=_
  rw [Trace.deaf]
  rw [hlast]
  split
  ·rename_i h1;simp only [Option.some.injEq,MemOp.mk.injEq] at h1;exact absurd h1.2.2.2 (hne _)
  ·rename_i h1;simp only [Option.some.injEq,MemOp.mk.injEq] at h1;exact absurd h1.2.2.2 (hne _)
  ·rfl
theorem solo_step (hP:Plain P) {g:Goroutine} (hg:kW g) (hs:g.status=.running) {w:World} {m':Machine} {ops:Array MemOp} (h:stepT P (solo g w)=(.next m',ops)) :
  2<=m'.gs.size\/∃ g' w',m'=solo g' w'/\(Lost g'\/(g.dying=none/\(g.offers=none->dx g'/\Alone P g w g' w' ops))):=by
 rw [stepT_solo hs] at h
 have hl:=local_stepG hP hg w
 unfold Local at hl
 dsimp only at hl
 cases hx:stepG P true g w with
 | go g' w' es =>
  rw [hx] at hl
  obtain ⟨h1,h2,h3,h4,h5⟩:=hl
  rw [runT_solo_go hx] at h
  simp only [Prod.mk.injEq,Stepped.next.injEq] at h
  obtain ⟨rfl,rfl⟩:=h
  refine .inr ⟨g',w',rfl,?_⟩
  by_cases hf:g'.dying=none/\g'.status=.running
  ·obtain ⟨h6,h7,m,h8,h9⟩:=h5 hf.1 hf.2
   refine .inr ⟨?_,fun ho=>⟨⟨h1,hf.2,hf.1,h6⟩,⟨?_,?_,⟨m,h8,fun τ d ha=>?_⟩,?_⟩⟩⟩
   ·cases hd:g.dying with
    | none=>rfl
    | some d=>exact absurd hf.1 (h2 (by rw [hd];rfl))
   ·intro op aN;obtain ⟨e,_,rfl⟩:=Go.Conc.mem_ofEvents aN;rfl
   ·intro t ht;rw [Deaf_own,ht];exact h7
   ·rw [stepT_solo hs,runT_solo_go (h9 τ d ha)]
   ·intro gs sl h0 hq
    refine ⟨woken P g g' w',fun x hx=>?_,runT_crowd_go h0 hx⟩
    unfold woken
    split
    ·exact again_running _ hx
    ·rfl
  ·exact .inl ⟨h1,h3,by
    by_cases hd:g'.dying=none
    ·exact .inr fun e=>hf ⟨hd,e⟩
    ·exact .inl hd⟩
 | comm g₂ cs b sh w₁ es =>
  rw [hx] at hl
  obtain ⟨h1,h6',h2,h5⟩:=hl
  have hp0:(#[g]:Array Goroutine).setIfInBounds 0 ph=#[ph]:=by simp
  have lj:runT P (solo g w) 0=((communicate P mT #[ph] 0 g₂ cs b sh w₁).1,MemOp.ofEvents 0 g.frame.fn g.frame.place es++(communicate P mT #[ph] 0 g₂ cs b sh w₁).2):=by
   rw [solo_eq_crowd,runT_crowd_comm (i:=0) (g:=g) rfl hx,hp0];rfl
  rw [lj] at h
  rcases comm_local (P:=P) g₂ cs b sh w₁ with ⟨o,w',e⟩ | e | ⟨g',w',acts,m2,e1,e2,e3,e4,e5,e6,e7,e8,e9⟩
  ·rw [e] at h;cases h
  ·rw [e] at h
   cases h
   exact .inr ⟨_,w₁,rfl,.inl ⟨h1.top h1.frame rfl _ _,by simp,.inr (by simp)⟩⟩
  ·rw [e8] at h
   cases h
   have hok':kW g':=by
    have hfr:aA g'.frame/\g'.frame.kind=g₂.frame.kind:=by
     rcases e6 with ⟨v,e⟩ | ⟨v,e⟩
     ·rw [e];exact ⟨cO h1.frame v,eO _ _⟩
     ·rw [e];exact ⟨eW h1.frame v,iB _ _⟩
    obtain ⟨f',c',s',d',o'⟩:=g'
    simp only at e1 e2 hfr
    subst e1 e2
    exact h1.top hfr.1 hfr.2 _ _
   have df:g'.status=.running:=e3.elim id fun x=>x.trans h6'
   refine .inr ⟨g',w',rfl,?_⟩
   by_cases hd:g₂.dying=none
   ·obtain ⟨h6,h7,m,h8,h9⟩:=h5 hd
    refine .inr ⟨?_,fun ho=>⟨⟨hok',df,e2.trans hd,e4.elim id fun x=>x.trans h6⟩,⟨?_,?_,⟨m+m2,?_,fun τ d ha=>?_⟩,?_⟩⟩⟩
    ·cases hdd:g.dying with
     | none=>rfl
     | some d=>exact absurd hd (h2 (by rw [hdd];rfl))
    ·intro op aN
     rcases Array.mem_append.1 aN with aN | aN
     ·obtain ⟨e,_,rfl⟩:=Go.Conc.mem_ofEvents aN;rfl
     ·obtain ⟨a,_,rfl⟩:=Array.mem_map.1 aN;rfl
    ·intro t ht
     rw [<- Array.append_assoc,Deaf_acts _ _ _ _ e5,Deaf_own,ht];exact h7
    ·have a1:w₁.tape=w.tape:=by rw [h8];rfl
     have a2:w₁.drawn=w.drawn+m:=by rw [h8];rfl
     rw [a1,a2] at e7;rw [<- Nat.add_assoc];exact e7
    ·have a1:w₁.tape=w.tape:=by rw [h8];rfl
     have a2:w₁.drawn=w.drawn+m:=by rw [h8];rfl
     have hxx:=h9 τ d fun j hj=>ha j (by omega)
     have hcc:runT P (solo g (re w τ d)) 0=((communicate P mT #[ph] 0 g₂ cs b sh (re w₁ τ (d+m))).1,MemOp.ofEvents 0 g.frame.fn g.frame.place es++(communicate P mT #[ph] 0 g₂ cs b sh (re w₁ τ (d+m))).2):=by
      rw [solo_eq_crowd,runT_crowd_comm (i:=0) (g:=g) rfl hxx,hp0];rfl
     rw [stepT_solo hs,hcc,e9 τ (d+m) fun j hj=>by rw [a1,a2];have:=ha (m+j) (by omega);rw [<- Nat.add_assoc] at this;rw [this,<- Nat.add_assoc],<- Nat.add_assoc]
     rfl
    ·intro gs sl h0 hq
     refine ⟨id,fun _ _=>rfl,?_⟩
     rw [runT_crowd_comm (i:=0) h0 hx,comm_lone (noP_stand hq) (rest:=(crowd gs w sl).rest) rfl,e8]
     simp [rI,crowd]
   ·exact .inl ⟨hok',(by rw [df];simp),.inl (by rw [e2];exact hd)⟩
 | coroswitch g₂ c x w₁ es =>
  rw [hx] at hl
  obtain ⟨h1,h6',h2,h5⟩:=hl
  have dQ:∀ (gs:Array Goroutine) (w w₁:World) (sl:Option (Nat×Nat)),gs[0]? = some g->stepG P true g w=.coroswitch g₂ c x w₁ es->runT P (crowd gs w sl) 0=(match w₁.heap[c]? with
    | some (.coro (some h))=>.next (crowd ((gs.setIfInBounds 0 (if x then { g₂ with status:=.finished } else { g₂ with frame:=g₂.frame.finish undef,status:=.parked })).modify h (fun o=>{ o with status:=.running })) { w₁ with heap:=w₁.heap.setIfInBounds c (.coro (if x then none else some 0)) } sl)
    | some (.coro none)=>(match endThrow g₂.frame "coroswitch on exited coro" w₁ with | .go g w _=>.next (crowd (gs.setIfInBounds 0 g) w sl) | _=>.ended (.stuck "" "") w₁)
    | _=>.ended (.stuck "coroswitch: no coroutine" "") w₁,MemOp.ofEvents 0 g.frame.fn g.frame.place es):=by
   intro gs w w₁ sl h0 hx
   obtain ⟨cz,rfl⟩:=Array.getElem?_eq_some_iff.1 h0
   have hsw:=swapAt_of_lt cz { (default:Goroutine) with status:=.finished }
   show runT P { world:=w,gs:=gs,rest:={ timers:=#[],alone:=none,slice:=sl } } 0=_
   unfold runT
   simp only [hsw,beq_self_eq_true,hx,GStep.es,set_setIfInBounds cz,crowd]
   rfl
  rw [solo_eq_crowd,dQ #[g] w w₁ none rfl hx] at h
  cases ho:w₁.heap[c]? with
  | none=>rw [ho] at h;cases h
  | some o =>
   cases o with
   | coro q =>
    cases q with
    | none =>
     rw [ho] at h
     simp only [endThrow,dieOf,Prod.mk.injEq,Stepped.next.injEq] at h
     obtain ⟨rfl,rfl⟩:=h
     exact .inr ⟨_,w₁,rfl,.inl ⟨kW.dead rfl rfl h1.frame (fun _ h=>by cases h),by simp,.inl (by simp)⟩⟩
    | some q =>
     rw [ho] at h
     simp only [Prod.mk.injEq,Stepped.next.injEq] at h
     obtain ⟨rfl,rfl⟩:=h
     generalize hme:(if x then { g₂ with status:=.finished } else { g₂ with frame:=g₂.frame.finish undef,status:=.parked }:Goroutine)=me
     have se:∀ st,kW { me with status:=st }:=fun st=>by
      rw [<- hme]
      cases x
      ·exact h1.top (cO h1.frame undef) (eO _ _) st _
      ·exact h1.top h1.frame rfl st _
     have hmd:me.dying=g₂.dying:=by rw [<- hme];cases x<;>rfl
     have hmo:me.offers=g₂.offers:=by rw [<- hme];cases x<;>rfl
     have hms:me.status≠.running/\∀ t,me.status≠.sleeping t:=by rw [<- hme];cases x<;>simp
     by_cases hq:q=0
     ·subst hq
      have e1:∀ gs:Array Goroutine,(gs.setIfInBounds 0 me).modify 0 (fun o=>{ o with status:=.running })=gs.setIfInBounds 0 { me with status:=.running }:=fun gs=>by
       apply Array.ext_getElem?
       intro j
       rw [Array.getElem?_modify]
       by_cases hj:0=j
       ·subst hj
        by_cases cz:0<gs.size
        ·rw [Array.getElem?_setIfInBounds_self_of_lt cz,Array.getElem?_setIfInBounds_self_of_lt cz];rfl
        ·rw [Array.getElem?_eq_none (by simpa using Nat.le_of_not_lt cz),Array.getElem?_eq_none (by simpa using Nat.le_of_not_lt cz)];rfl
       ·simp [Array.getElem?_setIfInBounds_ne hj,hj]
      rw [e1]
      refine .inr ⟨{ me with status:=.running },{ w₁ with heap:=w₁.heap.setIfInBounds c (.coro (if x then none else some 0)) },by simp [solo,crowd],?_⟩
      by_cases hd:g₂.dying=none
      ·obtain ⟨h6,h7,m,h8,h9⟩:=h5 hd
       refine .inr ⟨?_,fun _=>⟨⟨se _,rfl,hmd.trans hd,hmo.trans h6⟩,⟨?_,?_,⟨m,by rw [h8];rfl,fun τ d ha=>?_⟩,?_⟩⟩⟩
       ·cases hdd:g.dying with
        | none=>rfl
        | some d=>exact absurd hd (h2 (by rw [hdd];rfl))
       ·intro op aN;obtain ⟨e,_,rfl⟩:=Go.Conc.mem_ofEvents aN;rfl
       ·intro t ht;rw [Deaf_own,ht];exact h7
       ·rw [stepT_solo hs,solo_eq_crowd,dQ #[g] _ _ none rfl (h9 τ d ha)]
        have ho':(re w₁ τ (d+m)).heap[c]? = some (.coro (some 0)):=ho
        rw [ho']
        simp only [hme,e1]
        simp [solo,crowd,re]
       ·intro gs sl h0 _
        refine ⟨id,fun _ _=>rfl,?_⟩
        rw [dQ gs w w₁ sl h0 hx,ho]
        simp only [hme,e1,Array.map_id]
      ·exact .inl ⟨se _,by simp,.inl (by show me.dying≠none;rw [hmd];exact hd)⟩
     ·have e1:((#[g]:Array Goroutine).setIfInBounds 0 me).modify q (fun o=>{ o with status:=.running })=#[me]:=by
       apply Array.ext_getElem?
       intro j
       rw [Array.getElem?_modify]
       by_cases hj:q=j
       ·subst hj;simp [hq]
       ·simp [hj]
      rw [e1]
      exact .inr ⟨me,_,rfl,.inl ⟨se me.status,hms.2,.inr hms.1⟩⟩
   | _=>rw [ho] at h;cases h
 | spawn a b c d =>
  rw [runT_solo_spawn hx] at h
  cases h
  exact .inl (by simp [duo])
 | ended o w' es =>
  have:(runT P (solo g w) 0).1=.ended o w':=by rw [solo_eq_crowd,runT_many_ended (i:=0) (g:=g) rfl hx]
  rw [h] at this;cases this
 | _=>rw [hx] at hl;exact hl.elim
end Lf
end Go.Proofs.YtpbbmagjhkakgaaGreatDoor
