import Derived.Test.YtpbbmagjhkakgaaGreatDoorLfOpenToLfLead
import Derived.Test.YtpbbmagjhkakgaaGreatDoorPureTreeToPureTab
import Derived.Test.YtpbbmagjhkakgaaGreatDoorShelfToPureScan
import Derived.Conc.LeavingOf
import Derived.Conc.Beside
import Derived.Lib.Strings
namespace Go.Proofs.YtpbbmagjhkakgaaGreatDoor.Lf
open Go Go.Conc
variable {P : Program} {K : Goroutine → World → Prop} {b : Frame} {k : List Item} {cs : List Frame} {a : Act} {w : World}
def unseq:List Code->Code->Code
 | [],z=>z
 | c::l,z=>.seq c (unseq l z)
def wps (P:Program):List Code->(Act->World->Prop)->Act->World->Prop
 | [],J,a,w=>J a w
 | c::l,J,a,w=>c.wp P (fun e a' w'=>e=.normal/\wps P l J a' w') a w
theorem wps_steps {z:Code} {J:Act->World->Prop}:∀ (l:List Code) (a:Act) (w:World),wps P l J a w->∃ a' w',J a' w'/\Steps P (lone (b.at a (.code (unseq l z)::k)) cs w) (lone (b.at a' (.code z::k)) cs w')
 | [],a,w,h=>⟨a,w,h,.refl _ _⟩
 | c::l,a,w,h=>by
  obtain ⟨e,a1,w1,h1,h2⟩:=h b (.code (unseq l z)::k) cs
  obtain ⟨rfl,h1⟩:=h1
  obtain ⟨a',w',h3,h4⟩:=wps_steps l a1 w1 h1
  exact ⟨a',w',h3,.head step_seq (Steps.trans h2 h4)⟩
theorem LeadsR.pieces (hP:Plain P) (l:List Code) {z:Code} (J:Act->World->Prop) (hJ:∀ a w τ d,J a w->J a (re w τ d)) (hi:∀ it∈k,okItem it) (hc:∀ fr∈cs,okFrame fr) (h:∀ τ d,wps P l J a (re w τ d))
  (hk:∀ a' w',J a' w'->LeadsR P K (G (b.at a' (.code z::k)) cs) w'):LeadsR P K (G (b.at a (.code (unseq l z)::k)) cs) w:=by
 have h1:LeadsR P (fun g w'=>∃ a',J a' w'/\g=G (b.at a' (.code z::k)) cs) (G (b.at a (.code (unseq l z)::k)) cs) w:=by
  refine .of_steps hP ?_ (fine_at hi hc) fun τ d=>?_
  ·rintro g w τ d ⟨a',h1,h2⟩
   exact ⟨a',hJ _ _ _ _ h1,h2⟩
  ·obtain ⟨a',w',h1,h2⟩:=wps_steps (b:=b) (k:=k) (cs:=cs) (z:=z) l a (re w τ d) (h τ d)
   exact ⟨_,w',h2,G_not_lost _ _,fun _=>⟨a',h1,rfl⟩⟩
 refine h1.trans ?_
 rintro g w' ⟨a',h1,rfl⟩
 exact hk a' w' h1
theorem bodyPost_re {fn:Func} {R:Ending->World->Prop} (hR:∀ e w τ d,R e w->R e (re w τ d)):∀ e a w τ d,bodyPost P fn R e a w->bodyPost P fn R e a (re w τ d):=by
 intro e a w τ d h
 cases e with
 | normal=>obtain ⟨hd,v,hr,hv⟩:=h;exact ⟨hd,v,results_re hr τ d,hR _ _ _ _ hv⟩
 | ret=>obtain ⟨hd,v,hr,hv⟩:=h;exact ⟨hd,v,results_re hr τ d,hR _ _ _ _ hv⟩
 | panic chain=>obtain ⟨hd,hv⟩:=h;exact ⟨hd,hR _ _ _ _ hv⟩
 | exit id=>exact h
 | goto l=>exact h
 | outgrown=>exact hR _ _ _ _ h
theorem LeadsR.last (hP:Plain P) {f:FuncId} {fn:Func} {z:Code} {R:Ending->World->Prop} (hc:∀ fr∈cs,okFrame fr) (hf:P.funcs[f]? = some fn) (hR:∀ e w τ d,R e w->R e (re w τ d)) (hno:∀ w,¬ R .outgrown w)
  (h:∀ τ d,z.wp P (bodyPost P fn R) a (re w τ d)):LeadsR P (fun g w'=>∃ e fr,g=G fr cs/\okFrame fr/\R e w'/\fr.fn=f/\fr.leaving P w' e) (G ((base f).at a [.code z]) cs) w:=by
 refine LeadsR.code (Q:=bodyPost P fn R) (HWp.of_wp hP (bodyPost_re hR) (fun a w x=>hno w x) h) ⟨fun _ h=>(by cases h),hc,fun _ _ _ x=>x.elim,fun _ _ _ x=>x.elim⟩ fun e a' w' g h1 h2=>?_
 cases e with
 | normal =>
  cases h2
  obtain ⟨hd,v,hr,hv⟩:=h1
  exact LeadsR.move hP (fine_G (okFrame_at (fun _ h=>by cases h)) hc) (fun _=>.one step_end) fun hf'=>.here fun τ d=>⟨.returned v,_,rfl,hf'.ok.frame,hR _ _ _ _ hv,rfl,rfl,hd,rfl,fn,hf,results_re hr τ d⟩
 | ret =>
  obtain ⟨todo,h3,rfl⟩:=h2
  obtain ⟨hd,v,hr,hv⟩:=h1
  exact .here fun τ d=>⟨.returned v,_,rfl,h3,hR _ _ _ _ hv,rfl,rfl,hd,rfl,fn,hf,results_re hr τ d⟩
 | panic chain =>
  obtain ⟨todo,h3,rfl⟩:=h2
  obtain ⟨hd,hv⟩:=h1
  exact .here fun τ d=>⟨.panicked chain,_,rfl,h3,hR _ _ _ _ hv,rfl,rfl,hd,fn,hf⟩
 | exit id=>exact h1.elim
 | goto l=>exact h1.elim
 | outgrown=>exact h2.elim
theorem LeadsR.hpiece {c:Code} (J:Act->World->Prop) (hi:∀ it∈k,okItem it) (hc:∀ fr∈cs,okFrame fr) (h:HWp P c (fun e a' w'=>e=.normal/\J a' w') a w) (hk:∀ a' w',J a' w'->LeadsR P K (G (b.at a' k) cs) w'):LeadsR P K (G (b.at a (.code c::k)) cs) w :=
 LeadsR.code h ⟨hi,hc,fun _ _ _ x=>(by cases x.1),fun _ _ _ x=>(by cases x.1)⟩ fun e a' w' g x y=>by
  obtain ⟨rfl,x⟩:=x
  obtain rfl:g=_:=y
  exact hk a' w' x
theorem HWp.seqL (hP:Plain P) {x y:Code} {Q:Exit->Act->World->Prop} (J:Act->World->Prop) (hJ:∀ a w τ d,J a w->J a (re w τ d)) (h:∀ τ d,x.wp P (fun e a' w'=>e=.normal/\J a' w') a (re w τ d)) (hk:∀ a w,J a w->HWp P y Q a w):HWp P (.seq x y) Q a w :=
 HWp.seq' hP J ((HWp.of_wp hP (Q:=fun e a' w'=>e=.normal/\J a' w') (fun e a w τ d x=>⟨x.1,hJ _ _ _ _ x.2⟩) (fun a w x=>by cases x.1) h).mono fun e a w x=>by obtain ⟨rfl,x⟩:=x;exact x) hk
theorem HWp.seqH (hP:Plain P) {x y:Code} {Q:Exit->Act->World->Prop} (J:Act->World->Prop) (h:HWp P x (fun e a' w'=>e=.normal/\J a' w') a w) (hk:∀ a w,J a w->HWp P y Q a w):HWp P (.seq x y) Q a w :=
 HWp.seq' hP J (h.mono fun e a w x=>by obtain ⟨rfl,x⟩:=x;exact x) hk
theorem HWp.of_lead {c:Code} {J:Act->World->Prop} (h:∀ (b:Frame) (k:List Item) (cs:List Frame),(∀ it∈k,okItem it)->(∀ fr∈cs,okFrame fr)->LeadsR P (fun g w'=>∃ a',J a' w'/\g=G (b.at a' k) cs) (G (b.at a (.code c::k)) cs) w):HWp P c (fun e a' w'=>e=.normal/\J a' w') a w :=
 fun b k cs hb=>(h b k cs hb.items hb.frames).mono fun _ _ ⟨a',h1,h2⟩=>⟨.normal,a',⟨rfl,h1⟩,h2⟩
theorem HWp.blockN (hP:Plain P) {id:Nat} {c:Code} {J:Act->World->Prop} (hJ:∀ a w τ d,J a w->J a (re w τ d)) (h:HWp P c (fun e a' w'=>e=.normal/\J a' w') a w):HWp P (.block id c) (fun e a' w'=>e=.normal/\J a' w') a w :=
 HWp.block hP (fun a w τ d x=>⟨rfl,hJ _ _ _ _ x.2⟩) (h.mono fun e a w x=>by obtain ⟨rfl,x⟩:=x;exact ⟨rfl,x⟩)
theorem HWp.loneN (hP:Plain P) {c:Code} {J:Act->World->Prop} (hJ:∀ a w τ d,J a w->J a (re w τ d)) (h:∀ τ d,c.wp P (fun e a' w'=>e=.normal/\J a' w') a (re w τ d)):HWp P c (fun e a' w'=>e=.normal/\J a' w') a w :=
 HWp.of_wp hP (fun e a w τ d x=>⟨x.1,hJ _ _ _ _ x.2⟩) (fun a w x=>by cases x.1) h
theorem HWp.blockLoop (hP:Plain P) {id:Nat} {c:Code} (I:Nat->Act->World->Prop) (J:Act->World->Prop) (hJ:∀ a w τ d,J a w->J a (re w τ d)) (n₀:Nat) (h₀:I n₀ a w)
  (round:∀ n a w,I n a w->HWp P c (fun e a' w'=>(e=.normal/\∃ m,m<n/\I m a' w')\/(e=.exit id/\J a' w')) a w):HWp P (.block id (.loop c)) (fun e a' w'=>e=.normal/\J a' w') a w:=by
 refine HWp.block hP (fun a w τ d x=>⟨rfl,hJ _ _ _ _ x.2⟩) (HWp.loop hP I n₀ h₀ fun n a w hI=>(round n a w hI).mono fun e a w x=>?_)
 rcases x with ⟨rfl,x⟩ | ⟨rfl,x⟩
 ·exact x
 ·simp only [Exit.then,Exit.inBlock,if_true]
  exact ⟨trivial,x⟩
end Go.Proofs.YtpbbmagjhkakgaaGreatDoor.Lf
namespace Go.Proofs.YtpbbmagjhkakgaaGreatDoor.Lf
open Go Go.Conc
variable {P : Program}
theorem stepG_end {fr:Frame} {fn:Func} {t:Tmp} {w:World} {v:Value} (h:fr.leaving P w (.returned v)) (hf:P.funcs[fr.fn]? = some fn) (hr:fn.results=#[.tmp t]) (hin:P.inits.idxOf? fr.fn=none):stepG P true (G fr []) w=.ended (.done v) w #[]:=by
 obtain ⟨hm,hd,hk,fn',hf',hr'⟩:=h
 rw [hf] at hf'
 cases hf'
 rw [results_tmp hr] at hr'
 simp only [Result.ok.injEq,and_true] at hr'
 simp only [Array.getD_eq_getD_getElem?] at hr'
 simp [stepG,unwind,doReturn,hm,hd,hf,hk,hin,results,hr,hr',G]
 have e:seen P fr.fn #[]=#[]:=by simp [seen]
 rw [e]
 rfl
theorem HCalls.good {f:FuncId} {fn:Func} {t:Tmp} {args:Array Value} {W:World} {R:Ending->World->Prop} (h:HCalls P f args W R) (hf:P.funcs[f]? = some fn) (hr:fn.results=#[.tmp t]) (hin:P.inits.idxOf? f=none) (hR:∀ e w τ d,R e w->R e (re w τ d)) (hret:∀ e w,R e w->∃ v,e=.returned v) :
  ∃ M last o w' t',runNT P (M+1) (solo (G (Frame.enter P f args .normal) []) W) #[]=(.ended o w',t')/\runN P M (solo (G (Frame.enter P f args .normal) []) W)=.next last/\step P last=.ended o w'/\Conc.Good P (fun v w'=>R (.returned v) w') last o w' t':=by
 obtain ⟨N,gs',g',w',sl',t',h1,⟨f0,⟨q,fq⟩,⟨B,fB⟩⟩,e,fr,rfl,_,h3,h4,h5⟩:=(h [] (fun _ hx=>by cases hx)).leads #[G (Frame.enter P f args .normal) []] none #[] ⟨rfl,⟨_,leavers_one P _⟩,⟨0,past_nil⟩⟩
 obtain ⟨v,rfl⟩:=hret e w' h3
 have hG:Goes P true AtRel (fun _ _ _=>False) (AtEnd P (fun _=>False) B (fun v w'=>R (.returned v) w')) 0 (G fr []) w':=by
  rintro w₁ ⟨d,rfl⟩
  have hl:fr.leaving P (re w' w'.tape d) (.returned v):=leaving_re h5 w'.tape d
  exact ⟨rfl,v,#[],stepG_end hl (by rw [h4];exact hf) hr (by rw [h4];exact hin),fun e he=>by simp at he,hR _ _ w'.tape d h3⟩
 obtain ⟨M,last,o,w2,t2,k1,k2,k3,k4⟩:=beside_ends (fun _ _ _ x=>x.elim) (sl:=sl') f0 fq fB hG
 refine ⟨N+M,last,o,w2,t2,?_,?_,k3,k4⟩
 ·rw [Nat.add_assoc,runNT_add]
  show (match runNT P N (crowd #[G (Frame.enter P f args .normal) []] W none) #[] with | (.next m',t')=>runNT P (M+1) m' t' | x=>x)=_
  rw [h1]
  exact k1
 ·have h1':runN P N (solo (G (Frame.enter P f args .normal) []) W)=.next (crowd gs' w' sl'):=by
   rw [<- runNT_fst P N _ #[]]
   exact congrArg Prod.fst h1
  rw [runN_add,h1']
  exact k2
end Go.Proofs.YtpbbmagjhkakgaaGreatDoor.Lf
namespace Go.Proofs.YtpbbmagjhkakgaaGreatDoor
def isDig (c:UInt8):Prop:=48<=c.toNat/\c.toNat<=57
theorem dig_toNat (n:Nat) (h:n<10):(UInt8.ofNat (48+n)).toNat=48+n:=by
 rw [UInt8.toNat_ofNat'];omega
theorem dec_ne (u:Nat):Lib.decDigits u≠[]:=by
 have h:=Lib.decDigits_length u
 have p:=Lib.nDigits_pos u
 intro e
 rw [e] at h
 simp at h
 omega
theorem dec_dig (u:Nat):∀ c,c∈Lib.decDigits u->isDig c:=by
 induction u using Nat.strongRecOn with
 | _ u ih =>
  intro c hc
  rw [Lib.decDigits] at hc
  by_cases h:u<10
  ·rw [dif_pos h] at hc
   rw [List.mem_singleton] at hc
   subst hc
   unfold isDig
   rw [dig_toNat u h];omega
  ·rw [dif_neg h] at hc
   rcases List.mem_append.1 hc with hc | hc
   ·exact ih (u/10) (by omega) c hc
   ·rw [List.mem_singleton] at hc
    subst hc
    unfold isDig
    rw [dig_toNat (u % 10) (by omega)];omega
theorem parse_append (l m:List UInt8):∀ acc:Nat,∀ a,Lib.parseUint10 acc l=.ok a->Lib.parseUint10 acc (l++m)=Lib.parseUint10 a m:=by
 induction l with
 | nil=>intro acc a h;simp only [Lib.parseUint10] at h;injection h with h;subst h;rfl
 | cons c l ih =>
  intro acc a h
  simp only [Lib.parseUint10,List.cons_append] at h ⊢
  split at h
  ·split at h
   ·cases h
   ·split at h
    ·cases h
    ·rename_i h1 h2 h3
     rw [if_pos h1,if_neg h2,if_neg h3]
     exact ih _ _ h
  ·cases h
theorem parse_dec (u:Nat) (hu:u<=1000000000):Lib.parseUint10 0 (Lib.decDigits u)=.ok u:=by
 induction u using Nat.strongRecOn with
 | _ u ih =>
  rw [Lib.decDigits]
  by_cases h:u<10
  ·rw [dif_pos h]
   have e:=dig_toNat u h
   simp only [Lib.parseUint10,e]
   rw [if_pos (by omega),if_neg (by omega),if_neg (by omega)]
   congr 1
   omega
  ·rw [dif_neg h,parse_append _ _ _ _ (ih (u/10) (by omega) (by omega))]
   have e:=dig_toNat (u % 10) (by omega)
   simp only [Lib.parseUint10,e]
   rw [if_pos (by omega),if_neg (by omega),if_neg (by omega)]
   congr 1
   omega
theorem dec_head (u:Nat) (hu:1<=u):(Lib.decDigits u).headD 0≠48:=by
 induction u using Nat.strongRecOn with
 | _ u ih =>
  rw [Lib.decDigits]
  by_cases h:u<10
  ·rw [dif_pos h]
   intro e
   have e2:=congrArg UInt8.toNat e
   simp only [List.headD_cons] at e2
   rw [dig_toNat u h] at e2
   have:(48:UInt8).toNat=48:=rfl
   omega
  ·rw [dif_neg h]
   have hne:=dec_ne (u/10)
   have:=ih (u/10) (by omega) (by omega)
   cases hd:Lib.decDigits (u/10) with
   | nil=>exact absurd hd hne
   | cons a l=>rw [hd] at this;simpa using this
theorem atoi_digits {l:List UInt8} (hne:l≠[]) (hd:∀ c,c∈l->isDig c):Lib.atoiAll l=match Lib.parseUint10 0 l with
  | .ok u=>if 9223372036854775808<=u then .range else .ok (u:Int)
  | x=>(match x with | .ok _=>.range | .range=>.range | _=>Lib.atoiAll []):=by
 cases l with
 | nil=>exact absurd rfl hne
 | cons c r =>
  have hc:=hd c (by simp)
  unfold isDig at hc
  unfold Lib.atoiAll
  simp only
  rw [if_neg (by omega)]
  unfold Lib.parseMag
  rw [if_neg (by simp)]
  cases h:Lib.parseUint10 0 (c::r) with
  | ok u =>
   have h45:¬ c.toNat=45:=by omega
   simp only [h45,not_false_eq_true,true_and,false_and,if_false]
  | _=>rfl
theorem atoi_nonneg {l:List UInt8} (hne:l≠[]) (hd:∀ c,c∈l->isDig c) {v:Int} (h:Lib.atoiAll l=.ok v):0<=v:=by
 rw [atoi_digits hne hd] at h
 cases hp:Lib.parseUint10 0 l with
 | ok u =>
  rw [hp] at h
  simp only at h
  split at h
  ·cases h
  ·injection h with h;omega
 | range=>rw [hp] at h;cases h
 | _=>rw [hp] at h;cases h
theorem atoi_dec (u:Nat) (hu:u<=1000000000):Lib.atoiAll (Lib.decDigits u)=.ok (u:Int):=by
 rw [atoi_digits (dec_ne u) (dec_dig u),parse_dec u hu]
 simp only
 rw [if_neg (by omega)]
theorem itoa_eq (v:Int) (h:0<=v):Lib.itoa v=Lib.decDigits v.toNat:=by unfold Lib.itoa;rw [if_neg (by omega)]
theorem numB_itoa (v:Int) (h0:0<=v) (h1:v<=1000000):numB ⟨(Lib.itoa v).toArray⟩=some v:=by
 rw [itoa_eq v h0]
 unfold numB
 rw [if_neg,atoi_dec v.toNat (by omega)]
 ·have e:((v.toNat:Nat):Int)=v:=by omega
  rw [e]
  show (if 1000000<v then none else some v)=some v
  rw [if_neg (by omega)]
 ·rintro ⟨hs,hh⟩
  by_cases hv:v.toNat<10
  ·rw [Lib.decDigits,dif_pos hv] at hs
   simp [ByteArray.size] at hs
  ·exact dec_head v.toNat (by omega) hh
end Go.Proofs.YtpbbmagjhkakgaaGreatDoor
namespace Go.Proofs.YtpbbmagjhkakgaaGreatDoor
open Go.Deep (BT)
def isLet (c:UInt8):Prop:=97<=c.toNat/\c.toNat<=122
def TokOK (t:Tok):Prop :=
 (t.sign=97->t.word.data.toList≠[]/\∀ c,c∈t.word.data.toList->isLet c)/\(t.sign=48->t.word.data.toList≠[]/\∀ c,c∈t.word.data.toList->isDig c)
theorem TokOK.take {ts:List Tok} (he:Ends ts) (h:∀ t,t∈ts->TokOK t):TokOK (takeF ts).1/\∀ t,t∈(takeF ts).2->TokOK t:=by
 obtain ⟨t,r,rfl⟩:=he.cons
 by_cases hs:t.sign = -1
 ·have e:takeF (t::r)=(t,t::r):=by simp [takeF,hs]
  rw [e]
  exact ⟨h t (by simp),h⟩
 ·have e:takeF (t::r)=(t,r):=by simp [takeF,hs]
  rw [e]
  exact ⟨h t (by simp),fun x hx=>h x (List.mem_cons_of_mem _ hx)⟩
theorem ok_expect {ts r:List Tok} {s:Int} (he:Ends ts) (h:∀ t,t∈ts->TokOK t) (hx:expectF s ts=some r):∀ t,t∈r->TokOK t:=by
 unfold expectF at hx
 split at hx
 ·injection hx with hx;subst hx;exact (TokOK.take he h).2
 ·cases hx
theorem ok_num {ts r:List Tok} {v:Int} (he:Ends ts) (h:∀ t,t∈ts->TokOK t) (hx:numF ts=some (v,r)):(0<=v/\v<=1000000)/\∀ t,t∈r->TokOK t:=by
 unfold numF at hx
 split at hx
 ·rename_i hs
  have ht:=TokOK.take he h
  obtain ⟨hne,hd⟩:=ht.1.2 hs
  cases hb:numB (takeF ts).1.word with
  | none=>simp [hb] at hx
  | some x =>
   simp [hb] at hx
   obtain ⟨rfl,rfl⟩:=hx
   refine ⟨?_,ht.2⟩
   unfold numB at hb
   split at hb
   ·cases hb
   ·cases ha:Lib.atoiAll (takeF ts).1.word.data.toList with
    | ok u =>
     rw [ha] at hb
     have hb':(if 1000000<u then none else some u)=some x:=hb
     split at hb'
     ·cases hb'
     ·injection hb' with hb';subst hb'
      exact ⟨atoi_nonneg hne hd ha,by omega⟩
    | _=>rw [ha] at hb;cases hb
 ·cases hx
theorem ok_window {ts r:List Tok} {op a b:Int} (he:Ends ts) (h:∀ t,t∈ts->TokOK t) (hx:windowF op ts=some ((a,b),r)):(0<=a/\a<=b/\b<=1000000)/\(winB op=false->a=0/\b=0)/\∀ t,t∈r->TokOK t:=by
 unfold windowF at hx
 split at hx
 ·rename_i hw
  cases h1:expectF 91 ts with
  | none=>simp [h1] at hx
  | some t1 =>
   have e1:=(he.expect h1).1
   have o1:=ok_expect he h h1
   simp only [h1] at hx
   cases h2:numF t1 with
   | none=>simp [h2] at hx
   | some x =>
    obtain ⟨a',t2⟩:=x
    have e2:=(e1.num h2).1
    have o2:=ok_num e1 o1 h2
    simp only [h2] at hx
    cases h3:expectF 44 t2 with
    | none=>simp [h3] at hx
    | some t3 =>
     have e3:=(e2.expect h3).1
     have o3:=ok_expect e2 o2.2 h3
     simp only [h3] at hx
     cases h4:numF t3 with
     | none=>simp [h4] at hx
     | some y =>
      obtain ⟨b',t4⟩:=y
      have e4:=(e3.num h4).1
      have o4:=ok_num e3 o3 h4
      simp only [h4] at hx
      cases h5:expectF 93 t4 with
      | none=>simp [h5] at hx
      | some t5 =>
       have o5:=ok_expect e4 o4.2 h5
       simp only [h5] at hx
       split at hx
       ·cases hx
       ·injection hx with hx;injection hx with hx1 hx2;injection hx1 with hx1 hx3
        subst hx1;subst hx2;subst hx3
        exact ⟨by omega,(fun hf=>by rw [hw] at hf;cases hf),o5⟩
 ·injection hx with hx;injection hx with hx1 hx2;injection hx1 with hx1 hx3
  subst hx1;subst hx2;subst hx3
  exact ⟨by omega,fun _=>⟨rfl,rfl⟩,h⟩
def Gives (f:List Tok->Option (BT Pay×List Tok)):Prop:=∀ ts x r,Ends ts->(∀ t,t∈ts->TokOK t)->f ts=some (x,r)->Good x/\∀ t,t∈r->TokOK t
theorem gives_step {f:List Tok->Option (BT Pay×List Tok)} (hk:Keeps f) (hf:Gives f):Gives (stepF f):=by
 intro ts x r he h hx
 have ht:=he.take
 have ho:=TokOK.take he h
 have hsz:=he.word
 unfold stepF at hx
 split at hx
 ·rename_i hs
  cases hw:wordF (takeF ts).1 with
  | none=>simp [hw] at hx
  | some y =>
   simp [hw] at hx
   obtain ⟨rfl,rfl⟩:=hx
   refine ⟨?_,ho.2⟩
   unfold wordF at hw
   split at hw
   ·injection hw with hw;subst hw
    exact .inl ⟨rfl,rfl,rfl,rfl,rfl,rfl⟩
   ·rename_i htr
    split at hw
    ·cases hw
    ·rename_i h8
     injection hw with hw;subst hw
     obtain ⟨hne,hl⟩:=ho.1.1 hs
     refine .inr (.inl ⟨rfl,⟨?_,by show (takeF ts).1.word.size<=8;omega,htr,hl⟩,rfl,rfl,rfl,rfl⟩)
     show 1<=(takeF ts).1.word.size
     have:(takeF ts).1.word.data.toList.length≠0:=by intro e;exact hne (List.length_eq_zero_iff.1 e)
     have e2:(takeF ts).1.word.size=(takeF ts).1.word.data.toList.length:=by show (takeF ts).1.word.data.size=_;rw [Array.length_toList]
     omega
 ·split at hx
  ·unfold pairF at hx
   cases h1:f (takeF ts).2 with
   | none=>simp [h1] at hx
   | some y =>
    obtain ⟨p,t1⟩:=y
    obtain ⟨e1,_⟩:=hk _ _ _ ht.1 h1
    obtain ⟨g1,o1⟩:=hf _ _ _ ht.1 ho.2 h1
    simp only [h1] at hx
    split at hx
    ·rename_i hop
     have ht1:=e1.take
     have ho1:=TokOK.take e1 o1
     cases h2:windowF (takeF t1).1.sign (takeF t1).2 with
     | none=>simp [h2] at hx
     | some y =>
      obtain ⟨⟨a,b⟩,t2⟩:=y
      have e2:=(ht1.1.window h2).1
      obtain ⟨w1,w2,o2⟩:=ok_window ht1.1 ho1.2 h2
      simp only [h2] at hx
      cases h3:f t2 with
      | none=>simp [h3] at hx
      | some z =>
       obtain ⟨q,t3⟩:=z
       obtain ⟨e3,_⟩:=hk _ _ _ e2 h3
       obtain ⟨g3,o3⟩:=hf _ _ _ e2 o2 h3
       simp only [h3] at hx
       cases h4:expectF 41 t3 with
       | none=>simp [h4] at hx
       | some t4 =>
        have o4:=ok_expect e3 o3 h4
        simp only [h4] at hx
        injection hx with hx;injection hx with hx1 hx2
        subst hx1;subst hx2
        exact ⟨.inr (.inr (.inl ⟨hop,rfl,w1,w2,g1,g3⟩)),o4⟩
    ·cases hx
  ·split at hx
   ·rename_i hop
    unfold singleF at hx
    cases h1:windowF (takeF ts).1.sign (takeF ts).2 with
    | none=>simp [h1] at hx
    | some y =>
     obtain ⟨⟨a,b⟩,t1⟩:=y
     have e1:=(ht.1.window h1).1
     obtain ⟨w1,w2,o1⟩:=ok_window ht.1 ho.2 h1
     simp only [h1] at hx
     cases h2:f t1 with
     | none=>simp [h2] at hx
     | some z =>
      obtain ⟨p,t2⟩:=z
      obtain ⟨g2,o2⟩:=hf _ _ _ e1 o1 h2
      simp only [h2] at hx
      injection hx with hx;injection hx with hx1 hx2
      subst hx1;subst hx2
      exact ⟨.inr (.inr (.inr ⟨hop,rfl,w1,w2,g2,rfl⟩)),o2⟩
   ·cases hx
theorem gives_parse:∀ n,Gives (parseF n)
 | 0=>fun _ _ _ _ _ h=>by cases h
 | n+1=>gives_step (keeps_parse n) (gives_parse n)
end Go.Proofs.YtpbbmagjhkakgaaGreatDoor
