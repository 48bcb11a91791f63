import Derived.Test.YtpbbmagjhkakgaaGreatDoorSnAtomsToEdEvent
import Derived.Test.YtpbbmagjhkakgaaGreatDoorLfRoundToLfLead
namespace Go.Proofs.YtpbbmagjhkakgaaGreatDoor
namespace Ev
open Go.RowKit Go.Deep Go.Maps Lf
theorem oldF_lt (t:Int):∀ (C:List bx) (j:Nat) (c:bx),C[j]? = some c->j<nj t C->c.time<t
 | [],j,c,h,_=>by simp at h
 | d::C,j,c,h,hj=>by
  simp only [nj] at hj
  split at hj
  ·omega
  ·rename_i hd
   cases j with
   | zero=>simp at h;subst h;omega
   | succ j=>exact oldF_lt t C j c (by simpa using h) (by omega)
end Ev
namespace Lf
open Go Go.Conc
variable {P : Program} {K : Goroutine → World → Prop} {b : Frame} {k : List Item} {cs : List Frame} {a : Act} {w : World}
def unseq:List Code->Code->Code
 | [],z=>z
 | c::l,z=>.seq c (unseq l z)
def wps (P:Program):List Code->(Act->World->Prop)->Act->World->Prop
 | [],J,a,w=>J a w
 | c::l,J,a,w=>c.wp P (fun e a' w'=>e=.normal/\wps P l J a' w') a w
theorem wps_steps {z:Code} {J:Act->World->Prop}:∀ (l:List Code) (a:Act) (w:World),wps P l J a w->∃ a' w',J a' w'/\Steps P (lone (b.at a (.code (unseq l z)::k)) cs w) (lone (b.at a' (.code z::k)) cs w')
 | [],a,w,h=>⟨a,w,h,.refl _ _⟩
 | c::l,a,w,h=>by
  obtain ⟨e,a1,w1,h1,h2⟩:=h b (.code (unseq l z)::k) cs
  obtain ⟨rfl,h1⟩:=h1
  obtain ⟨a',w',h3,h4⟩:=wps_steps l a1 w1 h1
  exact ⟨a',w',h3,.head step_seq (Steps.trans h2 h4)⟩
theorem af.pieces (hP:Plain P) (l:List Code) {z:Code} (J:Act->World->Prop) (hJ:∀ a w τ d,J a w->J a (re w τ d)) (hi:∀ it∈k,aR it) (hc:∀ fr∈cs,aA fr) (h:∀ τ d,wps P l J a (re w τ d))
  (hk:∀ a' w',J a' w'->af P K (G (b.at a' (.code z::k)) cs) w'):af P K (G (b.at a (.code (unseq l z)::k)) cs) w:=by
 have h1:af P (fun g w'=>∃ a',J a' w'/\g=G (b.at a' (.code z::k)) cs) (G (b.at a (.code (unseq l z)::k)) cs) w:=by
  refine .of_steps hP ?_ (jb hi hc) fun τ d=>?_
  ·rintro g w τ d ⟨a',h1,h2⟩
   exact ⟨a',hJ _ _ _ _ h1,h2⟩
  ·obtain ⟨a',w',h1,h2⟩:=wps_steps (b:=b) (k:=k) (cs:=cs) (z:=z) l a (re w τ d) (h τ d)
   exact ⟨_,w',h2,dH _ _,fun _=>⟨a',h1,rfl⟩⟩
 refine h1.trans ?_
 rintro g w' ⟨a',h1,rfl⟩
 exact hk a' w' h1
theorem bodyPost_re {fn:Func} {R:Ending->World->Prop} (hR:∀ e w τ d,R e w->R e (re w τ d)):∀ e a w τ d,bodyPost P fn R e a w->bodyPost P fn R e a (re w τ d):=by
 intro e a w τ d h
 cases e with
 | normal=>obtain ⟨hd,v,hr,hv⟩:=h;exact ⟨hd,v,mU hr τ d,hR _ _ _ _ hv⟩
 | ret=>obtain ⟨hd,v,hr,hv⟩:=h;exact ⟨hd,v,mU hr τ d,hR _ _ _ _ hv⟩
 | panic chain=>obtain ⟨hd,hv⟩:=h;exact ⟨hd,hR _ _ _ _ hv⟩
 | exit id=>exact h
 | goto l=>exact h
 | outgrown=>exact hR _ _ _ _ h
theorem af.last (hP:Plain P) {f:FuncId} {fn:Func} {z:Code} {R:Ending->World->Prop} (hc:∀ fr∈cs,aA fr) (hf:P.funcs[f]? = some fn) (hR:∀ e w τ d,R e w->R e (re w τ d)) (hno:∀ w,¬ R .outgrown w)
  (h:∀ τ d,z.wp P (bodyPost P fn R) a (re w τ d)):af P (fun g w'=>∃ e fr,g=G fr cs/\aA fr/\R e w'/\fr.fn=f/\fr.leaving P w' e) (G ((base f).at a [.code z]) cs) w:=by
 refine af.code (Q:=bodyPost P fn R) (e_.of_wp hP (bodyPost_re hR) (fun a w x=>hno w x) h) ⟨fun _ h=>(by cases h),hc,fun _ _ _ x=>x.elim,fun _ _ _ x=>x.elim⟩ fun e a' w' g h1 h2=>?_
 cases e with
 | normal =>
  cases h2
  obtain ⟨hd,v,hr,hv⟩:=h1
  exact af.move hP (tD (iz (fun _ h=>by cases h)) hc) (fun _=>.one step_end) fun hf'=>.here fun τ d=>⟨.returned v,_,rfl,hf'.ok.frame,hR _ _ _ _ hv,rfl,rfl,hd,rfl,fn,hf,mU hr τ d⟩
 | ret =>
  obtain ⟨todo,h3,rfl⟩:=h2
  obtain ⟨hd,v,hr,hv⟩:=h1
  exact .here fun τ d=>⟨.returned v,_,rfl,h3,hR _ _ _ _ hv,rfl,rfl,hd,rfl,fn,hf,mU hr τ d⟩
 | panic chain =>
  obtain ⟨todo,h3,rfl⟩:=h2
  obtain ⟨hd,hv⟩:=h1
  exact .here fun τ d=>⟨.panicked chain,_,rfl,h3,hR _ _ _ _ hv,rfl,rfl,hd,fn,hf⟩
 | exit id=>exact h1.elim
 | goto l=>exact h1.elim
 | outgrown=>exact h2.elim
theorem af.hpiece {c:Code} (J:Act->World->Prop) (hi:∀ it∈k,aR it) (hc:∀ fr∈cs,aA fr) (h:e_ P c (fun e a' w'=>e=.normal/\J a' w') a w) (hk:∀ a' w',J a' w'->af P K (G (b.at a' k) cs) w'):af P K (G (b.at a (.code c::k)) cs) w :=
 af.code h ⟨hi,hc,fun _ _ _ x=>(by cases x.1),fun _ _ _ x=>(by cases x.1)⟩ fun e a' w' g x y=>by
  obtain ⟨rfl,x⟩:=x
  obtain rfl:g=_:=y
  exact hk a' w' x
theorem e_.seqL (hP:Plain P) {x y:Code} {Q:Exit->Act->World->Prop} (J:Act->World->Prop) (hJ:∀ a w τ d,J a w->J a (re w τ d)) (h:∀ τ d,x.wp P (fun e a' w'=>e=.normal/\J a' w') a (re w τ d)) (hk:∀ a w,J a w->e_ P y Q a w):e_ P (.seq x y) Q a w :=
 e_.seq' hP J ((e_.of_wp hP (Q:=fun e a' w'=>e=.normal/\J a' w') (fun e a w τ d x=>⟨x.1,hJ _ _ _ _ x.2⟩) (fun a w x=>by cases x.1) h).mono fun e a w x=>by obtain ⟨rfl,x⟩:=x;exact x) hk
theorem e_.seqH (hP:Plain P) {x y:Code} {Q:Exit->Act->World->Prop} (J:Act->World->Prop) (h:e_ P x (fun e a' w'=>e=.normal/\J a' w') a w) (hk:∀ a w,J a w->e_ P y Q a w):e_ P (.seq x y) Q a w :=
 e_.seq' hP J (h.mono fun e a w x=>by obtain ⟨rfl,x⟩:=x;exact x) hk
theorem e_.nJ {c:Code} {J:Act->World->Prop} (h:∀ (b:Frame) (k:List Item) (cs:List Frame),(∀ it∈k,aR it)->(∀ fr∈cs,aA fr)->af P (fun g w'=>∃ a',J a' w'/\g=G (b.at a' k) cs) (G (b.at a (.code c::k)) cs) w):e_ P c (fun e a' w'=>e=.normal/\J a' w') a w :=
 fun b k cs hb=>(h b k cs hb.items hb.frames).mono fun _ _ ⟨a',h1,h2⟩=>⟨.normal,a',⟨rfl,h1⟩,h2⟩
theorem e_.blockN (hP:Plain P) {id:Nat} {c:Code} {J:Act->World->Prop} (hJ:∀ a w τ d,J a w->J a (re w τ d)) (h:e_ P c (fun e a' w'=>e=.normal/\J a' w') a w):e_ P (.block id c) (fun e a' w'=>e=.normal/\J a' w') a w :=
 e_.block hP (fun a w τ d x=>⟨rfl,hJ _ _ _ _ x.2⟩) (h.mono fun e a w x=>by obtain ⟨rfl,x⟩:=x;exact ⟨rfl,x⟩)
theorem e_.loneN (hP:Plain P) {c:Code} {J:Act->World->Prop} (hJ:∀ a w τ d,J a w->J a (re w τ d)) (h:∀ τ d,c.wp P (fun e a' w'=>e=.normal/\J a' w') a (re w τ d)):e_ P c (fun e a' w'=>e=.normal/\J a' w') a w :=
 e_.of_wp hP (fun e a w τ d x=>⟨x.1,hJ _ _ _ _ x.2⟩) (fun a w x=>by cases x.1) h
theorem e_.blockLoop (hP:Plain P) {id:Nat} {c:Code} (I:Nat->Act->World->Prop) (J:Act->World->Prop) (hJ:∀ a w τ d,J a w->J a (re w τ d)) (sQ:Nat) (h₀:I sQ a w)
  (round:∀ n a w,I n a w->e_ P c (fun e a' w'=>(e=.normal/\∃ m,m<n/\I m a' w')\/(e=.exit id/\J a' w')) a w):e_ P (.block id (.loop c)) (fun e a' w'=>e=.normal/\J a' w') a w:=by
 refine e_.block hP (fun a w τ d x=>⟨rfl,hJ _ _ _ _ x.2⟩) (e_.loop hP I sQ h₀ fun n a w hI=>(round n a w hI).mono fun e a w x=>?_)
 rcases x with ⟨rfl,x⟩ | ⟨rfl,x⟩
 ·exact x
 ·simp only [Exit.then,Exit.inBlock,if_true]
  exact ⟨trivial,x⟩
end Lf
namespace Ev
open Go.RowKit Go.Deep Go.Maps Lf Go.Conc
theorem mf {y:BT aO} (hy:Good y):ax (bQ y)<=ax y:=by
 cases y with
 | nil=>exact hy.elim
 | node b o a l r =>
  have h0:=dV (.inl hy)
  have hl:0<=a.hi:=by rcases hy with ⟨_,_,h3,h4,_⟩ | ⟨_,_,h3,h4,_⟩ | ⟨_,_,h3,_⟩ | ⟨_,_,h3,_⟩<;>omega
  show ax (if a.op=172 then l else mk 172 ByteArray.empty 0 0 (BT.node b o a l r) .nil)<=_
  by_cases ho:a.op=172
  ·rw [if_pos ho,mS];omega
  ·rw [if_neg ho]
   have e:ax (mk 172 ByteArray.empty 0 0 (BT.node b o a l r) .nil)=0+max (ax (BT.node b o a l r)) 0:=rfl
   rw [e];omega
theorem mR:∀ {x:BT aO},Good x->ax (ak x)<=ax x
 | .nil,h=>h.elim
 | .node b o a l r,h=>by
  rcases h with ⟨h1,_,_,_,rfl,rfl⟩ | ⟨h1,_,_,_,rfl,rfl⟩ | ⟨h1,h2,h3,h4,gl,gr⟩ | ⟨h1,h2,h3,h4,gl,hr⟩
  ·unfold ak;rw [if_pos (.inl h1)];exact Int.le_refl _
  ·unfold ak;rw [if_pos (.inr h1)];exact Int.le_refl _
  ·have cl:=mR gl
   have cr:=mR gr
   have gcl:=cA gl
   have gcr:=cA gr
   rw [mS]
   rcases h1 with h1 | h1 | h1
   ·have e1:ak (.node b o a l r)=mk a.op ByteArray.empty a.lo a.hi (ak l) (ak r):=by simp [ak,h1]
    rw [e1]
    show a.hi+max (ax (ak l)) (ax (ak r))<=_
    omega
   ·have e1:ak (.node b o a l r)=bQ (mk 8743 ByteArray.empty 0 0 (bQ (ak l)) (bQ (ak r))):=by simp [ak,h1]
    have g1:Good (mk 8743 ByteArray.empty 0 0 (bQ (ak l)) (bQ (ak r))):=.inr (.inr (.inl ⟨.inl rfl,rfl,⟨by decide,by decide,by decide⟩,by simp,fY gcl,fY gcr⟩))
    have n1:=mf g1
    have n2:=mf gcl
    have n3:=mf gcr
    have e2:ax (mk 8743 ByteArray.empty 0 0 (bQ (ak l)) (bQ (ak r)))=0+max (ax (bQ (ak l))) (ax (bQ (ak r))):=rfl
    rw [e1];omega
   ·have e1:ak (.node b o a l r)=mk a.op ByteArray.empty a.lo a.hi (ak l) (ak r):=by simp [ak,h1]
    rw [e1]
    show a.hi+max (ax (ak l)) (ax (ak r))<=_
    omega
  ·have cl:=mR gl
   have gcl:=cA gl
   rw [mS]
   rcases h1 with h1 | h1 | h1 | h1
   ·have e1:ak (.node b o a l r)=bQ (ak l):=by simp [ak,h1]
    have n2:=mf gcl
    rw [e1];omega
   ·have e1:ak (.node b o a l r)=mk a.op ByteArray.empty a.lo a.hi (ak l) .nil:=by simp [ak,h1]
    rw [e1]
    show a.hi+max (ax (ak l)) 0<=_
    subst hr
    have:ax (.nil:BT aO)=0:=rfl
    omega
   ·have e1:ak (.node b o a l r)=mk a.op ByteArray.empty a.lo a.hi (ak l) .nil:=by simp [ak,h1]
    rw [e1]
    show a.hi+max (ax (ak l)) 0<=_
    subst hr
    have:ax (.nil:BT aO)=0:=rfl
    omega
   ·have e1:ak (.node b o a l r)=bQ (mk 79 ByteArray.empty a.lo a.hi (bQ (ak l)) .nil):=by simp [ak,h1]
    have g1:Good (mk 79 ByteArray.empty a.lo a.hi (bQ (ak l)) .nil):=.inr (.inr (.inr ⟨by simp,rfl,h3,fun h=>absurd (show lC 79=false from h) (by decide),fY gcl,rfl⟩))
    have n1:=mf g1
    have n2:=mf gcl
    have e2:ax (mk 79 ByteArray.empty a.lo a.hi (bQ (ak l)) .nil)=a.hi+max (ax (bQ (ak l))) 0:=rfl
    rw [e1]
    subst hr
    have:ax (.nil:BT aO)=0:=rfl
    omega
theorem arr_get (t:Array Value) (n:Nat) (h:t.size=n):t=((List.range n).map (fun j=>t.getD j undef)).toArray:=by
 apply Array.ext
 ·simp [h]
 ·intro i h1 h2
  simp at h2
  simp [h1]
def eL (x:BT aO) (L:List (Int×Int)):Nat->ByteArray
 | 0=>⟨#[]⟩
 | i+1=>eL x L i++(if verZ x L i then ⟨#[49]⟩ else ⟨#[48]⟩)
def gJ (w:World) (eo:Option Addr) (L:List (Int×Int)):Prop:=L≠[]->∃ b off,eo=some ⟨b,off,none⟩/\b<w.heap.size/\∀ j,j<L.length->w.cell? ⟨b,off+j*2,none⟩=some (.int .i64 (L.getD j (0,0)).1)/\w.cell? ⟨b,off+j*2+1,none⟩=some (.int .i64 (L.getD j (0,0)).2)
theorem gJ.move {w w':World} {eo:Option Addr} {L:List (Int×Int)} (h:gJ w eo L) (hs:au (fun _=>False) w w'):gJ w' eo L:=fun hne=>by
 obtain ⟨b,off,h1,h2,h3⟩:=h hne
 have hc:∀ q,w'.cell? ⟨b,q,none⟩=w.cell? ⟨b,q,none⟩:=fun q=>World.cell?_of_block (hs.block b h2 id)
 exact ⟨b,off,h1,Nat.lt_of_lt_of_le h2 hs.size,fun j hj=>by simp only [hc];exact h3 j hj⟩
theorem iM {w0 w w':World} (h:au (fun _=>False) w0 w) (k:au (fun b=>w0.heap.size<=b) w w'):au (fun _=>False) w0 w' :=
 ⟨k.os.trans h.os,k.output.trans h.output,Nat.le_trans h.size k.size,fun b hb _=>(k.block b (Nat.lt_of_lt_of_le hb h.size) (by omega)).trans (h.block b hb id)⟩
noncomputable def iZ:Code:=Tryz.f21.body.getD .skip
noncomputable def jV:Code:=match iZ with
 | .seq _ (.seq _ (.seq _ (.seq _ (.seq _ (.seq _ (.seq (.seq _ (.block _ (.loop x))) _))))))=>x
 | _=>.skip
theorem lift {f:FuncId} {args:Array Value} {w:World} {R:Ending->World->Prop} (hR:∀ e w τ d,R e w->R e (re w τ d)) (hno:∀ w,¬ R .outgrown w) (h:∀ τ d,Calls Tryz.prog f args (re w τ d) R):bZ Tryz.prog f args w R:=bZ.of_calls bk hR hno h
theorem atoms_H (c:Int) (w:World) (hc:mj c):bZ Tryz.prog 25 #[.int .i64 c] w fun e w'=>∃ ao cap,e=.returned (.slice ao (jQ (aP c 8).toNat).length cap)/\(jQ (aP c 8).toNat).length<=cap/\eI w' ao (jQ (aP c 8).toNat)/\au (fun _=>False) w w':=by
 refine lift ?_ ?_ fun τ d=>(atoms_any c (re w τ d) hc).mono ?_
 ·rintro e w' τ d ⟨ao,cap,h1,h2,h3,h4⟩
  exact ⟨ao,cap,h1,h2,h3,h4.aU τ d⟩
 ·rintro w' ⟨ao,cap,h1,_⟩
  cases h1
 ·rintro e w' ⟨v,rfl,h1,h2⟩
  obtain ⟨ao,cap,rfl,h3,h4,_⟩:=rQ h1
  exact ⟨ao,cap,rfl,h3,h4,(au.aL h2).tape0⟩
section
variable {text : ByteArray} {x : BT aO} {L : List (Int × Int)} {ai : Int} {eo : Option Addr} {cap mb aj : Nat} {w0 : World} {now iv : Int} {i : Nat} {a : Act} {w : World}
end
noncomputable def head21:Code:=match jV with
 | .seq x _=>x
 | _=>.skip
noncomputable def later21:Code:=match jV with
 | .seq _ (.seq (.block _ (.seq x _)) _)=>x
 | _=>.skip
noncomputable def event21:Code:=match jV with
 | .seq _ (.seq (.block _ (.seq _ (.seq x _))) _)=>x
 | _=>.skip
noncomputable def ok21:Code:=match jV with
 | .seq _ (.seq (.block _ (.seq _ (.seq _ x))) _)=>x
 | _=>.skip
noncomputable def next21:Code:=match jV with
 | .seq _ (.seq _ x)=>x
 | _=>.skip
end Ev
end Go.Proofs.YtpbbmagjhkakgaaGreatDoor
