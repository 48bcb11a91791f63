import Derived.Test.YtpbbmagjhkakgaaGreatDoorSnSemToSnOps
import Derived.Test.YtpbbmagjhkakgaaGreatDoorPureTabToTab
import Derived.Test.YtpbbmagjhkakgaaGreatDoorSnWatchToEaStep
namespace Go.Proofs.YtpbbmagjhkakgaaGreatDoor
namespace Ev
open Go.RowKit Go.Deep Go.Maps Lf Go.Conc
def look:List (Nat×Value)->Nat->Option Value
 | [],_=>none
 | p::l,j=>if j=p.1 then some p.2 else look l j
structure Fx (N:Nat) (l:List (Nat×Value)) (A:Act):Prop where
 size:A.tmps.size=N
 defers:A.defers=[]
 get:∀ j v,look l j=some v->A.tmps[j]? = some v
def evl (l:List (Nat×Value)):Operand->Option Value
 | .tmp j=>look l j
 | .const v=>some v
 | _=>none
def evls (l:List (Nat×Value)):List Operand->Option (List Value)
 | []=>some []
 | x::xs=>match evl l x,evls l xs with
  | some v,some vs=>some (v::vs)
  | _,_=>none
theorem Fx.put {N:Nat} {l:List (Nat×Value)} {A:Act} (h:Fx N l A) {d:Nat} (hd:d<N) (v:Value):Fx N ((d,v)::l) (A.put (some d) v):=by
 have p:=jX A d v (by rw [h.size];exact hd)
 refine ⟨p.1.trans h.size,p.2.1.trans h.defers,fun j u hj=>?_⟩
 unfold look at hj
 by_cases e:j=d
 ·subst e
  rw [if_pos rfl] at hj
  cases hj
  exact p.2.2.1
 ·rw [if_neg e] at hj
  rw [p.2.2.2 j e]
  exact h.get j u hj
theorem Fx.ev {N:Nat} {l:List (Nat×Value)} {A:Act} (h:Fx N l A) {x:Operand} {v:Value} (hx:evl l x=some v):A.eval x=v:=by
 cases x with
 | tmp j=>exact ox (h.get j v hx)
 | const u=>cases hx;rfl
 | global g=>cases hx
 | func f=>cases hx
theorem Fx.uC {N:Nat} {l:List (Nat×Value)} {A:Act} (h:Fx N l A):∀ {xs:List Operand} {vs:List Value},evls l xs=some vs->xs.map A.eval=vs
 | [],_,e=>by cases e;rfl
 | x::xs,vs,e=>by
  unfold evls at e
  cases hx:evl l x with
  | none=>rw [hx] at e;cases e
  | some v =>
   rw [hx] at e
   cases hxs:evls l xs with
   | none=>rw [hxs] at e;cases e
   | some us =>
    rw [hxs] at e
    cases e
    rw [List.map_cons,h.ev hx,h.uC hxs]
theorem vg {j:Nat} {v:Value}:∀ {m:List (Nat×Value)},look m j=some v->∃ p∈m,p=(j,v)
 | [],h=>by cases h
 | p::m,h=>by
  unfold look at h
  by_cases e:j=p.1
  ·rw [if_pos e] at h
   cases h
   exact ⟨p,List.mem_cons_self ..,by rw [e]⟩
  ·rw [if_neg e] at h
   obtain ⟨q,h1,h2⟩:=vg h
   exact ⟨q,List.mem_cons_of_mem _ h1,h2⟩
theorem Fx.less {N:Nat} {l m:List (Nat×Value)} {A:Act} (h:Fx N l A) (hm:∀ p∈m,look l p.1=some p.2):Fx N m A:=by
 refine ⟨h.size,h.defers,fun j v hj=>?_⟩
 obtain ⟨p,h1,rfl⟩:=vg hj
 exact h.get j v (hm _ h1)
theorem Fx.adds {N:Nat} {l m:List (Nat×Value)} {A:Act} (h:Fx N l A) (hm:∀ p∈m,A.tmps[p.1]? = some p.2):Fx N m A :=
 ⟨h.size,h.defers,fun j v hj=>by
  obtain ⟨p,h1,rfl⟩:=vg hj
  exact hm _ h1⟩
section
variable {K : Goroutine → World → Prop} {b : Frame} {k : List Item} {cs : List Frame} {A : Act} {w : World} {ops : Array Oper} {i d N : Nat} {rest : List Nat} {v : Value} {l : List (Nat × Value)}
theorem mvF {x:Operand} (h:kY ops i d (.move x)) (hA:Fx N l A) (hx:evl l x=some v) (hd:d<N) (hi:∀ it∈k,aR it) (hc:∀ fr∈cs,aA fr)
  (hk:∀ A',Fx N ((d,v)::l) A'->af Tryz.prog K (G (b.at A' (.inRegion ops rest::k)) cs) w):af Tryz.prog K (G (b.at A (.inRegion ops (i::rest)::k)) cs) w :=
 af.mv bk h (hA.ev hx) hi hc (hk _ (hA.put hd v))
theorem asgF {x:Operand} (h:kY ops i d (.assign x)) (hA:Fx N l A) (hx:evl l x=some v) (hd:d<N) (hi:∀ it∈k,aR it) (hc:∀ fr∈cs,aA fr)
  (hk:∀ A',Fx N ((d,v)::l) A'->af Tryz.prog K (G (b.at A' (.inRegion ops rest::k)) cs) w):af Tryz.prog K (G (b.at A (.inRegion ops (i::rest)::k)) cs) w :=
 af.asg bk h (hA.ev hx) hi hc (hk _ (hA.put hd v))
theorem extF {x:Operand} {n:Nat} {vs:Array Value} (h:kY ops i d (.extract x n)) (hA:Fx N l A) (hx:evl l x=some (.tuple vs)) (hv:vs[n]? = some v) (hd:d<N) (hi:∀ it∈k,aR it) (hc:∀ fr∈cs,aA fr)
  (hk:∀ A',Fx N ((d,v)::l) A'->af Tryz.prog K (G (b.at A' (.inRegion ops rest::k)) cs) w):af Tryz.prog K (G (b.at A (.inRegion ops (i::rest)::k)) cs) w :=
 af.ext bk h (hA.ev hx) hv hi hc (hk _ (hA.put hd v))
theorem qQ {f:FuncId} {fn:Func} {args:Array Operand} {ats:Array TypeId} {vs:List Value} {R:Ending->World->Prop} (h:kY ops i d (.call { callee:=.value (.func f),args,argTypes:=ats }))
  (hf:Tryz.prog.funcs[f]? = some fn) (u0:(fn.name== "runtime.NumGoroutine")=false) (hb:fn.body.isNone=false) (hA:Fx N l A) (hargs:evls l args.toList=some vs) (hd:d<N) (hi:∀ it∈k,aR it) (hc:∀ fr∈cs,aA fr) (hC:bZ Tryz.prog f vs.toArray w R) (hR:∀ e w',R e w'->∃ v,e=.returned v)
  (hk:∀ v w' A',R (.returned v) w'->Fx N ((d,v)::l) A'->af Tryz.prog K (G (b.at A' (.inRegion ops rest::k)) cs) w'):af Tryz.prog K (G (b.at A (.inRegion ops (i::rest)::k)) cs) w :=
 af.callF bk h hf u0 hb (by rw [<- hA.uC hargs,<- Array.toList_map,Array.toArray_toList]) hi hc hC hR fun v w' hv=>hk v w' _ hv (hA.put hd v)
theorem watchF {x y z:Operand} {text:ByteArray} {ai:Int} {eo:Option Addr} {L:List (Int×Int)} {cap:Nat} {X:BT aO} {i0 i1 i2 i3 i4 i5 d0 d1 d2 d3 dA dB:Nat}
  (c0:kY ops i0 d0 (.call { callee:=.value (.func 21),args:=#[x,y,z],argTypes:=#[9,3,34] })) (c1:kY ops i1 d1 (.move (.tmp d0))) (c2:kY ops i2 d2 (.extract (.tmp d1) 0)) (c3:kY ops i3 d3 (.extract (.tmp d1) 1)) (c4:kY ops i4 dA (.assign (.tmp d2))) (c5:kY ops i5 dB (.assign (.tmp d3)))
  (hz:d0<N/\d1<N/\d2<N/\d3<N/\dA<N/\dB<N) (hne:d1≠d2/\d2≠d3/\dA≠d3/\dA≠dB) (hA:Fx N l A)
  (hx:evl l x=some (.string text)) (hy:evl l y=some (.int .i64 ai)) (hzz:evl l z=some (.slice eo L.length cap)) (hi:∀ it∈k,aR it) (hc:∀ fr∈cs,aA fr)
  (hC:bZ Tryz.prog 21 #[.string text,.int .i64 ai,.slice eo L.length cap] w (iE X L w)) (m:List (Nat×Value)) (hm:∀ p∈m,look l p.1=some p.2/\p.1≠d0/\p.1≠d1/\p.1≠d2/\p.1≠d3/\p.1≠dA/\p.1≠dB)
  (hk:∀ A' w',Fx N ((dB,.bool true)::(dA,.string (eL X L (min L.length 25)))::m) A'->au (fun _=>False) w w'->af Tryz.prog K (G (b.at A' k) cs) w') :
  af Tryz.prog K (G (b.at A (.inRegion ops [i0,i1,i2,i3,i4,i5]::k)) cs) w:=by
 have hs:=hA.size
 refine watch_tail c0 c1 c2 c3 c4 c5 (by omega) hne (hA.ev hx) (hA.ev hy) (hA.ev hzz) hi hc hC fun A' w' z d gA gB go kT=>hk A' w' ?_ kT
 have hbase:Fx N m A':=by
  have h1:=hA.less (m:=m) (fun p hp=>(hm p hp).1)
  refine ⟨z.trans hs,d.trans hA.defers,fun j v hj=>?_⟩
  have hold:=h1.get j v hj
  obtain ⟨p,hp,e⟩:=vg hj
  have hj1:j=p.1:=by rw [e]
  subst hj1
  obtain ⟨_,q0,q1,q2,q3,qA,qB⟩:=hm p hp
  exact (go p.1 q0 q1 q2 q3 qA qB).trans hold
 refine ⟨hbase.size,hbase.defers,fun j v hj=>?_⟩
 unfold look at hj
 by_cases e:j=dB
 ·subst e
  rw [if_pos rfl] at hj
  cases hj
  exact gB
 ·rw [if_neg e] at hj
  unfold look at hj
  by_cases e2:j=dA
  ·subst e2
   rw [if_pos rfl] at hj
   cases hj
   exact gA
  ·rw [if_neg e2] at hj
   exact hbase.get j v hj
end
end Ev
section
open Go.Deep (BT)
def Par (T:List (Int×List UInt8)) (x:BT aO):Prop:=aK x<=T.length/\∀ n,aK x<=n->∀ A rest:List Tok,A.map strip=T->gT n (A++rest)=some (x,rest)
def Reads (l:List UInt8) (x:BT aO):Prop:=(Good x/\mn x)/\∀ (s:ByteArray) (pos:Nat) (last:Int) (rest:List UInt8),s.data.toList.drop pos=l++rest->last≠97->∃ n rJ T,n<=l.length/\sA s pos last l n rJ T/\Par T x
theorem par_word {name:ByteArray} (h:1<=name.size/\name.size<=8/\name≠vU/\∀ c,c∈name.data.toList->97<=c.toNat/\c.toNat<=122):Par [(97,name.data.toList)] (mk 97 name 0 0 .nil .nil):=by
 have hg:Good (mk 97 name 0 0 .nil .nil):=.inr (.inl ⟨rfl,h,rfl,rfl,rfl,rfl⟩)
 refine ⟨Nat.le_refl 1,fun n hn A rest hA=>su _ hg ⟨rfl,rfl,trivial,trivial⟩ n hn A rest ?_⟩
 rw [hA]
 rfl
theorem par_one {op lo hi:Int} {wd:List UInt8} {T:List (Int×List UInt8)} {x:BT aO} (h1:op=172\/op=89\/op=79\/op=72) (h3:0<=lo/\lo<=hi/\hi<=1000000) (h4:lC op=false->lo=0/\hi=0) (hx:Par T x) :
  Par ((op,wd)::(tkW ⟨op,ByteArray.empty,lo,hi⟩++T)) (mk op ByteArray.empty lo hi x .nil):=by
 obtain ⟨hd,hp⟩:=hx
 refine ⟨?_,fun n hn A rest hA=>?_⟩
 ·have:aK (mk op ByteArray.empty lo hi x .nil)=1+max (aK x) 0:=rfl
  rw [this]
  simp
  omega
 ·have hn':1+max (aK x) 0<=n:=hn
  obtain ⟨m,rfl⟩:∃ m,n=m+1:=⟨n-1,by omega⟩
  have dl:aK x<=m:=by omega
  show jG (gT m) (A++rest)=_
  unfold jG
  obtain ⟨t0,r0,rfl,s0,_,hA⟩:=map_cons hA
  obtain ⟨Aw,Al,rfl,hAw,hAl⟩:=List.map_eq_append_iff.1 hA
  simp only [List.cons_append,List.append_assoc]
  have s0':t0.sign=op:=s0
  rw [g_ (sg:=op) s0' (by omega)]
  simp only
  rw [s0',if_neg (by omega),if_neg (by omega),if_pos h1]
  unfold gO
  have hw:=qf (a:=⟨op,ByteArray.empty,lo,hi⟩) (rest:=Al++rest) hAw h3 h4
  simp only at hw
  rw [hw]
  simp only
  rw [hp m dl Al _ hAl]
theorem par_two {op lo hi:Int} {wd:List UInt8} {T U:List (Int×List UInt8)} {x y:BT aO} (h1:op=8743\/op=8744\/op=83) (h3:0<=lo/\lo<=hi/\hi<=1000000) (h4:lC op=false->lo=0/\hi=0) (hx:Par T x) (hy:Par U y) :
  Par ((40,[40])::(T++((op,wd)::(tkW ⟨op,ByteArray.empty,lo,hi⟩++(U++[(41,[41])]))))) (mk op ByteArray.empty lo hi x y):=by
 obtain ⟨hd,hp⟩:=hx
 obtain ⟨hd2,hq⟩:=hy
 have hdep:aK (mk op ByteArray.empty lo hi x y)=1+max (aK x) (aK y):=rfl
 refine ⟨?_,fun n hn A rest hA=>?_⟩
 ·rw [hdep]
  simp
  omega
 ·rw [hdep] at hn
  obtain ⟨m,rfl⟩:∃ m,n=m+1:=⟨n-1,by omega⟩
  have dl:aK x<=m:=by omega
  have dr:aK y<=m:=by omega
  show jG (gT m) (A++rest)=_
  unfold jG
  obtain ⟨t0,r0,rfl,s0,_,hA⟩:=map_cons hA
  obtain ⟨Al,r1,rfl,hAl,hA⟩:=List.map_eq_append_iff.1 hA
  obtain ⟨t2,r2,rfl,s2,_,hA⟩:=map_cons hA
  obtain ⟨Aw,r3,rfl,hAw,hA⟩:=List.map_eq_append_iff.1 hA
  obtain ⟨Ar,r4,rfl,hAr,hA⟩:=List.map_eq_append_iff.1 hA
  obtain ⟨t5,r5,rfl,s5,_,hA⟩:=map_cons hA
  have:r5=[]:=by simpa using hA
  subst this
  simp only [List.cons_append,List.append_assoc,List.nil_append]
  have s2':t2.sign=op:=s2
  rw [g_ s0 (by decide)]
  simp only
  have s0':t0.sign=40:=s0
  rw [s0',if_neg (by decide),if_pos rfl]
  unfold oW
  rw [hp m dl Al _ hAl]
  simp only
  rw [g_ (sg:=op) s2' (by omega)]
  simp only
  have hw:=qf (a:=⟨op,ByteArray.empty,lo,hi⟩) (rest:=Ar++t5::rest) hAw h3 h4
  simp only at hw
  rw [s2',if_pos h1,hw]
  simp only
  rw [hq m dr Ar _ hAr]
  simp only
  rw [mB s5 (by decide)]
theorem eats_ascii {s:ByteArray} {pos:Nat} (c:UInt8) (sg:Int) (last:Int) {l:List UInt8} (hc:(c=33/\sg=172)\/(c=38/\sg=8743)\/(c=124/\sg=8744)) (h:s.data.toList.drop pos=c::l):sA s pos last [c] 1 sg [(sg,[c])]:=by
 obtain ⟨hp,hd⟩:=gK h (by rcases hc with ⟨rfl,_⟩ | ⟨rfl,_⟩ | ⟨rfl,_⟩<;>decide)
 have hs:bM (c.toNat:Nat)=sg:=by rcases hc with ⟨rfl,rfl⟩ | ⟨rfl,rfl⟩ | ⟨rfl,rfl⟩<;>decide
 have:=eats_sign (s:=s) (pos:=pos) (r:=c.toNat) last (m:=[c]) hp hd (by rw [hs];rcases hc with ⟨_,rfl⟩ | ⟨_,rfl⟩ | ⟨_,rfl⟩<;>decide) (by rw [hs];rcases hc with ⟨_,rfl⟩ | ⟨_,rfl⟩ | ⟨_,rfl⟩<;>decide) (by rw [hs];rcases hc with ⟨_,rfl⟩ | ⟨_,rfl⟩ | ⟨_,rfl⟩<;>decide) (by rw [ja _ (by omega) (by rcases hc with ⟨rfl,_⟩ | ⟨rfl,_⟩ | ⟨rfl,_⟩<;>decide)];rcases hc with ⟨rfl,_⟩ | ⟨rfl,_⟩ | ⟨rfl,_⟩<;>decide)
 rw [hs] at this
 exact this
theorem Reads.word {name:ByteArray} (h:1<=name.size/\name.size<=8/\name≠vU/\∀ c,c∈name.data.toList->97<=c.toNat/\c.toNat<=122):Reads name.data.toList (mk 97 name 0 0 .nil .nil):=by
 refine ⟨⟨.inr (.inl ⟨rfl,h,rfl,rfl,rfl,rfl⟩),rfl,rfl,trivial,trivial⟩,fun s pos last rest hs hl=>⟨_,97,_,Nat.le_refl _,uA (by decide) ?_ hs (fun c hc=>signF_let (h.2.2.2 c hc)) hl,par_word h⟩⟩
 intro e
 have:name.data.toList.length=name.size:=by rw [Array.length_toList];rfl
 rw [e] at this
 simp at this
 omega
theorem Reads.not {l:List UInt8} {x:BT aO} (h:Reads l x):Reads ([33]++l) (mk 172 ByteArray.empty 0 0 x .nil):=by
 obtain ⟨⟨hg,hz⟩,hr⟩:=h
 refine ⟨⟨.inr (.inr (.inr ⟨.inl rfl,rfl,by decide,fun _=>⟨rfl,rfl⟩,hg,rfl⟩)),rfl,rfl,hz,trivial⟩,fun s pos last rest hs hl=>?_⟩
 rw [List.append_assoc] at hs
 have k1:=eats_ascii 33 172 last (.inl ⟨rfl,rfl⟩) (show s.data.toList.drop pos=33::_ from hs)
 have d1:=at_next (m:=[33]) hs
 obtain ⟨n,l2,T,hn,k2,hp⟩:=hr s _ 172 rest d1 (by decide)
 refine ⟨_,_,_,?_,k1.trans k2,?_⟩
 ·simp;omega
 ·have:=par_one (op:=172) (lo:=0) (hi:=0) (wd:=[33]) (.inl rfl) (by decide) (fun _=>⟨rfl,rfl⟩) hp
  exact this
def sT (a b:Int):List UInt8:=[91]++(Lib.itoa a++([44]++(Lib.itoa b++[93])))
theorem eats_win {s:ByteArray} {pos:Nat} {op a b:Int} (last:Int) {rest:List UInt8} (hw:lC op=true) (h:0<=a/\a<=b) (hs:s.data.toList.drop pos=sT a b++rest):∃ n,n<=(sT a b).length/\sA s pos last (sT a b) n 93 (tkW ⟨op,ByteArray.empty,a,b⟩):=by
 have e2:tkW ⟨op,ByteArray.empty,a,b⟩=[(91,[91]),(48,Lib.itoa a),(44,[44]),(48,Lib.itoa b),(93,[93])]:=by unfold tkW;simp only;rw [hw];rfl
 rw [e2]
 unfold sT at hs ⊢
 simp only [List.append_assoc] at hs
 have k2:=eM 91 last (by simp) (show s.data.toList.drop _=91::_ from hs)
 have d2:=at_next (m:=[91]) hs
 have k3:=uz (last:=((91:UInt8).toNat:Int)) h.1 d2 (by decide)
 have d3:=at_next d2
 have k4:=eM 44 48 (by simp) (show s.data.toList.drop _=44::_ from d3)
 have d4:=at_next (m:=[44]) d3
 have k5:=uz (last:=((44:UInt8).toNat:Int)) (by omega:0<=b) d4 (by decide)
 have d5:=at_next d4
 have k6:=eM 93 48 (by simp) (show s.data.toList.drop _=93::_ from d5)
 refine ⟨_,?_,k2.trans (k3.trans (k4.trans (k5.trans k6)))⟩
 simp;omega
theorem Reads.win {op a b:Int} {l:List UInt8} {x:BT aO} (ho:op=89\/op=79\/op=72) (hab:0<=a/\a<=b/\b<=1000000) (h:Reads l x):Reads ([UInt8.ofNat op.toNat]++(sT a b++l)) (mk op ByteArray.empty a b x .nil):=by
 obtain ⟨⟨hg,hz⟩,hr⟩:=h
 have hwB:lC op=true:=by rcases ho with rfl | rfl | rfl<;>decide
 have hnw:lC op=false->a=0/\b=0:=fun h=>by rw [hwB] at h;cases h
 have hob:cP op=[UInt8.ofNat op.toNat]:=by rcases ho with rfl | rfl | rfl<;>rfl
 refine ⟨⟨.inr (.inr (.inr ⟨.inr ho,rfl,hab,hnw,hg,rfl⟩)),rfl,rfl,hz,trivial⟩,fun s pos last rest hs hl=>?_⟩
 rw [List.append_assoc,<- hob] at hs
 rw [<- hob]
 have k1:=eats_op last (op:=op) (by unfold oa;omega) hs
 have d1:=at_next hs
 rw [List.append_assoc] at d1
 obtain ⟨n2,hn2,k2⟩:=eats_win (op:=op) op hwB ⟨hab.1,hab.2.1⟩ d1
 have d2:=at_next d1
 obtain ⟨n,l2,T,hn,k3,hp⟩:=hr s _ 93 rest d2 (by decide)
 refine ⟨_,_,_,?_,k1.trans (k2.trans k3),?_⟩
 ·have:1<=(cP op).length:=by rw [hob];simp
  simp;omega
 ·exact par_one (op:=op) (wd:=cP op) (.inr ho) hab hnw hp
theorem Reads.two {c:UInt8} {op:Int} {l r:List UInt8} {x y:BT aO} (hc:(c=38/\op=8743)\/(c=124/\op=8744)) (h:Reads l x) (h':Reads r y):Reads ([40]++(l++([32]++([c]++([32]++(r++[41])))))) (mk op ByteArray.empty 0 0 x y):=by
 obtain ⟨⟨hg,hz⟩,hr⟩:=h
 obtain ⟨⟨hg2,lu⟩,u7⟩:=h'
 have aN:op=8743\/op=8744\/op=83:=by omega
 have hwB:lC op=false:=by rcases hc with ⟨_,rfl⟩ | ⟨_,rfl⟩<;>decide
 refine ⟨⟨.inr (.inr (.inl ⟨aN,rfl,show (0:Int)<=0/\(0:Int)<=0/\(0:Int)<=1000000 by decide,fun _=>⟨rfl,rfl⟩,hg,hg2⟩)),rfl,rfl,hz,lu⟩,fun s pos last rest hs hl=>?_⟩
 simp only [List.append_assoc] at hs
 have k1:=eM 40 last (by simp) (show s.data.toList.drop _=40::_ from hs)
 have d1:=at_next (m:=[40]) hs
 obtain ⟨n2,l2,T,hn2,k2,hp⟩:=hr s _ ((40:UInt8).toNat:Int) _ d1 (by decide)
 have d2:=at_next d1
 have k3:=mz l2 (show s.data.toList.drop _=32::_ from d2)
 have d3:=at_next (m:=[32]) d2
 have k4:=eats_ascii c op 32 (.inr hc) (show s.data.toList.drop _=c::_ from d3)
 have d4:=at_next (m:=[c]) d3
 have k5:=mz op (show s.data.toList.drop _=32::_ from d4)
 have d5:=at_next (m:=[32]) d4
 obtain ⟨n6,l6,U,hn6,k6,hq⟩:=u7 s _ 32 _ d5 (by decide)
 have d6:=at_next d5
 have k7:=eM 41 l6 (by simp) (show s.data.toList.drop _=41::_ from d6)
 refine ⟨_,_,_,?_,k1.trans (k2.trans (k3.trans (k4.trans (k5.trans (k6.trans k7))))),?_⟩
 ·simp;omega
 ·have:=par_two (op:=op) (lo:=0) (hi:=0) (wd:=[c]) aN (by decide) (fun _=>⟨rfl,rfl⟩) hp hq
  have e2:tkW ⟨op,ByteArray.empty,0,0⟩=[]:=by unfold tkW;simp only;rw [hwB];rfl
  rw [e2] at this
  simpa using this
theorem Reads.since {a b:Int} {l r:List UInt8} {x y:BT aO} (hab:0<=a/\a<=b/\b<=1000000) (h:Reads l x) (h':Reads r y):Reads ([40]++(l++([32]++([83]++(sT a b++(r++[41])))))) (mk 83 ByteArray.empty a b x y):=by
 obtain ⟨⟨hg,hz⟩,hr⟩:=h
 obtain ⟨⟨hg2,lu⟩,u7⟩:=h'
 have hnw:lC 83=false->a=0/\b=0:=fun h=>absurd h (by decide)
 refine ⟨⟨.inr (.inr (.inl ⟨.inr (.inr rfl),rfl,hab,hnw,hg,hg2⟩)),rfl,rfl,hz,lu⟩,fun s pos last rest hs hl=>?_⟩
 simp only [List.append_assoc] at hs
 have k1:=eM 40 last (by simp) (show s.data.toList.drop _=40::_ from hs)
 have d1:=at_next (m:=[40]) hs
 obtain ⟨n2,l2,T,hn2,k2,hp⟩:=hr s _ ((40:UInt8).toNat:Int) _ d1 (by decide)
 have d2:=at_next d1
 have k3:=mz l2 (show s.data.toList.drop _=32::_ from d2)
 have d3:=at_next (m:=[32]) d2
 have k4:=eats_op (op:=83) 32 (by unfold oa;omega) (show s.data.toList.drop _=cP 83++_ from d3)
 have d4:=at_next (m:=[83]) d3
 obtain ⟨n5,hn5,k5⟩:=eats_win (op:=83) 83 (by decide) ⟨hab.1,hab.2.1⟩ d4
 have d5:=at_next d4
 obtain ⟨n6,l6,U,hn6,k6,hq⟩:=u7 s _ 93 _ d5 (by decide)
 have d6:=at_next d5
 have k7:=eM 41 l6 (by simp) (show s.data.toList.drop _=41::_ from d6)
 refine ⟨_,_,_,?_,k1.trans (k2.trans (k3.trans (sA.trans (l:=[83]) k4 (k5.trans (k6.trans k7))))),?_⟩
 ·simp;omega
 ·have:=par_two (op:=83) (lo:=a) (hi:=b) (wd:=cP 83) (.inr (.inr rfl)) hab hnw hp hq
  simpa using this
theorem Reads.read {l:List UInt8} {x:BT aO} (h:Reads l x) (hd:aK x<=12) (hl:l.length<=300) {s:ByteArray} (hs:s.data.toList=l):cI s=(some x,0):=by
 obtain ⟨⟨hg,hz⟩,hr⟩:=h
 have oK:s.size=l.length:=by rw [<- hs,Array.length_toList];rfl
 obtain ⟨n,rJ,T,hn,hE,hp⟩:=hr s 0 32 [] (by simpa using hs) (by decide)
 obtain ⟨A,hA,e⟩:=hE (l.length-n) []
 have e0:l.length-n+n=l.length:=by omega
 rw [e0] at e
 have e':cJ s l.length 0 32 []=some (A++[eS s]):=by
  refine e.trans ?_
  rw [mg _ _ _ _ _ (by rw [oK];omega),List.nil_append]
 unfold cI
 rw [if_neg (by omega),oK,e']
 simp only
 have hlen:aK x<=(A++[eS s]).length:=by
  have h1:=hp.1
  rw [<- hA,List.length_map] at h1
  simp;omega
 rw [hp.2 _ hlen A _ hA]
 simp only
 have e1:bm (-1) [eS s]=some [eS s]:=by
  unfold bm aH
  rfl
 rw [e1]
 simp only
 rw [if_neg (by omega)]
end
namespace Ev
open Go.Deep (BT)
def notX (x:BT aO):BT aO:=mk 172 ByteArray.empty 0 0 x .nil
def andX (x y:BT aO):BT aO:=mk 8743 ByteArray.empty 0 0 x y
def orX (x y:BT aO):BT aO:=mk 8744 ByteArray.empty 0 0 x y
def opX (op a b:Int) (x:BT aO):BT aO:=mk op ByteArray.empty a b x .nil
def sinceX (a b:Int) (x y:BT aO):BT aO:=mk 83 ByteArray.empty a b x y
def twoX (op:Int) (x y:BT aO):BT aO:=mk op ByteArray.empty 0 0 x y
def wordX (s:ByteArray):BT aO:=mk 97 s 0 0 .nil .nil
def notL (l:List UInt8):List UInt8:=[33]++l
def opL (c:UInt8) (a b:Int) (l:List UInt8):List UInt8:=[c]++(sT a b++l)
def twoL (c:UInt8) (l r:List UInt8):List UInt8:=[40]++(l++([32]++([c]++([32]++(r++[41])))))
def t_ (a b:Int) (l r:List UInt8):List UInt8:=[40]++(l++([32]++([83]++(sT a b++(r++[41])))))
structure Made where
 txt:List UInt8
 x:BT aO
 next:Nat
def ltrN (k:Int):Nat:=(aP k 3).toNat
def ay (R:List Int):Nat->Nat->Made
 | 0,i=>⟨(ni (ltrN (aP (R.getD i 0) 12))).data.toList,wordX (ni (ltrN (aP (R.getD i 0) 12))),i+1⟩
 | d+1,i =>
  if aP (R.getD i 0) 12<2\/R.length<i+1 then ⟨(ni (ltrN (aP (R.getD i 0) 12))).data.toList,wordX (ni (ltrN (aP (R.getD i 0) 12))),i+1⟩
  else if aP (R.getD i 0) 12<4 then ⟨notL (ay R d (i+1)).txt,notX (ay R d (i+1)).x,(ay R d (i+1)).next⟩
  else if aP (R.getD i 0) 12=4 then ⟨opL 89 (aP (R.getD (ay R d (i+1)).next 0) 5) (aP (R.getD (ay R d (i+1)).next 0) 5+aP (R.getD ((ay R d (i+1)).next+1) 0) 5) (ay R d (i+1)).txt,opX 89 (aP (R.getD (ay R d (i+1)).next 0) 5) (aP (R.getD (ay R d (i+1)).next 0) 5+aP (R.getD ((ay R d (i+1)).next+1) 0) 5) (ay R d (i+1)).x,(ay R d (i+1)).next+2⟩
  else if aP (R.getD i 0) 12<7 then ⟨opL 79 (aP (R.getD (ay R d (i+1)).next 0) 5) (aP (R.getD (ay R d (i+1)).next 0) 5+aP (R.getD ((ay R d (i+1)).next+1) 0) 5) (ay R d (i+1)).txt,opX 79 (aP (R.getD (ay R d (i+1)).next 0) 5) (aP (R.getD (ay R d (i+1)).next 0) 5+aP (R.getD ((ay R d (i+1)).next+1) 0) 5) (ay R d (i+1)).x,(ay R d (i+1)).next+2⟩
  else if aP (R.getD i 0) 12=7 then ⟨opL 72 (aP (R.getD (ay R d (i+1)).next 0) 5) (aP (R.getD (ay R d (i+1)).next 0) 5+aP (R.getD ((ay R d (i+1)).next+1) 0) 5) (ay R d (i+1)).txt,opX 72 (aP (R.getD (ay R d (i+1)).next 0) 5) (aP (R.getD (ay R d (i+1)).next 0) 5+aP (R.getD ((ay R d (i+1)).next+1) 0) 5) (ay R d (i+1)).x,(ay R d (i+1)).next+2⟩
  else if aP (R.getD i 0) 12<10 then ⟨t_ (aP (R.getD (ay R d (i+1)).next 0) 5) (aP (R.getD (ay R d (i+1)).next 0) 5+aP (R.getD ((ay R d (i+1)).next+1) 0) 5) (ay R d (i+1)).txt (ay R d ((ay R d (i+1)).next+2)).txt,sinceX (aP (R.getD (ay R d (i+1)).next 0) 5) (aP (R.getD (ay R d (i+1)).next 0) 5+aP (R.getD ((ay R d (i+1)).next+1) 0) 5) (ay R d (i+1)).x (ay R d ((ay R d (i+1)).next+2)).x,(ay R d ((ay R d (i+1)).next+2)).next⟩
  else if aP (R.getD i 0) 12=10 then ⟨twoL 38 (ay R d (i+1)).txt (ay R d (ay R d (i+1)).next).txt,andX (ay R d (i+1)).x (ay R d (ay R d (i+1)).next).x,(ay R d (ay R d (i+1)).next).next⟩
  else ⟨twoL 124 (ay R d (i+1)).txt (ay R d (ay R d (i+1)).next).txt,orX (ay R d (i+1)).x (ay R d (ay R d (i+1)).next).x,(ay R d (ay R d (i+1)).next).next⟩
structure cV (len dep s9:Nat) (sS:Int) (l:List UInt8) (x:BT aO):Prop where
 reads:Reads l x
 len:l.length<=len
 dep:aK x<=dep
 s9:aV (ak x)<=s9
 sS:ax x<=sS
theorem cV.good {len dep s9:Nat} {sS:Int} {l:List UInt8} {x:BT aO} (h:cV len dep s9 sS l x):Good x:=h.reads.1.1
theorem cV.read {len dep s9:Nat} {sS:Int} {l:List UInt8} {x:BT aO} (h:cV len dep s9 sS l x) (hl:len<=300) (hd:dep<=12) {s:ByteArray} (hs:s.data.toList=l):cI s=(some x,0):=h.reads.read (Nat.le_trans h.dep hd) (Nat.le_trans h.len hl) hs
theorem cV.weaken {len dep s9:Nat} {sS:Int} {l:List UInt8} {x:BT aO} (h:cV len dep s9 sS l x) {len' dep' nod':Nat} {rea':Int} (h1:len<=len') (h2:dep<=dep') (h3:s9<=nod') (h4:sS<=rea'):cV len' dep' nod' rea' l x :=
 ⟨h.reads,Nat.le_trans h.len h1,Nat.le_trans h.dep h2,Nat.le_trans h.s9 h3,Int.le_trans h.sS h4⟩
theorem cV.not {len dep s9:Nat} {sS:Int} {l:List UInt8} {x:BT aO} (h:cV len dep s9 sS l x):cV (len+1) (dep+1) (s9+1) sS (notL l) (notX x):=by
 have hn:=iI (ak x)
 have ec:ak (notX x)=bQ (ak x):=rfl
 have hd:aK (notX x)=1+max (aK x) 0:=rfl
 have hr:ax (notX x)=0+max (ax x) 0:=rfl
 have h0:=eX h.good.win
 exact ⟨h.reads.not,by have:=h.len;simp [notL];omega,by rw [hd];have:=h.dep;omega,by rw [ec];have:=h.s9;omega,by rw [hr];have:=h.sS;omega⟩
theorem win_len {a b:Int} (h:0<=a/\a<=b) {n:Nat} (hb:b<(10:Nat) ^ (n+1)):(sT a b).length<=2*n+5:=by
 have e1:=si a h.1
 have e2:=si b (by omega)
 have l1:=dec_len n a.toNat (by omega)
 have l2:=dec_len n b.toNat (by omega)
 unfold sT
 rw [e1,e2]
 simp
 omega
theorem cV.op {len dep s9:Nat} {sS:Int} {l:List UInt8} {x:BT aO} {c:UInt8} {op a b:Int} {n:Nat} (h:cV len dep s9 sS l x) (hc:(c=89/\op=89)\/(c=79/\op=79)\/(c=72/\op=72)) (hab:0<=a/\a<=b/\b<=1000000) (hb:b<(10:Nat) ^ (n+1)) :
  cV (len+2*n+6) (dep+1) (s9+3) (sS+b) (opL c a b l) (opX op a b x):=by
 have hn:=iI (ak x)
 have hwl:=win_len ⟨hab.1,hab.2.1⟩ hb
 have hd:aK (opX op a b x)=1+max (aK x) 0:=rfl
 have hr:ax (opX op a b x)=b+max (ax x) 0:=rfl
 have h0:=eX h.good.win
 have ho:op=89\/op=79\/op=72:=by omega
 have hcc:c=UInt8.ofNat op.toNat:=by rcases hc with ⟨rfl,rfl⟩ | ⟨rfl,rfl⟩ | ⟨rfl,rfl⟩<;>rfl
 refine ⟨?_,by have:=h.len;simp [opL];omega,by rw [hd];have:=h.dep;omega,?_,by rw [hr];have:=h.sS;omega⟩
 ·unfold opL opX
  rw [hcc]
  exact Reads.win ho hab h.reads
 ·have hnod:=h.s9
  rcases hc with ⟨_,rfl⟩ | ⟨_,rfl⟩ | ⟨_,rfl⟩
  ·have ec:aV (ak (opX 89 a b x))=aV (ak x)+0+1:=rfl
   rw [ec];omega
  ·have ec:aV (ak (opX 79 a b x))=aV (ak x)+0+1:=rfl
   rw [ec];omega
  ·have ec:aV (ak (opX 72 a b x))=(aV (bQ (ak x))+0+1)+0+1:=rfl
   rw [ec];omega
theorem cV.two {len dep s9 len2 dep2 nod2:Nat} {sS rea2:Int} {l r:List UInt8} {x y:BT aO} {c:UInt8} {op:Int} (h:cV len dep s9 sS l x) (h':cV len2 dep2 nod2 rea2 r y) (hc:(c=38/\op=8743)\/(c=124/\op=8744)) :
  cV (len+len2+5) (max dep dep2+1) (s9+nod2+4) (max sS rea2) (twoL c l r) (twoX op x y):=by
 have hn:=iI (ak x)
 have hn2:=iI (ak y)
 have hd:aK (twoX op x y)=1+max (aK x) (aK y):=rfl
 have hr:ax (twoX op x y)=0+max (ax x) (ax y):=rfl
 refine ⟨Reads.two hc h.reads h'.reads,by have:=h.len;have:=h'.len;simp [twoL];omega,by rw [hd];have:=h.dep;have:=h'.dep;omega,?_,by rw [hr];have:=h.sS;have:=h'.sS;omega⟩
 have hnod:=h.s9
 have hnod2:=h'.s9
 rcases hc with ⟨_,rfl⟩ | ⟨_,rfl⟩
 ·have ec:aV (ak (twoX 8743 x y))=aV (ak x)+aV (ak y)+1:=rfl
  rw [ec];omega
 ·have ec:aV (ak (twoX 8744 x y))=(aV (bQ (ak x))+aV (bQ (ak y))+1)+0+1:=rfl
  rw [ec];omega
theorem cV.since {len dep s9 len2 dep2 nod2:Nat} {sS rea2:Int} {l r:List UInt8} {x y:BT aO} {a b:Int} {n:Nat} (h:cV len dep s9 sS l x) (h':cV len2 dep2 nod2 rea2 r y) (hab:0<=a/\a<=b/\b<=1000000) (hb:b<(10:Nat) ^ (n+1)) :
  cV (len+len2+2*n+9) (max dep dep2+1) (s9+nod2+1) (max sS rea2+b) (t_ a b l r) (sinceX a b x y):=by
 have hwl:=win_len ⟨hab.1,hab.2.1⟩ hb
 have hd:aK (sinceX a b x y)=1+max (aK x) (aK y):=rfl
 have hr:ax (sinceX a b x y)=b+max (ax x) (ax y):=rfl
 have ec:aV (ak (sinceX a b x y))=aV (ak x)+aV (ak y)+1:=rfl
 exact ⟨Reads.since hab h.reads h'.reads,by have:=h.len;have:=h'.len;simp [t_];omega,by rw [hd];have:=h.dep;have:=h'.dep;omega,by rw [ec];have:=h.s9;have:=h'.s9;omega,by rw [hr];have:=h.sS;have:=h'.sS;omega⟩
theorem ltrN_lt (k:Int):ltrN k<3:=by have:=bB k 3 (by decide);unfold ltrN;omega
theorem ltrB_name:∀ n,n<3->(1<=(ni n).size/\(ni n).size<=8/\ni n≠vU/\∀ c,c∈(ni n).data.toList->97<=c.toNat/\c.toNat<=122)/\(ni n).data.toList.length<=1:=by decide +kernel
theorem cV.ltr (k:Int):cV 1 1 1 0 (ni (ltrN k)).data.toList (wordX (ni (ltrN k))):=by
 obtain ⟨h1,h2⟩:=ltrB_name _ (ltrN_lt k)
 exact ⟨Reads.word h1,h2,Nat.le_refl _,Nat.le_refl _,Int.le_refl _⟩
theorem iK (R:List Int):∀ (d i:Nat),cV (10*2 ^ d-9) (d+1) (5*2 ^ d-4) (8*d) (ay R d i).txt (ay R d i).x/\i<(ay R d i).next/\(ay R d i).next+3<=i+4*2 ^ d
 | 0,i=>⟨cV.ltr _,by simp [ay],by simp [ay]⟩
 | d+1,i=>by
  have hpw:2 ^ (d+1)=2*2 ^ d:=by rw [Nat.pow_succ];omega
  have hp1:1<=2 ^ d:=Nat.one_le_two_pow
  obtain ⟨m1,b1,b2⟩:=iK R d (i+1)
  have hk:=bB (R.getD i 0) 12 (by decide)
  have ha:=bB (R.getD (ay R d (i+1)).next 0) 5 (by decide)
  have hb:=bB (R.getD ((ay R d (i+1)).next+1) 0) 5 (by decide)
  obtain ⟨m2,c1,c2⟩:=iK R d (ay R d (i+1)).next
  obtain ⟨m3,e1,e2⟩:=iK R d ((ay R d (i+1)).next+2)
  rw [hpw]
  unfold ay
  by_cases h1:aP (R.getD i 0) 12<2\/R.length<i+1
  ·rw [if_pos h1]
   exact ⟨(cV.ltr _).weaken (by omega) (by omega) (by omega) (by omega),by show i<i+1;omega,by show i+1+3<=_;omega⟩
  ·rw [if_neg h1]
   by_cases h2:aP (R.getD i 0) 12<4
   ·rw [if_pos h2]
    exact ⟨m1.not.weaken (by omega) (by omega) (by omega) (by omega),by show i<(ay R d (i+1)).next;omega,by show (ay R d (i+1)).next+3<=_;omega⟩
   ·rw [if_neg h2]
    by_cases h3:aP (R.getD i 0) 12=4
    ·rw [if_pos h3]
     exact ⟨(m1.op (n:=0) (.inl ⟨rfl,rfl⟩) ⟨by omega,by omega,by omega⟩ (by omega)).weaken (by omega) (by omega) (by omega) (by omega),by show i<(ay R d (i+1)).next+2;omega,by show (ay R d (i+1)).next+2+3<=_;omega⟩
    ·rw [if_neg h3]
     by_cases h4:aP (R.getD i 0) 12<7
     ·rw [if_pos h4]
      exact ⟨(m1.op (n:=0) (.inr (.inl ⟨rfl,rfl⟩)) ⟨by omega,by omega,by omega⟩ (by omega)).weaken (by omega) (by omega) (by omega) (by omega),by show i<(ay R d (i+1)).next+2;omega,by show (ay R d (i+1)).next+2+3<=_;omega⟩
     ·rw [if_neg h4]
      by_cases h5:aP (R.getD i 0) 12=7
      ·rw [if_pos h5]
       exact ⟨(m1.op (n:=0) (.inr (.inr ⟨rfl,rfl⟩)) ⟨by omega,by omega,by omega⟩ (by omega)).weaken (by omega) (by omega) (by omega) (by omega),by show i<(ay R d (i+1)).next+2;omega,by show (ay R d (i+1)).next+2+3<=_;omega⟩
      ·rw [if_neg h5]
       by_cases h6:aP (R.getD i 0) 12<10
       ·rw [if_pos h6]
        exact ⟨(m1.since (n:=0) m3 ⟨by omega,by omega,by omega⟩ (by omega)).weaken (by omega) (by omega) (by omega) (by omega),by show i<(ay R d ((ay R d (i+1)).next+2)).next;omega,by show (ay R d ((ay R d (i+1)).next+2)).next+3<=_;omega⟩
       ·rw [if_neg h6]
        by_cases h7:aP (R.getD i 0) 12=10
        ·rw [if_pos h7]
         exact ⟨(m1.two m2 (.inl ⟨rfl,rfl⟩)).weaken (by omega) (by omega) (by omega) (by omega),by show i<(ay R d (ay R d (i+1)).next).next;omega,by show (ay R d (ay R d (i+1)).next).next+3<=_;omega⟩
        ·rw [if_neg h7]
         exact ⟨(m1.two m2 (.inr ⟨rfl,rfl⟩)).weaken (by omega) (by omega) (by omega) (by omega),by show i<(ay R d (ay R d (i+1)).next).next;omega,by show (ay R d (ay R d (i+1)).next).next+3<=_;omega⟩
section
variable (a b : Int) (x y : BT aO) (e : uj) (es : List uj)
end
end Ev
namespace Ev
open Go.RowKit Go.Deep
def iD (w:World) (o:Option Addr) (R:List Int):Prop:=R≠[]->∃ b off,o=some ⟨b,off,none⟩/\b<w.heap.size/\∀ j,j<R.length->w.cell? ⟨b,off+j,none⟩=some (.int .i64 (R.getD j 0))
theorem iD.below {w w':World} {o:Option Addr} {R:List Int} (h:iD w o R) (hb:Below w.heap.size w w'):iD w' o R:=fun hne=>by
 obtain ⟨b,off,h1,h2,h3⟩:=h hne
 exact ⟨b,off,h1,Nat.lt_of_lt_of_le h2 hb.size,fun j hj=>by rw [World.cell?_of_block (hb.block b h2)];exact h3 j hj⟩
theorem fU (R:List Int) (o:Option Addr) (cap i:Nat) (w:World) (hR:iD w o R) (hlen:R.length<=4611686018427387904) (hi:i<=9223372036854775000) :
  Calls Tryz.prog 29 #[.slice o R.length cap,.int .i64 (i:Int)] w fun e w'=>e=.returned (.int .i64 (R.getD i 0))/\w'=w:=by
 have hi':=hi
 have hlen':=hlen
 clear hi hlen
 by_cases h:i<R.length
 ·obtain ⟨b,off,rfl,_,hc⟩:=hR (by intro e;rw [e] at h;simp at h)
  have c1:=hc i h
  generalize R.getD i 0=r at *
  clear hc
  generalize R.length=n at *
  go_enter Tryz.func29,Tryz.ntmps29
  go_wp2_with fail
  go_ret
  exact ⟨rfl,rfl⟩
 ·have e:R.getD i 0=0:=by rw [List.getD_eq_getElem?_getD,List.getElem?_eq_none (by omega)];rfl
  rw [e]
  clear e hR
  generalize R.length=n at *
  go_enter Tryz.func29,Tryz.ntmps29
  go_wp2_with fail
  go_ret
  exact ⟨rfl,rfl⟩
theorem uV {R:List Int} (h:∀ r∈R,mj r) (i:Nat):mj (R.getD i 0):=by
 rw [List.getD_eq_getElem?_getD]
 cases hx:R[i]? with
 | none=>exact ⟨by decide,by decide⟩
 | some r=>exact h r (List.mem_of_getElem? hx)
theorem ltr_pick (k:Int):(⟨#[97,98,99]⟩:ByteArray).extract (aP k 3).toNat ((aP k 3).toNat+1)=ni (ltrN k):=ltr_at _ (ltrN_lt k)
def cH (R:List Int) (d i:Nat) (w:World) (e:Ending) (w':World):Prop:=(∃ s,e=.returned (.tuple #[.string s,.int .i64 ((ay R d i).next:Int)])/\s.data.toList=(ay R d i).txt)/\Below w.heap.size w w'
theorem cH.of {R:List Int} {d i:Nat} {w:World} {M:Made} (hM:ay R d i=M) {s:ByteArray} {n:Int} {w':World} (hs:s.data.toList=M.txt) (hn:n=(M.next:Int)) (hb:Below w.heap.size w w'):cH R d i w (.returned (.tuple #[.string s,.int .i64 n])) w':=by
 subst hn
 exact ⟨⟨s,by rw [hM],by rw [hM];exact hs⟩,hb⟩
section
variable {R : List Int} {d i : Nat} {k : Int}
theorem sentF_ltr (hk:aP (R.getD i 0) 12=k) (h:d=0\/k<2\/R.length<i+1):ay R d i=⟨(ni (ltrN k)).data.toList,wordX (ni (ltrN k)),i+1⟩:=by
 subst hk
 cases d with
 | zero=>rfl
 | succ d=>unfold ay;rw [if_pos (by omega)]
theorem sentF_not (hk:aP (R.getD i 0) 12=k) (h:2<=k/\i+1<=R.length) (h2:k<4):ay R (d+1) i=⟨notL (ay R d (i+1)).txt,notX (ay R d (i+1)).x,(ay R d (i+1)).next⟩:=by
 subst hk
 rw [ay,if_neg (by omega),if_pos h2]
theorem sentF_op (hk:aP (R.getD i 0) 12=k) (h:2<=k/\i+1<=R.length) {c:UInt8} {op:Int} (h2:(k=4/\c=89/\op=89)\/((k=5\/k=6)/\c=79/\op=79)\/(k=7/\c=72/\op=72)):ay R (d+1) i=⟨opL c (aP (R.getD (ay R d (i+1)).next 0) 5) (aP (R.getD (ay R d (i+1)).next 0) 5+aP (R.getD ((ay R d (i+1)).next+1) 0) 5) (ay R d (i+1)).txt,opX op (aP (R.getD (ay R d (i+1)).next 0) 5) (aP (R.getD (ay R d (i+1)).next 0) 5+aP (R.getD ((ay R d (i+1)).next+1) 0) 5) (ay R d (i+1)).x,(ay R d (i+1)).next+2⟩:=by
 subst hk
 rw [ay,if_neg (by omega),if_neg (by omega)]
 rcases h2 with ⟨h,rfl,rfl⟩ | ⟨h,rfl,rfl⟩ | ⟨h,rfl,rfl⟩
 ·rw [if_pos h]
 ·rw [if_neg (by omega),if_pos (by omega)]
 ·rw [if_neg (by omega),if_neg (by omega),if_pos h]
theorem sentF_since (hk:aP (R.getD i 0) 12=k) (h:2<=k/\i+1<=R.length) (h2:8<=k/\k<10):ay R (d+1) i=⟨t_ (aP (R.getD (ay R d (i+1)).next 0) 5) (aP (R.getD (ay R d (i+1)).next 0) 5+aP (R.getD ((ay R d (i+1)).next+1) 0) 5) (ay R d (i+1)).txt (ay R d ((ay R d (i+1)).next+2)).txt,sinceX (aP (R.getD (ay R d (i+1)).next 0) 5) (aP (R.getD (ay R d (i+1)).next 0) 5+aP (R.getD ((ay R d (i+1)).next+1) 0) 5) (ay R d (i+1)).x (ay R d ((ay R d (i+1)).next+2)).x,(ay R d ((ay R d (i+1)).next+2)).next⟩:=by
 subst hk
 rw [ay,if_neg (by omega),if_neg (by omega),if_neg (by omega),if_neg (by omega),if_neg (by omega),if_pos h2.2]
theorem sentF_two (hk:aP (R.getD i 0) 12=k) (h:2<=k/\i+1<=R.length) {c:UInt8} {op:Int} (h2:(k=10/\c=38/\op=8743)\/(k=11/\c=124/\op=8744)):ay R (d+1) i=⟨twoL c (ay R d (i+1)).txt (ay R d (ay R d (i+1)).next).txt,twoX op (ay R d (i+1)).x (ay R d (ay R d (i+1)).next).x,(ay R d (ay R d (i+1)).next).next⟩:=by
 subst hk
 rw [ay,if_neg (by omega),if_neg (by omega),if_neg (by omega),if_neg (by omega),if_neg (by omega),if_neg (by omega)]
 rcases h2 with ⟨h,rfl,rfl⟩ | ⟨h,rfl,rfl⟩
 ·rw [if_pos h];rfl
 ·rw [if_neg (by omega)];rfl
end
set_option maxRecDepth 100000 in
set_option maxHeartbeats 16000000 in
theorem sent_stop (R:List Int) (o:Option Addr) (cap d i:Nat) (w:World) (hlen:R.length<=4611686018427387904) (hI:∀ r∈R,mj r) (hR:iD w o R) (hi:i<=9223372036854775000) (hd:d<=3) (h:d=0\/aP (R.getD i 0) 12<2\/R.length<i+1):Calls Tryz.prog 18 #[.slice o R.length cap,.int .i64 (i:Int),.int .i64 (d:Int)] w (cH R d i w):=by
 have hn:=fU R o cap i w hR hlen hi
 have hp:=jl (R.getD i 0) 12 w (uV hI i) (by decide)
 have hkr:=bB (R.getD i 0) 12 (by decide)
 obtain ⟨k,hk⟩:∃ k,aP (R.getD i 0) 12=k:=⟨_,rfl⟩
 rw [hk] at hp hkr h
 have hp3:=jl k 3 w ⟨by omega,by omega⟩ (by decide)
 have hr3:=bB k 3 (by decide)
 have hltr:=ltr_pick k
 have bH:∀ w',Below w.heap.size w w'->cH R d i w (.returned (.tuple #[.string (ni (ltrN k)),.int .i64 ((i:Int)+1)])) w':=fun w' hb=>cH.of (sentF_ltr hk h) rfl (by simp) hb
 replace bH:Hid _:=bH
 obtain ⟨q,hq⟩:∃ q:Nat,aP k 3=q:=⟨(aP k 3).toNat,by omega⟩
 rw [hq] at hp3 hr3 hltr
 simp only [Int.toNat_natCast] at hltr
 clear hk hI hR hq
 generalize ni (ltrN k)=lt at *
 generalize R.getD i 0=r at *
 generalize hQ:cH R d i w=Q at *
 clear hQ
 generalize R.length=n at *
 go_enter Tryz.func18,Tryz.ntmps18
 go_wp2_with fail
 refine hn.mono ?_
 rintro e w1 ⟨rfl,l8⟩
 have l8:=l8.symm
 subst l8
 go_wp2_with fail
 refine hp.mono ?_
 rintro e w1 ⟨rfl,l8⟩
 have l8:=l8.symm
 subst l8
 by_cases h0:d=0
 ·subst h0
  go_wp2_with fail
  refine hp3.mono ?_
  rintro e w1 ⟨rfl,l8⟩
  have l8:=l8.symm
  subst l8
  go_wp2_with fail
  refine hp3.mono ?_
  rintro e w1 ⟨rfl,l8⟩
  have l8:=l8.symm
  subst l8
  go_wp2_with fail
  exact bH.out _ (Below.refl _ _)
 ·by_cases h2:k<2
  ·go_wp2_with fail
   refine hp3.mono ?_
   rintro e w1 ⟨rfl,l8⟩
   have l8:=l8.symm
   subst l8
   go_wp2_with fail
   refine hp3.mono ?_
   rintro e w1 ⟨rfl,l8⟩
   have l8:=l8.symm
   subst l8
   go_wp2_with fail
   exact bH.out _ (Below.refl _ _)
  ·have h3:n<i+1:=by omega
   go_wp2_with fail
   refine hp3.mono ?_
   rintro e w1 ⟨rfl,l8⟩
   have l8:=l8.symm
   subst l8
   go_wp2_with fail
   refine hp3.mono ?_
   rintro e w1 ⟨rfl,l8⟩
   have l8:=l8.symm
   subst l8
   go_wp2_with fail
   exact bH.out _ (Below.refl _ _)
end Ev
namespace Ev
open Go.RowKit Go.Deep
theorem dec_one (n:Nat) (h:n<10):(Lib.decDigits n).length<=1:=dec_len 0 n (by omega)
theorem nM {s:ByteArray} {l:List UInt8} (h:s.data.toList=l):s.size=l.length:=by
 rw [<- h,Array.length_toList]
 rfl
set_option maxRecDepth 100000 in
set_option maxHeartbeats 32000000 in
theorem sent_step (R:List Int) (o:Option Addr) (cap d i:Nat) (w:World) (hlen:R.length<=4611686018427387904) (hI:∀ r∈R,mj r) (hR:iD w o R) (hi:i+4*2 ^ (d+1)<=9223372036854775000) (hd:d<=2) (h2k:2<=aP (R.getD i 0) 12) (qo:i+1<=R.length)
  (ih:∀ (i:Nat) (w:World),iD w o R->i+4*2 ^ d<=9223372036854775000->Calls Tryz.prog 18 #[.slice o R.length cap,.int .i64 (i:Int),.int .i64 (d:Int)] w (cH R d i w)) :
  Calls Tryz.prog 18 #[.slice o R.length cap,.int .i64 (i:Int),.int .i64 ((d+1:Nat):Int)] w (cH R (d+1) i w):=by
 have hpw:2 ^ (d+1)=2*2 ^ d:=by rw [Nat.pow_succ];omega
 have hp1:1<=2 ^ d:=Nat.one_le_two_pow
 have hp8:2 ^ d<=4:=Nat.pow_le_pow_right (n:=2) (by omega) hd
 have hn:=fU R o cap i w hR hlen (by omega)
 have hp:=jl (R.getD i 0) 12 w (uV hI i) (by decide)
 have hkr:=bB (R.getD i 0) 12 (by decide)
 obtain ⟨k,hk⟩:∃ k,aP (R.getD i 0) 12=k:=⟨_,rfl⟩
 rw [hk] at hp hkr h2k
 obtain ⟨m1,b1,b2⟩:=iK R d (i+1)
 have l1:=m1.len
 have ih1:=ih (i+1) w hR (by omega)
 obtain ⟨n1,hn1⟩:∃ n,n=(ay R d (i+1)).next:=⟨_,rfl⟩
 rw [<- hn1] at b1 b2
 have hN1:∀ w',Below w.heap.size w w'->Calls Tryz.prog 29 #[.slice o R.length cap,.int .i64 (n1:Int)] w' fun e w2=>e=.returned (.int .i64 (R.getD n1 0))/\w2=w':=fun w' hb=>fU R o cap n1 w' (hR.below hb) hlen (by omega)
 have hN2:∀ w',Below w.heap.size w w'->Calls Tryz.prog 29 #[.slice o R.length cap,.int .i64 ((n1:Int)+1)] w' fun e w2=>e=.returned (.int .i64 (R.getD (n1+1) 0))/\w2=w':=fun w' hb=>fU R o cap (n1+1) w' (hR.below hb) hlen (by omega)
 have hP1:∀ w',Calls Tryz.prog 19 #[.int .i64 (R.getD n1 0),.int .i64 5] w' fun e w2=>e=.returned (.int .i64 (aP (R.getD n1 0) 5))/\w2=w':=fun w'=>jl _ 5 w' (uV hI _) (by decide)
 have hP2:∀ w',Calls Tryz.prog 19 #[.int .i64 (R.getD (n1+1) 0),.int .i64 5] w' fun e w2=>e=.returned (.int .i64 (aP (R.getD (n1+1) 0) 5))/\w2=w':=fun w'=>jl _ 5 w' (uV hI _) (by decide)
 obtain ⟨a,ha⟩:∃ a:Nat,aP (R.getD n1 0) 5=a:=⟨(aP (R.getD n1 0) 5).toNat,by have:=bB (R.getD n1 0) 5 (by decide);omega⟩
 obtain ⟨c,hc⟩:∃ c:Nat,aP (R.getD (n1+1) 0) 5=c:=⟨(aP (R.getD (n1+1) 0) 5).toNat,by have:=bB (R.getD (n1+1) 0) 5 (by decide);omega⟩
 have ha5:a<5:=by have:=bB (R.getD n1 0) 5 (by decide);omega
 have hc5:c<5:=by have:=bB (R.getD (n1+1) 0) 5 (by decide);omega
 have hD1:∀ w',Calls Tryz.prog 20 #[.int .i64 (a:Int)] w' fun e w2=>Below w'.heap.size w' w2/\∃ t,e=.returned (.string t)/\t.data.toList=Lib.decDigits a:=fun w'=>digits_any a w' (by omega)
 have hD2:∀ w',Calls Tryz.prog 20 #[.int .i64 ((a:Int)+(c:Int))] w' fun e w2=>Below w'.heap.size w' w2/\∃ t,e=.returned (.string t)/\t.data.toList=Lib.decDigits (a+c):=fun w'=>digits_any (a+c) w' (by omega)
 have e1a:Lib.itoa (a:Int)=Lib.decDigits a:=si _ (by omega)
 have e1b:Lib.itoa ((a:Int)+(c:Int))=Lib.decDigits (a+c):=si _ (by omega)
 obtain ⟨m2,c1,c2⟩:=iK R d n1
 have l2:=m2.len
 obtain ⟨m3,g1,g2⟩:=iK R d (n1+2)
 have l3:=m3.len
 have hS2:∀ w',Below w.heap.size w w'->Calls Tryz.prog 18 #[.slice o R.length cap,.int .i64 (n1:Int),.int .i64 (d:Int)] w' (cH R d n1 w'):=fun w' hb=>ih n1 w' (hR.below hb) (by omega)
 have hS3:∀ w',Below w.heap.size w w'->Calls Tryz.prog 18 #[.slice o R.length cap,.int .i64 ((n1:Int)+2),.int .i64 (d:Int)] w' (cH R d (n1+2) w'):=fun w' hb=>ih (n1+2) w' (hR.below hb) (by omega)
 have fNot:∀ w' s,Below w.heap.size w w'->k<4->s.data.toList=notL (ay R d (i+1)).txt->cH R (d+1) i w (.returned (.tuple #[.string s,.int .i64 (n1:Int)])) w':=fun w' s hb h2 hs=>cH.of (sentF_not hk ⟨h2k,qo⟩ h2) hs (by rw [hn1]) hb
 have fOp:∀ w' s (cc:UInt8) (op:Int),Below w.heap.size w w'->((k=4/\cc=89/\op=89)\/((k=5\/k=6)/\cc=79/\op=79)\/(k=7/\cc=72/\op=72))->s.data.toList=opL cc a ((a:Int)+c) (ay R d (i+1)).txt->cH R (d+1) i w (.returned (.tuple #[.string s,.int .i64 ((n1:Int)+2)])) w':=fun w' s cc op hb h2 hs=>cH.of (sentF_op hk ⟨h2k,qo⟩ h2) (by rw [<- hn1,ha,hc];exact hs) (by rw [<- hn1];simp) hb
 have fSince:∀ w' s,Below w.heap.size w w'->8<=k/\k<10->s.data.toList=t_ a ((a:Int)+c) (ay R d (i+1)).txt (ay R d (n1+2)).txt->cH R (d+1) i w (.returned (.tuple #[.string s,.int .i64 ((ay R d (n1+2)).next:Int)])) w':=fun w' s hb h2 hs=>cH.of (sentF_since hk ⟨h2k,qo⟩ h2) (by rw [<- hn1,ha,hc];exact hs) (by rw [<- hn1]) hb
 have fTwo:∀ w' s (cc:UInt8) (op:Int),Below w.heap.size w w'->((k=10/\cc=38/\op=8743)\/(k=11/\cc=124/\op=8744))->s.data.toList=twoL cc (ay R d (i+1)).txt (ay R d n1).txt->cH R (d+1) i w (.returned (.tuple #[.string s,.int .i64 ((ay R d n1).next:Int)])) w':=fun w' s cc op hb h2 hs=>cH.of (sentF_two hk ⟨h2k,qo⟩ h2) (by rw [<- hn1];exact hs) (by rw [<- hn1]) hb
 have ih1':Calls Tryz.prog 18 #[.slice o R.length cap,.int .i64 ((i:Int)+1),.int .i64 (d:Int)] w fun e w'=>(∃ s,e=.returned (.tuple #[.string s,.int .i64 (n1:Int)])/\s.data.toList=(ay R d (i+1)).txt)/\Below w.heap.size w w':=by
  rw [hn1];exact ih1
 have hS2':∀ w',Below w.heap.size w w'->Calls Tryz.prog 18 #[.slice o R.length cap,.int .i64 (n1:Int),.int .i64 (d:Int)] w' fun e w2=>(∃ s,e=.returned (.tuple #[.string s,.int .i64 ((ay R d n1).next:Int)])/\s.data.toList=(ay R d n1).txt)/\Below w'.heap.size w' w2:=hS2
 have hS3':∀ w',Below w.heap.size w w'->Calls Tryz.prog 18 #[.slice o R.length cap,.int .i64 ((n1:Int)+2),.int .i64 (d:Int)] w' fun e w2=>(∃ s,e=.returned (.tuple #[.string s,.int .i64 ((ay R d (n1+2)).next:Int)])/\s.data.toList=(ay R d (n1+2)).txt)/\Below w'.heap.size w' w2:=hS3
 rw [ha] at hP1
 rw [hc] at hP2
 replace fNot:Hid _:=fNot
 replace fOp:Hid _:=fOp
 replace fSince:Hid _:=fSince
 replace fTwo:Hid _:=fTwo
 replace hN1:Hid _:=hN1
 replace hN2:Hid _:=hN2
 replace hP1:Hid _:=hP1
 replace hP2:Hid _:=hP2
 replace hD1:Hid _:=hD1
 replace hD2:Hid _:=hD2
 replace hS2':Hid _:=hS2'
 replace hS3':Hid _:=hS3'
 replace e1a:Hid _:=e1a
 replace e1b:Hid _:=e1b
 clear ih ih1 hI hR hk ha hc hn1 m1 m2 m3 hS2 hS3 hpw
 generalize (ay R d (n1+2)).txt=x3 at *
 generalize (ay R d (n1+2)).next=y3 at *
 generalize (ay R d n1).txt=x2 at *
 generalize (ay R d n1).next=y2 at *
 generalize (ay R d (i+1)).txt=x1 at *
 generalize R.getD n1 0=r1 at *
 generalize R.getD (n1+1) 0=r2 at *
 generalize R.getD i 0=r at *
 generalize hQ:cH R (d+1) i w=Q at *
 clear hQ
 generalize R.length=n at *
 generalize 2 ^ d=pd at *
 have qy:decide ((d:Int)+1=0)=false:=by simp;omega
 have hx2:decide (k<2)=false:=by simp;omega
 have hx3:decide ((n:Int)<(i:Int)+1)=false:=by simp;omega
 go_enter Tryz.func18,Tryz.ntmps18
 go_wp2_with fail
 refine hn.mono ?_
 rintro e w1 ⟨rfl,l8⟩
 have l8:=l8.symm
 subst l8
 go_wp2_with fail
 refine hp.mono ?_
 rintro e w1 ⟨rfl,l8⟩
 have l8:=l8.symm
 subst l8
 go_wp2_with fail
 refine ih1'.mono ?_
 rintro e w1 ⟨⟨s1,rfl,kS⟩,a_⟩
 have z1:=nM kS
 go_wp2_with fail
 refine (hN1.out w1 a_).mono ?_
 rintro e w2 ⟨rfl,tR⟩
 have tR:=tR.symm
 subst tR
 go_wp2_with fail
 refine (hP1.out w1).mono ?_
 rintro e w2 ⟨rfl,tR⟩
 have tR:=tR.symm
 subst tR
 go_wp2_with fail
 refine (hN2.out w1 a_).mono ?_
 rintro e w2 ⟨rfl,tR⟩
 have tR:=tR.symm
 subst tR
 go_wp2_with fail
 refine (hP2.out w1).mono ?_
 rintro e w2 ⟨rfl,tR⟩
 have tR:=tR.symm
 subst tR
 go_wp2_with fail
 refine (hD1.out w1).mono ?_
 rintro e w2 ⟨cB,ta,rfl,hta⟩
 have za:=nM hta
 have za1:=dec_one a (by omega)
 go_wp2_with fail
 refine (hD2.out w2).mono ?_
 rintro e w3 ⟨pU,tb,rfl,htb⟩
 have zb:=nM htb
 have zb1:=dec_one (a+c) (by omega)
 have hb:=(a_.tr cB).tr pU
 have zz:∀ x:UInt8,(⟨#[x]⟩:ByteArray).size=1:=fun _=>rfl
 have hk12:k=2\/k=3\/k=4\/k=5\/k=6\/k=7\/k=8\/k=9\/k=10\/k=11:=by omega
 clear qy hx2 hx3 hkr h2k hn hp
 rcases hk12 with rfl | rfl | rfl | rfl | rfl | rfl | rfl | rfl | rfl | rfl
 ·go_wp2_with fail
  exact fNot.out w3 _ hb (by decide) (by simp only [ByteArray.data_append,Array.toList_append,kS,notL])
 ·go_wp2_with fail
  exact fNot.out w3 _ hb (by decide) (by simp only [ByteArray.data_append,Array.toList_append,kS,notL])
 ·go_wp2_with fail
  exact fOp.out w3 _ 89 89 hb (by simp) (by simp only [ByteArray.data_append,Array.toList_append,kS,hta,htb,opL,sT,e1a.out,e1b.out];simp)
 ·go_wp2_with fail
  exact fOp.out w3 _ 79 79 hb (by simp) (by simp only [ByteArray.data_append,Array.toList_append,kS,hta,htb,opL,sT,e1a.out,e1b.out];simp)
 ·go_wp2_with fail
  exact fOp.out w3 _ 79 79 hb (by simp) (by simp only [ByteArray.data_append,Array.toList_append,kS,hta,htb,opL,sT,e1a.out,e1b.out];simp)
 ·go_wp2_with fail
  exact fOp.out w3 _ 72 72 hb (by simp) (by simp only [ByteArray.data_append,Array.toList_append,kS,hta,htb,opL,sT,e1a.out,e1b.out];simp)
 ·go_wp2_with fail
  refine (hS3'.out w3 hb).mono ?_
  rintro e w4 ⟨⟨s2,rfl,oJ⟩,hb4⟩
  have z2:=nM oJ
  go_wp2_with fail
  exact fSince.out w4 _ (hb.tr hb4) (by decide) (by simp only [ByteArray.data_append,Array.toList_append,kS,oJ,hta,htb,t_,sT,e1a.out,e1b.out];simp)
 ·go_wp2_with fail
  refine (hS3'.out w3 hb).mono ?_
  rintro e w4 ⟨⟨s2,rfl,oJ⟩,hb4⟩
  have z2:=nM oJ
  go_wp2_with fail
  exact fSince.out w4 _ (hb.tr hb4) (by decide) (by simp only [ByteArray.data_append,Array.toList_append,kS,oJ,hta,htb,t_,sT,e1a.out,e1b.out];simp)
 ·go_wp2_with fail
  refine (hS2'.out w3 hb).mono ?_
  rintro e w4 ⟨⟨s2,rfl,oJ⟩,hb4⟩
  have z2:=nM oJ
  go_wp2_with fail
  exact fTwo.out w4 _ 38 8743 (hb.tr hb4) (by simp) (by simp only [ByteArray.data_append,Array.toList_append,kS,oJ,twoL];simp)
 ·go_wp2_with fail
  refine (hS2'.out w3 hb).mono ?_
  rintro e w4 ⟨⟨s2,rfl,oJ⟩,hb4⟩
  have z2:=nM oJ
  go_wp2_with fail
  exact fTwo.out w4 _ 124 8744 (hb.tr hb4) (by simp) (by simp only [ByteArray.data_append,Array.toList_append,kS,oJ,twoL];simp)
theorem sent_any (R:List Int) (o:Option Addr) (cap:Nat) (hlen:R.length<=4611686018427387904) (hI:∀ r∈R,mj r):∀ (d:Nat),d<=3->∀ (i:Nat) (w:World),iD w o R->i+4*2 ^ d<=9223372036854775000->Calls Tryz.prog 18 #[.slice o R.length cap,.int .i64 (i:Int),.int .i64 (d:Int)] w (cH R d i w)
 | 0,hd,i,w,hR,hi=>sent_stop R o cap 0 i w hlen hI hR (by omega) hd (.inl rfl)
 | d+1,hd,i,w,hR,hi=>by
  by_cases h:aP (R.getD i 0) 12<2\/R.length<i+1
  ·exact sent_stop R o cap (d+1) i w hlen hI hR (by omega) hd (.inr h)
  ·exact sent_step R o cap d i w hlen hI hR hi (by omega) (by omega) (by omega) fun i w hR hi=>sent_any R o cap hlen hI d (by omega) i w hR hi
end Ev
end Go.Proofs.YtpbbmagjhkakgaaGreatDoor
