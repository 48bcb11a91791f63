import Derived.Test.YtpbbmagjhkakgaaGreatDoorSmSentToSnOps
import Derived.Test.YtpbbmagjhkakgaaGreatDoorEvCopyToEvTake3
import Derived.Laws.CopyRow
import Derived.Deep.RegionLaw
namespace Go.Proofs.YtpbbmagjhkakgaaGreatDoor.Ev
open Go.RowKit Go.Deep Go.Maps Go.Proofs.YtpbbmagjhkakgaaGreatDoor.Lf Go.Conc
def look:List (Nat×Value)->Nat->Option Value
 | [],_=>none
 | p::l,j=>if j=p.1 then some p.2 else look l j
structure Fx (N:Nat) (l:List (Nat×Value)) (A:Act):Prop where
 size:A.tmps.size=N
 defers:A.defers=[]
 get:∀ j v,look l j=some v->A.tmps[j]? = some v
def evl (l:List (Nat×Value)):Operand->Option Value
 | .tmp j=>look l j
 | .const v=>some v
 | _=>none
def evls (l:List (Nat×Value)):List Operand->Option (List Value)
 | []=>some []
 | x::xs=>match evl l x,evls l xs with
  | some v,some vs=>some (v::vs)
  | _,_=>none
theorem Fx.put {N:Nat} {l:List (Nat×Value)} {A:Act} (h:Fx N l A) {d:Nat} (hd:d<N) (v:Value):Fx N ((d,v)::l) (A.put (some d) v):=by
 have p:=put_facts A d v (by rw [h.size];exact hd)
 refine ⟨p.1.trans h.size,p.2.1.trans h.defers,fun j u hj=>?_⟩
 unfold look at hj
 by_cases e:j=d
 ·subst e
  rw [if_pos rfl] at hj
  cases hj
  exact p.2.2.1
 ·rw [if_neg e] at hj
  rw [p.2.2.2 j e]
  exact h.get j u hj
theorem Fx.ev {N:Nat} {l:List (Nat×Value)} {A:Act} (h:Fx N l A) {x:Operand} {v:Value} (hx:evl l x=some v):A.eval x=v:=by
 cases x with
 | tmp j=>exact eval_tmp (h.get j v hx)
 | const u=>cases hx;rfl
 | global g=>cases hx
 | func f=>cases hx
theorem Fx.evs {N:Nat} {l:List (Nat×Value)} {A:Act} (h:Fx N l A):∀ {xs:List Operand} {vs:List Value},evls l xs=some vs->xs.map A.eval=vs
 | [],_,e=>by cases e;rfl
 | x::xs,vs,e=>by
  unfold evls at e
  cases hx:evl l x with
  | none=>rw [hx] at e;cases e
  | some v =>
   rw [hx] at e
   cases hxs:evls l xs with
   | none=>rw [hxs] at e;cases e
   | some us =>
    rw [hxs] at e
    cases e
    rw [List.map_cons,h.ev hx,h.evs hxs]
theorem look_mem {j:Nat} {v:Value}:∀ {m:List (Nat×Value)},look m j=some v->∃ p∈m,p=(j,v)
 | [],h=>by cases h
 | p::m,h=>by
  unfold look at h
  by_cases e:j=p.1
  ·rw [if_pos e] at h
   cases h
   exact ⟨p,List.mem_cons_self ..,by rw [e]⟩
  ·rw [if_neg e] at h
   obtain ⟨q,h1,h2⟩:=look_mem h
   exact ⟨q,List.mem_cons_of_mem _ h1,h2⟩
theorem Fx.less {N:Nat} {l m:List (Nat×Value)} {A:Act} (h:Fx N l A) (hm:∀ p∈m,look l p.1=some p.2):Fx N m A:=by
 refine ⟨h.size,h.defers,fun j v hj=>?_⟩
 obtain ⟨p,h1,rfl⟩:=look_mem hj
 exact h.get j v (hm _ h1)
theorem Fx.adds {N:Nat} {l m:List (Nat×Value)} {A:Act} (h:Fx N l A) (hm:∀ p∈m,A.tmps[p.1]? = some p.2):Fx N m A :=
 ⟨h.size,h.defers,fun j v hj=>by
  obtain ⟨p,h1,rfl⟩:=look_mem hj
  exact hm _ h1⟩
section
variable {K : Goroutine → World → Prop} {b : Frame} {k : List Item} {cs : List Frame} {A : Act} {w : World} {ops : Array Oper} {i d N : Nat} {rest : List Nat} {v : Value} {l : List (Nat × Value)}
theorem mvF {x:Operand} (h:IsOp ops i d (.move x)) (hA:Fx N l A) (hx:evl l x=some v) (hd:d<N) (hi:∀ it∈k,okItem it) (hc:∀ fr∈cs,okFrame fr)
  (hk:∀ A',Fx N ((d,v)::l) A'->LeadsR Tryz.prog K (G (b.at A' (.inRegion ops rest::k)) cs) w):LeadsR Tryz.prog K (G (b.at A (.inRegion ops (i::rest)::k)) cs) w :=
 LeadsR.mv plain_prog h (hA.ev hx) hi hc (hk _ (hA.put hd v))
theorem asgF {x:Operand} (h:IsOp ops i d (.assign x)) (hA:Fx N l A) (hx:evl l x=some v) (hd:d<N) (hi:∀ it∈k,okItem it) (hc:∀ fr∈cs,okFrame fr)
  (hk:∀ A',Fx N ((d,v)::l) A'->LeadsR Tryz.prog K (G (b.at A' (.inRegion ops rest::k)) cs) w):LeadsR Tryz.prog K (G (b.at A (.inRegion ops (i::rest)::k)) cs) w :=
 LeadsR.asg plain_prog h (hA.ev hx) hi hc (hk _ (hA.put hd v))
theorem extF {x:Operand} {n:Nat} {vs:Array Value} (h:IsOp ops i d (.extract x n)) (hA:Fx N l A) (hx:evl l x=some (.tuple vs)) (hv:vs[n]? = some v) (hd:d<N) (hi:∀ it∈k,okItem it) (hc:∀ fr∈cs,okFrame fr)
  (hk:∀ A',Fx N ((d,v)::l) A'->LeadsR Tryz.prog K (G (b.at A' (.inRegion ops rest::k)) cs) w):LeadsR Tryz.prog K (G (b.at A (.inRegion ops (i::rest)::k)) cs) w :=
 LeadsR.ext plain_prog h (hA.ev hx) hv hi hc (hk _ (hA.put hd v))
theorem addF {x y:Operand} {m n:Int} (h:IsOp ops i d (.binOp .add 3 x y 3)) (hA:Fx N l A) (hx:evl l x=some (.int .i64 m)) (hy:evl l y=some (.int .i64 n)) (hr : -9223372036854775808<=m+n/\m+n<=9223372036854775807) (hd:d<N) (hi:∀ it∈k,okItem it) (hc:∀ fr∈cs,okFrame fr)
  (hk:∀ A',Fx N ((d,.int .i64 (m+n))::l) A'->LeadsR Tryz.prog K (G (b.at A' (.inRegion ops rest::k)) cs) w):LeadsR Tryz.prog K (G (b.at A (.inRegion ops (i::rest)::k)) cs) w :=
 LeadsR.addI h (hA.ev hx) (hA.ev hy) hr hi hc (hk _ (hA.put hd _))
theorem callFx {f:FuncId} {fn:Func} {args:Array Operand} {ats:Array TypeId} {vs:List Value} {R:Ending->World->Prop} (h:IsOp ops i d (.call { callee:=.value (.func f),args,argTypes:=ats }))
  (hf:Tryz.prog.funcs[f]? = some fn) (hname:(fn.name== "runtime.NumGoroutine")=false) (hb:fn.body.isNone=false) (hA:Fx N l A) (hargs:evls l args.toList=some vs) (hd:d<N) (hi:∀ it∈k,okItem it) (hc:∀ fr∈cs,okFrame fr) (hC:HCalls Tryz.prog f vs.toArray w R) (hR:∀ e w',R e w'->∃ v,e=.returned v)
  (hk:∀ v w' A',R (.returned v) w'->Fx N ((d,v)::l) A'->LeadsR Tryz.prog K (G (b.at A' (.inRegion ops rest::k)) cs) w'):LeadsR Tryz.prog K (G (b.at A (.inRegion ops (i::rest)::k)) cs) w :=
 LeadsR.callF plain_prog h hf hname hb (by rw [<- hA.evs hargs,<- Array.toList_map,Array.toArray_toList]) hi hc hC hR fun v w' hv=>hk v w' _ hv (hA.put hd v)
theorem watchF {x y z:Operand} {text:ByteArray} {retain:Int} {eo:Option Addr} {L:List (Int×Int)} {cap:Nat} {X:BT Pay} {i0 i1 i2 i3 i4 i5 d0 d1 d2 d3 dA dB:Nat}
  (c0:IsOp ops i0 d0 (.call { callee:=.value (.func 21),args:=#[x,y,z],argTypes:=#[9,3,34] })) (c1:IsOp ops i1 d1 (.move (.tmp d0))) (c2:IsOp ops i2 d2 (.extract (.tmp d1) 0)) (c3:IsOp ops i3 d3 (.extract (.tmp d1) 1)) (c4:IsOp ops i4 dA (.assign (.tmp d2))) (c5:IsOp ops i5 dB (.assign (.tmp d3)))
  (hz:d0<N/\d1<N/\d2<N/\d3<N/\dA<N/\dB<N) (hne:d1≠d2/\d2≠d3/\dA≠d3/\dA≠dB) (hA:Fx N l A)
  (hx:evl l x=some (.string text)) (hy:evl l y=some (.int .i64 retain)) (hzz:evl l z=some (.slice eo L.length cap)) (hi:∀ it∈k,okItem it) (hc:∀ fr∈cs,okFrame fr)
  (hC:HCalls Tryz.prog 21 #[.string text,.int .i64 retain,.slice eo L.length cap] w (WatchedPost X L w)) (m:List (Nat×Value)) (hm:∀ p∈m,look l p.1=some p.2/\p.1≠d0/\p.1≠d1/\p.1≠d2/\p.1≠d3/\p.1≠dA/\p.1≠dB)
  (hk:∀ A' w',Fx N ((dB,.bool true)::(dA,.string (verS X L (min L.length 25)))::m) A'->SpareR (fun _=>False) w w'->LeadsR Tryz.prog K (G (b.at A' k) cs) w') :
  LeadsR Tryz.prog K (G (b.at A (.inRegion ops [i0,i1,i2,i3,i4,i5]::k)) cs) w:=by
 have hs:=hA.size
 refine watch_tail c0 c1 c2 c3 c4 c5 (by omega) hne (hA.ev hx) (hA.ev hy) (hA.ev hzz) hi hc hC fun A' w' z d gA gB go hsp=>hk A' w' ?_ hsp
 have hbase:Fx N m A':=by
  have h1:=hA.less (m:=m) (fun p hp=>(hm p hp).1)
  refine ⟨z.trans hs,d.trans hA.defers,fun j v hj=>?_⟩
  have hold:=h1.get j v hj
  obtain ⟨p,hp,e⟩:=look_mem hj
  have hj1:j=p.1:=by rw [e]
  subst hj1
  obtain ⟨_,q0,q1,q2,q3,qA,qB⟩:=hm p hp
  exact (go p.1 q0 q1 q2 q3 qA qB).trans hold
 refine ⟨hbase.size,hbase.defers,fun j v hj=>?_⟩
 unfold look at hj
 by_cases e:j=dB
 ·subst e
  rw [if_pos rfl] at hj
  cases hj
  exact gB
 ·rw [if_neg e] at hj
  unfold look at hj
  by_cases e2:j=dA
  ·subst e2
   rw [if_pos rfl] at hj
   cases hj
   exact gA
  ·rw [if_neg e2] at hj
   exact hbase.get j v hj
end
end Go.Proofs.YtpbbmagjhkakgaaGreatDoor.Ev
namespace Go.Proofs.YtpbbmagjhkakgaaGreatDoor.Ev
open Go.RowKit Go.Deep
theorem dec_one (n:Nat) (h:n<10):(Lib.decDigits n).length<=1:=dec_len 0 n (by omega)
theorem str_len {s:ByteArray} {l:List UInt8} (h:s.data.toList=l):s.size=l.length:=by
 rw [<- h,Array.length_toList]
 rfl
set_option maxRecDepth 100000 in
set_option maxHeartbeats 32000000 in
theorem sent_step (R:List Int) (o:Option Addr) (cap d i:Nat) (w:World) (hlen:R.length<=4611686018427387904) (hI:∀ r∈R,I64 r) (hR:RawAt w o R) (hi:i+4*2 ^ (d+1)<=9223372036854775000) (hd:d<=2) (h2k:2<=pickZ (R.getD i 0) 12) (hil:i+1<=R.length)
  (ih:∀ (i:Nat) (w:World),RawAt w o R->i+4*2 ^ d<=9223372036854775000->Calls Tryz.prog 18 #[.slice o R.length cap,.int .i64 (i:Int),.int .i64 (d:Int)] w (SentPost R d i w)) :
  Calls Tryz.prog 18 #[.slice o R.length cap,.int .i64 (i:Int),.int .i64 ((d+1:Nat):Int)] w (SentPost R (d+1) i w):=by
 have hpw:2 ^ (d+1)=2*2 ^ d:=by rw [Nat.pow_succ];omega
 have hp1:1<=2 ^ d:=Nat.one_le_two_pow
 have hp8:2 ^ d<=4:=Nat.pow_le_pow_right (n:=2) (by omega) hd
 have hn:=number_any R o cap i w hR hlen (by omega)
 have hp:=pick_any (R.getD i 0) 12 w (getD_I64 hI i) (by decide)
 have hkr:=pickZ_range (R.getD i 0) 12 (by decide)
 obtain ⟨k,hk⟩:∃ k,pickZ (R.getD i 0) 12=k:=⟨_,rfl⟩
 rw [hk] at hp hkr h2k
 obtain ⟨m1,b1,b2⟩:=sent_made R d (i+1)
 have l1:=m1.len
 have ih1:=ih (i+1) w hR (by omega)
 obtain ⟨n1,hn1⟩:∃ n,n=(sentF R d (i+1)).next:=⟨_,rfl⟩
 rw [<- hn1] at b1 b2
 have hN1:∀ w',Below w.heap.size w w'->Calls Tryz.prog 29 #[.slice o R.length cap,.int .i64 (n1:Int)] w' fun e w2=>e=.returned (.int .i64 (R.getD n1 0))/\w2=w':=fun w' hb=>number_any R o cap n1 w' (hR.below hb) hlen (by omega)
 have hN2:∀ w',Below w.heap.size w w'->Calls Tryz.prog 29 #[.slice o R.length cap,.int .i64 ((n1:Int)+1)] w' fun e w2=>e=.returned (.int .i64 (R.getD (n1+1) 0))/\w2=w':=fun w' hb=>number_any R o cap (n1+1) w' (hR.below hb) hlen (by omega)
 have hP1:∀ w',Calls Tryz.prog 19 #[.int .i64 (R.getD n1 0),.int .i64 5] w' fun e w2=>e=.returned (.int .i64 (pickZ (R.getD n1 0) 5))/\w2=w':=fun w'=>pick_any _ 5 w' (getD_I64 hI _) (by decide)
 have hP2:∀ w',Calls Tryz.prog 19 #[.int .i64 (R.getD (n1+1) 0),.int .i64 5] w' fun e w2=>e=.returned (.int .i64 (pickZ (R.getD (n1+1) 0) 5))/\w2=w':=fun w'=>pick_any _ 5 w' (getD_I64 hI _) (by decide)
 obtain ⟨a,ha⟩:∃ a:Nat,pickZ (R.getD n1 0) 5=a:=⟨(pickZ (R.getD n1 0) 5).toNat,by have:=pickZ_range (R.getD n1 0) 5 (by decide);omega⟩
 obtain ⟨c,hc⟩:∃ c:Nat,pickZ (R.getD (n1+1) 0) 5=c:=⟨(pickZ (R.getD (n1+1) 0) 5).toNat,by have:=pickZ_range (R.getD (n1+1) 0) 5 (by decide);omega⟩
 have ha5:a<5:=by have:=pickZ_range (R.getD n1 0) 5 (by decide);omega
 have hc5:c<5:=by have:=pickZ_range (R.getD (n1+1) 0) 5 (by decide);omega
 have hD1:∀ w',Calls Tryz.prog 20 #[.int .i64 (a:Int)] w' fun e w2=>Below w'.heap.size w' w2/\∃ t,e=.returned (.string t)/\t.data.toList=Lib.decDigits a:=fun w'=>digits_any a w' (by omega)
 have hD2:∀ w',Calls Tryz.prog 20 #[.int .i64 ((a:Int)+(c:Int))] w' fun e w2=>Below w'.heap.size w' w2/\∃ t,e=.returned (.string t)/\t.data.toList=Lib.decDigits (a+c):=fun w'=>digits_any (a+c) w' (by omega)
 have e1a:Lib.itoa (a:Int)=Lib.decDigits a:=itoa_eq _ (by omega)
 have e1b:Lib.itoa ((a:Int)+(c:Int))=Lib.decDigits (a+c):=itoa_eq _ (by omega)
 obtain ⟨m2,c1,c2⟩:=sent_made R d n1
 have l2:=m2.len
 obtain ⟨m3,g1,g2⟩:=sent_made R d (n1+2)
 have l3:=m3.len
 have hS2:∀ w',Below w.heap.size w w'->Calls Tryz.prog 18 #[.slice o R.length cap,.int .i64 (n1:Int),.int .i64 (d:Int)] w' (SentPost R d n1 w'):=fun w' hb=>ih n1 w' (hR.below hb) (by omega)
 have hS3:∀ w',Below w.heap.size w w'->Calls Tryz.prog 18 #[.slice o R.length cap,.int .i64 ((n1:Int)+2),.int .i64 (d:Int)] w' (SentPost R d (n1+2) w'):=fun w' hb=>ih (n1+2) w' (hR.below hb) (by omega)
 have fNot:∀ w' s,Below w.heap.size w w'->k<4->s.data.toList=notL (sentF R d (i+1)).txt->SentPost R (d+1) i w (.returned (.tuple #[.string s,.int .i64 (n1:Int)])) w':=fun w' s hb h2 hs=>SentPost.of (sentF_not hk ⟨h2k,hil⟩ h2) hs (by rw [hn1]) hb
 have fOp:∀ w' s (cc:UInt8) (op:Int),Below w.heap.size w w'->((k=4/\cc=89/\op=89)\/((k=5\/k=6)/\cc=79/\op=79)\/(k=7/\cc=72/\op=72))->s.data.toList=opL cc a ((a:Int)+c) (sentF R d (i+1)).txt->SentPost R (d+1) i w (.returned (.tuple #[.string s,.int .i64 ((n1:Int)+2)])) w':=fun w' s cc op hb h2 hs=>SentPost.of (sentF_op hk ⟨h2k,hil⟩ h2) (by rw [<- hn1,ha,hc];exact hs) (by rw [<- hn1];simp) hb
 have fSince:∀ w' s,Below w.heap.size w w'->8<=k/\k<10->s.data.toList=sinceL a ((a:Int)+c) (sentF R d (i+1)).txt (sentF R d (n1+2)).txt->SentPost R (d+1) i w (.returned (.tuple #[.string s,.int .i64 ((sentF R d (n1+2)).next:Int)])) w':=fun w' s hb h2 hs=>SentPost.of (sentF_since hk ⟨h2k,hil⟩ h2) (by rw [<- hn1,ha,hc];exact hs) (by rw [<- hn1]) hb
 have fTwo:∀ w' s (cc:UInt8) (op:Int),Below w.heap.size w w'->((k=10/\cc=38/\op=8743)\/(k=11/\cc=124/\op=8744))->s.data.toList=twoL cc (sentF R d (i+1)).txt (sentF R d n1).txt->SentPost R (d+1) i w (.returned (.tuple #[.string s,.int .i64 ((sentF R d n1).next:Int)])) w':=fun w' s cc op hb h2 hs=>SentPost.of (sentF_two hk ⟨h2k,hil⟩ h2) (by rw [<- hn1];exact hs) (by rw [<- hn1]) hb
 have ih1':Calls Tryz.prog 18 #[.slice o R.length cap,.int .i64 ((i:Int)+1),.int .i64 (d:Int)] w fun e w'=>(∃ s,e=.returned (.tuple #[.string s,.int .i64 (n1:Int)])/\s.data.toList=(sentF R d (i+1)).txt)/\Below w.heap.size w w':=by
  rw [hn1];exact ih1
 have hS2':∀ w',Below w.heap.size w w'->Calls Tryz.prog 18 #[.slice o R.length cap,.int .i64 (n1:Int),.int .i64 (d:Int)] w' fun e w2=>(∃ s,e=.returned (.tuple #[.string s,.int .i64 ((sentF R d n1).next:Int)])/\s.data.toList=(sentF R d n1).txt)/\Below w'.heap.size w' w2:=hS2
 have hS3':∀ w',Below w.heap.size w w'->Calls Tryz.prog 18 #[.slice o R.length cap,.int .i64 ((n1:Int)+2),.int .i64 (d:Int)] w' fun e w2=>(∃ s,e=.returned (.tuple #[.string s,.int .i64 ((sentF R d (n1+2)).next:Int)])/\s.data.toList=(sentF R d (n1+2)).txt)/\Below w'.heap.size w' w2:=hS3
 rw [ha] at hP1
 rw [hc] at hP2
 replace fNot:Hid _:=fNot
 replace fOp:Hid _:=fOp
 replace fSince:Hid _:=fSince
 replace fTwo:Hid _:=fTwo
 replace hN1:Hid _:=hN1
 replace hN2:Hid _:=hN2
 replace hP1:Hid _:=hP1
 replace hP2:Hid _:=hP2
 replace hD1:Hid _:=hD1
 replace hD2:Hid _:=hD2
 replace hS2':Hid _:=hS2'
 replace hS3':Hid _:=hS3'
 replace e1a:Hid _:=e1a
 replace e1b:Hid _:=e1b
 clear ih ih1 hI hR hk ha hc hn1 m1 m2 m3 hS2 hS3 hpw
 generalize (sentF R d (n1+2)).txt=x3 at *
 generalize (sentF R d (n1+2)).next=y3 at *
 generalize (sentF R d n1).txt=x2 at *
 generalize (sentF R d n1).next=y2 at *
 generalize (sentF R d (i+1)).txt=x1 at *
 generalize R.getD n1 0=r1 at *
 generalize R.getD (n1+1) 0=r2 at *
 generalize R.getD i 0=r at *
 generalize hQ:SentPost R (d+1) i w=Q at *
 clear hQ
 generalize R.length=n at *
 generalize 2 ^ d=pd at *
 have hx1:decide ((d:Int)+1=0)=false:=by simp;omega
 have hx2:decide (k<2)=false:=by simp;omega
 have hx3:decide ((n:Int)<(i:Int)+1)=false:=by simp;omega
 go_enter Tryz.func18,Tryz.ntmps18
 go_wp2_with fail
 refine hn.mono ?_
 rintro e w1 ⟨rfl,hw1⟩
 have hw1:=hw1.symm
 subst hw1
 go_wp2_with fail
 refine hp.mono ?_
 rintro e w1 ⟨rfl,hw1⟩
 have hw1:=hw1.symm
 subst hw1
 go_wp2_with fail
 refine ih1'.mono ?_
 rintro e w1 ⟨⟨s1,rfl,hs1⟩,hb1⟩
 have z1:=str_len hs1
 go_wp2_with fail
 refine (hN1.out w1 hb1).mono ?_
 rintro e w2 ⟨rfl,hw2⟩
 have hw2:=hw2.symm
 subst hw2
 go_wp2_with fail
 refine (hP1.out w1).mono ?_
 rintro e w2 ⟨rfl,hw2⟩
 have hw2:=hw2.symm
 subst hw2
 go_wp2_with fail
 refine (hN2.out w1 hb1).mono ?_
 rintro e w2 ⟨rfl,hw2⟩
 have hw2:=hw2.symm
 subst hw2
 go_wp2_with fail
 refine (hP2.out w1).mono ?_
 rintro e w2 ⟨rfl,hw2⟩
 have hw2:=hw2.symm
 subst hw2
 go_wp2_with fail
 refine (hD1.out w1).mono ?_
 rintro e w2 ⟨hb2,ta,rfl,hta⟩
 have za:=str_len hta
 have za1:=dec_one a (by omega)
 go_wp2_with fail
 refine (hD2.out w2).mono ?_
 rintro e w3 ⟨hb3,tb,rfl,htb⟩
 have zb:=str_len htb
 have zb1:=dec_one (a+c) (by omega)
 have hb:=(hb1.tr hb2).tr hb3
 have zz:∀ x:UInt8,(⟨#[x]⟩:ByteArray).size=1:=fun _=>rfl
 have hk12:k=2\/k=3\/k=4\/k=5\/k=6\/k=7\/k=8\/k=9\/k=10\/k=11:=by omega
 clear hx1 hx2 hx3 hkr h2k hn hp
 rcases hk12 with rfl | rfl | rfl | rfl | rfl | rfl | rfl | rfl | rfl | rfl
 ·go_wp2_with fail
  exact fNot.out w3 _ hb (by decide) (by simp only [ByteArray.data_append,Array.toList_append,hs1,notL])
 ·go_wp2_with fail
  exact fNot.out w3 _ hb (by decide) (by simp only [ByteArray.data_append,Array.toList_append,hs1,notL])
 ·go_wp2_with fail
  exact fOp.out w3 _ 89 89 hb (by simp) (by simp only [ByteArray.data_append,Array.toList_append,hs1,hta,htb,opL,winW,e1a.out,e1b.out];simp)
 ·go_wp2_with fail
  exact fOp.out w3 _ 79 79 hb (by simp) (by simp only [ByteArray.data_append,Array.toList_append,hs1,hta,htb,opL,winW,e1a.out,e1b.out];simp)
 ·go_wp2_with fail
  exact fOp.out w3 _ 79 79 hb (by simp) (by simp only [ByteArray.data_append,Array.toList_append,hs1,hta,htb,opL,winW,e1a.out,e1b.out];simp)
 ·go_wp2_with fail
  exact fOp.out w3 _ 72 72 hb (by simp) (by simp only [ByteArray.data_append,Array.toList_append,hs1,hta,htb,opL,winW,e1a.out,e1b.out];simp)
 ·go_wp2_with fail
  refine (hS3'.out w3 hb).mono ?_
  rintro e w4 ⟨⟨s2,rfl,hs2⟩,hb4⟩
  have z2:=str_len hs2
  go_wp2_with fail
  exact fSince.out w4 _ (hb.tr hb4) (by decide) (by simp only [ByteArray.data_append,Array.toList_append,hs1,hs2,hta,htb,sinceL,winW,e1a.out,e1b.out];simp)
 ·go_wp2_with fail
  refine (hS3'.out w3 hb).mono ?_
  rintro e w4 ⟨⟨s2,rfl,hs2⟩,hb4⟩
  have z2:=str_len hs2
  go_wp2_with fail
  exact fSince.out w4 _ (hb.tr hb4) (by decide) (by simp only [ByteArray.data_append,Array.toList_append,hs1,hs2,hta,htb,sinceL,winW,e1a.out,e1b.out];simp)
 ·go_wp2_with fail
  refine (hS2'.out w3 hb).mono ?_
  rintro e w4 ⟨⟨s2,rfl,hs2⟩,hb4⟩
  have z2:=str_len hs2
  go_wp2_with fail
  exact fTwo.out w4 _ 38 8743 (hb.tr hb4) (by simp) (by simp only [ByteArray.data_append,Array.toList_append,hs1,hs2,twoL];simp)
 ·go_wp2_with fail
  refine (hS2'.out w3 hb).mono ?_
  rintro e w4 ⟨⟨s2,rfl,hs2⟩,hb4⟩
  have z2:=str_len hs2
  go_wp2_with fail
  exact fTwo.out w4 _ 124 8744 (hb.tr hb4) (by simp) (by simp only [ByteArray.data_append,Array.toList_append,hs1,hs2,twoL];simp)
theorem sent_any (R:List Int) (o:Option Addr) (cap:Nat) (hlen:R.length<=4611686018427387904) (hI:∀ r∈R,I64 r):∀ (d:Nat),d<=3->∀ (i:Nat) (w:World),RawAt w o R->i+4*2 ^ d<=9223372036854775000->Calls Tryz.prog 18 #[.slice o R.length cap,.int .i64 (i:Int),.int .i64 (d:Int)] w (SentPost R d i w)
 | 0,hd,i,w,hR,hi=>sent_stop R o cap 0 i w hlen hI hR (by omega) hd (.inl rfl)
 | d+1,hd,i,w,hR,hi=>by
  by_cases h:pickZ (R.getD i 0) 12<2\/R.length<i+1
  ·exact sent_stop R o cap (d+1) i w hlen hI hR (by omega) hd (.inr h)
  ·exact sent_step R o cap d i w hlen hI hR hi (by omega) (by omega) (by omega) fun i w hR hi=>sent_any R o cap hlen hI d (by omega) i w hR hi
theorem step_append_row {P:Program} {ops:Array Oper} {o:Oper} {a:Act} {w:World} {K:Act->World->Prop} {Q:Exit->Act->World->Prop} {E:Prop}
  (hgd:o.guard=none) (s x:Operand) (t:TypeId) (hop:o.op=Op.call { callee:=Callee.builtin Builtin.append,args:=#[s,x],argTypes:=#[t,t] })
  (e:TypeId) (i:TypeInfo) (h1:P.underlying t=some (.slice e)) (h2:P.info? e=some i) (g n cap:Nat) (cur:Array Value) (hg:w.heap[g]? = some (.cells cur e (0,0))) (hs:a.eval s=.slice (some ⟨g,0,none⟩) n cap)
  (ad:Addr) (m c:Nat) (news:List Value) (hx:a.eval x=.slice (some ad) m c) (hn:news.length=m*i.size) (hc:∀ j u,news[j]? = some u->w.cell? (ad.add j)=some u) (h1c:∀ u∈news,u.oneCell'=true)
  (hroom:n+m<=cap) (hfit:n*i.size+news.length<=cur.size)
  (hK:K (a.put o.dst (.slice (some ⟨g,0,none⟩) (n+m) cap)) (w.setRow g (cur.toList.take (n*i.size)++news++cur.toList.drop (n*i.size+news.length)).toArray)) :
  if Region.wanted o (yielded ops a.tmps)=true then Oper.wp P o a w K Q else E:=by
 have hw:Region.wanted o (yielded ops a.tmps)=true:=by simp [Region.wanted,hgd]
 rw [if_pos hw]
 have hrun:=run_append_room (P:=P) w t o.type e i h1 h2 g n cap cur hg ad m c news hn hc h1c hroom hfit
 unfold Oper.wp
 simp [execOp,hop,resolve,invoke,builtin,hs,hx,hrun,Result.andThen]
 rw [List.append_assoc] at hK
 exact hK
def zerosE (k:Nat):List Value:=(Builtin.zeroCells #[.int .i64 0,.int .i64 0,.slice none 0 0,.slice none 0 0] k).toList
theorem zerosE_len (k:Nat):(zerosE k).length=k*4:=by simp [zerosE,Builtin.zeroCells]
theorem zerosE_one (k:Nat):∀ u∈zerosE k,u.oneCell'=true:=by
 intro u hu
 simp only [zerosE,Builtin.zeroCells,Array.toList_map,List.mem_map,Array.mem_toList_iff,Array.mem_range] at hu
 obtain ⟨i,_,rfl⟩:=hu
 have h4:i % 4=0\/i % 4=1\/i % 4=2\/i % 4=3:=by omega
 have e:(#[Value.int .i64 0,.int .i64 0,.slice none 0 0,.slice none 0 0]:Array Value).size=4:=rfl
 rw [e]
 rcases h4 with h | h | h | h<;>rw [h]<;>rfl
theorem clear_events (W:World) (ty:TypeId) (g o k c:Nat) (hk:k≠0) (cur:Array Value) (hg:W.heap[g]? = some (.cells cur 159 (0,0))) (hfit:o+k*4<=cur.size) :
  (Builtin.clear_ #[146] ty #[.slice (some ⟨g,o,none⟩) k c]).run Tryz.prog W=.ok (.tuple #[]) (W.setRow g (cur.toList.take o++zerosE k++cur.toList.drop (o+k*4)).toArray):=by
 have h1:=run_storeCells_at (P:=Tryz.prog) g o 159 (zerosE k) 0 cur W hg (by rw [zerosE_len];omega) (zerosE_one k)
 rw [zerosE_len,Nat.add_zero] at h1
 obtain ⟨k,rfl⟩:∃ m,k=m+1:=⟨k-1,by omega⟩
 have h2:(Value.agg #[.int .i64 0,.int .i64 0,.slice none 0 0,.slice none 0 0]).cells=#[.int .i64 0,.int .i64 0,.slice none 0 0,.slice none 0 0]:=rfl
 have hu:∀ w:World,(underlying 146).run Tryz.prog w=.ok (.slice 159) w:=fun w=>by
  have:=Tryz.underlying146
  simp [underlying,this]
 unfold zerosE at h1
 simp [Builtin.clear_,hu,h2,h1]
 rfl
theorem flatE_len (C:List EvC):(flatE C).length=C.length*4:=by
 induction C with
 | nil=>rfl
 | cons c C ih =>
  have:flatE (c::C)=evCells c++flatE C:=rfl
  rw [this,List.length_append,ih]
  show 4+C.length*4=(C.length+1)*4
  omega
theorem flatE_drop (C:List EvC):∀ k,flatE (C.drop k)=(flatE C).drop (k*4):=by
 induction C with
 | nil=>intro k;simp [flatE]
 | cons c C ih =>
  intro k
  cases k with
  | zero=>simp
  | succ k =>
   have e:flatE (c::C)=evCells c++flatE C:=rfl
   rw [List.drop_succ_cons,ih k,e,List.drop_append]
   have h1:(evCells c).length=4:=rfl
   rw [h1]
   have h2:(k+1)*4-4=k*4:=by omega
   rw [h2,List.drop_of_length_le (l:=evCells c) (by rw [h1];omega),List.nil_append]
set_option maxRecDepth 100000 in
set_option maxHeartbeats 8000000 in
theorem delete_any (g cap k:Nat) (C:List EvC) (w:World) (hE:EvsAt w (.slice (some ⟨g,0,none⟩) C.length cap) C) (hk0:0<k) (hkn:k<=C.length) (hn:C.length<=1000) :
  Calls Tryz.prog 130 #[.slice (some ⟨g,0,none⟩) C.length cap,.int .i64 0,.int .i64 (k:Int)] w fun e w'=>e=.returned (.slice (some ⟨g,0,none⟩) (C.length-k) cap)/\EvsAt w' (.slice (some ⟨g,0,none⟩) (C.length-k) cap) (C.drop k)/\Only g w w':=by
 obtain ⟨h0,⟨h1,_⟩ | ⟨g',cap',cur,e1,_,hg,hnc,hcm,hcur,htk⟩⟩:=hE
 ·cases h1
 cases e1
 obtain ⟨i0,hi,hz0,hz1,hz2⟩:=info_parts infoEvent
 obtain ⟨news,hnews⟩:∃ news,news=flatE (C.drop k):=⟨_,rfl⟩
 have hlen:news.length=(C.length-k)*4:=by rw [hnews,flatE_len,List.length_drop]
 have hcmx:cap<=9223372036854775807:=Nat.le_trans hcm (by decide)
 have hget:∀ t u,news[t]? = some u->w.cell? ⟨g,k*4+t,none⟩=some u:=by
  intro t u hu
  have ht:t<(C.length-k)*4:=by have:=(List.getElem?_eq_some_iff.1 hu).1;rwa [hlen] at this
  refine cell_at hg ?_
  rw [hnews,flatE_drop,List.getElem?_drop,<- htk,List.getElem?_take] at hu
  rw [if_pos (by omega)] at hu
  simpa using hu
 obtain ⟨A,hA,hsrc⟩:∃ A:Addr,(if cap=k then some (⟨g,0,none⟩:Addr) else some ⟨g,k*4,none⟩)=some A/\Hid (∀ t u,news[t]? = some u->w.drew.cell? (A.add t)=some u):=by
  by_cases h:cap=k
  ·refine ⟨⟨g,0,none⟩,by simp [h],fun t u hu=>?_⟩
   have h0:news.length=0:=by rw [hlen];omega
   rw [List.length_eq_zero_iff.1 h0] at hu
   simp at hu
  ·refine ⟨⟨g,k*4,none⟩,by simp [h],fun t u hu=>?_⟩
   rw [Addr.add_lit]
   exact hget t u hu
 obtain ⟨W1,hW1⟩:∃ W1,W1=w.drew.setRow g (cur.toList.take (0*i0.size)++news++cur.toList.drop (0*i0.size+news.length)).toArray:=⟨_,rfl⟩
 have hone:∀ u∈news,u.oneCell'=true:=by
  intro u hu
  rw [hnews] at hu
  obtain ⟨c,hc,hu⟩:=List.mem_flatten.1 hu
  obtain ⟨e,_,rfl⟩:=List.mem_map.1 hc
  exact evOne e u hu
 have hg1:W1.heap[g]? = some (.cells (news++cur.toList.drop news.length).toArray 159 (0,0)):=by
  rw [hW1,Nat.zero_mul,List.take_zero,List.nil_append,Nat.zero_add]
  exact setRow_heap w.drew g cur _ _ (0,0) hg
 have hsz1:(news++cur.toList.drop news.length).toArray.size=cap*4:=by
  simp only [List.size_toArray,List.length_append,List.length_drop,Array.length_toList,hlen,hcur]
  omega
 have hcl:=fun ty=>clear_events W1 ty g ((C.length-k)*4) k (cap-(C.length-k)) (by omega) _ hg1 (by rw [hsz1];omega)
 have hfin:∀ w2,w2=W1.setRow g ((news++cur.toList.drop news.length).toArray.toList.take ((C.length-k)*4)++zerosE k++(news++cur.toList.drop news.length).toArray.toList.drop ((C.length-k)*4+k*4)).toArray->EvsAt w2 (.slice (some ⟨g,0,none⟩) (C.length-k) cap) (C.drop k)/\Only g w w2:=by
  rintro w2 rfl
  refine ⟨⟨?_,.inr ⟨g,cap,_,?_,Nat.zero_le _,setRow_heap _ g _ _ _ _ hg1,?_,hcm,?_,?_⟩⟩,?_⟩
  ·rw [flatE_len]
  ·rw [List.length_drop]
  ·rw [List.length_drop];omega
  ·simp only [List.size_toArray,List.length_append,List.length_take,List.length_drop,zerosE_len,Array.length_toList,hlen,hcur]
   omega
  ·rw [<- hnews,List.length_drop,<- hlen]
   simp
  ·refine ⟨by rw [hW1];rfl,by rw [hW1];rfl,by rw [hW1];rfl,by rw [hW1];simp,fun b hb hne=>?_⟩
   rw [setRow_other _ _ _ _ hne,hW1,setRow_other _ _ _ _ hne]
   rfl
 have s1:news.length=(C.length-k)*i0.size:=by rw [hz1];exact hlen
 have s2:0*i0.size+news.length<=cur.size:=by rw [hcur];omega
 have hW:Hid (W1=w.drew.setRow g (cur.toList.take (0*i0.size)++news++cur.toList.drop (0*i0.size+news.length)).toArray):=hW1
 replace hfin:Hid _:=hfin
 replace s1:Hid _:=s1
 replace s2:Hid _:=s2
 replace hone:Hid _:=hone
 have hg':Hid (w.drew.heap[g]? = some (.cells cur 159 (0,0))):=hg
 have hkc:k<=cap:=by omega
 clear hget hnews hlen hg1 hsz1 h0 htk hg hW1 hcur hcm
 generalize C.length=n at *
 go_enter Tryz.func130,Tryz.ntmps130
 go_wp2_with fail
 go_region_law (refine step_append_row rfl (.tmp 22) (.tmp 25) 146 rfl 159 i0 Tryz.underlying146 hi g 0 cap cur hg'.out (by simp [Act.eval,Act.put]) A (n-k) (cap-k) news (by simp [Act.eval,Act.put]) s1.out hsrc.out hone.out (by omega) s2.out ?_;rw [<- hW.out])
 have hnk:n-(n-k)=k:=by omega
 go_wp2
 go_ret
 exact ⟨rfl,hfin.out _ (by rw [List.append_assoc])⟩
set_option maxRecDepth 100000 in
set_option maxHeartbeats 8000000 in
theorem region5_drop (Q:Exit->Act->World->Prop) (hQ:∀ c a d v w,Q (.panic c) (Act.put a d v) w->Q (.panic c) a w) (wtb nx:Nat) (retain:Int) (rm nvv:Value) (g:Nat) (ecap:Nat) (pv:Value) (C:List EvC) (num time:Int) (ao2:Option Addr) (al2 ac2:Nat) (W:World) (x2 x3 x4 x5 x6 x8 x9 x10 x11 x12 x13 x14 x15 x16 x17 x18 x19 x20 x21 x22 x23 x24 x25 x26 x27 x28 x29 x30 u31 u32 u33 u34 u35 u36 u37 u38 u39 u40 u41 u42 u43 u44 u45 u46 u47 u48 u49 u50 u51 u52 u53:Value)
  (hw:W.heap[wtb]? = some (.cells #[.int .i64 retain,rm,nvv,.slice (some ⟨g,0,none⟩) C.length ecap,pv] 153 (0,0))) (hE:EvsAt W (.slice (some ⟨g,0,none⟩) C.length ecap) C) (hn:C.length<=1000) (ht:0<=time/\time<=1000000000000) (hr:0<=retain/\retain<=1000000000) (k:Nat) (hold:oldF (time-retain) C=k) (hk0:0<k) (hkn:k<=C.length)
  (hnx:W.heap[nx]? = some (.cells #[.int .i64 num,.int .i64 time,.slice ao2 al2 ac2,.slice none 0 0] 159 (0,0))) (hnxe:(Value.slice (some ⟨g,0,none⟩) C.length ecap).ownBlock≠some nx)
  (hK:∀ (ev':Value) (W':World) (v41:Value),W'.heap[wtb]? = some (.cells #[.int .i64 retain,rm,nvv,ev',pv] 153 (0,0))->EvsAt W' ev' (C.drop k++[(⟨num,time,ao2,al2,ac2,none,0,0⟩:EvC)])->Spare (fun b=>b=wtb\/(Value.slice (some ⟨g,0,none⟩) C.length ecap).ownBlock=some b) W W'->(∀ b,ev'.ownBlock=some b->(Value.slice (some ⟨g,0,none⟩) C.length ecap).ownBlock=some b\/W.heap.size<=b)->
   Q .normal ⟨#[(.pointer (some ⟨wtb,0,none⟩)),(.int .i64 time),x2,x3,x4,x5,x6,(.pointer (some ⟨nx,0,none⟩)),x8,x9,x10,x11,x12,x13,x14,x15,x16,x17,x18,x19,x20,x21,x22,x23,x24,x25,x26,x27,x28,x29,x30,(.pointer (some ⟨wtb,0,none⟩)),(.pointer (some ⟨wtb,0,none⟩)),(.pointer (some ⟨wtb,0,none⟩)),(.pointer (some ⟨wtb,3,none⟩)),(.slice (some ⟨g,0,none⟩) C.length ecap),(.pointer (some ⟨wtb,0,none⟩)),(.int .i64 time),(.int .i64 (k:Int)),(.slice (some ⟨g,0,none⟩) (C.length-k) ecap),(.agg #[.int .i64 num,.int .i64 time,.slice ao2 al2 ac2,.slice none 0 0]),v41,ev',(.pointer (some ⟨wtb,0,none⟩)),(.pointer (some ⟨wtb,3,none⟩)),u45,u46,u47,u48,u49,u50,u51,u52,u53],[]⟩ W') :
  (Code.region 5 opsT5 true).wp Tryz.prog Q ⟨#[(.pointer (some ⟨wtb,0,none⟩)),(.int .i64 time),x2,x3,x4,x5,x6,(.pointer (some ⟨nx,0,none⟩)),x8,x9,x10,x11,x12,x13,x14,x15,x16,x17,x18,x19,x20,x21,x22,x23,x24,x25,x26,x27,x28,x29,x30,u31,u32,u33,u34,u35,u36,u37,u38,u39,u40,u41,u42,u43,u44,u45,u46,u47,u48,u49,u50,u51,u52,u53],[]⟩ W:=by
 have hlt:=heap_lt hw
 have hnl:=heap_lt hnx
 obtain ⟨i0,hi,hz0,hz1,hz2⟩:=info_parts infoEvent
 have HO:Hid (∀ w',Below W.heap.size W w'->Calls Tryz.prog 131 #[.pointer (some ⟨wtb,0,none⟩),.int .i64 time] w' fun e w''=>e=.returned (.int .i64 (k:Int))/\Below w'.heap.size w' w''):=fun w' hb=>by
  have:=old_any wtb retain rm nvv (.slice (some ⟨g,0,none⟩) C.length ecap) pv C time w' (hb.heapOf hw) (hE.below hb) (by omega) ht hr
  rw [hold] at this
  exact this
 have Hst:Hid (∀ w',Below W.heap.size W w'->(fun w'=>w'.cell? ⟨wtb,3,none⟩=some (.slice (some ⟨g,0,none⟩) C.length ecap)/\w'.cell? ⟨nx,0,none⟩=some (.int .i64 num)/\w'.cell? ⟨nx,1,none⟩=some (.int .i64 time)/\w'.cell? ⟨nx,2,none⟩=some (.slice ao2 al2 ac2)/\w'.cell? ⟨nx,3,none⟩=some (.slice none 0 0)) w'):=fun w' hb=>⟨cell_at (hb.heapOf hw) rfl,cell_at (hb.heapOf hnx) rfl,cell_at (hb.heapOf hnx) rfl,cell_at (hb.heapOf hnx) rfl,cell_at (hb.heapOf hnx) rfl⟩
 have HstH:Hid (∀ w':World,w'.heap[wtb]? = some (.cells #[.int .i64 retain,rm,nvv,.slice (some ⟨g,0,none⟩) C.length ecap,pv] 153 (0,0))->w'.heap[nx]? = some (.cells #[.int .i64 num,.int .i64 time,.slice ao2 al2 ac2,.slice none 0 0] 159 (0,0))->(fun w'=>w'.cell? ⟨wtb,3,none⟩=some (.slice (some ⟨g,0,none⟩) C.length ecap)/\w'.cell? ⟨nx,0,none⟩=some (.int .i64 num)/\w'.cell? ⟨nx,1,none⟩=some (.int .i64 time)/\w'.cell? ⟨nx,2,none⟩=some (.slice ao2 al2 ac2)/\w'.cell? ⟨nx,3,none⟩=some (.slice none 0 0)) w'):=fun w' h1 h2=>⟨cell_at h1 rfl,cell_at h2 rfl,cell_at h2 rfl,cell_at h2 rfl,cell_at h2 rfl⟩
 have hgl:g<W.heap.size:=(hE.lt g rfl).2
 have hwg:wtb≠g:=by
  intro e
  obtain ⟨cs,h1⟩:=own_tag hE (g:=g) rfl
  rw [<- e,hw] at h1
  cases h1
 have hng:nx≠g:=fun e=>hnxe (by rw [e];rfl)
 have after:∀ (w1 wd:World),Below W.heap.size W w1->Only g w1 wd->wd.heap[wtb]? = some (.cells #[.int .i64 retain,rm,nvv,.slice (some ⟨g,0,none⟩) C.length ecap,pv] 153 (0,0))/\wd.heap[nx]? = some (.cells #[.int .i64 num,.int .i64 time,.slice ao2 al2 ac2,.slice none 0 0] 159 (0,0))/\Spare (fun b=>b=wtb\/(Value.slice (some ⟨g,0,none⟩) C.length ecap).ownBlock=some b) W wd:=fun w1 wd hb ho =>
  ⟨(ho.block wtb (heap_lt (hb.heapOf hw)) hwg).trans (hb.heapOf hw),(ho.block nx (heap_lt (hb.heapOf hnx)) hng).trans (hb.heapOf hnx),(Spare.of_below hb).trans (Spare.of_only ho (fun x hx=>.inr (by rw [hx];rfl)))⟩
 replace after:Hid _:=after
 have hS0:=Hst.out _ (Below.refl _ W).drew
 have tail5:∀ (V:World) (sl:Nat),V.heap[wtb]? = some (.cells #[.int .i64 retain,rm,nvv,.slice (some ⟨g,0,none⟩) C.length ecap,pv] 153 (0,0))->V.heap[nx]? = some (.cells #[.int .i64 num,.int .i64 time,.slice ao2 al2 ac2,.slice none 0 0] 159 (0,0))->EvsAt V (.slice (some ⟨g,0,none⟩) (C.length-k) ecap) (C.drop k)->Spare (fun b=>b=wtb\/(Value.slice (some ⟨g,0,none⟩) C.length ecap).ownBlock=some b) W V->(∀ j u,(evCells (⟨num,time,ao2,al2,ac2,none,0,0⟩:EvC))[j]? = some u->V.cell? ((⟨sl,0,none⟩:Addr).add j)=some u)->
   AnyF Tryz.prog .any opsT5 Q (fun w'=>w'.cell? ⟨wtb,3,none⟩=some (.slice (some ⟨g,0,none⟩) C.length ecap)/\w'.cell? ⟨nx,0,none⟩=some (.int .i64 num)/\w'.cell? ⟨nx,1,none⟩=some (.int .i64 time)/\w'.cell? ⟨nx,2,none⟩=some (.slice ao2 al2 ac2)/\w'.cell? ⟨nx,3,none⟩=some (.slice none 0 0)) 14 4 #[true,true,true,true,true,true,true,true,true,true,true,false,false,false,false] ⟨#[(.pointer (some ⟨wtb,0,none⟩)),(.int .i64 time),x2,x3,x4,x5,x6,(.pointer (some ⟨nx,0,none⟩)),x8,x9,x10,x11,x12,x13,x14,x15,x16,x17,x18,x19,x20,x21,x22,x23,x24,x25,x26,x27,x28,x29,x30,(.pointer (some ⟨wtb,0,none⟩)),(.pointer (some ⟨wtb,0,none⟩)),(.pointer (some ⟨wtb,0,none⟩)),(.pointer (some ⟨wtb,3,none⟩)),(.slice (some ⟨g,0,none⟩) C.length ecap),(.pointer (some ⟨wtb,0,none⟩)),(.int .i64 time),(.int .i64 (k:Int)),(.slice (some ⟨g,0,none⟩) (C.length-k) ecap),(.agg #[.int .i64 num,.int .i64 time,.slice ao2 al2 ac2,.slice none 0 0]),(.slice (some ⟨sl,0,none⟩) 1 1),u42,u43,u44,u45,u46,u47,u48,u49,u50,u51,u52,u53],[]⟩ V:=by
  intro V sl hwV hnV hEV hspV hcell
  have hEV':V.ownsRow 0 159 4 (.slice (some ⟨g,0,none⟩) (C.length-k) ecap) (C.length-k) (flatE (C.drop k)):=by
   have:=hEV
   unfold EvsAt at this
   rw [List.length_drop] at this
   exact this
  simp only [opsT5,body87,Tryz.f87,Option.getD_some]
  refine AnyF.one (i:=11) (by decide +kernel) rfl (by rfl) (wp_append_own (.tmp 39) (.tmp 41) 146 rfl 0 159 i0 _ 4 64 Tryz.underlying146 hi hz0 hz1 hz2 rfl (by decide) (.slice (some ⟨g,0,none⟩) (C.length-k) ecap) (C.length-k) (flatE (C.drop k)) rfl hEV' ⟨sl,0,none⟩ 1 1 (evCells (⟨num,time,ao2,al2,ac2,none,0,0⟩:EvC)) rfl rfl hcell (evOne _) (by unfold maxLen;omega) (by omega) (Nat.zero_le _) ?_)
  intro v' w2 hown' hgrow hor
  obtain ⟨g2,c2,rfl⟩:=ownsRow_succ hown'
  have hneV:∀ b,(Value.slice (some ⟨g,0,none⟩) C.length ecap).ownBlock=some b->∃ cs,V.heap[b]? = some (.cells cs 159 (0,0)):=fun b hb=>own_tag hEV hb
  have hwt2:w2.heap[wtb]? = some (.cells #[.int .i64 retain,rm,nvv,.slice (some ⟨g,0,none⟩) C.length ecap,pv] 153 (0,0)):=by
   rw [hgrow.block wtb (heap_lt hwV) (fun e=>by obtain ⟨cs,h1⟩:=hneV wtb e.symm;rw [hwV] at h1;cases h1)];exact hwV
  have hc3:w2.cell? ⟨wtb,3,none⟩=some (.slice (some ⟨g,0,none⟩) C.length ecap):=cell_at hwt2 rfl
  have hf3:w2.frozen? ⟨wtb,3,none⟩=false:=Lib.frozen_of_heap hwt2 _
  have hnx2:w2.heap[nx]? = some (.cells #[.int .i64 num,.int .i64 time,.slice ao2 al2 ac2,.slice none 0 0] 159 (0,0)):=by
   rw [hgrow.block nx (heap_lt hnV) (fun e=>hnxe e.symm)];exact hnV
  have hS2:(fun w'=>w'.cell? ⟨wtb,3,none⟩=some (.slice (some ⟨g,0,none⟩) C.length ecap)/\w'.cell? ⟨nx,0,none⟩=some (.int .i64 num)/\w'.cell? ⟨nx,1,none⟩=some (.int .i64 time)/\w'.cell? ⟨nx,2,none⟩=some (.slice ao2 al2 ac2)/\w'.cell? ⟨nx,3,none⟩=some (.slice none 0 0)) w2:=⟨hc3,cell_at hnx2 rfl,cell_at hnx2 rfl,cell_at hnx2 rfl,cell_at hnx2 rfl⟩
  refine ⟨fun _=>hS2,?_⟩
  try walk_nrm
  refine AnyF.op (i:=12) (by decide +kernel) rfl (by rfl) (fun K' hK'=>?_)
  unfold Oper.wp
  go_simp
  refine hK' _ _ ⟨fun _=>hS2,?_⟩
  clear hK' K'
  try walk_nrm
  refine AnyF.op (i:=13) (by decide +kernel) rfl (by rfl) (fun K' hK'=>?_)
  unfold Oper.wp
  go_simp
  refine hK' _ _ ⟨fun _=>hS2,?_⟩
  clear hK' K'
  try walk_nrm
  refine AnyF.op (i:=14) (by decide +kernel) rfl (by rfl) (fun K' hK'=>?_)
  unfold Oper.wp
  go_simp
  refine hK' _ _ ⟨fun x=>absurd rfl x,?_⟩
  clear hK' K'
  refine AnyF.done (by decide +kernel) ?_ _
  try walk_nrm
  have hg2:g2≠wtb:=by
   rintro rfl
   obtain ⟨_,⟨h2,_⟩ | ⟨g',cap',cur,e1,_,e2,_⟩⟩:=hown'
   ·cases h2
   ·cases e1;rw [hwt2] at e2;cases e2
  refine hK (.slice (some ⟨g2,0,none⟩) (C.length-k+1) c2) _ _ (set_heap (i:=3) hwt2) ?_ ?_ ?_
  ·show World.ownsRow _ 0 159 4 _ _ _
   have el:(C.drop k++[(⟨num,time,ao2,al2,ac2,none,0,0⟩:EvC)]).length=C.length-k+1:=by simp
   rw [el,flatE_snoc]
   exact own_heap hown' fun b hbb=>Below.heap_setCell _ _ _ _ (by cases hbb;exact hg2)
  ·have s1:Spare (fun b=>b=wtb\/(Value.slice (some ⟨g,0,none⟩) C.length ecap).ownBlock=some b) W w2:=hspV.trans (Spare.of_grown hgrow (fun x hx=>.inr hx))
   exact s1.trans (Spare.of_only ((Only.refl wtb w2).setCell (p:=⟨wtb,3,none⟩) (.inl rfl) _) (fun x hx=>.inl hx))
  ·intro b hb
   rcases hor with e | e
   ·exact .inl (e▸hb)
   ·rw [e] at hb;cases hb;exact .inr hspV.size
 simp only [opsT5,body87,Tryz.f87,Option.getD_some] at tail5 ⊢
 refine AnyF.begin (S:=(fun w'=>w'.cell? ⟨wtb,3,none⟩=some (.slice (some ⟨g,0,none⟩) C.length ecap)/\w'.cell? ⟨nx,0,none⟩=some (.int .i64 num)/\w'.cell? ⟨nx,1,none⟩=some (.int .i64 time)/\w'.cell? ⟨nx,2,none⟩=some (.slice ao2 al2 ac2)/\w'.cell? ⟨nx,3,none⟩=some (.slice none 0 0))) (fin:=14) (by kernel_rfl) ?_
 simp only [List.size_toArray,List.length_cons,List.length_nil,Nat.reduceAdd,Nat.zero_add]
 refine AnyF.take 0 (v:=?vq0) rfl (by decide +kernel) (by decide +kernel) (by decide +kernel) (by decide +kernel) (fun c a w h=>hQ c a _ _ w h) (by rfl) (fun w' hS=>Go.Conc.run_eq_of ?rq0) hS0 ?_
 case rq0 =>
  intro K' hK'
  obtain ⟨y1,y2,y3,y4,y5⟩:=hS
  go_simp
  exact hK'
 try walk_nrm
 refine AnyF.take 1 (v:=?vq1) rfl (by decide +kernel) (by decide +kernel) (by decide +kernel) (by decide +kernel) (fun c a w h=>hQ c a _ _ w h) (by rfl) (fun w' hS=>Go.Conc.run_eq_of ?rq1) hS0 ?_
 case rq1 =>
  intro K' hK'
  obtain ⟨y1,y2,y3,y4,y5⟩:=hS
  go_simp
  exact hK'
 try walk_nrm
 refine AnyF.take 2 (v:=?vq2) rfl (by decide +kernel) (by decide +kernel) (by decide +kernel) (by decide +kernel) (fun c a w h=>hQ c a _ _ w h) (by rfl) (fun w' hS=>Go.Conc.run_eq_of ?rq2) hS0 ?_
 case rq2 =>
  intro K' hK'
  obtain ⟨y1,y2,y3,y4,y5⟩:=hS
  go_simp
  exact hK'
 try walk_nrm
 refine AnyF.take 3 (v:=?vq3) rfl (by decide +kernel) (by decide +kernel) (by decide +kernel) (by decide +kernel) (fun c a w h=>hQ c a _ _ w h) (by rfl) (fun w' hS=>Go.Conc.run_eq_of ?rq3) hS0 ?_
 case rq3 =>
  intro K' hK'
  obtain ⟨y1,y2,y3,y4,y5⟩:=hS
  go_simp
  exact hK'
 try walk_nrm
 refine AnyF.take 4 (v:=?vq4) rfl (by decide +kernel) (by decide +kernel) (by decide +kernel) (by decide +kernel) (fun c a w h=>hQ c a _ _ w h) (by rfl) (fun w' hS=>Go.Conc.run_eq_of ?rq4) hS0 ?_
 case rq4 =>
  intro K' hK'
  obtain ⟨y1,y2,y3,y4,y5⟩:=hS
  go_simp
  exact hK'
 try walk_nrm
 refine AnyF.take 5 (v:=?vq5) rfl (by decide +kernel) (by decide +kernel) (by decide +kernel) (by decide +kernel) (fun c a w h=>hQ c a _ _ w h) (by rfl) (fun w' hS=>Go.Conc.run_eq_of ?rq5) hS0 ?_
 case rq5 =>
  intro K' hK'
  obtain ⟨y1,y2,y3,y4,y5⟩:=hS
  go_simp
  exact hK'
 try walk_nrm
 refine AnyF.take 6 (v:=?vq6) rfl (by decide +kernel) (by decide +kernel) (by decide +kernel) (by decide +kernel) (fun c a w h=>hQ c a _ _ w h) (by rfl) (fun w' hS=>Go.Conc.run_eq_of ?rq6) hS0 ?_
 case rq6 =>
  intro K' hK'
  obtain ⟨y1,y2,y3,y4,y5⟩:=hS
  go_simp
  exact hK'
 try walk_nrm
 refine AnyF.take 9 (v:=?vq9) rfl (by decide +kernel) (by decide +kernel) (by decide +kernel) (by decide +kernel) (fun c a w h=>hQ c a _ _ w h) (by rfl) (fun w' hS=>Go.Conc.run_eq_of ?rq9) hS0 ?_
 case rq9 =>
  intro K' hK'
  obtain ⟨y1,y2,y3,y4,y5⟩:=hS
  go_simp
  exact hK'
 try walk_nrm
 refine AnyF.two (i:=7) (j:=10) (by decide +kernel) rfl (by rfl) rfl (by rfl) (fun K' hK'=>?_) (fun K' hK'=>?_)
 ·unfold Oper.wp
  rw [Go.Conc.run_call_body (f:=131) (args:=#[.tmp 36,.tmp 37]) (ats:=#[232,3]) rfl Tryz.func131 (by decide) rfl]
  simp only [Oper.upon,List.map_toArray,List.map_cons,List.map_nil]
  change Calls Tryz.prog 131 #[.pointer (some ⟨wtb,0,none⟩),.int .i64 time] W.drew _
  refine (HO.out W.drew (Below.refl W.heap.size W).drew).mono ?_
  rintro e w1 ⟨rfl,hb1⟩
  replace hb1:Below W.heap.size W w1:=((Below.refl W.heap.size W).drew).trans (hb1.mono ((Below.refl W.heap.size W).drew).size)
  refine hK' _ _ ⟨fun _=>Hst.out _ hb1,?_⟩
  clear hK' K'
  try walk_nrm
  refine AnyF.two (i:=8) (j:=10) (by decide +kernel) rfl (by rfl) rfl (by rfl) (fun K' hK'=>?_) (fun K' hK'=>?_)
  ·unfold Oper.wp
   rw [Go.Conc.run_call_body (f:=130) (args:=#[.tmp 35,.const (.int .i64 0),.tmp 38]) (ats:=#[146,3,3]) rfl Tryz.func130 (by decide) rfl]
   simp only [Oper.upon,List.map_toArray,List.map_cons,List.map_nil]
   change Calls Tryz.prog 130 #[.slice (some ⟨g,0,none⟩) C.length ecap,.int .i64 0,.int .i64 (k:Int)] w1 _
   refine (delete_any g ecap k C w1 (hE.below hb1) hk0 hkn hn).mono ?_
   rintro e wd ⟨rfl,hEd,hOd⟩
   obtain ⟨hd1,hd2,hd3⟩:=after.out w1 wd hb1 hOd
   refine hK' _ _ ⟨fun _=>HstH.out _ hd1 hd2,?_⟩
   clear hK' K'
   try walk_nrm
   refine AnyF.op (i:=10) (by decide +kernel) rfl (by rfl) (fun K' hK'=>?_)
   unfold Oper.wp
   go_simp
   have hba:=fun o=>(Below.refl wd.heap.size wd).al o
   refine hK' _ _ ⟨fun _=>HstH.out _ ((hba _).heapOf hd1) ((hba _).heapOf hd2),?_⟩
   clear hK' K'
   try walk_nrm
   exact tail5 _ wd.heap.size ((hba _).heapOf hd1) ((hba _).heapOf hd2) (hEd.below (hba _)) (hd3.trans (Spare.of_below (hba _))) (cells_four_new wd (⟨num,time,ao2,al2,ac2,none,0,0⟩:EvC) 159)
  ·unfold Oper.wp
   go_simp
   refine hK' _ _ ⟨fun _=>Hst.out _ ((hb1).al _),?_⟩
   clear hK' K'
   try walk_nrm
   refine AnyF.op (i:=8) (by decide +kernel) rfl (by rfl) (fun K' hK'=>?_)
   unfold Oper.wp
   rw [Go.Conc.run_call_body (f:=130) (args:=#[.tmp 35,.const (.int .i64 0),.tmp 38]) (ats:=#[146,3,3]) rfl Tryz.func130 (by decide) rfl]
   simp only [Oper.upon,List.map_toArray,List.map_cons,List.map_nil]
   change Calls Tryz.prog 130 #[.slice (some ⟨g,0,none⟩) C.length ecap,.int .i64 0,.int .i64 (k:Int)] (w1.alloc (.cells #[.int .i64 num,.int .i64 time,.slice ao2 al2 ac2,.slice none 0 0] 159)) _
   refine (delete_any g ecap k C (w1.alloc (.cells #[.int .i64 num,.int .i64 time,.slice ao2 al2 ac2,.slice none 0 0] 159)) (hE.below (hb1.al _)) hk0 hkn hn).mono ?_
   rintro e wd ⟨rfl,hEd,hOd⟩
   obtain ⟨hd1,hd2,hd3⟩:=after.out (w1.alloc (.cells #[.int .i64 num,.int .i64 time,.slice ao2 al2 ac2,.slice none 0 0] 159)) wd (hb1.al _) hOd
   refine hK' _ _ ⟨fun _=>HstH.out _ hd1 hd2,?_⟩
   clear hK' K'
   try walk_nrm
   refine tail5 _ w1.heap.size hd1 hd2 hEd hd3 (fun j u hj=>?_)
   have h1:=cells_four_new w1 (⟨num,time,ao2,al2,ac2,none,0,0⟩:EvC) 159 j u hj
   have hs1:=hb1.size
   have e1:(⟨w1.heap.size,0,none⟩:Addr).add j=⟨w1.heap.size,j,none⟩:=by simp [Addr.add];omega
   rw [e1] at h1 ⊢
   rw [<- h1]
   exact World.cell?_of_block (hOd.block w1.heap.size (by simp) (by have:=hgl;omega))
 ·unfold Oper.wp
  go_simp
  refine hK' _ _ ⟨fun _=>Hst.out _ (((Below.refl W.heap.size W).drew).al _),?_⟩
  clear hK' K'
  try walk_nrm
  refine AnyF.op (i:=7) (by decide +kernel) rfl (by rfl) (fun K' hK'=>?_)
  have hbA:Below W.heap.size W (W.drew.alloc (.cells #[.int .i64 num,.int .i64 time,.slice ao2 al2 ac2,.slice none 0 0] 159)):=((Below.refl _ W).drew.al _)
  unfold Oper.wp
  rw [Go.Conc.run_call_body (f:=131) (args:=#[.tmp 36,.tmp 37]) (ats:=#[232,3]) rfl Tryz.func131 (by decide) rfl]
  simp only [Oper.upon,List.map_toArray,List.map_cons,List.map_nil]
  change Calls Tryz.prog 131 #[.pointer (some ⟨wtb,0,none⟩),.int .i64 time] (W.drew.alloc (.cells #[.int .i64 num,.int .i64 time,.slice ao2 al2 ac2,.slice none 0 0] 159)) _
  refine (HO.out (W.drew.alloc (.cells #[.int .i64 num,.int .i64 time,.slice ao2 al2 ac2,.slice none 0 0] 159)) hbA).mono ?_
  rintro e w1 ⟨rfl,hb1⟩
  have hbB:=hb1
  replace hb1:Below W.heap.size W w1:=(hbA).trans (hb1.mono (hbA).size)
  refine hK' _ _ ⟨fun _=>Hst.out _ hb1,?_⟩
  clear hK' K'
  try walk_nrm
  refine AnyF.op (i:=8) (by decide +kernel) rfl (by rfl) (fun K' hK'=>?_)
  unfold Oper.wp
  rw [Go.Conc.run_call_body (f:=130) (args:=#[.tmp 35,.const (.int .i64 0),.tmp 38]) (ats:=#[146,3,3]) rfl Tryz.func130 (by decide) rfl]
  simp only [Oper.upon,List.map_toArray,List.map_cons,List.map_nil]
  change Calls Tryz.prog 130 #[.slice (some ⟨g,0,none⟩) C.length ecap,.int .i64 0,.int .i64 (k:Int)] w1 _
  refine (delete_any g ecap k C w1 (hE.below hb1) hk0 hkn hn).mono ?_
  rintro e wd ⟨rfl,hEd,hOd⟩
  obtain ⟨hd1,hd2,hd3⟩:=after.out w1 wd hb1 hOd
  refine hK' _ _ ⟨fun _=>HstH.out _ hd1 hd2,?_⟩
  clear hK' K'
  try walk_nrm
  have hsl:W.heap.size<(W.drew.alloc (.cells #[.int .i64 num,.int .i64 time,.slice ao2 al2 ac2,.slice none 0 0] 159)).heap.size:=heap_lt (heap_new W.drew (.cells #[.int .i64 num,.int .i64 time,.slice ao2 al2 ac2,.slice none 0 0] 159) W.heap.size rfl)
  refine tail5 _ W.heap.size hd1 hd2 hEd hd3 (fun j u hj=>?_)
  have h1:=cells_four_new W.drew (⟨num,time,ao2,al2,ac2,none,0,0⟩:EvC) 159 j u hj
  have e1:(⟨W.heap.size,0,none⟩:Addr).add j=⟨W.heap.size,j,none⟩:=by simp [Addr.add];omega
  have e2:(⟨W.drew.heap.size,0,none⟩:Addr).add j=⟨W.heap.size,j,none⟩:=e1
  rw [e2] at h1
  have hlt1:W.heap.size<w1.heap.size:=Nat.lt_of_lt_of_le hsl hbB.size
  rw [e1,World.cell?_of_block (hOd.block W.heap.size hlt1 (by have:=hgl;omega)),hbB.cell (p:=⟨W.heap.size,j,none⟩) hsl]
  exact h1
end Go.Proofs.YtpbbmagjhkakgaaGreatDoor.Ev
