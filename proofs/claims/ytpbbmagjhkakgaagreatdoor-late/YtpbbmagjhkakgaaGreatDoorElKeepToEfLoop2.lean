import Derived.Test.YtpbbmagjhkakgaaGreatDoorElAdd3ToSnSeen3
import Derived.Test.YtpbbmagjhkakgaaGreatDoorSnInvToRowKeep
import Derived.Test.YtpbbmagjhkakgaaGreatDoorSnSemToPureLoose
import Derived.Test.YtpbbmagjhkakgaaGreatDoorRowSame0ToElAdd
import Derived.Test.YtpbbmagjhkakgaaGreatDoorSnSeen0ToSmLoop
namespace Go.Proofs.YtpbbmagjhkakgaaGreatDoor.Ev
open Go.RowKit Go.Deep Go.Maps Go.Proofs.YtpbbmagjhkakgaaGreatDoor.Lf
structure KInv (x:BT Pay) (name:ByteArray) (L:List (Int×Int)) (B0:Nat) (mb wtb:Nat) (retain:Int) (a i:Nat) (v:Value) (f:Nat) (w:World):Prop where
 ex:∃ no ncap ea ecap C E pa pcap sp s dr,WatchAt w wtb retain 60 no ncap (KAt (fun _=>x) 1) ea ecap C E pa pcap [polOf name sp s.stb x] [s]/\Run L (KAt (fun _=>x) 1) i E dr/\(∀ d∈dr,d.1<timeZ L i-retain)/\C.length<=i/\(C=[]->i=0)/\(∀ c,C.getLast? = some c->c.number=i/\c.time=timeZ L i)/\(∀ c∈C,1<=c.time)/\
  a<=i/\s.n=i-a/\s.xs=versF x L a (i-a)/\(∀ a,ea=some a->B0<=a.block)/\B0<=s.stb/\(∀ g,s.sv.ownBlock=some g->B0<=g)/\w.ownsRow B0 59 4 v (a-f) (versF x L f (a-f))/\(∀ g,v.ownBlock=some g->s.sv.ownBlock≠some g)
 mon:w.heap[mb]? = some (.cells #[.pointer (some ⟨wtb,0,none⟩)] 104 (0,0))
 wt:B0<=wtb
theorem KInv.tapeR {x:BT Pay} {name:ByteArray} {L:List (Int×Int)} {B0 mb wtb:Nat} {retain:Int} {a i:Nat} {v:Value} {f:Nat} {w:World} (h:KInv x name L B0 mb wtb retain a i v f w) (τ:Tape) (d:Nat):KInv x name L B0 mb wtb retain a i v f (re w τ d):=by
 obtain ⟨⟨no,ncap,ea,ecap,C,E,pa,pcap,sp,s,dr,h1,h2,h3,h4,h5,h6,h7,h8,h9,h10,h11,h12,h13,h14,h15⟩,hm,hwt⟩:=h
 exact ⟨⟨no,ncap,ea,ecap,C,E,pa,pcap,sp,s,dr,h1.tapeR τ d,h2,h3,h4,h5,h6,h7,h8,h9,h10,h11,h12,h13,ownsRow_re h14 τ d,h15⟩,hm,hwt⟩
theorem KInv.move {x:BT Pay} {name:ByteArray} {L:List (Int×Int)} {B0 mb wtb:Nat} {retain:Int} {a i:Nat} {v:Value} {f:Nat} {w w':World} (h:KInv x name L B0 mb wtb retain a i v f w) (hs:SpareR (fun _=>False) w w'):KInv x name L B0 mb wtb retain a i v f w':=by
 obtain ⟨⟨no,ncap,ea,ecap,C,E,pa,pcap,sp,s,dr,h1,h2,h3,h4,h5,h6,h7,h8,h9,h10,h11,h12,h13,h14,h15⟩,hm,hwt⟩:=h
 exact ⟨⟨no,ncap,ea,ecap,C,E,pa,pcap,sp,s,dr,h1.move hs (Kinds.none _ _),h2,h3,h4,h5,h6,h7,h8,h9,h10,h11,h12,h13,own_heap h14 (fun k hk=>hs.block k (h14.lt k hk).2 id),h15⟩,hs.get hm id,hwt⟩
theorem step_back {x:BT Pay} {name:ByteArray} {L:List (Int×Int)} {B0 mb wtb:Nat} {retain:Int} {a i:Nat} {v:Value} {f:Nat} {w:World} (h:KInv x name L B0 mb wtb retain a i v f w) (hg:Good x) (hreach:reachT (coreT x)<=retain) (hi:i<25) (ao:Option Addr) (cap:Nat)
  (hA:StrsIn w ao (atomsAt L i)) (hcap:(atomsAt L i).length<=cap) :
  HCalls Tryz.prog 24 #[.pointer (some ⟨mb,0,none⟩),.int .i64 (timeZ L (i+1)),.slice ao (atomsAt L i).length cap] w fun e W'=>e=.returned (.int .i64 0)/\KInv x name L B0 mb wtb retain a (i+1) v f W'/\SpareR (fun b=>B0<=b) w W':=by
 obtain ⟨⟨no,ncap,ea,ecap,C,E,pa,pcap,sp,s,dr,h1,h2,h3,h4,h5,h6,h7,hai,h8,h9,h10,h11,h12,h14,h15⟩,hm,hwt⟩:=h
 have hT:=timeZ_range L (i+1)
 have hTs:=timeZ_step L i
 have hpk:=pickZ_range (L.getD i (0,0)).2 8 (by decide)
 have hnx:nextN C=(i:Int)+1:=by
  unfold nextN
  cases hc:C.getLast? with
  | none=>have:=h5 (List.getLast?_eq_none_iff.1 hc);simp [this]
  | some c=>simp [(h6 c hc).1]
 obtain ⟨k,hk⟩:∃ k,oldF (timeZ L (i+1)-retain) C=k:=⟨_,rfl⟩
 have hkn:k<=C.length:=by rw [<- hk];exact oldF_le _ _
 have hdr:∀ d∈(E.take k).reverse.map Pe.hap++dr,d.1<timeZ L (i+1)-retain:=by
  intro d hd
  rcases List.mem_append.1 hd with hd | hd
  ·obtain ⟨e,he,rfl⟩:=List.mem_map.1 hd
   obtain ⟨j,hj⟩:=List.mem_iff_getElem?.1 (List.mem_reverse.1 he)
   rw [List.getElem?_take] at hj
   split at hj
   ·rename_i hjk
    have hjc:j<C.length:=by omega
    have hin:=h1.ins j C[j] e (List.getElem?_eq_getElem hjc) hj
    have hlt:=oldF_lt (timeZ L (i+1)-retain) C j C[j] (List.getElem?_eq_getElem hjc) (by omega)
    show e.time<_
    rw [<- hin.time]
    exact hlt
   ·cases hj
  ·have:=h3 d hd;omega
 have hev:=event_drop h1 (timeZ L (i+1)) ao (atomsAt L i) cap (by omega) (fun c hc=>by rw [(h6 c hc).2];omega) k hk (by omega) hA
  (Nat.le_trans (atomsTo_len _ 3) (by decide)) hcap (atoms_names _) (atoms_once _ (by omega)) (by omega) (by omega) (fun t ht=>by simp at ht;subst ht;omega)
 have hnd:NumT (KAt (fun _=>x) 1) (coreT x) (nAt (fun _=>x) 0):=(putK_num (coreT x) [] (fun i k hk=>by simp at hk)).2
 refine (monEvent hm (D:=fun W'=>KInv x name L B0 mb wtb retain a (i+1) v f W'/\SpareR (fun b=>B0<=b) w W') (fun w τ d x=>⟨x.1.tapeR τ d,x.2.tapeR τ d⟩) (hev.mono ?_))
 rintro e W' ⟨rfl,c,ea',ecap',ss',k1,k2,k3,k4,k5,k6⟩
 refine ⟨rfl,?_⟩
 obtain ⟨t,ht,t1,t2,t3,t4⟩:=k6 0 s _ rfl rfl
 have hlen:=k1.plen
 have hss:ss'=[t]:=by
  cases ss' with
  | nil=>simp at ht
  | cons a l =>
   cases l with
   | nil=>simp at ht;rw [ht]
   | cons b l=>simp at hlen
 subst hss
 have hown:∀ b,Own46 wtb ea [s] b->B0<=b:=by
  rintro b (rfl | ⟨a,e1,rfl⟩ | ⟨s',hs',e1 | e1⟩)
  ·exact hwt
  ·exact h10 a e1
  ·simp at hs';subst hs';rw [e1];exact h11
  ·simp at hs';subst hs';exact h12 b e1
 have hsr:SpareR (fun b=>B0<=b) w W':=k4.mono fun b _ hb=>hown b hb
 have hnode:((polOf name sp s.stb x).node:Int)=nAt (fun _=>x) 0:=Int.toNat_of_nonneg (nAt_nonneg _ _)
 refine ⟨⟨⟨no,ncap,ea',ecap',C.drop k++[c],_,pa,pcap,sp,t,(E.take k).reverse.map Pe.hap++dr,?_,(h2.drop k).next (nextN C),?_,?_,?_,?_,?_,by omega,?_,?_,?_,?_,?_,?_,?_⟩,?_,hwt⟩,hsr⟩
 ·rw [t1];exact k1
 ·exact hdr
 ·simp;omega
 ·intro e;simp at e
 ·intro c' hc'
  simp at hc'
  subst hc'
  exact ⟨by rw [k3,hnx];simp,k2⟩
 ·intro c' hc'
  rcases List.mem_append.1 hc' with h | h
  ·exact h7 c' (List.mem_of_mem_drop h)
  ·simp at h;subst h;omega
 ·rw [t2,h8];omega
 ·have e1:i+1-a=(i-a)+1:=by omega
  have e2:a+(i-a)=i:=by omega
  have e3:(a:Int)+(i-a:Nat)+1=(i:Int)+1:=by omega
  rw [t3,h9,hnode,(h2.drop k).says (nextN C) hg hnd (fun d hd=>by have:=hdr d hd;omega),hnx,e1]
  simp only [versF,e2,e3]
  rfl
 ·intro a ha
  rcases k5 a ha with ⟨a0,e1,e2⟩ | e
  ·rw [<- e2];exact h10 a0 e1
  ·have:=heap_lt h1.cell;omega
 ·rw [t1];exact h11
 ·intro g hg
  rcases t4 with e | ⟨g',e1,e2⟩
  ·exact h12 g (e▸hg)
  ·rw [e1] at hg;cases hg;have:=heap_lt h1.cell;omega
 ·refine own_heap h14 fun g hg=>k4.block g (h14.lt g hg).2 ?_
  obtain ⟨cur,hcur⟩:=own_tag h14 hg
  rintro (e | ⟨a',e1,e2⟩ | ⟨s',hs',e | e⟩)
  ·subst e;rw [h1.cell] at hcur;cases hcur
  ·have hb:(Value.slice ea C.length ecap).ownBlock=some g:=by rw [e1,<- e2];rfl
   obtain ⟨cs,hcs⟩:=own_tag h1.evs hb
   rw [hcur] at hcs;cases hcs
  ·simp at hs'
   subst hs'
   have:=(h1.sok s' (by simp)).1
   rw [<- e,hcur] at this
   cases this
  ·simp at hs'
   subst hs'
   exact h15 g hg e
 ·intro g hg
  rcases t4 with e | ⟨g',e1,e2⟩
  ·rw [e];exact h15 g hg
  ·rw [e1]
   intro e3
   cases e3
   have:=(h14.lt _ hg).2
   omega
 ·refine (k4.block mb (heap_lt hm) ?_).trans hm
  rintro (e | ⟨a,e1,e2⟩ | hM)
  ·subst e;rw [h1.cell] at hm;cases hm
  ·have hb:(Value.slice ea C.length ecap).ownBlock=some mb:=by rw [e1];rw [<- e2];rfl
   obtain ⟨cs,hcs⟩:=own_tag h1.evs hb
   rw [hm] at hcs;cases hcs
  ·obtain ⟨cs,t',ht',e | e⟩:=Ms.tag h1.sok hM
   ·rw [hm] at ht';cases ht';cases e
   ·rw [hm] at ht';cases ht';cases e
theorem KInv.late {x:BT Pay} {name:ByteArray} {L:List (Int×Int)} {B0 mb wtb:Nat} {retain:Int} {a i:Nat} {v:Value} {f:Nat} {w:World} (h:KInv x name L B0 mb wtb retain a i v f w):LInv x name L B0 mb wtb retain a i w:=by
 obtain ⟨⟨no,ncap,ea,ecap,C,E,pa,pcap,sp,s,dr,h1,h2,h3,h4,h5,h6,h7,h8,h9,h10,h11,h12,h13,_⟩,hm,hwt⟩:=h
 exact ⟨⟨no,ncap,ea,ecap,C,E,pa,pcap,sp,s,dr,h1,h2,h3,h4,h5,h6,h7,h8,h9,h10,h11,h12,h13⟩,hm,hwt⟩
theorem KInv.row {x:BT Pay} {name:ByteArray} {L:List (Int×Int)} {B0 mb wtb:Nat} {retain:Int} {a i:Nat} {v:Value} {f:Nat} {w:World} (h:KInv x name L B0 mb wtb retain a i v f w):w.ownsRow B0 59 4 v (a-f) (versF x L f (a-f)):=by
 obtain ⟨⟨no,ncap,ea,ecap,C,E,pa,pcap,sp,s,dr,h1,h2,h3,h4,h5,h6,h7,h8,h9,h10,h11,h12,h13,h14,_⟩,hm,hwt⟩:=h
 exact h14
theorem late_add {x:BT Pay} {name s:ByteArray} {L:List (Int×Int)} {B0 mb wtb:Nat} {n:Int} {i:Nat} {w:World} (h:YInv L B0 mb wtb n i w) (hi:i<=25) (hN:NameOK name) (hNs:name.size<=1000) (hm:s.size<=maxLen) (hg:Glob w) (hw7:14<=w.heap.size) (hr:readF s=(some x,0)) (hR:reachT x<=n) (hR0:0<=reachT x) (hK:(KAt (fun _=>x) 1).length<=40) (hX:nodesT (coreT x)<=1000000) :
  Calls Tryz.prog 27 #[.pointer (some ⟨mb,0,none⟩),.string name,.string s] w fun e w'=>∃ v f,e=.returned (.tuple #[v,.int .i64 0])/\f<=i/\KInv x name L B0 mb wtb n i i v f w'/\SpareR (fun b=>B0<=b) w w'/\(∀ (b:Nat) (cs:Array Value) (t:TypeId) (m:Nat×Nat),w.heap[b]? = some (.cells cs t m)->t≠153->t≠159->w'.heap[b]? = some (.cells cs t m)):=by
 obtain ⟨⟨ea,ecap,C,E,dr,h1,h2,h3,h3b,h4,h5,h6,h10,h13⟩,hmb,hwt⟩:=h
 have hgx:Good x:=(readF_sound hr).1
 have hlen:=h1.len
 have htime:∀ (j:Nat) c,C[j]? = some c->c.time=timeZ L (i+1+j-C.length):=fun j c hc=>by
  have hj:=(List.getElem?_eq_some_iff.1 hc).1
  have he:E[j]? = some E[j]:=List.getElem?_eq_getElem (by omega)
  rw [(h1.ins j c _ hc he).time,hlen]
  exact h2.time j _ he
 have htr:∀ c∈C,1<=c.time/\c.time<=1000:=fun c hc=>by
  obtain ⟨j,hj⟩:=List.mem_iff_getElem?.1 hc
  have hjl:=(List.getElem?_eq_some_iff.1 hj).1
  rw [htime j c hj]
  have:=timeZ_range L (i+1+j-C.length)
  omega
 refine (monAddE mb wtb n 60 ea ecap C E name s x w hmb h1 hN hNs hm hg hw7 hr hR hR0 hK hX (fun c hc=>by have:=htr c hc;omega)).mono ?_
 rintro e w' ⟨v,rfl,no,ncap,Cs,pb,pcap,sp,stb,hold,k1,k2,k3,k4,k5,k6,k7⟩
 have hnd:NumT (KAt (fun _=>x) 1) (coreT x) (nAt (fun _=>x) 0):=(putK_num (coreT x) [] (fun i k hk=>by simp at hk)).2
 have hrun:Run L (KAt (fun _=>x) 1) i (judL (KAt (fun _=>x) 1) E C.length) dr:=by rw [hlen];exact h2.judged _
 have hto:∀ (j:Nat) c,Cs[j]? = some c->∃ c0,C[j]? = some c0/\c.number=c0.number/\c.time=c0.time:=fun j c hc=>by
  have hj:=(List.getElem?_eq_some_iff.1 hc).1
  have h0:C[j]? = some C[j]:=List.getElem?_eq_getElem (by omega)
  exact ⟨_,h0,k4 j c _ hc h0⟩
 obtain ⟨f,f1,f2,f3⟩:=back_is hrun hgx hnd (reach_core hgx) (C:=Cs) (by rw [judL_len,k3]) (fun j c hc=>by
  obtain ⟨c0,e1,e2,_⟩:=hto j c hc
  rw [e2,h13 j c0 e1,k3]) (fun j c e hc he=>(k1.ins j c e hc he).time) k6
 have hwl:=heap_lt h1.cell
 have hbP:∀ (b:Nat) (cs:Array Value) (t:TypeId) (m:Nat×Nat),w.heap[b]? = some (.cells cs t m)->t≠153->t≠159->¬ (b=wtb\/∃ a,ea=some a/\a.block=b):=by
  rintro b cs t m hb t1 t2 (e | ⟨a,ha,e⟩)
  ·subst e;rw [h1.cell] at hb;injection hb with hb;injection hb with _ hb _;exact t1 hb.symm
  ·have hb2:(Value.slice ea C.length ecap).ownBlock=some b:=by rw [ha,<- e];rfl
   obtain ⟨cs',hcs⟩:=own_tag h1.evs hb2
   rw [hcs] at hb;injection hb with hb;injection hb with _ hb _;exact t2 hb.symm
 have hkeep:∀ (b:Nat) (cs:Array Value) (t:TypeId) (m:Nat×Nat),w.heap[b]? = some (.cells cs t m)->t≠153->t≠159->w'.heap[b]? = some (.cells cs t m):=fun b cs t m hb t1 t2=>(k5.block b (heap_lt hb) (hbP b cs t m hb t1 t2)).trans hb
 rw [f2,f3] at k7
 have hrow:w'.ownsRow B0 59 4 v (i-f) (versF x L f (i-f)):=row_mono k7 (by omega)
 refine ⟨v,f,rfl,f1,?_,?_,hkeep⟩
 ·refine ⟨⟨no,ncap,ea,ecap,Cs,_,some ⟨pb,0,none⟩,pcap,sp,⟨stb,.slice none 0 0,0,[]⟩,dr,k1,hrun,h3,by omega,fun e=>?_,fun c hc=>?_,fun c hc=>?_,Nat.le_refl _,by simp,by simp [versF],h10,by show B0<=stb;omega,fun g hg=>(by cases hg),hrow,fun g _ e=>(by cases e)⟩,hkeep mb _ _ _ hmb (by decide) (by decide),hwt⟩
  ·exact h5 (List.length_eq_zero_iff.1 (by rw [<- k3,e];rfl))
  ·rw [List.getLast?_eq_getElem?] at hc
   obtain ⟨c0,e1,e2,e3⟩:=hto _ c hc
   rw [e2,e3]
   exact h6 c0 (by rw [List.getLast?_eq_getElem?,<- k3];exact e1)
  ·obtain ⟨j,hj⟩:=List.mem_iff_getElem?.1 hc
   obtain ⟨c0,e1,_,e3⟩:=hto j c hj
   rw [e3]
   exact (htr c0 (List.mem_of_getElem? e1)).1
 ·refine (SpareR.of_spare k5).mono fun b _ hb=>?_
  rcases hb with e | ⟨a,ha,e⟩
  ·omega
  ·rw [<- e];exact h10 a ha
end Go.Proofs.YtpbbmagjhkakgaaGreatDoor.Ev
namespace Go.Proofs.YtpbbmagjhkakgaaGreatDoor.Ev
open Go.RowKit Go.Deep Go.Maps Go.Proofs.YtpbbmagjhkakgaaGreatDoor.Lf Go.Conc
theorem SpareR.untape {P:Nat->Prop} {w w':World} {τ:Tape} {d:Nat} (h:SpareR P (re w τ d) w'):SpareR P w w':=⟨h.os,h.output,h.size,h.block⟩
theorem versF_one (x:BT Pay) (L:List (Int×Int)) (a:Nat):∀ k,∀ u∈versF x L a k,u.oneCell'=true
 | 0,u,h=>by simp [versF] at h
 | k+1,u,h=>by
  rcases List.mem_append.1 h with h | h
  ·exact versF_one x L a k u h
  ·simp [verCells] at h
   rcases h with rfl | rfl | rfl | rfl<;>rfl
theorem versF_len (x:BT Pay) (L:List (Int×Int)) (a:Nat):∀ k,(versF x L a k).length=k*4
 | 0=>rfl
 | k+1=>by simp [versF,versF_len x L a k,verCells];omega
theorem versF_get (x:BT Pay) (L:List (Int×Int)) (a:Nat):∀ (k j:Nat),j<k->(versF x L a k)[j*4]? = some (.int .i64 ((a:Int)+j+1))/\(versF x L a k)[j*4+1]? = some (.int .i64 (timeZ L (a+j+1)))/\(versF x L a k)[j*4+2]? = some (.int .i64 1)/\(versF x L a k)[j*4+3]? = some (.bool (verZ x L (a+j)))
 | 0,j,h=>by omega
 | k+1,j,h=>by
  have hl:=versF_len x L a k
  simp only [versF]
  by_cases hj:j<k
  ·obtain ⟨h1,h2,h3,h4⟩:=versF_get x L a k j hj
   refine ⟨?_,?_,?_,?_⟩<;>rw [List.getElem?_append_left (by omega)]<;>assumption
  ·obtain rfl:j=k:=by omega
   refine ⟨?_,?_,?_,?_⟩<;>rw [List.getElem?_append_right (by omega),hl]
   ·simp [verCells]
   ·have e:j*4+1-j*4=1:=by omega
    rw [e];rfl
   ·have e:j*4+2-j*4=2:=by omega
    rw [e];rfl
   ·have e:j*4+3-j*4=3:=by omega
    rw [e];rfl
def LatePost (x:BT Pay) (name:ByteArray) (L:List (Int×Int)) (B0 mb wtb:Nat) (n:Int) (i:Nat) (w:World) (e:Ending) (w':World):Prop :=
 ∃ v f,e=.returned (.tuple #[v,.int .i64 0])/\f<=i/\KInv x name L B0 mb wtb n i i v f w'/\SpareR (fun b=>B0<=b) w w'/\(∀ (b:Nat) (cs:Array Value) (t:TypeId) (m:Nat×Nat),w.heap[b]? = some (.cells cs t m)->t≠153->t≠159->w'.heap[b]? = some (.cells cs t m))
theorem late_H {x:BT Pay} {name s:ByteArray} {L:List (Int×Int)} {B0 mb wtb:Nat} {n:Int} {i:Nat} {w:World} (h:YInv L B0 mb wtb n i w) (hi:i<=25) (hN:NameOK name) (hNs:name.size<=1000) (hm:s.size<=maxLen) (hg:Glob w) (hw7:14<=w.heap.size) (hr:readF s=(some x,0)) (hR:reachT x<=n) (hR0:0<=reachT x) (hK:(KAt (fun _=>x) 1).length<=40) (hX:nodesT (coreT x)<=1000000) :
  HCalls Tryz.prog 27 #[.pointer (some ⟨mb,0,none⟩),.string name,.string s] w (LatePost x name L B0 mb wtb n i w):=by
 refine lift ?_ ?_ fun τ d=>(late_add (h.tapeR τ d) hi hN hNs hm (glob_tape hg τ d) hw7 hr hR hR0 hK hX).mono ?_
 ·rintro e w' τ d ⟨v,f,h1,h2,h3,h5,h6⟩
  exact ⟨v,f,h1,h2,h3.tapeR τ d,h5.tapeR τ d,h6⟩
 ·rintro w' ⟨v,f,h1,_⟩
  cases h1
 ·rintro e w' ⟨v,f,h1,h2,h3,h5,h6⟩
  exact ⟨v,f,h1,h2,h3,h5.untape,h6⟩
theorem lstream_H {x:BT Pay} {L:List (Int×Int)} {B0 mb wtb:Nat} {n:Int} {a i:Nat} {w:World} (h:LInv x ⟨#[112]⟩ L B0 mb wtb n a i w) (hi:i<=25) :
  HCalls Tryz.prog 28 #[.pointer (some ⟨mb,0,none⟩),.string ⟨#[112]⟩] w fun e w'=>∃ v,e=.returned (.tuple #[v,.int .i64 0])/\w'.ownsRow w.heap.size 59 4 v (i-a) (versF x L a (i-a))/\SpareR (fun _=>False) w w':=by
 refine lift ?_ ?_ fun τ d=>?_
 ·rintro e w' τ d ⟨v,h1,h2,h3⟩
  exact ⟨v,h1,ownsRow_re h2 τ d,h3.tapeR τ d⟩
 ·rintro w' ⟨v,h1,_⟩
  cases h1
 ·obtain ⟨⟨no,ncap,ea,ecap,C,E,pa,pcap,sp,s,dr,h1,h2,h3,h4,h5,h6,h7,hai,h8,h9,h10,h11,h12⟩,hm,hwt⟩:=h.tapeR τ d
  have hn:s.n<=1000000:=by rw [h8];omega
  have ho:∀ u∈s.xs,u.oneCell'=true:=by rw [h9];exact versF_one x L a _
  refine (monStream1 mb wtb (polOf ⟨#[112]⟩ sp s.stb x) s (re w τ d) hm h1.one hn ho).mono ?_
  rintro e w' ⟨v,rfl,hv,hb⟩
  rw [h8,h9] at hv
  exact ⟨v,rfl,hv,(SpareR.of_below hb).untape⟩
section
variable {K : Goroutine → World → Prop} {b : Frame} {k : List Item} {cs : List Frame} {A : Act} {w : World} {ops : Array Oper} {i d N : Nat} {rest : List Nat} {v : Value} {l : List (Nat × Value)}
theorem idxC {x y:Operand} {g off n cp j:Nat} (h:IsOp ops i d (.indexAddr 34 x y)) (hA:Fx N l A) (hx:evl l x=some (.slice (some ⟨g,off,none⟩) n cp)) (hy:evl l y=some (.int .i64 (j:Int))) (hj:j<n) (hn:n<=9223372036854775807) (hd:d<N) (hi:∀ it∈k,okItem it) (hc:∀ fr∈cs,okFrame fr)
  (hk:∀ A',Fx N ((d,.pointer (some ⟨g,off+j*2,none⟩))::l) A'->LeadsR Tryz.prog K (G (b.at A' (.inRegion ops rest::k)) cs) w):LeadsR Tryz.prog K (G (b.at A (.inRegion ops (i::rest)::k)) cs) w :=
 LeadsR.isVal plain_prog h (fun o ho w=>by
  refine run_eq_of fun K hK=>?_
  have e0:=hA.ev hx
  have e1:=hA.ev hy
  have hn1:=hn
  unfold execOp
  rw [ho]
  simp only [e0,e1]
  go_simp
  exact hK) hi hc (hk _ (hA.put hd _))
theorem fldC {x:Operand} {g off:Nat} (h:IsOp ops i d (.fieldAddr 45 x 1)) (hA:Fx N l A) (hx:evl l x=some (.pointer (some ⟨g,off,none⟩))) (hd:d<N) (hi:∀ it∈k,okItem it) (hc:∀ fr∈cs,okFrame fr)
  (hk:∀ A',Fx N ((d,.pointer (some ⟨g,off+1,none⟩))::l) A'->LeadsR Tryz.prog K (G (b.at A' (.inRegion ops rest::k)) cs) w):LeadsR Tryz.prog K (G (b.at A (.inRegion ops (i::rest)::k)) cs) w :=
 LeadsR.isVal plain_prog h (fun o ho w=>by
  refine run_eq_of fun K hK=>?_
  have e0:=hA.ev hx
  unfold execOp
  rw [ho]
  simp only [e0]
  go_simp
  exact hK) hi hc (hk _ (hA.put hd _))
theorem loadI {x:Operand} {g j:Nat} {z:Int} (h:IsOp ops i d (.load 3 x)) (hA:Fx N l A) (hx:evl l x=some (.pointer (some ⟨g,j,none⟩))) (hs:w.cell? ⟨g,j,none⟩=some (.int .i64 z)) (hd:d<N) (hi:∀ it∈k,okItem it) (hc:∀ fr∈cs,okFrame fr)
  (hk:∀ A',Fx N ((d,.int .i64 z)::l) A'->LeadsR Tryz.prog K (G (b.at A' (.inRegion ops rest::k)) cs) w):LeadsR Tryz.prog K (G (b.at A (.inRegion ops (i::rest)::k)) cs) w:=by
 obtain ⟨o,o1,o2,o3,o4⟩:=h
 refine LeadsR.val plain_prog (w':=w) (v:=.int .i64 z) o1 (isOp_wanted o4) (fun τ d=>run_eq_of ?_) hi hc (by rw [o2];exact hk _ (hA.put hd _))
 intro K hK
 have e0:=hA.ev hx
 have c1:(re w τ d).cell? ⟨g,j,none⟩=some (.int .i64 z):=hs
 unfold execOp
 rw [o3]
 simp only [e0]
 go_simp
 exact hK
end
end Go.Proofs.YtpbbmagjhkakgaaGreatDoor.Ev
