import Derived.Test.YtpbbmagjhkakgaaGreatDoorEvAdd2ToSnAtoms
import Derived.Test.YtpbbmagjhkakgaaGreatDoorPureEndsToPureSem
import Derived.Test.YtpbbmagjhkakgaaGreatDoorLfPiecesToPureGood
import Derived.Test.YtpbbmagjhkakgaaGreatDoorRowGlob
import Derived.Carry
import Derived.Deep.SlicePairs
namespace Go.Proofs.YtpbbmagjhkakgaaGreatDoor.Ev
open Go.RowKit Go.Deep Go.Maps Go.Proofs.YtpbbmagjhkakgaaGreatDoor.Lf
def timeZ (L:List (Int×Int)):Nat->Int
 | 0=>0
 | i+1=>timeZ L i+laterZ (L.getD i (0,0)).1
def atomsAt (L:List (Int×Int)) (i:Nat):List ByteArray:=atomsL (pickZ (L.getD i (0,0)).2 8).toNat
def histZ (L:List (Int×Int)):Nat->List Hap
 | 0=>[]
 | i+1=>(timeZ L (i+1),atomsAt L i)::histZ L i
def verZ (x:BT Pay) (L:List (Int×Int)) (i:Nat):Bool:=semT x (histZ L (i+1))
def versL (x:BT Pay) (L:List (Int×Int)):Nat->List Value
 | 0=>[]
 | i+1=>versL x L i++verCells ((i:Int)+1) (timeZ L (i+1)) 1 (verZ x L i)
theorem timeZ_step (L:List (Int×Int)) (i:Nat):timeZ L i+1<=timeZ L (i+1)/\timeZ L (i+1)<=timeZ L i+12:=by
 have:=laterZ_range (L.getD i (0,0)).1
 simp only [timeZ]
 omega
theorem timeZ_range (L:List (Int×Int)):∀ i:Nat,(i:Int)<=timeZ L i/\timeZ L i<=12*i
 | 0=>⟨by simp [timeZ],by simp [timeZ]⟩
 | i+1=>by have:=timeZ_range L i;have:=timeZ_step L i;omega
theorem timeZ_mono (L:List (Int×Int)) (i k:Nat):timeZ L i<=timeZ L (i+k):=by
 induction k with
 | zero=>exact Int.le_refl _
 | succ k ih=>have:=timeZ_step L (i+k);rw [Nat.add_assoc] at this;omega
theorem versL_len (x:BT Pay) (L:List (Int×Int)):∀ i,(versL x L i).length=i*4
 | 0=>rfl
 | i+1=>by simp [versL,versL_len x L i,verCells];omega
theorem versL_one (x:BT Pay) (L:List (Int×Int)):∀ i,∀ u∈versL x L i,u.oneCell'=true
 | 0,u,h=>by simp [versL] at h
 | i+1,u,h=>by
  rcases List.mem_append.1 h with h | h
  ·exact versL_one x L i u h
  ·simp [verCells] at h
   rcases h with rfl | rfl | rfl | rfl<;>rfl
structure Run (L:List (Int×Int)) (K:List Key) (i:Nat) (E:List Pe) (dr:List Hap):Prop where
 hist:E.reverse.map Pe.hap++dr=histZ L i
 ok:RowsOK K dr E.reverse
theorem Run.start (L:List (Int×Int)) (K:List Key):Run L K 0 [] []:=⟨rfl,trivial⟩
theorem Run.next {L:List (Int×Int)} {K:List Key} {i:Nat} {E:List Pe} {dr:List Hap} (h:Run L K i E dr) (n:Int):Run L K (i+1) (E++[workF E.reverse K (⟨n,timeZ L (i+1),atomsAt L i,[]⟩:Pe).bare]) dr:=by
 obtain ⟨_,w2,w3,_⟩:=workF_same E.reverse K (⟨n,timeZ L (i+1),atomsAt L i,[]⟩:Pe).bare
 refine ⟨?_,?_⟩
 ·rw [List.reverse_append]
  simp only [List.reverse_cons,List.reverse_nil,List.nil_append,List.map_cons,List.cons_append]
  rw [h.hist]
  simp only [Pe.hap,w2,w3,histZ]
  rfl
 ·rw [List.reverse_append]
  exact work_right h.ok _
theorem Run.drop {L:List (Int×Int)} {K:List Key} {i:Nat} {E:List Pe} {dr:List Hap} (h:Run L K i E dr) (k:Nat):Run L K i (E.drop k) ((E.take k).reverse.map Pe.hap++dr):=by
 have e:E.reverse=(E.drop k).reverse++(E.take k).reverse:=by rw [<- List.reverse_append,List.take_append_drop]
 refine ⟨?_,?_⟩
 ·rw [<- h.hist,e];simp
 ·have:=h.ok
  rw [e] at this
  exact this.keep
theorem Run.says {L:List (Int×Int)} {K:List Key} {i:Nat} {E:List Pe} {dr:List Hap} (h:Run L K i E dr) (n:Int) {x:BT Pay} {j:Int} (hg:Good x) (hn:NumT K (coreT x) j) (hd:∀ d∈dr,d.1<timeZ L (i+1)-reachT (coreT x)) :
  (workF E.reverse K (⟨n,timeZ L (i+1),atomsAt L i,[]⟩:Pe).bare).at j=verZ x L i:=by
 obtain ⟨_,w2,w3,_⟩:=workF_same E.reverse K (⟨n,timeZ L (i+1),atomsAt L i,[]⟩:Pe).bare
 have h1:=(work_right h.ok (⟨n,timeZ L (i+1),atomsAt L i,[]⟩:Pe)).2.1 (coreT x) j (good_core hg) (cored_core hg) hn (by rw [w2];exact hd)
 rw [h1,sem_core hg,h.hist]
 simp only [verZ,histZ,Pe.hap,w2,w3]
 rfl
theorem name_ltr (i:Nat) (h:i<3):NameOK (ltrB i):=by
 have h2:i=0\/i=1\/i=2:=by omega
 rcases h2 with rfl | rfl | rfl<;>exact ⟨by decide,by decide,by decide +kernel,by decide +kernel,by decide +kernel⟩
theorem name_p:NameOK ⟨#[112]⟩:=⟨by decide,by decide,by decide +kernel,by decide +kernel,by decide +kernel⟩
theorem atoms_ltr (n:Nat):∀ i,i<=3->∀ s∈atomsTo n i,∃ j,j<3/\s=ltrB j
 | 0,_,s,h=>by simp [atomsTo] at h
 | i+1,hi,s,h=>by
  unfold atomsTo at h
  split at h
  ·rcases List.mem_append.1 h with h | h
   ·exact atoms_ltr n i (by omega) s h
   ·simp at h;exact ⟨i,by omega,h⟩
  ·exact atoms_ltr n i (by omega) s h
theorem atoms_names (n:Nat):∀ j,j<(atomsL n).length->NameOK ((atomsL n).getD j ByteArray.empty):=fun j hj=>by
 have:(atomsL n).getD j ByteArray.empty∈atomsL n:=by rw [List.getD_eq_getElem?_getD,List.getElem?_eq_getElem hj];exact List.getElem_mem hj
 obtain ⟨i,hi,e⟩:=atoms_ltr n 3 (Nat.le_refl _) _ this
 rw [e];exact name_ltr i hi
theorem atoms_once:∀ n,n<8->∀ j,j<(atomsL n).length->Lib.containsS ((atomsL n).take j) ((atomsL n).getD j ByteArray.empty)=false:=by decide +kernel
structure WInv (x:BT Pay) (name:ByteArray) (L:List (Int×Int)) (B0:Nat) (mb wtb:Nat) (retain:Int) (i:Nat) (w:World):Prop where
 ex:∃ no ncap ea ecap C E pa pcap sp s dr,WatchAt w wtb retain 60 no ncap (KAt (fun _=>x) 1) ea ecap C E pa pcap [polOf name sp s.stb x] [s]/\Run L (KAt (fun _=>x) 1) i E dr/\(∀ d∈dr,d.1<timeZ L i-retain)/\C.length<=i/\(C=[]->i=0)/\(∀ c,C.getLast? = some c->c.number=i/\c.time=timeZ L i)/\(∀ c∈C,1<=c.time)/\
  s.n=i/\s.xs=versL x L i/\(∀ a,ea=some a->B0<=a.block)/\B0<=s.stb/\(∀ g,s.sv.ownBlock=some g->B0<=g)
 mon:w.heap[mb]? = some (.cells #[.pointer (some ⟨wtb,0,none⟩)] 104 (0,0))
 wt:B0<=wtb
theorem WInv.tapeR {x:BT Pay} {name:ByteArray} {L:List (Int×Int)} {B0 mb wtb:Nat} {retain:Int} {i:Nat} {w:World} (h:WInv x name L B0 mb wtb retain i w) (τ:Tape) (d:Nat):WInv x name L B0 mb wtb retain i (re w τ d):=by
 obtain ⟨⟨no,ncap,ea,ecap,C,E,pa,pcap,sp,s,dr,h1,h2⟩,h3,h4⟩:=h
 exact ⟨⟨no,ncap,ea,ecap,C,E,pa,pcap,sp,s,dr,h1.tapeR τ d,h2⟩,h3,h4⟩
theorem WInv.move {x:BT Pay} {name:ByteArray} {L:List (Int×Int)} {B0 mb wtb:Nat} {retain:Int} {i:Nat} {w w':World} (h:WInv x name L B0 mb wtb retain i w) (hs:SpareR (fun _=>False) w w'):WInv x name L B0 mb wtb retain i w':=by
 obtain ⟨⟨no,ncap,ea,ecap,C,E,pa,pcap,sp,s,dr,h1,h2⟩,h3,h4⟩:=h
 exact ⟨⟨no,ncap,ea,ecap,C,E,pa,pcap,sp,s,dr,h1.move hs (Kinds.none _ _),h2⟩,hs.get h3 id,h4⟩
end Go.Proofs.YtpbbmagjhkakgaaGreatDoor.Ev
namespace Go.Proofs.YtpbbmagjhkakgaaGreatDoor.Ev
open Go.RowKit Go.Deep Go.Maps Go.Proofs.YtpbbmagjhkakgaaGreatDoor.Lf Go.Conc
theorem reach_not {y:BT Pay} (hy:Good y):reachT (notT y)<=reachT y:=by
 cases y with
 | nil=>exact hy.elim
 | node b o a l r =>
  have h0:=reach_nonneg (.inl hy)
  have hl:0<=a.hi:=by rcases hy with ⟨_,_,h3,h4,_⟩ | ⟨_,_,h3,h4,_⟩ | ⟨_,_,h3,_⟩ | ⟨_,_,h3,_⟩<;>omega
  show reachT (if a.op=172 then l else mk 172 ByteArray.empty 0 0 (BT.node b o a l r) .nil)<=_
  by_cases ho:a.op=172
  ·rw [if_pos ho,reach_node];omega
  ·rw [if_neg ho]
   have e:reachT (mk 172 ByteArray.empty 0 0 (BT.node b o a l r) .nil)=0+max (reachT (BT.node b o a l r)) 0:=rfl
   rw [e];omega
theorem reach_core:∀ {x:BT Pay},Good x->reachT (coreT x)<=reachT x
 | .nil,h=>h.elim
 | .node b o a l r,h=>by
  rcases h with ⟨h1,_,_,_,rfl,rfl⟩ | ⟨h1,_,_,_,rfl,rfl⟩ | ⟨h1,h2,h3,h4,gl,gr⟩ | ⟨h1,h2,h3,h4,gl,hr⟩
  ·unfold coreT;rw [if_pos (.inl h1)];exact Int.le_refl _
  ·unfold coreT;rw [if_pos (.inr h1)];exact Int.le_refl _
  ·have cl:=reach_core gl
   have cr:=reach_core gr
   have gcl:=good_core gl
   have gcr:=good_core gr
   rw [reach_node]
   rcases h1 with h1 | h1 | h1
   ·have e1:coreT (.node b o a l r)=mk a.op ByteArray.empty a.lo a.hi (coreT l) (coreT r):=by simp [coreT,h1]
    rw [e1]
    show a.hi+max (reachT (coreT l)) (reachT (coreT r))<=_
    omega
   ·have e1:coreT (.node b o a l r)=notT (mk 8743 ByteArray.empty 0 0 (notT (coreT l)) (notT (coreT r))):=by simp [coreT,h1]
    have g1:Good (mk 8743 ByteArray.empty 0 0 (notT (coreT l)) (notT (coreT r))):=.inr (.inr (.inl ⟨.inl rfl,rfl,⟨by decide,by decide,by decide⟩,by simp,good_not gcl,good_not gcr⟩))
    have n1:=reach_not g1
    have n2:=reach_not gcl
    have n3:=reach_not gcr
    have e2:reachT (mk 8743 ByteArray.empty 0 0 (notT (coreT l)) (notT (coreT r)))=0+max (reachT (notT (coreT l))) (reachT (notT (coreT r))):=rfl
    rw [e1];omega
   ·have e1:coreT (.node b o a l r)=mk a.op ByteArray.empty a.lo a.hi (coreT l) (coreT r):=by simp [coreT,h1]
    rw [e1]
    show a.hi+max (reachT (coreT l)) (reachT (coreT r))<=_
    omega
  ·have cl:=reach_core gl
   have gcl:=good_core gl
   rw [reach_node]
   rcases h1 with h1 | h1 | h1 | h1
   ·have e1:coreT (.node b o a l r)=notT (coreT l):=by simp [coreT,h1]
    have n2:=reach_not gcl
    rw [e1];omega
   ·have e1:coreT (.node b o a l r)=mk a.op ByteArray.empty a.lo a.hi (coreT l) .nil:=by simp [coreT,h1]
    rw [e1]
    show a.hi+max (reachT (coreT l)) 0<=_
    subst hr
    have:reachT (.nil:BT Pay)=0:=rfl
    omega
   ·have e1:coreT (.node b o a l r)=mk a.op ByteArray.empty a.lo a.hi (coreT l) .nil:=by simp [coreT,h1]
    rw [e1]
    show a.hi+max (reachT (coreT l)) 0<=_
    subst hr
    have:reachT (.nil:BT Pay)=0:=rfl
    omega
   ·have e1:coreT (.node b o a l r)=notT (mk 79 ByteArray.empty a.lo a.hi (notT (coreT l)) .nil):=by simp [coreT,h1]
    have g1:Good (mk 79 ByteArray.empty a.lo a.hi (notT (coreT l)) .nil):=.inr (.inr (.inr ⟨by simp,rfl,h3,fun h=>absurd (show winB 79=false from h) (by decide),good_not gcl,rfl⟩))
    have n1:=reach_not g1
    have n2:=reach_not gcl
    have e2:reachT (mk 79 ByteArray.empty a.lo a.hi (notT (coreT l)) .nil)=a.hi+max (reachT (notT (coreT l))) 0:=rfl
    rw [e1]
    subst hr
    have:reachT (.nil:BT Pay)=0:=rfl
    omega
theorem arr_get (t:Array Value) (n:Nat) (h:t.size=n):t=((List.range n).map (fun j=>t.getD j undef)).toArray:=by
 apply Array.ext
 ·simp [h]
 ·intro i h1 h2
  simp at h2
  simp [h1]
def ActW (text:ByteArray) (retain:Int) (eo:Option Addr) (L:List (Int×Int)) (cap mb:Nat) (now i:Int) (a:Act):Prop:=a.defers=[]/\a.tmps.size=113/\a.tmps[0]? = some (.string text)/\a.tmps[1]? = some (.int .i64 retain)/\a.tmps[2]? = some (.slice eo L.length cap)/\a.tmps[8]? = some (.pointer (some ⟨mb,0,none⟩))/\a.tmps[12]? = some (.bool true)/\a.tmps[13]? = some (.int .i64 now)/\a.tmps[14]? = some (.int .i64 i)
theorem ActW.open {text:ByteArray} {retain:Int} {eo:Option Addr} {L:List (Int×Int)} {cap mb:Nat} {now i:Int} {a:Act} (h:ActW text retain eo L cap mb now i a):∃ u:Nat->Value,a=⟨#[(.string text),(.int .i64 retain),(.slice eo L.length cap),u 3,u 4,u 5,u 6,u 7,(.pointer (some ⟨mb,0,none⟩)),u 9,u 10,u 11,(.bool true),(.int .i64 now),(.int .i64 i),u 15,u 16,u 17,u 18,u 19,u 20,u 21,u 22,u 23,u 24,u 25,u 26,u 27,u 28,u 29,u 30,u 31,u 32,u 33,u 34,u 35,u 36,u 37,u 38,u 39,u 40,u 41,u 42,u 43,u 44,u 45,u 46,u 47,u 48,u 49,u 50,u 51,u 52,u 53,u 54,u 55,u 56,u 57,u 58,u 59,u 60,u 61,u 62,u 63,u 64,u 65,u 66,u 67,u 68,u 69,u 70,u 71,u 72,u 73,u 74,u 75,u 76,u 77,u 78,u 79,u 80,u 81,u 82,u 83,u 84,u 85,u 86,u 87,u 88,u 89,u 90,u 91,u 92,u 93,u 94,u 95,u 96,u 97,u 98,u 99,u 100,u 101,u 102,u 103,u 104,u 105,u 106,u 107,u 108,u 109,u 110,u 111,u 112],[]⟩:=by
 obtain ⟨hd,hsz,h0,h1,h2,h8,h12,h13,h14⟩:=h
 have g0:a.tmps.getD 0 undef=.string text:=by rw [Array.getD_eq_getD_getElem?,h0];rfl
 have g1:a.tmps.getD 1 undef=.int .i64 retain:=by rw [Array.getD_eq_getD_getElem?,h1];rfl
 have g2:a.tmps.getD 2 undef=.slice eo L.length cap:=by rw [Array.getD_eq_getD_getElem?,h2];rfl
 have g8:a.tmps.getD 8 undef=.pointer (some ⟨mb,0,none⟩):=by rw [Array.getD_eq_getD_getElem?,h8];rfl
 have g12:a.tmps.getD 12 undef=.bool true:=by rw [Array.getD_eq_getD_getElem?,h12];rfl
 have g13:a.tmps.getD 13 undef=.int .i64 now:=by rw [Array.getD_eq_getD_getElem?,h13];rfl
 have g14:a.tmps.getD 14 undef=.int .i64 i:=by rw [Array.getD_eq_getD_getElem?,h14];rfl
 refine ⟨fun j=>a.tmps.getD j undef,?_⟩
 have e:a.tmps=#[a.tmps.getD 0 undef,a.tmps.getD 1 undef,a.tmps.getD 2 undef,a.tmps.getD 3 undef,a.tmps.getD 4 undef,a.tmps.getD 5 undef,a.tmps.getD 6 undef,a.tmps.getD 7 undef,a.tmps.getD 8 undef,a.tmps.getD 9 undef,a.tmps.getD 10 undef,a.tmps.getD 11 undef,a.tmps.getD 12 undef,a.tmps.getD 13 undef,a.tmps.getD 14 undef,a.tmps.getD 15 undef,a.tmps.getD 16 undef,a.tmps.getD 17 undef,a.tmps.getD 18 undef,a.tmps.getD 19 undef,a.tmps.getD 20 undef,a.tmps.getD 21 undef,a.tmps.getD 22 undef,a.tmps.getD 23 undef,a.tmps.getD 24 undef,a.tmps.getD 25 undef,a.tmps.getD 26 undef,a.tmps.getD 27 undef,a.tmps.getD 28 undef,a.tmps.getD 29 undef,a.tmps.getD 30 undef,a.tmps.getD 31 undef,a.tmps.getD 32 undef,a.tmps.getD 33 undef,a.tmps.getD 34 undef,a.tmps.getD 35 undef,a.tmps.getD 36 undef,a.tmps.getD 37 undef,a.tmps.getD 38 undef,a.tmps.getD 39 undef,a.tmps.getD 40 undef,a.tmps.getD 41 undef,a.tmps.getD 42 undef,a.tmps.getD 43 undef,a.tmps.getD 44 undef,a.tmps.getD 45 undef,a.tmps.getD 46 undef,a.tmps.getD 47 undef,a.tmps.getD 48 undef,a.tmps.getD 49 undef,a.tmps.getD 50 undef,a.tmps.getD 51 undef,a.tmps.getD 52 undef,a.tmps.getD 53 undef,a.tmps.getD 54 undef,a.tmps.getD 55 undef,a.tmps.getD 56 undef,a.tmps.getD 57 undef,a.tmps.getD 58 undef,a.tmps.getD 59 undef,a.tmps.getD 60 undef,a.tmps.getD 61 undef,a.tmps.getD 62 undef,a.tmps.getD 63 undef,a.tmps.getD 64 undef,a.tmps.getD 65 undef,a.tmps.getD 66 undef,a.tmps.getD 67 undef,a.tmps.getD 68 undef,a.tmps.getD 69 undef,a.tmps.getD 70 undef,a.tmps.getD 71 undef,a.tmps.getD 72 undef,a.tmps.getD 73 undef,a.tmps.getD 74 undef,a.tmps.getD 75 undef,a.tmps.getD 76 undef,a.tmps.getD 77 undef,a.tmps.getD 78 undef,a.tmps.getD 79 undef,a.tmps.getD 80 undef,a.tmps.getD 81 undef,a.tmps.getD 82 undef,a.tmps.getD 83 undef,a.tmps.getD 84 undef,a.tmps.getD 85 undef,a.tmps.getD 86 undef,a.tmps.getD 87 undef,a.tmps.getD 88 undef,a.tmps.getD 89 undef,a.tmps.getD 90 undef,a.tmps.getD 91 undef,a.tmps.getD 92 undef,a.tmps.getD 93 undef,a.tmps.getD 94 undef,a.tmps.getD 95 undef,a.tmps.getD 96 undef,a.tmps.getD 97 undef,a.tmps.getD 98 undef,a.tmps.getD 99 undef,a.tmps.getD 100 undef,a.tmps.getD 101 undef,a.tmps.getD 102 undef,a.tmps.getD 103 undef,a.tmps.getD 104 undef,a.tmps.getD 105 undef,a.tmps.getD 106 undef,a.tmps.getD 107 undef,a.tmps.getD 108 undef,a.tmps.getD 109 undef,a.tmps.getD 110 undef,a.tmps.getD 111 undef,a.tmps.getD 112 undef]:=(arr_get a.tmps 113 hsz).trans rfl
 obtain ⟨t,d⟩:=a
 simp only at *
 subst hd
 rw [g0,g1,g2,g8,g12,g13,g14] at e
 rw [Act.mk.injEq]
 exact ⟨e,rfl⟩
def ActX (text:ByteArray) (retain:Int) (eo:Option Addr) (L:List (Int×Int)) (cap mb:Nat) (now i:Int) (a:Act):Prop:=a.defers=[]/\a.tmps.size=113/\a.tmps[0]? = some (.string text)/\a.tmps[1]? = some (.int .i64 retain)/\a.tmps[2]? = some (.slice eo L.length cap)/\a.tmps[8]? = some (.pointer (some ⟨mb,0,none⟩))/\a.tmps[12]? = some (.bool true)/\a.tmps[13]? = some (.int .i64 now)/\a.tmps[14]? = some (.int .i64 i)/\a.tmps[15]? = some (.int .i64 0)
theorem ActX.open {text:ByteArray} {retain:Int} {eo:Option Addr} {L:List (Int×Int)} {cap mb:Nat} {now i:Int} {a:Act} (h:ActX text retain eo L cap mb now i a):∃ u:Nat->Value,a=⟨#[(.string text),(.int .i64 retain),(.slice eo L.length cap),u 3,u 4,u 5,u 6,u 7,(.pointer (some ⟨mb,0,none⟩)),u 9,u 10,u 11,(.bool true),(.int .i64 now),(.int .i64 i),(.int .i64 0),u 16,u 17,u 18,u 19,u 20,u 21,u 22,u 23,u 24,u 25,u 26,u 27,u 28,u 29,u 30,u 31,u 32,u 33,u 34,u 35,u 36,u 37,u 38,u 39,u 40,u 41,u 42,u 43,u 44,u 45,u 46,u 47,u 48,u 49,u 50,u 51,u 52,u 53,u 54,u 55,u 56,u 57,u 58,u 59,u 60,u 61,u 62,u 63,u 64,u 65,u 66,u 67,u 68,u 69,u 70,u 71,u 72,u 73,u 74,u 75,u 76,u 77,u 78,u 79,u 80,u 81,u 82,u 83,u 84,u 85,u 86,u 87,u 88,u 89,u 90,u 91,u 92,u 93,u 94,u 95,u 96,u 97,u 98,u 99,u 100,u 101,u 102,u 103,u 104,u 105,u 106,u 107,u 108,u 109,u 110,u 111,u 112],[]⟩:=by
 obtain ⟨hd,hsz,h0,h1,h2,h8,h12,h13,h14,h15⟩:=h
 have g0:a.tmps.getD 0 undef=.string text:=by rw [Array.getD_eq_getD_getElem?,h0];rfl
 have g1:a.tmps.getD 1 undef=.int .i64 retain:=by rw [Array.getD_eq_getD_getElem?,h1];rfl
 have g2:a.tmps.getD 2 undef=.slice eo L.length cap:=by rw [Array.getD_eq_getD_getElem?,h2];rfl
 have g8:a.tmps.getD 8 undef=.pointer (some ⟨mb,0,none⟩):=by rw [Array.getD_eq_getD_getElem?,h8];rfl
 have g12:a.tmps.getD 12 undef=.bool true:=by rw [Array.getD_eq_getD_getElem?,h12];rfl
 have g13:a.tmps.getD 13 undef=.int .i64 now:=by rw [Array.getD_eq_getD_getElem?,h13];rfl
 have g14:a.tmps.getD 14 undef=.int .i64 i:=by rw [Array.getD_eq_getD_getElem?,h14];rfl
 have g15:a.tmps.getD 15 undef=.int .i64 0:=by rw [Array.getD_eq_getD_getElem?,h15];rfl
 refine ⟨fun j=>a.tmps.getD j undef,?_⟩
 have e:a.tmps=#[a.tmps.getD 0 undef,a.tmps.getD 1 undef,a.tmps.getD 2 undef,a.tmps.getD 3 undef,a.tmps.getD 4 undef,a.tmps.getD 5 undef,a.tmps.getD 6 undef,a.tmps.getD 7 undef,a.tmps.getD 8 undef,a.tmps.getD 9 undef,a.tmps.getD 10 undef,a.tmps.getD 11 undef,a.tmps.getD 12 undef,a.tmps.getD 13 undef,a.tmps.getD 14 undef,a.tmps.getD 15 undef,a.tmps.getD 16 undef,a.tmps.getD 17 undef,a.tmps.getD 18 undef,a.tmps.getD 19 undef,a.tmps.getD 20 undef,a.tmps.getD 21 undef,a.tmps.getD 22 undef,a.tmps.getD 23 undef,a.tmps.getD 24 undef,a.tmps.getD 25 undef,a.tmps.getD 26 undef,a.tmps.getD 27 undef,a.tmps.getD 28 undef,a.tmps.getD 29 undef,a.tmps.getD 30 undef,a.tmps.getD 31 undef,a.tmps.getD 32 undef,a.tmps.getD 33 undef,a.tmps.getD 34 undef,a.tmps.getD 35 undef,a.tmps.getD 36 undef,a.tmps.getD 37 undef,a.tmps.getD 38 undef,a.tmps.getD 39 undef,a.tmps.getD 40 undef,a.tmps.getD 41 undef,a.tmps.getD 42 undef,a.tmps.getD 43 undef,a.tmps.getD 44 undef,a.tmps.getD 45 undef,a.tmps.getD 46 undef,a.tmps.getD 47 undef,a.tmps.getD 48 undef,a.tmps.getD 49 undef,a.tmps.getD 50 undef,a.tmps.getD 51 undef,a.tmps.getD 52 undef,a.tmps.getD 53 undef,a.tmps.getD 54 undef,a.tmps.getD 55 undef,a.tmps.getD 56 undef,a.tmps.getD 57 undef,a.tmps.getD 58 undef,a.tmps.getD 59 undef,a.tmps.getD 60 undef,a.tmps.getD 61 undef,a.tmps.getD 62 undef,a.tmps.getD 63 undef,a.tmps.getD 64 undef,a.tmps.getD 65 undef,a.tmps.getD 66 undef,a.tmps.getD 67 undef,a.tmps.getD 68 undef,a.tmps.getD 69 undef,a.tmps.getD 70 undef,a.tmps.getD 71 undef,a.tmps.getD 72 undef,a.tmps.getD 73 undef,a.tmps.getD 74 undef,a.tmps.getD 75 undef,a.tmps.getD 76 undef,a.tmps.getD 77 undef,a.tmps.getD 78 undef,a.tmps.getD 79 undef,a.tmps.getD 80 undef,a.tmps.getD 81 undef,a.tmps.getD 82 undef,a.tmps.getD 83 undef,a.tmps.getD 84 undef,a.tmps.getD 85 undef,a.tmps.getD 86 undef,a.tmps.getD 87 undef,a.tmps.getD 88 undef,a.tmps.getD 89 undef,a.tmps.getD 90 undef,a.tmps.getD 91 undef,a.tmps.getD 92 undef,a.tmps.getD 93 undef,a.tmps.getD 94 undef,a.tmps.getD 95 undef,a.tmps.getD 96 undef,a.tmps.getD 97 undef,a.tmps.getD 98 undef,a.tmps.getD 99 undef,a.tmps.getD 100 undef,a.tmps.getD 101 undef,a.tmps.getD 102 undef,a.tmps.getD 103 undef,a.tmps.getD 104 undef,a.tmps.getD 105 undef,a.tmps.getD 106 undef,a.tmps.getD 107 undef,a.tmps.getD 108 undef,a.tmps.getD 109 undef,a.tmps.getD 110 undef,a.tmps.getD 111 undef,a.tmps.getD 112 undef]:=(arr_get a.tmps 113 hsz).trans rfl
 obtain ⟨t,d⟩:=a
 simp only at *
 subst hd
 rw [g0,g1,g2,g8,g12,g13,g14,g15] at e
 rw [Act.mk.injEq]
 exact ⟨e,rfl⟩
def verS (x:BT Pay) (L:List (Int×Int)):Nat->ByteArray
 | 0=>⟨#[]⟩
 | i+1=>verS x L i++(if verZ x L i then ⟨#[49]⟩ else ⟨#[48]⟩)
def ComesAt (w:World) (eo:Option Addr) (L:List (Int×Int)):Prop:=L≠[]->∃ b off,eo=some ⟨b,off,none⟩/\b<w.heap.size/\∀ j,j<L.length->w.cell? ⟨b,off+j*2,none⟩=some (.int .i64 (L.getD j (0,0)).1)/\w.cell? ⟨b,off+j*2+1,none⟩=some (.int .i64 (L.getD j (0,0)).2)
theorem ComesAt.move {w w':World} {eo:Option Addr} {L:List (Int×Int)} (h:ComesAt w eo L) (hs:SpareR (fun _=>False) w w'):ComesAt w' eo L:=fun hne=>by
 obtain ⟨b,off,h1,h2,h3⟩:=h hne
 have hc:∀ q,w'.cell? ⟨b,q,none⟩=w.cell? ⟨b,q,none⟩:=fun q=>World.cell?_of_block (hs.block b h2 id)
 exact ⟨b,off,h1,Nat.lt_of_lt_of_le h2 hs.size,fun j hj=>by simp only [hc];exact h3 j hj⟩
theorem spare_out {w0 w w':World} (h:SpareR (fun _=>False) w0 w) (k:SpareR (fun b=>w0.heap.size<=b) w w'):SpareR (fun _=>False) w0 w' :=
 ⟨k.os.trans h.os,k.output.trans h.output,Nat.le_trans h.size k.size,fun b hb _=>(k.block b (Nat.lt_of_lt_of_le hb h.size) (by omega)).trans (h.block b hb id)⟩
noncomputable def body21:Code:=Tryz.f21.body.getD .skip
noncomputable def loop21:Code:=match body21 with
 | .seq _ (.seq _ (.seq _ (.seq _ (.seq _ (.seq _ (.seq (.seq _ (.block _ (.loop x))) _))))))=>x
 | _=>.skip
theorem lift {f:FuncId} {args:Array Value} {w:World} {R:Ending->World->Prop} (hR:∀ e w τ d,R e w->R e (re w τ d)) (hno:∀ w,¬ R .outgrown w) (h:∀ τ d,Calls Tryz.prog f args (re w τ d) R):HCalls Tryz.prog f args w R:=HCalls.of_calls plain_prog hR hno h
theorem atoms_H (c:Int) (w:World) (hc:I64 c):HCalls Tryz.prog 25 #[.int .i64 c] w fun e w'=>∃ ao cap,e=.returned (.slice ao (atomsL (pickZ c 8).toNat).length cap)/\(atomsL (pickZ c 8).toNat).length<=cap/\StrsIn w' ao (atomsL (pickZ c 8).toNat)/\SpareR (fun _=>False) w w':=by
 refine lift ?_ ?_ fun τ d=>(atoms_any c (re w τ d) hc).mono ?_
 ·rintro e w' τ d ⟨ao,cap,h1,h2,h3,h4⟩
  exact ⟨ao,cap,h1,h2,h3,h4.tapeR τ d⟩
 ·rintro w' ⟨ao,cap,h1,_⟩
  cases h1
 ·rintro e w' ⟨v,rfl,h1,h2⟩
  obtain ⟨ao,cap,rfl,h3,h4,_⟩:=strs_of_row h1
  exact ⟨ao,cap,rfl,h3,h4,(SpareR.of_below h2).tape0⟩
end Go.Proofs.YtpbbmagjhkakgaaGreatDoor.Ev
namespace Go.Proofs.YtpbbmagjhkakgaaGreatDoor
open Go.ChangeShapes Go.WideShapes Go.ChangeAt Go.RowKit Go.Deep Go.Conc Go.Proofs.YtpbbmagjhkakgaaGreatDoor.Ev
section
variable {H : Type} {enc : TypeId × Value → H} {w : World}
theorem leaving_of_change_and {a:Assume} {C:Checked} {os:Os} {f:FuncId} {fn:Func} {s:ChangeSpec} {conds:List PathCond} {apart fresh handsOn again:Bool} {X:World->Array Value->Prop}
  (hX:∀ (w w':World) (args:Array Value),w.heap=w'.heap->X w args->X w' args)
  (own:ownKnob C.prog.godebug=none) (started:os.Started) (hfn:C.prog.funcs[f]? = some fn)
  (witness:∃ (w:World) (tape:Tape) (i:Input),w.os=os/\(w.forCall tape i).Shaped C.prog/\i.vars=[]/\Input.okWide C.prog (w.forCall tape i) .any w.heap.size f i/\
   ((s.pre enc C.prog fn conds apart (w.forCall tape i).memory i.args/\X (w.forCall tape i).memory i.args)/\sizedMet enc C.prog fn (OpenSpec.ofChange s) apart (w.forCall tape i).memory i.args)/\a.holds C.prog (lone (Frame.enter C.prog f i.args .normal) [] (w.forCall tape i)))
  (runs:∀ (W:World) (base:Nat) (args:Array Value) (ds gs:List (DataW H)) (before:List MemPlace),
   (∀ (j:Nat) t v,fn.params[j]? = some t->args[j]? = some v->Value.okWide C.prog W .any base t v)->
   DataW.Whole enc C.prog fn.params.toList s.vars apart W args.toList ds gs before->
   (DataW.weightsEach C.prog (fn.params.toList++s.plain.varTypes C.prog) (ds++gs)).all (·<=reachBytes)=true->X W args->
   ∃ M last o w' t',runNT C.prog (M+1) (solo (G (Frame.enter C.prog f args .normal) []) W) #[]=(.ended o w',t')/\runN C.prog M (solo (G (Frame.enter C.prog f args .normal) []) W)=.next last/\
    step C.prog last=.ended o w'/\Conc.Good C.prog (fun v W'=>s.post enc C.prog fn apart fresh handsOn again W args v W') last o w' t') :
  ReturnsInLeavingWide a C os f .any (fun w args=>(s.pre enc C.prog fn conds apart w args/\X w args)/\sizedMet enc C.prog fn (OpenSpec.ofChange s) apart w args) (s.post enc C.prog fn apart fresh handsOn again):=by
 refine returnsInLeavingWide_of_good own started witness ?_
 intro w tape i _ _ _ hok hpre _
 obtain ⟨_,_,_,fn',hfn',_,_,_,_,hval⟩:=hok
 have e:fn'=fn:=Option.some.inj (hfn'.symm.trans hfn)
 subst e
 obtain ⟨⟨⟨ds,gs,before,hw,_⟩,hx⟩,hz⟩:=hpre
 have hw':=DataW.Whole.of_heap (w':=w.forCall tape i) (by rfl) hw
 obtain ⟨M,last,o,w',t',h1,h2,h3,h4⟩:=runs (w.forCall tape i) w.heap.size i.args ds gs before hval hw' (hz.weights hw) (hX _ _ _ (by rfl) hx)
 exact ⟨M,last,o,w',t',h1,h2,h3,h4.mono fun v hp=>ChangeSpec.post_blind hp⟩
theorem spare_below {w w':World} (h:SpareR (fun _=>False) w w'):Below w.heap.size w (Lf.re w' w.tape w'.drawn):=⟨h.os,rfl,h.output,h.size,fun k hk=>h.block k hk id⟩
theorem spare_frame {w w':World} (h:SpareR (fun _=>False) w w') (may:MemPlace->Prop):w.keptBut w' may:=(spare_below h).frame may
theorem spare_same {w w':World} (h:SpareR (fun _=>False) w w') {p:MemPlace} (hp:p.block<w.heap.size):w.sameAt w' p:=(spare_below h).same hp
theorem spare_trod {P:Program} {t:TypeId} (hl:laidOutB P=true) (hr:P.readableRec t=true) (hrow:t<P.types.size) {W W':World} {v:Value} {d:DataW H} {ps:List MemPlace}
  (h:DataW.Trod enc P W 0 (fun _=>true) true t v d ps) (hb:SpareR (fun _=>False) W W') (hlt:∀ x∈ps,x.block<W.heap.size) :
  DataW.Trod enc P W' 0 (fun b=>decide (b<W.heap.size)) true t v d ps :=
 WideElems.Trod_stays hl hr hrow h (fun x hx=>spare_same hb (hlt x hx)) (fun x hx=>by simpa using hlt x hx)
theorem laidOutK:laidOutB Tryz.prog=true:=by kernel_rfl
theorem rowComes:34<Tryz.prog.types.size:=by rw [zsize];decide
theorem readComes:Tryz.prog.readableRec 34=true:=by kernel_rfl
theorem cCome:Tryz.prog.cellsOf 45=2:=by kernel_rfl
theorem cIntK:Tryz.prog.cellsOf 3=1:=by kernel_rfl
theorem i64_of_wf {n:Int} (h:(Lit.int .i64 n).wf=true):I64 n:=by
 simp [Lit.wf,IntKind.min,IntKind.max,IntKind.signed,IntKind.bits] at h
 unfold I64
 omega
set_option maxRecDepth 100000 in
theorem comes_open {r:Reach} {b0:Nat} {v:Value} {d:DataW H} {p:List MemPlace} (hv:Value.okWide Tryz.prog w r b0 34 v) (h:DataW.Trod enc Tryz.prog w 0 (fun _=>true) true 34 v d p) :
  ∃ eo L cap,v=.slice eo (List.length L) cap/\L.length<=9223372036854775807/\(∀ q∈L,I64 q.1/\I64 q.2)/\ComesAt w eo L:=by
 obtain ⟨q,l,c,rfl⟩:=okWide_slice Tryz.underlying34 hv
 obtain ⟨fuel,hf⟩:=h
 rcases open_slice_pairs Tryz.underlying34 Tryz.underlying45 cCome rfl rfl cIntK cIntK hf with ⟨h1,_⟩ | ⟨a,len,cap,m,n,V0,V1,D0,D1,P0,P1,h1,_,hl,hcap,hm,_,hc⟩
 ·have e:Value.slice q l c=.slice none 0 0:=by simpa [Value.cells] using h1
  rw [e]
  exact ⟨none,[],0,rfl,by simp,by simp,fun x=>absurd rfl x⟩
 ·have e:Value.slice q l c=.slice (some a) len cap:=by simpa [Value.cells] using h1
  rw [e]
  have hmc:m=cap:=by simpa using hm
  subst hmc
  have each:∀ i,∃ q:Int×Int,i<len->I64 q.1/\I64 q.2/\w.cell? (a.add (i*2))=some (.int .i64 q.1)/\w.cell? (a.add (i*2+1))=some (.int .i64 q.2):=fun i=>by
   by_cases hi:i<len
   ·obtain ⟨c1,c2,t1,t2⟩:=hc i (by omega)
    obtain ⟨n1,e1,_,w1⟩:=DataW.trod_int Tryz.underlying3 t1
    obtain ⟨n2,e2,_,w2⟩:=DataW.trod_int Tryz.underlying3 t2
    simp only [List.cons.injEq,and_true] at e1 e2
    rw [e1] at c1
    rw [e2] at c2
    exact ⟨(n1,n2),fun _=>⟨i64_of_wf w1,i64_of_wf w2,c1,c2⟩⟩
   ·exact ⟨(0,0),fun x=>absurd x hi⟩
  let f:Nat->Int×Int:=fun i=>(each i).choose
  have hfe:∀ i,i<len->I64 (f i).1/\I64 (f i).2/\w.cell? (a.add (i*2))=some (.int .i64 (f i).1)/\w.cell? (a.add (i*2+1))=some (.int .i64 (f i).2):=fun i hi=>(each i).choose_spec hi
  have hmax:maxLen<=9223372036854775807:=by decide
  refine ⟨some a,(List.range len).map f,m,by simp,by simp;omega,fun q hq=>?_,fun hne=>?_⟩
  ·obtain ⟨i,hi,rfl⟩:=List.mem_map.1 hq
   exact ⟨(hfe i (List.mem_range.1 hi)).1,(hfe i (List.mem_range.1 hi)).2.1⟩
  ·have h0:0<len:=by
    rcases Nat.eq_zero_or_pos len with h | h
    ·subst h;simp at hne
    ·exact h
   obtain ⟨b,o,sp⟩:=a
   have c0:=(hfe 0 h0).2.2.1
   have hsp:sp=none:=World.cell?_spot c0
   subst hsp
   refine ⟨b,o,rfl,?_,fun j hj=>?_⟩
   ·exact cell_lt c0
   ·simp only [List.length_map,List.length_range] at hj
    have eg:((List.range len).map f).getD j (0,0)=f j:=by simp [List.getD,hj]
    rw [eg]
    have k1:=(hfe j hj).2.2.1
    have k2:=(hfe j hj).2.2.2
    rw [add_plain] at k1 k2
    exact ⟨k1,by rw [Nat.add_assoc];exact k2⟩
end
end Go.Proofs.YtpbbmagjhkakgaaGreatDoor
