import Derived.Test.YtpbbmagjhkakgaaGreatDoorEaDelToEaIns2
import Derived.Test.YtpbbmagjhkakgaaGreatDoorEaFind
import Derived.Test.YtpbbmagjhkakgaaGreatDoorEvAddToEvAdd2
import Derived.Test.YtpbbmagjhkakgaaGreatDoorEeNoToSnAtoms
import Derived.Test.YtpbbmagjhkakgaaGreatDoorPureSemToEvBack
import Derived.Test.YtpbbmagjhkakgaaGreatDoorLfScriptToLfEnd
namespace Go.Proofs.YtpbbmagjhkakgaaGreatDoor
namespace Ev
open Go.RowKit Go.Deep Go.Maps Lf
def du (ps:List bC):List Value:=(ps.map ey).flatten
theorem oD (ps:List bC):(du ps).length=ps.length*5:=ft ey 5 (fun _=>rfl) ps
theorem flatP_one (ps:List bC):∀ u∈du ps,u.oneCell'=true:=by
 intro u hu
 obtain ⟨c,hc,hu⟩:=List.mem_flatten.1 hu
 obtain ⟨p,_,rfl⟩:=List.mem_map.1 hc
 exact polOne p u hu
theorem rY (ps qs:List bC):du (ps++qs)=du ps++du qs:=by simp [du]
theorem flatP_take (ps:List bC) (i:Nat) (hi:i<=ps.length):(du ps).take (i*5)=du (ps.take i):=by
 conv=>lhs;rw [<- List.take_append_drop i ps,rY]
 have h:=oD (ps.take i)
 rw [List.length_take,Nat.min_eq_left hi] at h
 rw [List.take_append_of_le_length (by omega),List.take_of_length_le (by omega)]
theorem flatP_drop (ps:List bC) (i:Nat) (hi:i<=ps.length):(du ps).drop (i*5)=du (ps.drop i):=by
 conv=>lhs;rw [<- List.take_append_drop i ps,rY]
 have h:=oD (ps.take i)
 rw [List.length_take,Nat.min_eq_left hi] at h
 rw [List.drop_append,List.drop_of_length_le (by omega),List.nil_append,h,Nat.sub_self,List.drop_zero]
theorem flatP_at {arr:Array Value} {po:Nat} {ps:List bC} (h:b5 arr po ps) (j:Nat) (u:Value) (hj:(du ps)[j]? = some u):arr[po+j]? = some u:=by
 have hl:=oD ps
 have hjl:=(List.getElem?_eq_some_iff.1 hj).1
 have hq:j/5<ps.length:=by omega
 have hp:ps[j/5]? = some ps[j/5]:=List.getElem?_eq_getElem hq
 obtain ⟨a0,a1,a2,a3,a4⟩:=h (j/5) _ hp
 have hg:=kn ey 5 (fun _=>rfl) ps (j/5) (j % 5) ps[j/5]
 have hjj:j/5*5+j % 5=j:=by omega
 have hr:j % 5=0\/j % 5=1\/j % 5=2\/j % 5=3\/j % 5=4:=by omega
 have bH:∀ v,(ey ps[j/5])[j % 5]? = some v->arr[po+j/5*5+j % 5]? = some v->arr[po+j]? = some u:=fun v h1 h2=>by
  have h3:=hg v hp h1
  rw [hjj] at h3
  have h4:(du ps)[j]? = some v:=h3
  rw [hj] at h4
  cases h4
  rw [show po+j/5*5+j % 5=po+j by omega] at h2
  exact h2
 rcases hr with e | e | e | e | e
 ·exact bH _ (by rw [e];rfl) (by rw [e];exact a0)
 ·exact bH _ (by rw [e];rfl) (by rw [e];exact a1)
 ·exact bH _ (by rw [e];rfl) (by rw [e];exact a2)
 ·exact bH _ (by rw [e];rfl) (by rw [e];exact a3)
 ·exact bH _ (by rw [e];rfl) (by rw [e];exact a4)
theorem polsAt_flat {cur:Array Value} {ps:List bC} (h:∀ (j:Nat) u,(du ps)[j]? = some u->cur[j]? = some u):b5 cur 0 ps:=fun j p hp=>by
 have hg:=fun k v=>kn ey 5 (fun _=>rfl) ps j k p v hp
 rw [Nat.zero_add]
 exact ⟨h _ _ (hg 0 _ rfl),h _ _ (hg 1 _ rfl),h _ _ (hg 2 _ rfl),h _ _ (hg 3 _ rfl),h _ _ (hg 4 _ rfl)⟩
theorem polsAt_row {w:World} {B:Nat} {v:Value} {ps:List bC} (h:w.ownsRow B 183 5 v ps.length (du ps)) (hne:ps≠[]):∃ (g cap:Nat) (cur:Array Value),v=.slice (some ⟨g,0,none⟩) ps.length cap/\B<=g/\w.heap[g]? = some (.cells cur 183 (0,0))/\ps.length<=cap/\b5 cur 0 ps:=by
 obtain ⟨h0,⟨_,h1⟩ | ⟨g,cap,cur,e1,hB,hg,hn,_,hc,rE⟩⟩:=h
 ·exact absurd (List.length_eq_zero_iff.1 h1) hne
 ·refine ⟨g,cap,cur,e1,hB,hg,hn,polsAt_flat fun j u hj=>?_⟩
  have hjl:=(List.getElem?_eq_some_iff.1 hj).1
  rw [<- rE,List.getElem?_take,if_pos (by omega)] at hj
  simpa using hj
theorem nS (w:World) (pa:Option Addr) (aM:Nat) (ps:List bC) (hP:fg w pa aM ps) (hn:ps.length<=1000000) :
  Calls Tryz.prog 100 #[.slice pa ps.length aM] w fun e w'=>∃ v',e=.returned v'/\w'.ownsRow w.heap.size 183 5 v' ps.length (du ps)/\Below w.heap.size w w':=by
 rcases hP with ⟨rfl,rfl,rfl⟩ | ⟨pb,po,fA,mp,rfl,hp,hP⟩
 ·refine (clonePol_nil _ _ w).mono ?_
  rintro e w' ⟨rfl,rfl⟩
  exact ⟨_,rfl,World.ownsRow_nil _ _ _ _,Below.refl _ _⟩
 ·exact clonePol_some pb po ps.length aM (du ps) w (oD ps) hn (fun j u hj=>ae hp (flatP_at hP j u hj)) (flatP_one ps)
def aW (L:List (Int×Int)):Nat->Int
 | 0=>0
 | i+1=>aW L i+ob (L.getD i (0,0)).1
def jZ (L:List (Int×Int)) (i:Nat):List ByteArray:=jQ (aP (L.getD i (0,0)).2 8).toNat
def histZ (L:List (Int×Int)):Nat->List uj
 | 0=>[]
 | i+1=>(aW L (i+1),jZ L i)::histZ L i
def verZ (x:BT aO) (L:List (Int×Int)) (i:Nat):Bool:=cQ x (histZ L (i+1))
def nO (x:BT aO) (L:List (Int×Int)):Nat->List Value
 | 0=>[]
 | i+1=>nO x L i++bO ((i:Int)+1) (aW L (i+1)) 1 (verZ x L i)
theorem timeZ_step (L:List (Int×Int)) (i:Nat):aW L i+1<=aW L (i+1)/\aW L (i+1)<=aW L i+12:=by
 have:=pY (L.getD i (0,0)).1
 simp only [aW]
 omega
theorem nN (L:List (Int×Int)):∀ i:Nat,(i:Int)<=aW L i/\aW L i<=12*i
 | 0=>⟨by simp [aW],by simp [aW]⟩
 | i+1=>by have:=nN L i;have:=timeZ_step L i;omega
theorem versL_len (x:BT aO) (L:List (Int×Int)):∀ i,(nO x L i).length=i*4
 | 0=>rfl
 | i+1=>by simp [nO,versL_len x L i,bO];omega
theorem versL_one (x:BT aO) (L:List (Int×Int)):∀ i,∀ u∈nO x L i,u.oneCell'=true
 | 0,u,h=>by simp [nO] at h
 | i+1,u,h=>by
  rcases List.mem_append.1 h with h | h
  ·exact versL_one x L i u h
  ·simp [bO] at h
   rcases h with rfl | rfl | rfl | rfl<;>rfl
structure Run (L:List (Int×Int)) (K:List Key) (i:Nat) (E:List Pe) (dr:List uj):Prop where
 hist:E.reverse.map Pe.jD++dr=histZ L i
 ok:kA K dr E.reverse
theorem Run.start (L:List (Int×Int)) (K:List Key):Run L K 0 [] []:=⟨rfl,trivial⟩
theorem Run.next {L:List (Int×Int)} {K:List Key} {i:Nat} {E:List Pe} {dr:List uj} (h:Run L K i E dr) (n:Int):Run L K (i+1) (E++[b9 E.reverse K (⟨n,aW L (i+1),jZ L i,[]⟩:Pe).bare]) dr:=by
 obtain ⟨_,w2,w3,_⟩:=eZ E.reverse K (⟨n,aW L (i+1),jZ L i,[]⟩:Pe).bare
 refine ⟨?_,?_⟩
 ·rw [List.reverse_append]
  simp only [List.reverse_cons,List.reverse_nil,List.nil_append,List.map_cons,List.cons_append]
  rw [h.hist]
  simp only [Pe.jD,w2,w3,histZ]
  rfl
 ·rw [List.reverse_append]
  exact ug h.ok _
theorem Run.drop {L:List (Int×Int)} {K:List Key} {i:Nat} {E:List Pe} {dr:List uj} (h:Run L K i E dr) (k:Nat):Run L K i (E.drop k) ((E.take k).reverse.map Pe.jD++dr):=by
 have e:E.reverse=(E.drop k).reverse++(E.take k).reverse:=by rw [<- List.reverse_append,List.take_append_drop]
 refine ⟨?_,?_⟩
 ·rw [<- h.hist,e];simp
 ·have:=h.ok
  rw [e] at this
  exact this.keep
theorem Run.says {L:List (Int×Int)} {K:List Key} {i:Nat} {E:List Pe} {dr:List uj} (h:Run L K i E dr) (n:Int) {x:BT aO} {j:Int} (hg:Good x) (hn:nR K (ak x) j) (hd:∀ d∈dr,d.1<aW L (i+1)-ax (ak x)) :
  (b9 E.reverse K (⟨n,aW L (i+1),jZ L i,[]⟩:Pe).bare).at j=verZ x L i:=by
 obtain ⟨_,w2,w3,_⟩:=eZ E.reverse K (⟨n,aW L (i+1),jZ L i,[]⟩:Pe).bare
 have h1:=(ug h.ok (⟨n,aW L (i+1),jZ L i,[]⟩:Pe)).2.1 (ak x) j (cA hg) (mr hg) hn (by rw [w2];exact hd)
 rw [h1,vF hg,h.hist]
 simp only [verZ,histZ,Pe.jD,w2,w3]
 rfl
theorem name_ltr (i:Nat) (h:i<3):eR (ni i):=by
 have h2:i=0\/i=1\/i=2:=by omega
 rcases h2 with rfl | rfl | rfl<;>exact ⟨by decide,by decide,by decide +kernel,by decide +kernel,by decide +kernel⟩
theorem name_p:eR ⟨#[112]⟩:=⟨by decide,by decide,by decide +kernel,by decide +kernel,by decide +kernel⟩
theorem atoms_ltr (n:Nat):∀ i,i<=3->∀ s∈dC n i,∃ j,j<3/\s=ni j
 | 0,_,s,h=>by simp [dC] at h
 | i+1,hi,s,h=>by
  unfold dC at h
  split at h
  ·rcases List.mem_append.1 h with h | h
   ·exact atoms_ltr n i (by omega) s h
   ·simp at h;exact ⟨i,by omega,h⟩
  ·exact atoms_ltr n i (by omega) s h
theorem atoms_names (n:Nat):∀ j,j<(jQ n).length->eR ((jQ n).getD j ByteArray.empty):=fun j hj=>by
 have:(jQ n).getD j ByteArray.empty∈jQ n:=by rw [List.getD_eq_getElem?_getD,List.getElem?_eq_getElem hj];exact List.getElem_mem hj
 obtain ⟨i,hi,e⟩:=atoms_ltr n 3 (Nat.le_refl _) _ this
 rw [e];exact name_ltr i hi
theorem atoms_once:∀ n,n<8->∀ j,j<(jQ n).length->Lib.containsS ((jQ n).take j) ((jQ n).getD j ByteArray.empty)=false:=by decide +kernel
end Ev
namespace Ev
open Go.RowKit Go.Deep Go.Maps Lf Go.Conc
theorem mf {y:BT aO} (hy:Good y):ax (bQ y)<=ax y:=by
 cases y with
 | nil=>exact hy.elim
 | node b o a l r =>
  have h0:=dV (.inl hy)
  have hl:0<=a.hi:=by rcases hy with ⟨_,_,h3,h4,_⟩ | ⟨_,_,h3,h4,_⟩ | ⟨_,_,h3,_⟩ | ⟨_,_,h3,_⟩<;>omega
  show ax (if a.op=172 then l else mk 172 ByteArray.empty 0 0 (BT.node b o a l r) .nil)<=_
  by_cases ho:a.op=172
  ·rw [if_pos ho,mS];omega
  ·rw [if_neg ho]
   have e:ax (mk 172 ByteArray.empty 0 0 (BT.node b o a l r) .nil)=0+max (ax (BT.node b o a l r)) 0:=rfl
   rw [e];omega
theorem mR:∀ {x:BT aO},Good x->ax (ak x)<=ax x
 | .nil,h=>h.elim
 | .node b o a l r,h=>by
  rcases h with ⟨h1,_,_,_,rfl,rfl⟩ | ⟨h1,_,_,_,rfl,rfl⟩ | ⟨h1,h2,h3,h4,gl,gr⟩ | ⟨h1,h2,h3,h4,gl,hr⟩
  ·unfold ak;rw [if_pos (.inl h1)];exact Int.le_refl _
  ·unfold ak;rw [if_pos (.inr h1)];exact Int.le_refl _
  ·have cl:=mR gl
   have cr:=mR gr
   have gcl:=cA gl
   have gcr:=cA gr
   rw [mS]
   rcases h1 with h1 | h1 | h1
   ·have e1:ak (.node b o a l r)=mk a.op ByteArray.empty a.lo a.hi (ak l) (ak r):=by simp [ak,h1]
    rw [e1]
    show a.hi+max (ax (ak l)) (ax (ak r))<=_
    omega
   ·have e1:ak (.node b o a l r)=bQ (mk 8743 ByteArray.empty 0 0 (bQ (ak l)) (bQ (ak r))):=by simp [ak,h1]
    have g1:Good (mk 8743 ByteArray.empty 0 0 (bQ (ak l)) (bQ (ak r))):=.inr (.inr (.inl ⟨.inl rfl,rfl,⟨by decide,by decide,by decide⟩,by simp,fY gcl,fY gcr⟩))
    have n1:=mf g1
    have n2:=mf gcl
    have n3:=mf gcr
    have e2:ax (mk 8743 ByteArray.empty 0 0 (bQ (ak l)) (bQ (ak r)))=0+max (ax (bQ (ak l))) (ax (bQ (ak r))):=rfl
    rw [e1];omega
   ·have e1:ak (.node b o a l r)=mk a.op ByteArray.empty a.lo a.hi (ak l) (ak r):=by simp [ak,h1]
    rw [e1]
    show a.hi+max (ax (ak l)) (ax (ak r))<=_
    omega
  ·have cl:=mR gl
   have gcl:=cA gl
   rw [mS]
   rcases h1 with h1 | h1 | h1 | h1
   ·have e1:ak (.node b o a l r)=bQ (ak l):=by simp [ak,h1]
    have n2:=mf gcl
    rw [e1];omega
   ·have e1:ak (.node b o a l r)=mk a.op ByteArray.empty a.lo a.hi (ak l) .nil:=by simp [ak,h1]
    rw [e1]
    show a.hi+max (ax (ak l)) 0<=_
    subst hr
    have:ax (.nil:BT aO)=0:=rfl
    omega
   ·have e1:ak (.node b o a l r)=mk a.op ByteArray.empty a.lo a.hi (ak l) .nil:=by simp [ak,h1]
    rw [e1]
    show a.hi+max (ax (ak l)) 0<=_
    subst hr
    have:ax (.nil:BT aO)=0:=rfl
    omega
   ·have e1:ak (.node b o a l r)=bQ (mk 79 ByteArray.empty a.lo a.hi (bQ (ak l)) .nil):=by simp [ak,h1]
    have g1:Good (mk 79 ByteArray.empty a.lo a.hi (bQ (ak l)) .nil):=.inr (.inr (.inr ⟨by simp,rfl,h3,fun h=>absurd (show lC 79=false from h) (by decide),fY gcl,rfl⟩))
    have n1:=mf g1
    have n2:=mf gcl
    have e2:ax (mk 79 ByteArray.empty a.lo a.hi (bQ (ak l)) .nil)=a.hi+max (ax (bQ (ak l))) 0:=rfl
    rw [e1]
    subst hr
    have:ax (.nil:BT aO)=0:=rfl
    omega
end Ev
end Go.Proofs.YtpbbmagjhkakgaaGreatDoor
