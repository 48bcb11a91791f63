import Derived.Test.YtpbbmagjhkakgaaGreatDoorEdInvToSmSent
import Derived.Test.YtpbbmagjhkakgaaGreatDoorElAdd3ToEaStream
namespace Go.Proofs.YtpbbmagjhkakgaaGreatDoor
namespace Ev
open Go.RowKit Go.Deep Go.Maps Lf
theorem judL_hap (K:List Key) (E:List Pe):∀ j,j<=E.length->(gS K E j).map Pe.jD=(E.take j).map Pe.jD
 | 0,_=>by simp [gS]
 | j+1,h=>by
  obtain ⟨_,w2,w3,_⟩:=eZ (gS K E j).reverse K (E.getD j pe0).bare
  have hj:E[j]? = some E[j]:=List.getElem?_eq_getElem (by omega)
  rw [gS,List.map_append,judL_hap K E j (by omega),List.take_add_one,hj,List.map_append]
  congr 1
  simp only [List.map_cons,List.map_nil,Option.toList_some,List.cons.injEq,and_true]
  have hd:E.getD j pe0=E[j]:=by rw [List.getD_eq_getElem?_getD,hj];rfl
  unfold Pe.jD
  rw [w2,w3,hd]
  rfl
theorem judL_ok (K:List Key) (E:List Pe) (dr:List uj):∀ j,kA K dr (gS K E j).reverse
 | 0=>trivial
 | j+1=>by
  rw [gS,List.reverse_append]
  exact ug (judL_ok K E dr j) _
theorem Run.judged {L:List (Int×Int)} {K0:List Key} {i:Nat} {E:List Pe} {dr:List uj} (h:Run L K0 i E dr) (K:List Key):Run L K i (gS K E E.length) dr:=by
 refine ⟨?_,judL_ok K E dr _⟩
 rw [List.map_reverse,judL_hap K E _ (Nat.le_refl _),List.take_length,<- List.map_reverse]
 exact h.hist
structure YInv (L:List (Int×Int)) (B0 mb aj:Nat) (n:Int) (i:Nat) (w:World):Prop where
 ex:∃ ea az C E dr,bj w aj n 60 none 0 [] ea az C E none 0 [] []/\Run L [] i E dr/\(∀ d∈dr,d.1<aW L i-n)/\(∀ e∈E,aW L i-n<=e.time)/\C.length<=i/\(C=[]->i=0)/\(∀ c,C.getLast? = some c->c.number=i/\c.time=aW L i)/\(∀ a,ea=some a->B0<=a.block)/\(∀ (j:Nat) c,C[j]? = some c->c.number=(i:Int)+1+j-C.length)
 mon:w.heap[mb]? = some (.cells #[.pointer (some ⟨aj,0,none⟩)] 104 (0,0))
 wt:B0<=aj
theorem YInv.start {L:List (Int×Int)} {B0 mb aj:Nat} {n:Int} {w:World} (hn:0<=n/\n<=1000000000) (h1:w.heap[mb]? = some (.cells #[.pointer (some ⟨aj,0,none⟩)] 104 (0,0))) (h2:w.heap[aj]? = some (.cells #[.int .i64 n,.int .i64 60,.slice none 0 0,.slice none 0 0,.slice none 0 0] 153 (0,0))) (hB:B0<=aj):YInv L B0 mb aj n 0 w:=by
 refine ⟨⟨none,0,[],[],[],?_,Run.start L _,by simp,by simp,by simp,by simp,by simp,by simp,by simp⟩,h1,hB⟩
 exact { cell:=h2,uC:=World.ownsRow_nil _ _ _ _,len:=rfl,ins:=by simp,typed:=by simp,few:=by simp,ret:=hn,nums:=by simp,nfew:=by simp,ncp:=by simp,nodes:=fun h=>absurd rfl h,oc:=by simp,core:=by simp,ahead:=fun i k hk=>by simp at hk,rows:=by simp,oX:=.inl ⟨rfl,rfl,rfl⟩,tW:=by simp,pcp:=by simp,vz:=rfl,pstr:=by simp,sok:=by simp,apart:=fun i j s t hs=>by simp at hs,pnode:=by simp }
end Ev
end Go.Proofs.YtpbbmagjhkakgaaGreatDoor
