import Derived.Test.YtpbbmagjhkakgaaGreatDoorEvStateToEaMany
import Derived.Test.YtpbbmagjhkakgaaGreatDoorLfRelyToEvWait
namespace Go.Proofs.YtpbbmagjhkakgaaGreatDoor
namespace Ev
open Go.RowKit Go.Deep Go.Maps Lf
def ey (p:bC):List Value:=[.string p.name,.pointer p.bV,.int .i64 p.node,.int .i64 p.cu,.pointer p.cG]
theorem polOne (p:bC):∀ u∈ey p,u.oneCell'=true:=by
 intro u hu
 simp [ey] at hu
 rcases hu with rfl | rfl | rfl | rfl | rfl<;>rfl
theorem cored_ops:∀ (x:BT aO) (K:List Key),mi x->(Good x\/x=.nil)->(∀ k∈K,ib k.op)->∀ k∈(aX K x).2,ib k.op
 | .nil,_,_,_,hK=>hK
 | .node b o a l r,K,hc,hg,hK=>by
  have hg:Good (.node b o a l r):=by
   rcases hg with hg | hg
   ·exact hg
   ·cases hg
  have aN:ib a.op/\(Good l\/l=.nil)/\(Good r\/r=.nil):=by
   obtain ⟨c1,c2,_,_⟩:=hc
   rcases hg with ⟨h1,_,_,_,h5,h6⟩ | ⟨h1,_,_,_,h5,h6⟩ | ⟨h1,_,_,_,gl,gr⟩ | ⟨h1,_,_,_,gl,gr⟩
   ·exact ⟨.inl h1,.inr h5,.inr h6⟩
   ·exact ⟨.inr (.inl h1),.inr h5,.inr h6⟩
   ·refine ⟨?_,.inl gl,.inl gr⟩
    unfold ib
    omega
   ·refine ⟨?_,.inl gl,.inr gr⟩
    unfold ib
    omega
  have h1:=cored_ops l K hc.2.2.1 aN.2.1 hK
  have h2:=cored_ops r (aX K l).2 hc.2.2.2 aN.2.2 h1
  intro k hk
  simp only [aX,mo] at hk
  split at hk
  ·exact h2 k hk
  ·rcases List.mem_append.1 hk with h | h
   ·exact h2 k h
   ·simp at h;subst h;exact aN.1
theorem nodes_of_row {w:World} {B:Nat} {nn:Value} {K:List Key} (h:w.ownsRow B 226 6 nn K.length (gh K)):∃ no aI,nn=.slice no K.length aI/\K.length<=aI/\eB w no K/\∀ a,no=some a->B<=a.block/\∃ cs m,w.heap[a.block]? = some (.cells cs 226 m):=by
 have h0:=h
 have hl:=h.lt
 obtain ⟨h1,⟨rfl,h2⟩ | ⟨g,cap,cur,rfl,h3,h4,h5,h6,h7,h8⟩⟩:=h
 ·exact ⟨none,0,by rw [h2],by omega,fun hne=>absurd (List.length_eq_zero_iff.1 h2) hne,fun a ha=>by cases ha⟩
 ·refine ⟨some ⟨g,0,none⟩,cap,rfl,h5,fun _=>⟨g,rfl,(hl g rfl).2,fun i k hk=>?_⟩,fun a ha=>by cases ha;exact ⟨h3,cur,_,h4⟩⟩
  have hc:∀ q u,(eP k)[q]? = some u->w.cell? ⟨g,i*6+q,none⟩=some u:=fun q u hu=>gH h0 rfl (kn eP 6 (fun _=>rfl) K i q k u hk hu)
  exact ⟨hc 0 _ rfl,hc 1 _ rfl,hc 2 _ rfl,hc 3 _ rfl,hc 4 _ rfl,hc 5 _ rfl⟩
end Ev
end Go.Proofs.YtpbbmagjhkakgaaGreatDoor
