import Derived.Test.YtpbbmagjhkakgaaGreatDoorPureToPurePrint
namespace Go.Proofs.YtpbbmagjhkakgaaGreatDoor
open Go.Deep (BT)
def bQ:BT aO->BT aO
 | .nil=>.nil
 | .node b o a l r=>if a.op=172 then l else mk 172 ByteArray.empty 0 0 (.node b o a l r) .nil
def ak:BT aO->BT aO
 | .nil=>.nil
 | .node b o a l r =>
  if a.op=116\/a.op=97 then .node b o a l r
  else if a.op=172 then bQ (ak l)
  else if a.op=8744 then bQ (mk 8743 ByteArray.empty 0 0 (bQ (ak l)) (bQ (ak r)))
  else if a.op=72 then bQ (mk 79 ByteArray.empty a.lo a.hi (bQ (ak l)) .nil)
  else if a.op=89\/a.op=79 then mk a.op ByteArray.empty a.lo a.hi (ak l) .nil
  else mk a.op ByteArray.empty a.lo a.hi (ak l) (ak r)
theorem Good.ne:∀ {x:BT aO},Good x->x≠.nil
 | .nil,h=>h.elim
 | .node _ _ _ _ _,_=>by intro h;cases h
theorem fY {x:BT aO} (h:Good x):Good (bQ x):=by
 cases x with
 | nil=>exact h
 | node b o a l r =>
  show Good (if a.op=172 then l else mk 172 ByteArray.empty 0 0 (BT.node b o a l r) .nil)
  by_cases ho:a.op=172
  ·rw [if_pos ho]
   rcases h with ⟨h1,_⟩ | ⟨h1,_⟩ | ⟨h1,_⟩ | ⟨_,_,_,_,gl,_⟩
   ·omega
   ·omega
   ·omega
   ·exact gl
  ·rw [if_neg ho]
   exact .inr (.inr (.inr ⟨.inl rfl,rfl,by simp,fun _=>⟨rfl,rfl⟩,h,rfl⟩))
theorem cA:∀ {x:BT aO},Good x->Good (ak x)
 | .nil,h=>h
 | .node b o a l r,h=>by
  have h':=h
  unfold ak
  rcases h with ⟨h1,_⟩ | ⟨h1,_⟩ | ⟨h1,h2,h3,h4,gl,gr⟩ | ⟨h1,h2,h3,h4,gl,hr⟩
  ·rw [if_pos (.inl h1)];exact h'
  ·rw [if_pos (.inr h1)];exact h'
  ·have cl:=cA gl
   have cr:=cA gr
   rw [if_neg (by omega),if_neg (by omega)]
   by_cases h8:a.op=8744
   ·rw [if_pos h8]
    exact fY (.inr (.inr (.inl ⟨.inl rfl,rfl,by simp,fun _=>⟨rfl,rfl⟩,fY cl,fY cr⟩)))
   ·rw [if_neg h8,if_neg (by omega),if_neg (by omega)]
    exact .inr (.inr (.inl ⟨h1,rfl,h3,h4,cl,cr⟩))
  ·have cl:=cA gl
   rw [if_neg (by omega)]
   by_cases h8:a.op=172
   ·rw [if_pos h8];exact fY cl
   ·rw [if_neg h8,if_neg (by omega)]
    by_cases h9:a.op=72
    ·rw [if_pos h9]
     exact fY (.inr (.inr (.inr ⟨.inr (.inr (.inl rfl)),rfl,h3,fun h=>absurd (show lC 79=false from h) (by decide),fY cl,rfl⟩)))
    ·rw [if_neg h9,if_pos (by omega)]
     exact .inr (.inr (.inr ⟨h1,rfl,h3,h4,cl,rfl⟩))
end Go.Proofs.YtpbbmagjhkakgaaGreatDoor
