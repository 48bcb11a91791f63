import Derived.Test.YtpbbmagjhkakgaaGreatDoorA5
import Derived.Deep.RegionHeld
namespace Go.Proofs.YtpbbmagjhkakgaaGreatDoor
set_option maxHeartbeats 20000000
open Tryz Go.RowKit Go.Deep
theorem wz(x:BT c_)(o:x≠.nil)(v:aF)(h:Nat)(w:aC)(m:bG 143 h w x v)(f:h<=w.heap.size):
  Calls prog 123 #[v] w λe n=>∃p,e=.returned (.pointer p)/\bG 143 h n (eD x) (.pointer p)/\Bl w n:=by
 cases x with
 |nil=>exact absurd rfl o
 |node d g a l r=>
  have xf:=m;obtain⟨y,u,A,rfl,z,k,j,t⟩:=m;have B:=aD (i:=0) k rfl;have C:=aD (i:=4) k rfl;obtain⟨s,rfl⟩:=gU j;by_cases b:a.op=172
  .have c:eD (.node d g a l r)=l:=by simp[eD,b]
   rw[c];have q:(a.op==172)=true:=by simp[b]
   clear b c;go_enter func123,ntmps123;go_wp2_with fail;go_ret;exact⟨_,rfl,j,aT⟩
  .have c:eD (.node d g a l r)=mk 172 ByteArray.empty 0 0 (.node d g a l r) .nil:=by simp[eD,b]
   rw[c];have q:(a.op==172)=false:=by simp[b]
   clear b c;go_enter func123,ntmps123;go_wp2_with fail;go_ret;exact⟨_,rfl,oU f (aP _ _ _ rfl) (bG.below xf (aT.al _)) rfl,aT.al _⟩
def aad(x:BT c_):Prop:=∀(v:aF)(a:Nat)(w:aC),bG 143 a w x v->Good x->a<=w.heap.size->
 Calls prog 84 #[v] w λe b=>∃p,e=.returned (.pointer p)/\bG 143 a b (aN x) (.pointer p)/\Below w.heap.size w b
abbrev Di(w:aC)(c:Nat)(a:c_)(d e:aF)(b:aC):Prop:=
 b.cell? ⟨c,0,none⟩=some (.int .i32 a.op)/\b.cell? ⟨c,2,none⟩=some (.int .i64 a.lo)/\b.cell? ⟨c,3,none⟩=some (.int .i64 a.hi)/\b.cell? ⟨c,4,none⟩=some d/\b.cell? ⟨c,5,none⟩=some e/\Below w.heap.size w b
theorem Rb{w d f a b e}(g:w.heap[f]?=some (.cells #[.int .i32 a.op,.string a.name,Iv a.lo,Iv a.hi,b,e] 143 (0,0)))(c:Bl w d):Di w f a b e d:=by
 let h:=c.aS g;exact⟨aD h rfl,aD h rfl,aD h rfl,aD h rfl,aD h rfl,c⟩
theorem zB{T:bQ}(h:T:=by repeat(with_reducible (first|exact aT|refine L_ ?_|refine Below.al ?_ _|refine Below.tr ?_ hb5|refine Below.tr ?_ hb4|refine Below.tr ?_ WT|refine Below.tr ?_ RG|refine Below.tr ?_ yZ))):T:=h
theorem zN{T:bQ} (h:T:=by
 have y1:w.heap.size<=w1.heap.size:=yZ.size
 (try have y2:=RG.size)
 (try have y3:=WT.size)
 (try have y4:=hb4.size)
 first|omega|(simp;omega)):T:=h
theorem I1:∀x,aad x:=by
 intro x
 induction x with
 |nil=>intro _ _ _ _ h;exact h.elim
 |node b0 o0 a l r A K=>
  intro v j w S X m;have xf:=hid S;obtain⟨F,g,s,rfl,hB,E,B,Q⟩:=S;have o:=hid λY (h:Bl w Y)=>Rb E h;have Z:=aD (i:=0) E rfl;have c4:=aD (i:=4) E rfl;clear E;unfold aN;rcases X with⟨d,_⟩|⟨d,_⟩|⟨d,u,z,y,q,N⟩|⟨d,u,z,y,q,W⟩
  iterate 2
   .rw[bY aA];rw[d]at Z;clear d A K o;go_enter func84,ntmps84;go_wp2_with fail;go_ret;exact⟨_,rfl,xf.out,aT⟩
  all_goals have k:=(dK q).ne
  .have p:=(dK N).ne;rw[bN aA,bN aA];by_cases b:a.op=8744
   .rw[bY b];have n:(a.op==116)=false/\(a.op==97)=false/\(a.op==172)=false/\(a.op==8744)=true:=by
     rw[b];decide
    obtain⟨G,H,D,I⟩:=n;clear d u z y b;have L:mk 8743 ByteArray.empty 0 0 (eD (aN l)) (eD (aN r))≠.nil:=by intro h;cases h
    go_enter func84,ntmps84;go_wp2_with fail
    go_region_held (Di w F a g s)
     (exact o.out _ zB)
     (first
      |(go_at_call_of 84 (g);refine kq (A g j _ (B.below zB) q m) ?_;rintro e w1 ⟨C,rfl,c,yZ⟩)
      |(go_at_call_of 123 (Value.pointer C);refine kq (wz (aN l) k _ j _ c zN) ?_;rintro e O ⟨P,rfl,f,RG⟩)
      |(go_at_call_of 84 (s);refine kq (K s j _ (Q.below zB) N zN) ?_;rintro e V ⟨U,rfl,t,WT⟩)
      |(go_at_call_of 123 (Value.pointer U);refine kq (wz (aN r) p _ j _ t zN) ?_;rintro e w4 ⟨v4,rfl,J,hb4⟩)
      |(go_at_call 123;refine kq (wz _ L _ j _ (oU zN (aP _ _ _ rfl) (((f.below WT).below hb4).below (aT.al _)) (J.below (aT.al _))) zN) ?_;rintro e w5 ⟨v5,rfl,M,hb5⟩))
    all_goals go_wp2_with fail
    all_goals go_ret
    all_goals exact⟨_,rfl,M,zB⟩
   .rw[bN b,bN aA,bN aA];replace b:a.op=8743\/a.op=83:=aA;have n:(a.op==116)=false/\(a.op==97)=false/\(a.op==172)=false/\(a.op==8744)=false/\(a.op==72)=false/\(a.op==89)=false/\(a.op==79)=false:=by
     rcases b with d|d<;>rw[d]<;>decide
    obtain⟨G,H,D,I,T,R,q7⟩:=n;clear d u z y b k p;go_enter func84,ntmps84;go_wp2_with fail
    go_region_held (Di w F a g s)
     (exact o.out _ zB)
     (first
      |(go_at_call_of 84 (g);refine kq (A g j _ (B.below zB) q m) ?_;rintro e w1 ⟨C,rfl,c,yZ⟩)
      |(go_at_call_of 84 (s);refine kq (K s j _ (Q.below zB) N zN) ?_;rintro e O ⟨P,rfl,f,RG⟩))
    all_goals go_wp2_with fail
    all_goals go_ret
    all_goals exact⟨_,rfl,oU zN (aP _ _ _ rfl) ((c.below RG).below (aT.al _)) (f.below (aT.al _)),zB⟩
  .rw[bN aA];by_cases b:a.op=172
   .rw[bY b];have n:(a.op==116)=false/\(a.op==97)=false/\(a.op==172)=true:=by
     rw[b];decide
    obtain⟨G,H,D⟩:=n;clear d u z y b k;go_enter func84,ntmps84;go_wp2_with fail;apply(A g j _ B q m).mono;rintro e w1 ⟨p1,rfl,c,yZ⟩;go_wp2_with fail;apply kq (wz (aN l) (dK q).ne _ j _ c zN);rintro e O ⟨p2,rfl,f,RG⟩;go_wp2_with fail;go_ret;exact⟨_,rfl,f,yZ.tr RG⟩
   .rw[bN b,bN aA];by_cases b:a.op=72
    .rw[bY b];have n:(a.op==116)=false/\(a.op==97)=false/\(a.op==172)=false/\(a.op==8744)=false/\(a.op==72)=true:=by
      rw[b];decide
     obtain⟨G,H,D,I,T⟩:=n;clear d u z y b;have p:mk 79 ByteArray.empty a.lo a.hi (eD (aN l)) .nil≠.nil:=by intro h;cases h
     go_enter func84,ntmps84;go_wp2_with fail
     go_region_held (Di w F a g s)
      (exact o.out _ zB)
      (first
       |(go_at_call_of 84 (g);refine kq (A g j _ (B.below zB) q m) ?_;rintro e w1 ⟨C,rfl,c,yZ⟩)
       |(go_at_call_of 123 (Value.pointer C);refine kq (wz (aN l) k _ j _ c zN) ?_;rintro e O ⟨P,rfl,f,RG⟩)
       |(go_at_call 123;refine kq (wz _ p _ j _ (oU zN (aP _ _ _ rfl) (f.below (aT.al _)) rfl) zN) ?_;rintro e V ⟨U,rfl,t,WT⟩))
     all_goals go_wp2_with fail
     all_goals go_ret
     all_goals exact⟨_,rfl,t,zB⟩
    .rw[bN b,bY aA];replace b:a.op=89\/a.op=79:=aA;have n:(a.op==116)=false/\(a.op==97)=false/\(a.op==172)=false/\(a.op==8744)=false/\(a.op==72)=false/\((a.op==89)=true\/((a.op==89)=false/\(a.op==79)=true)):=by
      rcases b with d|d<;>rw[d]<;>decide
     obtain⟨G,H,D,I,T,n⟩:=n;clear d u z y b k;rcases n with R|⟨R,q7⟩
     all_goals
      go_enter func84,ntmps84;go_wp2_with fail
      go_region_held (Di w F a g s)
       (exact o.out _ zB)
       (first
        |(go_at_call_of 84 (g);refine kq (A g j _ (B.below zB) q m) ?_;rintro e w1 ⟨C,rfl,c,yZ⟩))
      all_goals go_wp2_with fail
      all_goals go_ret
      all_goals exact⟨_,rfl,oU zN (aP _ _ _ rfl) (c.below (aT.al _)) rfl,zB⟩
end Go.Proofs.YtpbbmagjhkakgaaGreatDoor
