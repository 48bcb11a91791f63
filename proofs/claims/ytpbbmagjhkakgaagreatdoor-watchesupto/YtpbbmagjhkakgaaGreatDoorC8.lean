import Derived.Test.YtpbbmagjhkakgaaGreatDoorC4
namespace Go.Proofs.YtpbbmagjhkakgaaGreatDoor
set_option maxHeartbeats 20000000
set_option maxRecDepth 100000
open Tryz Go.RowKit Go.Deep
theorem zZ{B b w op lo hi name l r a c}(f:B<=b)(g:w.heap[b]?=some (.cells #[.int .u8 (eO op),.string name,Iv lo,Iv hi,a,c] 252 (0,0)))
  (d:bX B w l a) (e:bX B w r c):bX B w (mk op name lo hi l r) (Pt b):=⟨b,a,c,rfl,f,g,d,e⟩
theorem V8{b o a l r}(h:Good (.node b o a l r)):a.op=116\/a.op=97\/a.op=8743\/a.op=8744\/a.op=83\/a.op=172\/a.op=89\/a.op=79\/a.op=72:=by
 rcases h with⟨c,_⟩|⟨c,_⟩|⟨c,_⟩|⟨c,_⟩<;>omega
theorem sA(x)(k:Good x)(v h w)(n:bX h w x v)(f:h<=w.heap.size):
  Calls prog 148 #[v] w λe o=>∃p,e=.returned (.pointer p)/\bX h o (eD x) (.pointer p)/\Bl w o:=by
 cases x with
 |nil=>exact k.elim
 |node d g a l r=>
  have xB:=n;obtain⟨y,u,A,rfl,z,m,j,t⟩:=n;have B:=aD (i:=0) m rfl;have C:=aD (i:=4) m rfl;obtain⟨s,rfl⟩:=uf j;by_cases b:a.op=172
  .have c:eD (.node d g a l r)=l:=by simp[eD,b]
   rw[c];have q:(eO a.op==33)=true:=by rw[b];decide
   clear b c;go_enter func148,ntmps148;go_wp2_with fail;go_ret;exact⟨_,rfl,j,aV⟩
  .have c:eD (.node d g a l r)=mk 172 ByteArray.empty 0 0 (.node d g a l r) .nil:=by simp[eD,b]
   rw[c];have q:(eO a.op==33)=false:=by
    rcases V8 k with e|e|e|e|e|e|e|e|e
    all_goals first|exact absurd e b|(rw[e];decide)
   clear b c;go_enter func148,ntmps148;go_wp2_with fail;go_ret;exact⟨_,rfl,zZ f (aQ _ _ _ rfl) (bX.below xB (aV.al _)) rfl,aV.al _⟩
def X2(x:BT dD):Prop:=∀(v:aE)(a:Nat)(w:aC),bX a w x v->Good x->a<=w.heap.size->
 Calls prog 106 #[v] w λe b=>∃p,e=.returned (.pointer p)/\bX a b (aO x) (.pointer p)/\Below w.heap.size w b
abbrev yK(w:aC)(c:Nat)(a:dD)(d e:aE)(b:aC):Prop:=
 b.cell? ⟨c,0,none⟩=some (.int .u8 (eO a.op))/\b.cell? ⟨c,2,none⟩=some (.int .i64 a.lo)/\b.cell? ⟨c,3,none⟩=some (.int .i64 a.hi)/\b.cell? ⟨c,4,none⟩=some d/\b.cell? ⟨c,5,none⟩=some e/\Below w.heap.size w b
theorem OI{w d f a b e}(g:w.heap[f]?=some (.cells #[.int .u8 (eO a.op),.string a.name,Iv a.lo,Iv a.hi,b,e] 252 (0,0)))(c:Bl w d):yK w f a b e d:=by
 let h:=c.aT g;exact⟨aD h rfl,aD h rfl,aD h rfl,aD h rfl,aD h rfl,c⟩
theorem HJ:∀x,X2 x:=by
 intro x
 induction x with
 |nil=>intro _ _ _ _ h;exact h.elim
 |node b0 o0 a l r E R=>
  intro v q w Y hg f;have xB:=hid Y;obtain⟨L,p,A,rfl,hB,K,F,W⟩:=Y;have t:=hid λw' (h:Bl w w')=>OI K h;have c0:=aD (i:=0) K rfl;have c4:=aD (i:=4) K rfl;clear K;unfold aO;rcases hg with⟨k,_⟩|⟨k,_⟩|⟨k,C,Z,D,u,O⟩|⟨k,C,o,D,u,a1⟩
  iterate 2
   .rw[bY aA];rw[k]at c0;clear k E R t;go_enter func106,ntmps106;go_wp2_with fail;go_ret;exact⟨_,rfl,xB.out,aV⟩
  all_goals have z:=dK u
  .have y:=dK O;rw[bN aA,bN aA];by_cases d:a.op=8744
   .rw[bY d];have s:(eO a.op==116)=false/\(eO a.op==97)=false/\(eO a.op==33)=false/\(eO a.op==124)=true:=by
     rw[d];decide
    obtain⟨M,N,J,P⟩:=s;have S:Good (mk 8743 ByteArray.empty 0 0 (eD (aO l)) (eD (aO r))):=.inr (.inr (.inl ⟨.inl rfl,rfl,aF,λ_=>⟨rfl,rfl⟩,iA (dK u),iA (dK O)⟩));clear k C Z D d;go_enter func106,ntmps106;go_wp2_with fail
    go_region_held (yK w L a p A)
     ((refine t.out _ ?_;first|exact aV.drew|exact(cD w.heap.size w).drew.trans b|exact((cD w.heap.size w).drew.trans b).tr c|exact(((cD w.heap.size w).drew.trans b).tr c).tr g|exact((((cD w.heap.size w).drew.trans b).tr c).tr g).tr n|exact(((((cD w.heap.size w).drew.trans b).tr c).tr g).tr n).al _|exact((((((cD w.heap.size w).drew.trans b).tr c).tr g).tr n).al _).tr G))
     (first
      |(go_at_call_of 106 (p);refine(E p q _ ?_ u ?_).mono ?_;exact F.below aV.drew;exact f;rintro e I ⟨H,rfl,j,b⟩)
      |(go_at_call_of 148 (Value.pointer H);refine(sA (aO l) z _ q _ j ?_).mono ?_;exact gH f b.size;rintro e U ⟨V,rfl,m,c⟩)
      |(go_at_call_of 106 (A);refine(R A q _ ?_ O ?_).mono ?_;exact W.below (((cD w.heap.size w).drew.trans b).tr c);exact gH f (gH b.size c.size);rintro e w3 ⟨v3,rfl,B,g⟩)
      |(go_at_call_of 148 (Value.pointer v3);refine(sA (aO r) y _ q _ B ?_).mono ?_;exact gH f (gH b.size (gH c.size g.size));rintro e w4 ⟨v4,rfl,Q,n⟩)
      |(go_at_call 148;refine(sA _ S _ q _ (zZ (gH f (gH b.size (gH c.size (gH g.size n.size)))) (aQ _ _ _ rfl) (((m.below g).below n).below (aV.al _)) (Q.below (aV.al _))) ?_).mono ?_;exact gH f (gH b.size (gH c.size (gH g.size (gH n.size aF))));rintro e w5 ⟨v5,rfl,T,G⟩))
    all_goals go_wp2_with fail
    all_goals go_ret
    all_goals exact⟨_,rfl,T,((((((cD w.heap.size w).drew.trans b).tr c).tr g).tr n).al _).tr G⟩
   .rw[bN d,bN aA,bN aA];replace d:a.op=8743\/a.op=83:=aA;have s:(eO a.op==116)=false/\(eO a.op==97)=false/\(eO a.op==33)=false/\(eO a.op==124)=false/\(eO a.op==72)=false/\((eO a.op==38)=true\/((eO a.op==38)=false/\(eO a.op==83)=true)):=by
     rcases d with k|k<;>rw[k]<;>decide
    obtain⟨M,N,J,P,q5,s⟩:=s;clear k C Z D d z y;rcases s with X|⟨X,q7⟩
    all_goals
     go_enter func106,ntmps106;go_wp2_with fail
     go_region_held (yK w L a p A)
      ((refine t.out _ ?_;first|exact aV.drew|exact(cD w.heap.size w).drew.trans b|exact((cD w.heap.size w).drew.trans b).tr c|exact(((cD w.heap.size w).drew.trans b).tr c).al _))
      (first
       |(go_at_call_of 106 (p);refine(E p q _ ?_ u ?_).mono ?_;exact F.below aV.drew;exact f;rintro e I ⟨H,rfl,j,b⟩)
       |(go_at_call_of 106 (A);refine(R A q _ ?_ O ?_).mono ?_;exact W.below ((cD w.heap.size w).drew.trans b);exact gH f b.size;rintro e U ⟨V,rfl,m,c⟩))
     all_goals go_wp2_with fail
     all_goals go_ret
     all_goals exact⟨_,rfl,zZ (gH f (gH b.size c.size)) (aQ _ _ _ rfl) ((j.below c).below (aV.al _)) (m.below (aV.al _)),(((cD w.heap.size w).drew.trans b).tr c).al _⟩
  .rw[bN aA];by_cases d:a.op=172
   .rw[bY d];have s:(eO a.op==116)=false/\(eO a.op==97)=false/\(eO a.op==33)=true:=by
     rw[d];decide
    obtain⟨M,N,J⟩:=s;clear k C o D d;go_enter func106,ntmps106;go_wp2_with fail;apply(E p q _ F u f).mono;rintro e I ⟨p1,rfl,j,b⟩;go_wp2_with fail;apply(sA (aO l) (dK u) _ q _ j (gH f b.size)).mono;rintro e U ⟨p2,rfl,m,c⟩;go_wp2_with fail;go_ret;exact⟨_,rfl,m,b.tr c⟩
   .rw[bN d,bN aA];by_cases d:a.op=72
    .rw[bY d];have s:(eO a.op==116)=false/\(eO a.op==97)=false/\(eO a.op==33)=false/\(eO a.op==124)=false/\(eO a.op==72)=true:=by
      rw[d];decide
     obtain⟨M,N,J,P,q5⟩:=s;have y:Good (mk 79 ByteArray.empty a.lo a.hi (eD (aO l)) .nil):=.inr (.inr (.inr ⟨.inr (.inr (.inl rfl)),rfl,o,λh=>absurd (show mi 79=false from h) aG,iA (dK u),rfl⟩));clear k C o D d;go_enter func106,ntmps106;go_wp2_with fail
     go_region_held (yK w L a p A)
      ((refine t.out _ ?_;first|exact aV.drew|exact(cD w.heap.size w).drew.trans b|exact((cD w.heap.size w).drew.trans b).tr c|exact(((cD w.heap.size w).drew.trans b).tr c).al _|exact((((cD w.heap.size w).drew.trans b).tr c).al _).tr g))
      (first
       |(go_at_call_of 106 (p);refine(E p q _ ?_ u ?_).mono ?_;exact F.below aV.drew;exact f;rintro e I ⟨H,rfl,j,b⟩)
       |(go_at_call_of 148 (Value.pointer H);refine(sA (aO l) z _ q _ j ?_).mono ?_;exact gH f b.size;rintro e U ⟨V,rfl,m,c⟩)
       |(go_at_call 148;refine(sA _ y _ q _ (zZ (gH f (gH b.size c.size)) (aQ _ _ _ rfl) (m.below (aV.al _)) rfl) ?_).mono ?_;exact gH f (gH b.size (gH c.size aF));rintro e w3 ⟨v3,rfl,B,g⟩))
     all_goals go_wp2_with fail
     all_goals go_ret
     all_goals exact⟨_,rfl,B,((((cD w.heap.size w).drew.trans b).tr c).al _).tr g⟩
    .rw[bN d,bY aA];replace d:a.op=89\/a.op=79:=aA;have s:(eO a.op==116)=false/\(eO a.op==97)=false/\(eO a.op==33)=false/\(eO a.op==124)=false/\(eO a.op==72)=false/\(eO a.op==38)=false/\(eO a.op==83)=false:=by
      rcases d with k|k<;>rw[k]<;>decide
     obtain⟨M,N,J,P,q5,X,q7⟩:=s;clear k C o D d z;go_enter func106,ntmps106;go_wp2_with fail
     go_region_held (yK w L a p A)
      ((refine t.out _ ?_;first|exact aV.drew|exact(cD w.heap.size w).drew.trans b|exact((cD w.heap.size w).drew.trans b).al _))
      (first
       |(go_at_call_of 106 (p);refine(E p q _ ?_ u ?_).mono ?_;exact F.below aV.drew;exact f;rintro e I ⟨H,rfl,j,b⟩))
     all_goals go_wp2_with fail
     all_goals go_ret
     all_goals exact⟨_,rfl,zZ (gH f b.size) (aQ _ _ _ rfl) (j.below (aV.al _)) rfl,((cD w.heap.size w).drew.trans b).al _⟩
end Go.Proofs.YtpbbmagjhkakgaaGreatDoor
