import Derived.Test.YtpbbmagjhkakgaaGreatDoorE4
import Derived.Deep.CutBlock
namespace Go.Proofs.YtpbbmagjhkakgaaGreatDoor
set_option maxHeartbeats 8000000
set_option maxRecDepth 100000
namespace Ev
open Go.Proofs.Tryz Go.RowKit Go.Deep Go.Maps Lf
section
variable{wb n m i:Nat}{T:Nat->Nat}{Ms:aB Mo}{E:aB mK}{w0 w:aC}{x:Mo}
def Qg(pb mb yb b:Nat)(k nn:Int)(s t:a_)(W:aC):Prop:=W.cell? ⟨b,0,none⟩=some (.int .i64 k)/\W.cell? ⟨b,2,none⟩=some (.int .i64 nn)/\W.cell? ⟨b,4,none⟩=some (.string s)/\W.cell? ⟨b,5,none⟩=some (.string t)/\W.cell? ⟨pb,0,none⟩=some (.pointer (some ⟨mb,0,none⟩))/\W.cell? ⟨pb,1,none⟩=some (.pointer (some ⟨yb,0,none⟩))
def SI(w0:aC)(wb n m:Nat)(Ms:aB Mo)(b:Bool)(z:Int)(f:FuncId)(a:aU aE)(v:aE)(c:aC):Prop:=∀W,Below c.heap.size c W->Calls prog f a W λe d=>∃k,SE b k z e/\Calls prog 71 #[.pointer (some ⟨wb,0,none⟩),v,k] d (Kc w0 wb n m (Ms.map Mo.Vx))
theorem zf{T:bQ} (h:T:=by
 go_region_with ((first|go_at_call 27|go_at_call 31|go_at_call 28|go_at_call 32|go_at_call 69);refine(hH.out _ ?_).mono ?_;(first|exact b0.drew|exact b0);rintro e w1 ⟨v,hv,hf,hz,hN⟩;(first|(obtain rfl:e=.returned (.tuple #[v,.int .i64 z]):=hv)|(obtain⟨rfl,hv0⟩:e=.returned (.int .i64 z)/\v=.slice none 0 0:=hv;subst hv0));replace hN:Hid _:=hN;replace hf:Hid _:=hf)
 all_goals
  go_wp2_with fail
  go_meet
  exact⟨rfl,Xn.out _ _ (aV.drew) hf.out,hN⟩):T:=h
theorem zr{T:bQ} (h:T:=by
 go_region_with ((first|go_at_call 65|go_at_call 66|go_at_call 67|go_at_call 68|go_at_call 70);refine(hN.out _ ?_).mono ?_;(first|exact aV.drew|exact aV);rintro e w2 ⟨k2,hv,hG⟩;(first|(obtain rfl:e=.returned (.tuple #[k2,.int .i64 z]):=hv)|(obtain⟨rfl,hv0⟩:e=.returned (.int .i64 z)/\k2=.slice none 0 0:=hv;subst hv0));replace hG:Hid _:=hG)
 all_goals
  go_wp2_with fail
  go_meet
  exact⟨z,rfl,rfl,hG⟩):T:=h
theorem zR(h:cH w0 wb T Ms n E m w)(A:∀x∈Ms,x.S=x.R)(hi:Ms[i]?=some x)(Q:dP w0)(D:cZ w0)(h7:14<=w0.heap.size)(hm:m<1000000)(U:n<=200000000000)(k a nn mm:Int)(s t:a_)(lv:aE)(hs:s.size<=2000000)(ht:t.size<=2000000):
  Calls prog 37 #[Pt wb,Pt x.pb,fV k a nn mm s t lv] w (Kc w0 wb n (if k=6\/k=12\/k=7\/k=9 then m+1 else m) (Ms.map Mo.Vx)):=by
 have hx:=iF hi;have f:x.S.OK m:=(((h.part (2*i+1)).2 i x hi).1 rfl).2;have a6:=h.base.size;have r:∀W,Bl w W->cH w0 wb T Ms n E m W:=λW b=>h.still (aH.aS b);have N:=hid λW (b:Bl w W)=>(r W b).Vm U A hi (qA m) true 27 65 #[Pt x.mb,.string s,.string t] #[Pt x.yb,.string s,.string t] (kO x.S s t) (MT f s t) (VQ f s t) (λP l F=>(LD F f ((r W b).KY Q h7) ((r W b).B0 D) (by have:=b.size;omega) s t eP eP).mono λe G ⟨v,d,q⟩=>⟨v,d,v,rfl,q⟩) λW P ev pv C L I=>(UP I f aA s t aA aA).mono λe G ⟨v,d,q⟩=>⟨v,d,v,rfl,q⟩;have p:=hid λW (b:Bl w W)=>(r W b).Vm U A hi (qA m) true 31 66 #[Pt x.mb,.string s,.string t] #[Pt x.yb,.string s,.string t] (gi x.S s t) (Dz f s t) (Qn f s t) (λP l F=>(EP F f aA ((r W b).KY Q h7) ((r W b).B0 D) (by have:=b.size;omega) s t eP eP).mono λe G ⟨v,d,q⟩=>⟨v,d,v,rfl,q⟩) λW P ev pv C L I=>(Oo I f aA s t aA aA).mono λe G ⟨v,d,q⟩=>⟨v,d,v,rfl,q⟩;have O:=hid λW (b:Bl w W)=>(r W b).Vm U A hi (Zv m) true 28 67 #[Pt x.mb,.string s] #[Pt x.yb,.string s] ((gu x.S s).1,(gu x.S s).2,x.S) f (O1 f s) (λP l F=>(Cf F f ((r W b).KY Q h7) ((r W b).B0 D) s).mono λe G ⟨v,d,J,B⟩=>⟨v,d,v,rfl,J,(lR.move ⟨l,F⟩ (aH.aS B (P:=λ_=>False)) (λ_ _ x=>x) (dQ.none _ _)).mono λ_=>.inl,aH.aS B⟩) λW P ev pv C L I=>(L3 I f s).mono (by rintro e G ⟨v,d,q,rfl⟩;exact⟨v,d,v,rfl,q,⟨_,_,_,_,I.mono λ_=>Or.inl⟩,aH.refl _ _⟩);have K:=hid λW (b:Bl w W)=>(r W b).Vm U A hi (qA m) false 32 68 #[Pt x.mb,.string s] #[Pt x.yb,.string s] ([],(iP x.S s).1,(iP x.S s).2) (Qe f s) cC (λP l F=>(LL F f ((r W b).KY Q h7) ((r W b).B0 D) s).mono λe G ⟨d,J,B⟩=>⟨_,⟨d,rfl⟩,_,rfl,fI _ _ _ _,J.mono λ_ b=>b.imp id λy=>⟨y,λe=>nomatch e⟩,B⟩) λW P ev pv C L I=>(L0 I f s).mono λe G ⟨d,J,B⟩=>⟨_,⟨d,rfl⟩,_,rfl,fI _ _ _ _,J,B⟩;have M:=hid λW (b:Bl w W)=>(r W b).Vm U A hi (qA m) false 69 70 #[Pt x.mb,.string s,Iv nn] #[Pt x.yb,.string s,Iv nn] ([],(rf x.S s nn).1,(rf x.S s nn).2) (X5 f s nn) cC (λP l F=>(Uv F f ((r W b).KY Q h7) ((r W b).B0 D) s nn).mono λe G ⟨d,J,B⟩=>⟨_,⟨d,rfl⟩,_,rfl,fI _ _ _ _,J.mono λ_ b=>b.imp id λy=>⟨y,λe=>nomatch e⟩,B⟩) λW P ev pv C L I=>(UO I f s nn).mono λe G ⟨d,J,B⟩=>⟨_,⟨d,rfl⟩,_,rfl,fI _ _ _ _,J,B⟩;have Y:T w.heap.size=0:=GB λe=>Nat.lt_irrefl _ (h.dom _ e);have S:=h.pair x hx;obtain⟨o,ho⟩:∃o:Obj,o=.cells #[Iv k,Iv a,Iv nn,Iv mm,.string s,.string t,lv] 73 (0,0):=⟨_,rfl⟩;have b0:=(cD w.heap.size w).al o;have hO:=aQ w o _ rfl;have hC:∀W:aC,W.heap[w.heap.size]?=some o->W.heap[x.pb]?=some (.cells #[Pt x.mb,Pt x.yb] 82 (0,0))->Qg x.pb x.mb x.yb w.heap.size k nn s t W:=λW h1 h2=>by subst ho;exact⟨aD h1 rfl,aD h1 rfl,aD h1 rfl,aD h1 rfl,aD h2 rfl,aD h2 rfl⟩
 have Xn:=hid λW (w1:aC) (b:Below (w.alloc o).heap.size (w.alloc o) W) (hf:∀c,T c=0\/c=x.pb->c<W.heap.size->w1.heap[c]?=W.heap[c]?)=>by
  have d:=b.aT hO;have e2:=b.aT (b0.aT S);exact hC w1 ((hf _ (.inl Y) (aN d)).trans d) ((hf _ (.inr rfl) (aN e2)).trans e2)
 obtain⟨d0,X,d4,d5,V,Z⟩:=hC _ hO (b0.aT S);have H0:=hid (((r _ b0).gives U _ _ [] (fI _ _ _ _) (fI _ _ _ _) (λg Q=>nomatch Q) cC).mono (R':=Kc w0 wb n m (Ms.map Mo.Vx)) λe G ⟨d,T',E',h'⟩=>⟨d,T',_,E',h',A,rfl⟩);subst ho;unfold fV;clear h A f r S hC Y hO;generalize x.mb=mb at*;generalize x.yb=yb at*;obtain⟨H,j⟩:∃H,Hid (H=if k=6\/k=12\/k=7\/k=9 then m+1 else m):=⟨_,rfl⟩;rw[<-j.out];go_enter func37,ntmps37
 go_upto_block 0 with fail
 go_cut [7,8,9,10]from 12 (λlv kv ev fv u=>∃z:Int,ev=Iv z/\fv=Iv z/\Hid (Calls prog 71 #[Pt wb,lv,kv] u (Kc w0 wb n H (Ms.map Mo.Vx))))
 case first=>
  by_cases k6:k=6
  .subst k6;obtain rfl:H=m+1:=j.out;have hH:=N;clear H0 N p O K M;generalize(kO x.S s t).2.1=z at*
   go_upto_region 7 with fail
   go_cut [7,9]from 16 (λlv ev u=>ev=Iv z/\Qg x.pb mb yb w.heap.size 6 nn s t u/\Hid (SI w0 wb n (m+1) Ms true z 65 #[Pt yb,.string s,.string t] lv u))
   case first=>exact zf
   case rest=>
    obtain⟨rfl,⟨q0,B,q4,q5,q6,q7⟩,hN⟩:=hcut;clear hH Xn b0 d0 X d4 d5 V Z
    go_upto_region 8 with fail
    exact zr
  by_cases R:k=12
  .subst R;obtain rfl:H=m+1:=j.out;have hH:=p;clear H0 N p O K M;generalize(gi x.S s t).2.1=z at*
   go_upto_region 10 with fail
   go_cut [7,9]from 42 (λlv ev u=>ev=Iv z/\Qg x.pb mb yb w.heap.size 12 nn s t u/\Hid (SI w0 wb n (m+1) Ms true z 66 #[Pt yb,.string s,.string t] lv u))
   case first=>exact zf
   case rest=>
    obtain⟨rfl,⟨q0,B,q4,q5,q6,q7⟩,hN⟩:=hcut;clear hH Xn b0 d0 X d4 d5 V Z
    go_upto_region 11 with fail
    exact zr
  by_cases k8:k=8
  .subst k8;obtain rfl:m=H:=j.out.symm;have hH:=O;clear H0 N p O K M;generalize(gu x.S s).2=z at*
   go_upto_region 13 with fail
   go_cut [7,9]from 68 (λlv ev u=>ev=Iv z/\Qg x.pb mb yb w.heap.size 8 nn s t u/\Hid (SI w0 wb n m Ms true z 67 #[Pt yb,.string s] lv u))
   case first=>exact zf
   case rest=>
    obtain⟨rfl,⟨q0,B,q4,q5,q6,q7⟩,hN⟩:=hcut;clear hH Xn b0 d0 X d4 d5 V Z
    go_upto_region 14 with fail
    exact zr
  by_cases k7:k=7
  .subst k7;obtain rfl:H=m+1:=j.out;have hH:=K;clear H0 N p O K M;generalize(iP x.S s).1=z at*
   go_upto_region 16 with fail
   go_cut [9]from 90 (λev u=>ev=Iv z/\Qg x.pb mb yb w.heap.size 7 nn s t u/\Hid (SI w0 wb n (m+1) Ms false z 68 #[Pt yb,.string s] (.slice none 0 0) u))
   case first=>exact zf
   case rest=>
    obtain⟨rfl,⟨q0,B,q4,q5,q6,q7⟩,hN⟩:=hcut;clear hH Xn b0 d0 X d4 d5 V Z
    go_upto_region 17 with fail
    exact zr
  by_cases k9:k=9
  .subst k9;obtain rfl:H=m+1:=j.out;have hH:=M;clear H0 N p O K M;generalize(rf x.S s nn).1=z at*
   go_upto_region 19 with fail
   go_cut [9]from 106 (λev u=>ev=Iv z/\Qg x.pb mb yb w.heap.size 9 nn s t u/\Hid (SI w0 wb n (m+1) Ms false z 70 #[Pt yb,.string s,Iv nn] (.slice none 0 0) u))
   case first=>exact zf
   case rest=>
    obtain⟨rfl,⟨q0,B,q4,q5,q6,q7⟩,hN⟩:=hcut;clear hH Xn b0 d0 X d4 d5 V Z
    go_upto_region 20 with fail
    exact zr
  obtain rfl:H=m:=by rw[j.out,bN (by simp[k6,R,k7,k9])]
  have e6:=FM k6;have e7:=FM k7;have e8:=FM k8;have e9:=FM k9;have a1:=FM R;clear N p O K M Xn;go_wp2_with fail
  go_meet
  exact⟨0,rfl,rfl,H0⟩
 case rest=>
  obtain⟨z,rfl,rfl,hG⟩:=hcut;clear H0 N K O M p Xn j;go_wp2_with fail;apply hG.out.mono;intro e w2 hQ;obtain rfl:e=.returned (.bool true):=hQ.1;replace hQ:Hid (Kc w0 wb n H (Ms.map Mo.Vx) (.returned (.bool true)) w2):=hQ;clear hG;go_wp2_with fail;refine(wV z _).m λw3 e3=>?_;obtain rfl:=e3.symm;go_wp2_with fail;go_ret;exact hQ.out
end
end Ev
end Go.Proofs.YtpbbmagjhkakgaaGreatDoor
