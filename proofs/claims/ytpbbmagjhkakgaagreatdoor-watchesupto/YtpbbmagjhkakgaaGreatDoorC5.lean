import Derived.Test.YtpbbmagjhkakgaaGreatDoorB8
import Derived.Deep.CutRange
namespace Go.Proofs.YtpbbmagjhkakgaaGreatDoor
set_option maxHeartbeats 8000000
set_option maxRecDepth 100000
open Tryz Go.RowKit Go.Deep
theorem aaJ{s:a_}{i}(h:i+1<s.size):(s.extract i (i+2)).toList=[s.get! i,s.get! (i+1)]:=by
 rw[Lib.toList_data,mS,show i+2-i=2 by omega];let b:i<s.data.toList.length:=by rw[fT];omega
 let a:i+1<s.data.toList.length:=by rw[fT];omega
 rw[pw b,pw a,rY (show i<s.size from aA),rY h];rfl
theorem ZO{s:a_}{i}(h:i+2<s.size):(s.extract i (i+3)).toList=[s.get! i,s.get! (i+1),s.get! (i+2)]:=by
 rw[Lib.toList_data,mS,show i+3-i=3 by omega];let c:i<s.data.toList.length:=by rw[fT];omega
 let a:i+1<s.data.toList.length:=by rw[fT];omega
 let b:i+1+1<s.data.toList.length:=by rw[fT];omega
 rw[pw c,pw a,pw b,rY (show i<s.size from aA),rY (show i+1<s.size from aA),rY h];rfl
theorem uY(a:a_)(l b)(h:a.data.toList=l):(a++⟨#[b]⟩).data.toList=l++[b]:=by
 rw[<-h];simp[ByteArray.data_append]
theorem OH(s w)(hs:s.size<=2000000):
  Calls prog 178 #[.string s] w λe w'=>Bl w w'/\((∃u d,im s s.size 0 []=some u/\d.data.toList=u/\e=.returned (.tuple #[.string d,.bool true]))\/(im s s.size 0 []=none/\e=.returned (.tuple #[.string ⟨#[]⟩,.bool false]))):=by
 generalize K:im s s.size 0 []=res;go_enter func178,ntmps178;go_wp2_with fail;go_loopw [4,5] (λov iv wr=>∃(i f:Nat)(a:aB aX)(E:a_),ov=.string E/\E.data.toList=a/\iv=Iv i/\i<=s.size/\s.size<=i+f/\a.length<=i/\Bl w wr/\Hid (im s f i a=res)) (λ_ iv _=>s.size-(intOf iv).toNat)
 case atStart=>exact⟨0,s.size,[],⟨#[]⟩,rfl,rfl,rfl,cC,aA,aZ,aV,K⟩
 case round=>
  clear K;obtain⟨i,f,a,E,rfl,o,rfl,hi,hf,au,p,B⟩:=hrel;have aq:E.size=a.length:=by rw[<-o,fT]
  by_cases t:i<s.size
  .have a8:decide ((i:Int)<(s.size:Int))=true:=by simp;omega
   have eg:gB s i=(s[i]'t).toNat:=by unfold gB;rw[rY t]
   have aj:s.get! i=s[i]'t:=rY t;have an:=Ar (s[i]'t);generalize hc:s[i]'t=c at*;obtain⟨f,rfl⟩:∃g,f=g+1:=⟨f-1,aA⟩;obtain⟨X,F⟩:∃b,b=decide (i+1<s.size/\gB s i=194/\gB s (i+1)=172):=⟨_,rfl⟩;have HA:Hid (X=decide (i+1<s.size/\gB s i=194/\gB s (i+1)=172)):=F;have aa:Hid ((2:Int)<=(s.size:Int)-(i:Int)->((s.extract i (i+2)).toList==[194,172])=X):=by
    intro h;rw[F,aaJ aA,CK];unfold gB;simp[<-sQ];omega
   have ad:Hid (¬(2:Int)<=(s.size:Int)-(i:Int)->X=false):=by
    intro h;rw[F];simp only[Mz];omega
   clear F
   go_upto_region 8 with fail
   go_cut [22]from 9 to 150 (λv S=>v=.bool X/\S=wr)
   case first=>
    by_cases L:(2:Int)<=(s.size:Int)-(i:Int)
    .have A:=aa.out L
     as_aux_lemma=>
      go_wp2_with fail
      go_meet
      exact⟨rfl,rfl⟩
    .have h2':decide ((2:Int)<=(s.size:Int)-(i:Int))=false:=by simp;omega
     have A:=ad.out L
     as_aux_lemma=>
      go_wp2_with fail
      go_meet
      exact⟨by rw[A],rfl⟩
   case rest=>
    obtain⟨rfl,l⟩:=hcut;have m:=l.symm;subst m;clear l;cases z:X with
    |true=>
     have y:=yC (HA.out.symm.trans z);have k:Hid (im s f (i+2) (a++[33])=res):=by
      show _=_;rw[<-B.out,im,bY t,bY y]
     subst z
     as_aux_lemma=>
      go_wp2_with fail;go_roundw
      case rel=>
       exact⟨i+2,f,a++[33],_,rfl,uY E a 33 o,dV,aA,aA,bI,p,k⟩
      case measure=>simp only[intOf];omega
    |false=>
     subst z;have G:=Cy HA.out.symm;obtain⟨bB,J⟩:∃b,b=decide (i+2<s.size/\gB s i=226/\gB s (i+1)=136/\gB s (i+2)=167):=⟨_,rfl⟩;have Y:Hid (bB=decide (i+2<s.size/\gB s i=226/\gB s (i+1)=136/\gB s (i+2)=167)):=J;have af:Hid ((3:Int)<=(s.size:Int)-(i:Int)->((s.extract i (i+3)).toList==[226,136,167])=bB):=by
      intro h;rw[J,ZO aA,CK];unfold gB;simp[<-sQ];omega
     have ae:Hid (¬(3:Int)<=(s.size:Int)-(i:Int)->bB=false):=by
      intro h;rw[J];simp only[Mz];omega
     clear J
     go_upto_region 11 with fail
     go_cut [37]from 9 to 150 (λv S=>v=.bool bB/\S=wr)
     case first=>
      by_cases L:(3:Int)<=(s.size:Int)-(i:Int)
      .have A:=af.out L
       as_aux_lemma=>
        go_wp2_with fail
        go_meet
        exact⟨rfl,rfl⟩
      .have h2':decide ((3:Int)<=(s.size:Int)-(i:Int))=false:=by simp;omega
       have A:=ae.out L
       as_aux_lemma=>
        go_wp2_with fail
        go_meet
        exact⟨by rw[A],rfl⟩
     case rest=>
      obtain⟨rfl,l⟩:=hcut;have m:=l.symm;subst m;clear l;cases D:bB with
      |true=>
       have y:=yC (Y.out.symm.trans D);have k:Hid (im s f (i+3) (a++[38])=res):=by
        show _=_;rw[<-B.out,im,bY t,bN G,bY y]
       subst D
       as_aux_lemma=>
        go_wp2_with fail;go_roundw
        case rel=>exact⟨i+3,f,a++[38],_,rfl,uY E a 38 o,dV,aA,aA,bI,p,k⟩
        case measure=>simp only[intOf];omega
      |false=>
       subst D;have P:=Cy Y.out.symm;obtain⟨Z,I⟩:∃b,b=decide (i+2<s.size/\gB s i=226/\gB s (i+1)=136/\gB s (i+2)=168):=⟨_,rfl⟩;have a1:Hid (Z=decide (i+2<s.size/\gB s i=226/\gB s (i+1)=136/\gB s (i+2)=168)):=I;have a7:Hid ((3:Int)<=(s.size:Int)-(i:Int)->((s.extract i (i+3)).toList==[226,136,168])=Z):=by
        intro h;rw[I,ZO aA,CK];unfold gB;simp[<-sQ];omega
       have ai:Hid (¬(3:Int)<=(s.size:Int)-(i:Int)->Z=false):=by
        intro h;rw[I];simp only[Mz];omega
       clear I
       go_upto_region 14 with fail
       go_cut [52]from 9 to 150 (λv S=>v=.bool Z/\S=wr)
       case first=>
        by_cases L:(3:Int)<=(s.size:Int)-(i:Int)
        .have A:=a7.out L
         as_aux_lemma=>
          go_wp2_with fail
          go_meet
          exact⟨rfl,rfl⟩
        .have h2':decide ((3:Int)<=(s.size:Int)-(i:Int))=false:=by simp;omega
         have A:=ai.out L
         as_aux_lemma=>
          go_wp2_with fail
          go_meet
          exact⟨by rw[A],rfl⟩
       case rest=>
        obtain⟨rfl,l⟩:=hcut;have m:=l.symm;subst m;clear l;cases C:Z with
        |true=>
         have y:=yC (a1.out.symm.trans C);have k:Hid (im s f (i+3) (a++[124])=res):=by
          show _=_;rw[<-B.out,im,bY t,bN G,bN P,bY y]
         subst C
         as_aux_lemma=>
          go_wp2_with fail;go_roundw
          case rel=>exact⟨i+3,f,a++[124],_,rfl,uY E a 124 o,dV,aA,aA,bI,p,k⟩
          case measure=>simp only[intOf];omega
        |false=>
         subst C;have U:=Cy a1.out.symm;by_cases T:c.toNat=32
         .have ah:((c.toNat:Int)==32)=true:=by rw[T];rfl
          have R:gB s i=32:=eg▸T;have k:Hid (im s f (i+1) (if a≠[]/\a.getLast?≠some 32 then a++[32]else a)=res):=by
           show _=_;rw[<-B.out,im,bY t,bN G,bN P,bN U,bY R]
          by_cases ho:a=[]
          .have l0:¬0<a.length:=by rw[ho];simp
           have l0':decide (0<(a.length:Int))=false:=by simp;exact ho
           have r:Hid (im s f (i+1) a=res):=by
            show _=_;rw[<-k.out,bN λx=>x.1 ho]
           clear k B
           as_aux_lemma=>
            go_wp2_with fail;go_roundw
            case rel=>exact⟨i+1,f,a,_,rfl,o,dV,aA,aA,aA,p,r⟩
            case measure=>simp only[intOf];omega
          .have l0:0<a.length:=List.length_pos_iff.2 ho;have l1:1<=(a.length:Int)/\(a.length:Int)-1<(a.length:Int):=aA;obtain⟨hz,ar⟩:=Jm o (i:=a.length-1) aA;have a6:a.getLast?=some (a[a.length-1]'aA):=by rw[Sm,fH]
           generalize a[a.length-1]'aA=lc at*;by_cases Q:lc.toNat=32
           .have M:lc=32:=kU (n:=32) Q aG;have q2:((lc.toNat:Int)!=32)=false:=by rw[Q];rfl
            have r:Hid (im s f (i+1) a=res):=by
             show _=_;rw[<-k.out,bN λx=>x.2 (by rw[a6,M])]
            clear k B M
            as_aux_lemma=>
             go_wp2_with fail;go_roundw
             case rel=>exact⟨i+1,f,a,_,rfl,o,dV,aA,aA,aA,p,r⟩
             case measure=>simp only[intOf];omega
           .have q2:((lc.toNat:Int)!=32)=true:=by simp only[bne_iff_ne];omega
            have r:Hid (im s f (i+1) (a++[32])=res):=by
             show _=_;rw[<-k.out,bY ⟨ho,λe=>Q (by rw[a6]at e;injection e with e;rw[e];rfl)⟩]
            clear k B
            as_aux_lemma=>
             go_wp2_with fail;go_roundw
             case rel=>exact⟨i+1,f,a++[32],_,rfl,uY E a 32 o,dV,aA,aA,bI,p,r⟩
             case measure=>simp only[intOf];omega
         .have ah:((c.toNat:Int)==32)=false:=by simp only[rG];omega
          have R:¬gB s i=32:=eg▸T;have k:Hid (res=if t_ c.toNat=true then im s f (i+1) (a++[c])else none):=by
           show _=_;rw[<-B.out,im,bY t,bN G,bN P,bN U,bN R,eg,aj]
          obtain⟨pb,H⟩:∃b,b=t_ c.toNat:=⟨_,rfl⟩;have HP:Hid (pb=t_ c.toNat):=H;clear H B
          go_upto_region 21 with fail
          go_cut [83]from 9 to 150 (λv S=>v=.bool pb/\S=wr)
          case first=>
           have O:=HP.out;generalize c.toNat=N at*;by_cases t:N∈[89,79,72,83,40,41,91,93,44,33,38,124]
           .simp only[gA,gw,oP]at t;rcases t with rfl|rfl|rfl|rfl|rfl|rfl|rfl|rfl|rfl|rfl|rfl|rfl
            all_goals
             as_aux_lemma=>
              go_wp2_with fail
              go_meet
              exact⟨by rw[O];rfl,rfl⟩
           .have f:∀q∈[(89:Int),79,72,83,40,41,91,93,44,33,38,124],((N:Int)==q)=false:=by simp at t⊢;omega
            obtain⟨b0,e0⟩:∃b,decide (97<=(N:Int))=b:=⟨_,rfl⟩;obtain⟨b1,e1⟩:∃b,decide ((N:Int)<=122)=b:=⟨_,rfl⟩;obtain⟨b2,A⟩:∃b,decide (48<=(N:Int))=b:=⟨_,rfl⟩;obtain⟨b3,e3⟩:∃b,decide ((N:Int)<=57)=b:=⟨_,rfl⟩;have H:pb=(b0&&b1||b2&&b3):=by rw[O,<-e0,<-e1,<-A,<-e3,CK];simp[t_]at t⊢;omega
            simp only[lh]at f;obtain⟨f0,f1,f2,f3,f4,f5,f6,f7,f8,f9,fa,fb,_⟩:=f;cases b0<;>cases b1<;>cases b2<;>cases b3<;>try(exfalso;simp at e0 e1 A e3;omega)
            all_goals
             clear t O;generalize(N:Int)=cc at*
             as_aux_lemma=>
              go_wp2_with fail
              go_meet
              exact⟨by rw[H];rfl,rfl⟩
          case rest=>
           obtain⟨rfl,l⟩:=hcut;have m:=l.symm;subst m;clear l;cases z:pb with
           |true=>
            have r:Hid (im s f (i+1) (a++[c])=res):=by
             show _=_;rw[k.out,bY (HP.out.symm.trans z)]
            have V:∀W:aC,W.cell? (Ad wr.heap.size 0)=some (.int .u8 (c.toNat:Int))->(convert 99 9 (Sl wr.heap.size 1 1)).run prog W=.ok (.string ⟨#[c]⟩) W:=λW hW=>Vt W 99 9 5 (Ad wr.heap.size 0) 1 [c] underlying99 underlying5 underlying9 (λj hj=>by
             have ag:j=0:=by simpa using hj
             subst ag;simpa[Addr.add]using hW)
            have ak:=V (wr.alloc (.cells #[.int .u8 (c.toNat:Int)] 5)) (by rw[FG _ _ _ _ rfl];rfl);subst z;clear V k
            as_aux_lemma=>
             go_wp2_with fail;go_roundw
             case rel=>exact⟨i+1,f,a++[c],_,rfl,uY E a c o,dV,aA,aA,bI,p.al _,r⟩
             case measure=>simp only[intOf];omega
           |false=>
            have r:Hid (res=none):=by
             show _=_;rw[k.out,bN];rw[<-HP.out,z];decide
            subst z;clear k;go_wp2_with fail;go_ret2;exact⟨p,.inr ⟨r.out,rfl⟩⟩
  .have a8:decide ((i:Int)<(s.size:Int))=false:=by simp;omega
   have k:Hid (res=some a):=by
    show _=_;rw[<-B.out];cases f with
    |zero=>rfl
    |succ f=>rw[im,bN t]
   clear B;go_wp2_with fail;go_ret2;exact⟨p,.inl ⟨a,E,k.out,o,rfl⟩⟩
end Go.Proofs.YtpbbmagjhkakgaaGreatDoor
