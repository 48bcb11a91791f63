import Derived.Test.YtpbbmagjhkakgaaGreatDoorEaWorksToEaLoop
import Derived.Test.YtpbbmagjhkakgaaGreatDoorEdInvToSmSent
import Derived.Test.YtpbbmagjhkakgaaGreatDoorRowKeepToRowGlobE
namespace Go.Proofs.YtpbbmagjhkakgaaGreatDoor
namespace Ev
open Go.RowKit Go.Deep Go.Maps Lf Go.Conc
theorem pick_four (z:Int):aP z 4=0\/aP z 4=1\/aP z 4=2\/aP z 4=3:=by
 have:=bB z 4 (by decide)
 omega
set_option maxRecDepth 100000 in
set_option maxHeartbeats 16000000 in
theorem acts10_go (T:List Int) (o2 eo o3:Option Addr) (sn eC ln cap ek:Nat) (vs:ByteArray) (mb:Nat) (now:Int) (i:Nat) (hi:i<25) (hlT:T.length<=4611686018427387904) (hIT:∀ r∈T,mj r) (q nm:ByteArray) (m:Nat) (_:m<=40) (A:Act) (w:World) (hT:iD w o3 T) (P:World->Prop)
  (hadd:Calls Tryz.prog 27 #[.pointer (some ⟨mb,0,none⟩),.string nm,.string q] w fun e w'=>∃ r z,e=.returned (.tuple #[r,.int .i64 z])/\(z=0\/z=5\/z=8)/\P w')
  (hamd:Calls Tryz.prog 31 #[.pointer (some ⟨mb,0,none⟩),.string nm,.string q] w fun e w'=>∃ r z,e=.returned (.tuple #[r,.int .i64 z])/\(z=0\/z=6\/z=8)/\P w')
  (hrem:Calls Tryz.prog 32 #[.pointer (some ⟨mb,0,none⟩),.string nm] w fun e w'=>∃ z,∃ m':Nat,e=.returned (.int .i64 z)/\(z=0\/z=6)/\m'<=m/\P w'/\Calls Tryz.prog 30 #[.pointer (some ⟨mb,0,none⟩)] w' fun e w''=>e=.returned (.int .i64 (m':Int))/\w''=w')
  (hno:P w) (Q:Act->World->Prop) (hA:Fx 251 (F10m o2 eo o3 sn eC ln cap T.length ek vs mb now i q nm m) A)
  (hQ:∀ A' w',Fx 251 (kO o2 eo o3 sn eC ln cap T.length ek vs mb now i) A'->P w'->Q A' w'):(iA 3).wp Tryz.prog (fun e A' w'=>e=.normal/\Q A' w') A w:=by
 replace hQ:Hid _:=hQ
 have lq:=fU T o3 ek i w hT hlT (by omega)
 have hI:mj (T.getD i 0):=by
  rw [List.getD_eq_getElem?_getD]
  cases hg:T[i]? with
  | none=>exact ⟨by decide,by decide⟩
  | some r=>exact hIT r (List.mem_of_getElem? hg)
 have hpk:=jl (T.getD i 0) 4 w hI (by decide)
 have hpz:=pick_four (T.getD i 0)
 generalize T.getD i 0=tz at *
 clear hI hIT hT
 generalize T.length=tn at *
 obtain ⟨u,hu,rfl⟩:=eE hA.size hA.defers
 have k1:=hu 1 _ (hA.get 1 _ rfl)
 have k2:=hu 2 _ (hA.get 2 _ rfl)
 have k3:=hu 3 _ (hA.get 3 _ rfl)
 have kq:=hu 12 _ (hA.get 12 _ rfl)
 have kr:=hu 14 _ (hA.get 14 _ rfl)
 have kV:=hu 17 _ (hA.get 17 _ rfl)
 have k18:=hu 18 _ (hA.get 18 _ rfl)
 have k19:=hu 19 _ (hA.get 19 _ rfl)
 have k20:=hu 20 _ (hA.get 20 _ rfl)
 have k22:=hu 22 _ (hA.get 22 _ rfl)
 have k23:=hu 23 _ (hA.get 23 _ rfl)
 clear hu hA
 simp only [k1,k2,k3,kq,kr,kV,k18,k19,k20,k22,k23]
 clear k1 k2 k3 kq kr kV k18 k19 k20 k22 k23
 simp only [iA,rP,in10,ji,ez,eK,Tryz.f10,Option.getD_some]
 rcases hpz with e0 | e0 | e0 | e0
 ·rw [e0] at hpk
  go_wp2_with fail
  refine lq.mono ?_
  rintro e w1 ⟨rfl,e1⟩
  obtain rfl:=e1.symm
  go_wp2_with fail
  refine hpk.mono ?_
  rintro e w1 ⟨rfl,e1⟩
  obtain rfl:=e1.symm
  go_wp2_with fail
  refine hadd.mono ?_
  rintro e w1 ⟨r,z,rfl,hz,hP⟩
  replace hP:Hid _:=hP
  clear hadd hamd hrem hpk lq hno
  rcases hz with rfl | rfl | rfl
  ·go_wp2_with fail
   first | refine hQ.out _ _ ?_ hP.out | refine ⟨rfl,hQ.out _ _ ?_ hP.out⟩
   refine Fx.of rfl rfl ?_
   unfold kO
   simp only [List.forall_mem_cons,List.not_mem_nil,false_implies,implies_true,and_true]
   exact ⟨rfl,rfl,rfl,rfl,rfl,rfl,rfl,rfl⟩
  ·go_wp2_with fail
   first | refine hQ.out _ _ ?_ hP.out | refine ⟨rfl,hQ.out _ _ ?_ hP.out⟩
   refine Fx.of rfl rfl ?_
   unfold kO
   simp only [List.forall_mem_cons,List.not_mem_nil,false_implies,implies_true,and_true]
   exact ⟨rfl,rfl,rfl,rfl,rfl,rfl,rfl,rfl⟩
  ·go_wp2_with fail
   first | refine hQ.out _ _ ?_ hP.out | refine ⟨rfl,hQ.out _ _ ?_ hP.out⟩
   refine Fx.of rfl rfl ?_
   unfold kO
   simp only [List.forall_mem_cons,List.not_mem_nil,false_implies,implies_true,and_true]
   exact ⟨rfl,rfl,rfl,rfl,rfl,rfl,rfl,rfl⟩
 ·rw [e0] at hpk
  go_wp2_with fail
  refine lq.mono ?_
  rintro e w1 ⟨rfl,e1⟩
  obtain rfl:=e1.symm
  go_wp2_with fail
  refine hpk.mono ?_
  rintro e w1 ⟨rfl,e1⟩
  obtain rfl:=e1.symm
  go_wp2_with fail
  refine hamd.mono ?_
  rintro e w1 ⟨r,z,rfl,hz,hP⟩
  replace hP:Hid _:=hP
  clear hadd hamd hrem hpk lq hno
  rcases hz with rfl | rfl | rfl
  ·go_wp2_with fail
   first | refine hQ.out _ _ ?_ hP.out | refine ⟨rfl,hQ.out _ _ ?_ hP.out⟩
   refine Fx.of rfl rfl ?_
   unfold kO
   simp only [List.forall_mem_cons,List.not_mem_nil,false_implies,implies_true,and_true]
   exact ⟨rfl,rfl,rfl,rfl,rfl,rfl,rfl,rfl⟩
  ·go_wp2_with fail
   first | refine hQ.out _ _ ?_ hP.out | refine ⟨rfl,hQ.out _ _ ?_ hP.out⟩
   refine Fx.of rfl rfl ?_
   unfold kO
   simp only [List.forall_mem_cons,List.not_mem_nil,false_implies,implies_true,and_true]
   exact ⟨rfl,rfl,rfl,rfl,rfl,rfl,rfl,rfl⟩
  ·go_wp2_with fail
   first | refine hQ.out _ _ ?_ hP.out | refine ⟨rfl,hQ.out _ _ ?_ hP.out⟩
   refine Fx.of rfl rfl ?_
   unfold kO
   simp only [List.forall_mem_cons,List.not_mem_nil,false_implies,implies_true,and_true]
   exact ⟨rfl,rfl,rfl,rfl,rfl,rfl,rfl,rfl⟩
 ·rw [e0] at hpk
  go_wp2_with fail
  refine lq.mono ?_
  rintro e w1 ⟨rfl,e1⟩
  obtain rfl:=e1.symm
  go_wp2_with fail
  refine hpk.mono ?_
  rintro e w1 ⟨rfl,e1⟩
  obtain rfl:=e1.symm
  go_wp2_with fail
  refine hrem.mono ?_
  rintro e w1 ⟨z,m',rfl,hz,hmm,hP,hW⟩
  replace hP:Hid _:=hP
  clear hadd hamd hrem hpk lq hno
  have hd:decide ((m:Int)<(m':Int))=false:=by simp;omega
  rcases hz with rfl | rfl
  ·go_wp2_with fail
   refine hW.mono ?_
   rintro e w2 ⟨rfl,e1⟩
   obtain rfl:=e1.symm
   go_wp2_with fail
   first | refine hQ.out _ _ ?_ hP.out | refine ⟨rfl,hQ.out _ _ ?_ hP.out⟩
   refine Fx.of rfl rfl ?_
   unfold kO
   simp only [List.forall_mem_cons,List.not_mem_nil,false_implies,implies_true,and_true]
   exact ⟨rfl,rfl,rfl,rfl,rfl,rfl,rfl,rfl⟩
  ·go_wp2_with fail
   refine hW.mono ?_
   rintro e w2 ⟨rfl,e1⟩
   obtain rfl:=e1.symm
   go_wp2_with fail
   first | refine hQ.out _ _ ?_ hP.out | refine ⟨rfl,hQ.out _ _ ?_ hP.out⟩
   refine Fx.of rfl rfl ?_
   unfold kO
   simp only [List.forall_mem_cons,List.not_mem_nil,false_implies,implies_true,and_true]
   exact ⟨rfl,rfl,rfl,rfl,rfl,rfl,rfl,rfl⟩
 ·rw [e0] at hpk
  have hP:Hid (P w):=hno
  go_wp2_with fail
  refine lq.mono ?_
  rintro e w1 ⟨rfl,e1⟩
  obtain rfl:=e1.symm
  go_wp2_with fail
  refine hpk.mono ?_
  rintro e w1 ⟨rfl,e1⟩
  obtain rfl:=e1.symm
  clear hadd hamd hrem hpk lq hno
  go_wp2_with fail
  first | refine hQ.out _ _ ?_ hP.out | refine ⟨rfl,hQ.out _ _ ?_ hP.out⟩
  refine Fx.of rfl rfl ?_
  unfold kO
  simp only [List.forall_mem_cons,List.not_mem_nil,false_implies,implies_true,and_true]
  exact ⟨rfl,rfl,rfl,rfl,rfl,rfl,rfl,rfl⟩
set_option maxRecDepth 100000 in
set_option maxHeartbeats 16000000 in
theorem zero10_go (o2 eo o3:Option Addr) (sn eC ln cap tn ek:Nat) (vs:ByteArray) (mb:Nat) (A:Act) (w:World) (Q:Act->World->Prop) (hA:Fx 251 [(1,.slice o2 sn eC),(2,.slice eo ln cap),(3,.slice o3 tn ek),(12,.string vs),(14,.pointer (some ⟨mb,0,none⟩)),(17,.int .i64 0),(18,.int .i64 0)] A) (hQ:∀ A',Fx 251 (kO o2 eo o3 sn eC ln cap tn ek vs mb 0 0) A'->Q A' w):zero10.wp Tryz.prog (fun e A' w'=>e=.normal/\Q A' w') A w:=by
 replace hQ:Hid _:=hQ
 obtain ⟨u,hu,rfl⟩:=eE hA.size hA.defers
 have k1:=hu 1 _ (hA.get 1 _ rfl)
 have k2:=hu 2 _ (hA.get 2 _ rfl)
 have k3:=hu 3 _ (hA.get 3 _ rfl)
 have kq:=hu 12 _ (hA.get 12 _ rfl)
 have kr:=hu 14 _ (hA.get 14 _ rfl)
 have kV:=hu 17 _ (hA.get 17 _ rfl)
 have k18:=hu 18 _ (hA.get 18 _ rfl)
 clear hu hA
 simp only [k1,k2,k3,kq,kr,kV,k18]
 clear k1 k2 k3 kq kr kV k18
 simp only [zero10,ez,eK,Tryz.f10,Option.getD_some]
 go_wp2_with fail
 first | refine hQ.out _ ?_ | refine ⟨rfl,hQ.out _ ?_⟩
 refine Fx.of rfl rfl ?_
 unfold kO
 simp only [List.forall_mem_cons,List.not_mem_nil,false_implies,implies_true,and_true]
 exact ⟨rfl,rfl,rfl,rfl,rfl,rfl,rfl,rfl⟩
set_option maxRecDepth 100000 in
set_option maxHeartbeats 16000000 in
theorem head10_go (o2 eo o3:Option Addr) (sn eC ln cap tn ek:Nat) (vs:ByteArray) (mb:Nat) (now:Int) (i:Nat) (hl:ln<=9223372036854775807) (h1:i<25) (h2:i<ln) (A:Act) (w:World) (Q:Act->World->Prop) (hA:Fx 251 (kO o2 eo o3 sn eC ln cap tn ek vs mb now i) A) (hQ:∀ A',Fx 251 (kO o2 eo o3 sn eC ln cap tn ek vs mb now i) A'->Q A' w):head10.wp Tryz.prog (fun e A' w'=>e=.normal/\Q A' w') A w:=by
 replace hQ:Hid _:=hQ
 obtain ⟨u,hu,rfl⟩:=eE hA.size hA.defers
 have k1:=hu 1 _ (hA.get 1 _ rfl)
 have k2:=hu 2 _ (hA.get 2 _ rfl)
 have k3:=hu 3 _ (hA.get 3 _ rfl)
 have kq:=hu 12 _ (hA.get 12 _ rfl)
 have kr:=hu 14 _ (hA.get 14 _ rfl)
 have kV:=hu 17 _ (hA.get 17 _ rfl)
 have k18:=hu 18 _ (hA.get 18 _ rfl)
 have k19:=hu 19 _ (hA.get 19 _ rfl)
 clear hu hA
 simp only [k1,k2,k3,kq,kr,kV,k18,k19]
 clear k1 k2 k3 kq kr kV k18 k19
 simp only [head10,ji,ez,eK,Tryz.f10,Option.getD_some]
 have hl':=hl
 clear hl
 go_wp2_with fail
 first | refine hQ.out _ ?_ | refine ⟨rfl,hQ.out _ ?_⟩
 refine Fx.of rfl rfl ?_
 unfold kO
 simp only [List.forall_mem_cons,List.not_mem_nil,false_implies,implies_true,and_true]
 exact ⟨rfl,rfl,rfl,rfl,rfl,rfl,rfl,rfl⟩
set_option maxRecDepth 100000 in
set_option maxHeartbeats 16000000 in
theorem head10_end (o2 eo o3:Option Addr) (sn eC ln cap tn ek:Nat) (vs:ByteArray) (mb:Nat) (now:Int) (i:Nat) (h1:i<=25) (h2:i<=ln) (h3:i=25\/i=ln) (A:Act) (w:World) (Q:Act->World->Prop) (hA:Fx 251 (kO o2 eo o3 sn eC ln cap tn ek vs mb now i) A) (hQ:∀ A',Fx 251 (kO o2 eo o3 sn eC ln cap tn ek vs mb now i) A'->Q A' w):head10.wp Tryz.prog (fun e A' w'=>e=.exit 0/\Q A' w') A w:=by
 replace hQ:Hid _:=hQ
 obtain ⟨u,hu,rfl⟩:=eE hA.size hA.defers
 have k1:=hu 1 _ (hA.get 1 _ rfl)
 have k2:=hu 2 _ (hA.get 2 _ rfl)
 have k3:=hu 3 _ (hA.get 3 _ rfl)
 have kq:=hu 12 _ (hA.get 12 _ rfl)
 have kr:=hu 14 _ (hA.get 14 _ rfl)
 have kV:=hu 17 _ (hA.get 17 _ rfl)
 have k18:=hu 18 _ (hA.get 18 _ rfl)
 have k19:=hu 19 _ (hA.get 19 _ rfl)
 clear hu hA
 simp only [k1,k2,k3,kq,kr,kV,k18,k19]
 clear k1 k2 k3 kq kr kV k18 k19
 simp only [head10,ji,ez,eK,Tryz.f10,Option.getD_some]
 by_cases cz:i<ln
 ·obtain rfl:i=25:=by omega
  go_wp2_with fail
  first | refine hQ.out _ ?_ | refine ⟨rfl,hQ.out _ ?_⟩
  refine Fx.of rfl rfl ?_
  unfold kO
  simp only [List.forall_mem_cons,List.not_mem_nil,false_implies,implies_true,and_true]
  exact ⟨rfl,rfl,rfl,rfl,rfl,rfl,rfl,rfl⟩
 ·obtain rfl:i=ln:=by omega
  go_wp2_with fail
  first | refine hQ.out _ ?_ | refine ⟨rfl,hQ.out _ ?_⟩
  refine Fx.of rfl rfl ?_
  unfold kO
  simp only [List.forall_mem_cons,List.not_mem_nil,false_implies,implies_true,and_true]
  exact ⟨rfl,rfl,rfl,rfl,rfl,rfl,rfl,rfl⟩
set_option maxRecDepth 100000 in
set_option maxHeartbeats 16000000 in
theorem next10_go (o2 eo o3:Option Addr) (sn eC ln cap tn ek:Nat) (vs:ByteArray) (mb:Nat) (now:Int) (i:Nat) (h1:i<25) (A:Act) (w:World) (Q:Act->World->Prop) (hA:Fx 251 (kO o2 eo o3 sn eC ln cap tn ek vs mb now i) A) (hQ:∀ A',Fx 251 (kO o2 eo o3 sn eC ln cap tn ek vs mb now ((i:Int)+1)) A'->Q A' w):next10.wp Tryz.prog (fun e A' w'=>e=.normal/\Q A' w') A w:=by
 replace hQ:Hid _:=hQ
 obtain ⟨u,hu,rfl⟩:=eE hA.size hA.defers
 have k1:=hu 1 _ (hA.get 1 _ rfl)
 have k2:=hu 2 _ (hA.get 2 _ rfl)
 have k3:=hu 3 _ (hA.get 3 _ rfl)
 have kq:=hu 12 _ (hA.get 12 _ rfl)
 have kr:=hu 14 _ (hA.get 14 _ rfl)
 have kV:=hu 17 _ (hA.get 17 _ rfl)
 have k18:=hu 18 _ (hA.get 18 _ rfl)
 have k19:=hu 19 _ (hA.get 19 _ rfl)
 clear hu hA
 simp only [k1,k2,k3,kq,kr,kV,k18,k19]
 clear k1 k2 k3 kq kr kV k18 k19
 simp only [next10,ji,ez,eK,Tryz.f10,Option.getD_some]
 go_wp2_with fail
 first | refine hQ.out _ ?_ | refine ⟨rfl,hQ.out _ ?_⟩
 refine Fx.of rfl rfl ?_
 unfold kO
 simp only [List.forall_mem_cons,List.not_mem_nil,false_implies,implies_true,and_true]
 exact ⟨rfl,rfl,rfl,rfl,rfl,rfl,rfl,rfl⟩
set_option maxRecDepth 100000 in
set_option maxHeartbeats 16000000 in
theorem now10_go (L:List (Int×Int)) (o2 eo o3:Option Addr) (sn eC cap tn ek:Nat) (vs:ByteArray) (mb:Nat) (i:Nat) (hLm:L.length<=9223372036854775807) (hL:∀ p∈L,mj p.1/\mj p.2) (h1:i<25) (h2:i<L.length) (A:Act) (w:World) (hC:gJ w eo L) (Q:Act->World->Prop) (hA:Fx 251 (kO o2 eo o3 sn eC L.length cap tn ek vs mb (aW L i) i) A) (hQ:∀ A',Fx 251 (kO o2 eo o3 sn eC L.length cap tn ek vs mb (aW L (i+1)) i) A'->Q A' w):(iA 4).wp Tryz.prog (fun e A' w'=>e=.normal/\Q A' w') A w:=by
 have hLm':=hLm
 clear hLm
 obtain ⟨bb,off,rfl,hbl,pV⟩:=hC (by intro e;rw [e] at h2;simp at h2)
 have c1:=(pV i h2).1
 have sP:L.getD i (0,0)∈L:=by rw [List.getD_eq_getElem?_getD,List.getElem?_eq_getElem h2];exact List.getElem_mem h2
 have cz:=later_any (L.getD i (0,0)).1 w (hL _ sP).1
 have hTr:=nN L i
 have hlr:=pY (L.getD i (0,0)).1
 have hTe:aW L i+ob (L.getD i (0,0)).1=aW L (i+1):=rfl
 rw [<- hTe] at hQ
 replace hQ:Hid _:=hQ
 clear pV hL sP hTe
 obtain ⟨u,hu,rfl⟩:=eE hA.size hA.defers
 have k1:=hu 1 _ (hA.get 1 _ rfl)
 have k2:=hu 2 _ (hA.get 2 _ rfl)
 have k3:=hu 3 _ (hA.get 3 _ rfl)
 have kq:=hu 12 _ (hA.get 12 _ rfl)
 have kr:=hu 14 _ (hA.get 14 _ rfl)
 have kV:=hu 17 _ (hA.get 17 _ rfl)
 have k18:=hu 18 _ (hA.get 18 _ rfl)
 have k19:=hu 19 _ (hA.get 19 _ rfl)
 clear hu hA
 simp only [k1,k2,k3,kq,kr,kV,k18,k19]
 clear k1 k2 k3 kq kr kV k18 k19
 generalize (L.getD i (0,0)).1=lc at *
 generalize ob lc=lz at *
 generalize aW L i=tz at *
 generalize L.length=ln at *
 simp only [iA,rP,in10,ji,ez,eK,Tryz.f10,Option.getD_some]
 go_wp2_with fail
 refine cz.mono ?_
 rintro e w2 ⟨rfl,tR⟩
 have tR:=tR.symm
 subst tR
 go_wp2_with fail
 first | refine hQ.out _ ?_ | refine ⟨rfl,hQ.out _ ?_⟩
 refine Fx.of rfl rfl ?_
 unfold kO
 simp only [List.forall_mem_cons,List.not_mem_nil,false_implies,implies_true,and_true]
 exact ⟨rfl,rfl,rfl,rfl,rfl,rfl,rfl,rfl⟩
noncomputable def ope10:Array Oper:=opsR ev10
theorem re10:ev10=.region 30 ope10 false:=rfl
theorem ze10:ope10.size=10:=rfl
theorem ev10_go {x:BT aO} {L:List (Int×Int)} {B0 mb aj v m:Nat} (o2 eo o3:Option Addr) (sn eC cap tn ek:Nat) (vs:ByteArray) (i:Nat) (hLm:L.length<=9223372036854775807) (hL:∀ p∈L,mj p.1/\mj p.2) (h1:i<25) (h2:i<L.length) (gG:ax (ak x)<=1000) (A:Act) (w:World) (hC:gJ w eo L) (hA:Fx 251 (kO o2 eo o3 sn eC L.length cap tn ek vs mb (aW L (i+1)) i) A) (h:dM 1000 x L B0 mb aj i v m w) :
  e_ Tryz.prog ev10 (fun e A' w'=>e=.normal/\Fx 251 (kO o2 eo o3 sn eC L.length cap tn ek vs mb (aW L (i+1)) i) A'/\dM 1000 x L B0 mb aj (i+1) v m w'/\au (fun b=>B0<=b) w w') A w:=by
 have hP:=bk
 obtain ⟨bb,off,rfl,hbl,pV⟩:=hC (by intro e;rw [e] at h2;simp at h2)
 have sP:L.getD i (0,0)∈L:=by rw [List.getD_eq_getElem?_getD,List.getElem?_eq_getElem h2];exact List.getElem_mem h2
 unfold kO at hA
 refine e_.nJ fun b k cs ix bn=>?_
 rw [re10]
 refine af.region hP ix bn ?_
 rw [ze10]
 simp only [List.range,List.range.loop]
 refine mvF ⟨_,rfl,rfl,rfl,rfl⟩ hA rfl (by decide) ix bn fun A hA=>?_
 refine mvF ⟨_,rfl,rfl,rfl,rfl⟩ hA rfl (by decide) ix bn fun A hA=>?_
 refine mvF ⟨_,rfl,rfl,rfl,rfl⟩ hA rfl (by decide) ix bn fun A hA=>?_
 refine mvF ⟨_,rfl,rfl,rfl,rfl⟩ hA rfl (by decide) ix bn fun A hA=>?_
 refine idxC ⟨_,rfl,rfl,rfl,rfl⟩ hA rfl rfl h2 hLm (by decide) ix bn fun A hA=>?_
 refine fldC ⟨_,rfl,rfl,rfl,rfl⟩ hA rfl (by decide) ix bn fun A hA=>?_
 refine loadI ⟨_,rfl,rfl,rfl,rfl⟩ hA rfl (pV i h2).2 (by decide) ix bn fun A hA=>?_
 refine qQ ⟨_,rfl,rfl,rfl,rfl⟩ Tryz.func25 (by decide) rfl hA rfl (by decide) ix bn (atoms_H _ w (hL _ sP).2) (fun e w' x=>by obtain ⟨ao,cp,x1,_⟩:=x;exact ⟨_,x1⟩) ?_
 rintro v1 w1 A ⟨ao,acap,hv,hcp,df,kS⟩ hA
 cases hv
 refine qQ ⟨_,rfl,rfl,rfl,rfl⟩ Tryz.func24 (by decide) rfl hA rfl (by decide) ix bn ((h.move kS).event gG h1 ao acap df hcp) (fun e w' x=>⟨_,x.1⟩) ?_
 rintro v2 w2 A ⟨hv,hI,oJ⟩ hA
 cases hv
 refine asgF ⟨_,rfl,rfl,rfl,rfl⟩ hA rfl (by decide) ix bn fun A hA=>?_
 refine af.nil hP ix bn (af.here fun τ d=>⟨A,⟨?_,hI.aU τ d,((kS.mono fun b _ hb=>hb.elim).trans oJ).aU τ d⟩,rfl⟩)
 refine hA.less ?_
 unfold kO
 simp only [List.forall_mem_cons,List.not_mem_nil,false_implies,implies_true,and_true]
 exact ⟨rfl,rfl,rfl,rfl,rfl,rfl,rfl,rfl⟩
structure Given10 (S T:List Int) (o2 eo o3:Option Addr) (L:List (Int×Int)) (w0:World):Prop where
 glob:eF w0
 globE:jz w0
 size:14<=w0.heap.size
 lS:S.length<=4611686018427387904
 iS:∀ r∈S,mj r
 rS:iD w0 o2 S
 lT:T.length<=4611686018427387904
 iT:∀ r∈T,mj r
 rT:iD w0 o3 T
 lL:L.length<=9223372036854775807
 iL:∀ p∈L,mj p.1/\mj p.2
 com:gJ w0 eo L
def S10 (x:BT aO) (L:List (Int×Int)) (mb aj:Nat) (w0:World) (F:Nat->List (Nat×Value)) (i v:Nat) (A:Act) (w:World):Prop:=∃ m,Fx 251 (F m) A/\dM 1000 x L w0.heap.size mb aj i v m w/\au (fun _=>False) w0 w
theorem S10.aU {x:BT aO} {L:List (Int×Int)} {mb aj:Nat} {w0:World} {F:Nat->List (Nat×Value)} {i v:Nat} {A:Act} {w:World} (h:S10 x L mb aj w0 F i v A w) (τ:Tape) (d:Nat):S10 x L mb aj w0 F i v A (re w τ d):=by
 obtain ⟨m,h1,h2,h3⟩:=h
 exact ⟨m,h1,h2.aU τ d,h3.aU τ d⟩
theorem in10_go {x:BT aO} {S T:List Int} {o2 eo o3:Option Addr} {L:List (Int×Int)} {w0:World} (hG:Given10 S T o2 eo o3 L w0) (eC cap ek:Nat) (vs:ByteArray) (mb aj:Nat) (gG:ax (ak x)<=1000) (i:Nat) (h1:i<25) (h2:i<L.length) (A:Act) (w:World) (h:S10 x L mb aj w0 (fun _=>kO o2 eo o3 S.length eC L.length cap T.length ek vs mb (aW L i) i) i (i+1) A w) :
  e_ Tryz.prog in10 (fun e A' w'=>e=.normal/\S10 x L mb aj w0 (fun _=>kO o2 eo o3 S.length eC L.length cap T.length ek vs mb (aW L (i+1)) i) (i+1) (i+2) A' w') A w:=by
 have hP:=bk
 rw [in10_is]
 refine e_.seqL hP (fun A w=>∃ q y,pw q y/\S10 x L mb aj w0 (fun _=>F10q o2 eo o3 S.length eC L.length cap T.length ek vs mb (aW L i) i q) i (i+1) A w) (fun A w τ d h=>by obtain ⟨q,y,t,h⟩:=h;exact ⟨q,y,t,h.aU τ d⟩) (fun τ d=>?_) fun A w h=>?_
 ·obtain ⟨m,hA,hI,hs⟩:=h.aU τ d
  exact sen10_go S T o2 eo o3 eC L.length cap ek vs mb (aW L i) i h1 hG.lS hG.iS hG.lT hG.iT A _ (hG.rS.move hs) (hG.rT.move hs) _ hA fun A' w' q y t sN qp=>⟨q,y,t,m,sN,hI.move qp,hs.trans qp⟩
 obtain ⟨q,y,ty,h⟩:=h
 refine e_.seqL hP (fun A w=>∃ nm,pX nm/\S10 x L mb aj w0 (fun _=>F10n o2 eo o3 S.length eC L.length cap T.length ek vs mb (aW L i) i q nm) i (i+1) A w) (fun A w τ d h=>by obtain ⟨nm,t,h⟩:=h;exact ⟨nm,t,h.aU τ d⟩) (fun τ d=>?_) fun A w h=>?_
 ·obtain ⟨m,hA,hI,hs⟩:=h.aU τ d
  exact name10_go o2 eo o3 S.length eC L.length cap T.length ek vs mb (aW L i) i h1 q A _ _ hA fun A' nm t sN=>⟨nm,t,m,sN,hI,hs⟩
 obtain ⟨nm,hnm,h⟩:=h
 refine e_.seqL hP (S10 x L mb aj w0 (F10m o2 eo o3 S.length eC L.length cap T.length ek vs mb (aW L i) i q nm) i (i+1)) (fun _ _ τ d h=>h.aU τ d) (fun τ d=>?_) fun A w h=>?_
 ·obtain ⟨m,hA,hI,hs⟩:=h.aU τ d
  exact work10_go o2 eo o3 S.length eC L.length cap T.length ek vs mb (aW L i) i q nm m A _ hI.work _ hA fun A' sN=>⟨m,sN,hI,hs⟩
 refine e_.seqL hP (S10 x L mb aj w0 (fun _=>kO o2 eo o3 S.length eC L.length cap T.length ek vs mb (aW L i) i) i (i+2)) (fun _ _ τ d h=>h.aU τ d) (fun τ d=>?_) fun A w h=>?_
 ·obtain ⟨m,hA,hI,hs⟩:=h.aU τ d
  have hm:m<=40:=by obtain ⟨⟨_,_,_,_,_,_,_,_,_,_,_,_,_,_,_,_,_,_,_,_,_,_,⟨_,hm⟩,_⟩,_,_⟩:=hI;exact hm
  have hg:=mM hG.glob hs
  have pg:jz (re w τ d):=hG.globE.keep fun k hk=>hs.block k hk id
  have h7:=Nat.le_trans hG.size hs.size
  have hgy:Good y:=(iJ ty.read).1
  have hry:0<=ax y/\ax y<=1000:=⟨eX hgy.win,ty.reach⟩
  have oK:q.size<=maxLen:=Nat.le_trans ty.size (by decide)
  have hnd:aV (ak y)<=1000000:=Nat.le_trans ty.nodes (by decide)
  refine acts10_go T o2 eo o3 S.length eC L.length cap ek vs mb (aW L i) i h1 hG.lT hG.iT q nm m hm A _ (hG.rT.move hs) (fun w'=>∃ m',dM 1000 x L w0.heap.size mb aj i (i+2) m' w'/\au (fun _=>False) w0 w') ?_ ?_ ?_ ⟨m,hI.more,hs⟩ _ hA fun A' w' sN ⟨m',hI',qp⟩=>⟨m',sN,hI',qp⟩
  ·refine (hI.add (by omega) nm q hnm oK hg pg h7 ty.read hnd hry).mono ?_
   rintro e w' ⟨r,z,m',e1,e2,e3,e4⟩
   exact ⟨r,z,e1,e2,m',e3.more,iM hs e4⟩
  ·refine (hI.amend (by omega) nm q hnm oK hg pg h7 ty.read hnd hry).mono ?_
   rintro e w' ⟨r,z,m',e1,e2,e3,e4⟩
   exact ⟨r,z,e1,e2,m',e3,iM hs e4⟩
  ·refine (hI.remove nm hnm hg pg).mono ?_
   rintro e w' ⟨z,m',e1,e2,e3,e4,e5⟩
   exact ⟨z,m',e1,e2,e3,⟨m',e4.more,iM hs e5⟩,e4.work⟩
 refine e_.seqL hP (S10 x L mb aj w0 (fun _=>kO o2 eo o3 S.length eC L.length cap T.length ek vs mb (aW L (i+1)) i) i (i+2)) (fun _ _ τ d h=>h.aU τ d) (fun τ d=>?_) fun A w h=>?_
 ·obtain ⟨m,hA,hI,hs⟩:=h.aU τ d
  exact now10_go L o2 eo o3 S.length eC cap T.length ek vs mb i hG.lL hG.iL h1 h2 A _ (hG.com.move hs) _ hA fun A' sN=>⟨m,sN,hI,hs⟩
 obtain ⟨m,hA,hI,hs⟩:=h
 refine (ev10_go o2 eo o3 S.length eC cap T.length ek vs i hG.lL hG.iL h1 h2 gG A w (hG.com.move hs) hA hI).mono ?_
 rintro e A' w' ⟨rfl,sN,hI',qp⟩
 exact ⟨rfl,m,sN,hI',iM hs qp⟩
theorem round10 {x:BT aO} {S T:List Int} {o2 eo o3:Option Addr} {L:List (Int×Int)} {w0:World} (hG:Given10 S T o2 eo o3 L w0) (eC cap ek:Nat) (vs:ByteArray) (mb aj:Nat) (gG:ax (ak x)<=1000) (i:Nat) (h1:i<=25) (h2:i<=L.length) (A:Act) (w:World) (h:S10 x L mb aj w0 (fun _=>kO o2 eo o3 S.length eC L.length cap T.length ek vs mb (aW L i) i) i (i+1) A w) :
  e_ Tryz.prog ji (fun e A' w'=>(e=.normal/\i<25/\i<L.length/\S10 x L mb aj w0 (fun _=>kO o2 eo o3 S.length eC L.length cap T.length ek vs mb (aW L (i+1)) ((i+1:Nat):Int)) (i+1) (i+2) A' w')\/(e=.exit 0/\(i=25\/i=L.length)/\S10 x L mb aj w0 (fun _=>kO o2 eo o3 S.length eC L.length cap T.length ek vs mb (aW L i) i) i (i+1) A' w')) A w:=by
 have hP:=bk
 have e0:ji=.seq head10 (.seq (.block 1 in10) next10):=rfl
 rw [e0]
 by_cases tP:i<25/\i<L.length
 ·obtain ⟨h3,h4⟩:=tP
  refine e_.seqL hP (S10 x L mb aj w0 (fun _=>kO o2 eo o3 S.length eC L.length cap T.length ek vs mb (aW L i) i) i (i+1)) (fun _ _ τ d h=>h.aU τ d) (fun τ d=>?_) fun A w h=>?_
  ·obtain ⟨m,hA,hI,hs⟩:=h.aU τ d
   exact head10_go o2 eo o3 S.length eC L.length cap T.length ek vs mb (aW L i) i hG.lL h3 h4 A _ _ hA fun A' sN=>⟨m,sN,hI,hs⟩
  refine e_.seqH hP (S10 x L mb aj w0 (fun _=>kO o2 eo o3 S.length eC L.length cap T.length ek vs mb (aW L (i+1)) i) (i+1) (i+2)) (e_.blockN hP (fun _ _ τ d x=>x.aU τ d) (in10_go hG eC cap ek vs mb aj gG i h3 h4 A w h)) fun A w h=>?_
  refine (e_.loneN hP (J:=S10 x L mb aj w0 (fun _=>kO o2 eo o3 S.length eC L.length cap T.length ek vs mb (aW L (i+1)) ((i+1:Nat):Int)) (i+1) (i+2)) (fun _ _ τ d x=>x.aU τ d) fun τ d=>?_).mono ?_
  ·obtain ⟨m,hA,hI,hs⟩:=h.aU τ d
   exact next10_go o2 eo o3 S.length eC L.length cap T.length ek vs mb (aW L (i+1)) i h3 A _ _ hA fun A' sN=>⟨m,by simpa using sN,hI,hs⟩
  ·rintro e a w ⟨rfl,h⟩
   exact .inl ⟨rfl,h3,h4,h⟩
 ·have h3:i=25\/i=L.length:=by omega
  refine e_.seq hP ((e_.of_wp hP (Q:=fun e A' w'=>e=.exit 0/\S10 x L mb aj w0 (fun _=>kO o2 eo o3 S.length eC L.length cap T.length ek vs mb (aW L i) i) i (i+1) A' w') (fun _ _ _ τ d x=>⟨x.1,x.2.aU τ d⟩) (fun _ _ x=>by cases x.1) (fun τ d=>?_)).mono ?_)
  ·obtain ⟨m,hA,hI,hs⟩:=h.aU τ d
   exact head10_end o2 eo o3 S.length eC L.length cap T.length ek vs mb (aW L i) i h1 h2 h3 A _ _ hA fun A' sN=>⟨m,sN,hI,hs⟩
  rintro e a w ⟨rfl,h⟩
  exact .inr ⟨rfl,h3,h⟩
noncomputable def eT (k:Nat):Code:=rP oy k
noncomputable def ret10:Code:=match oy with
 | .seq _ (.seq _ (.seq _ (.seq _ (.seq _ (.seq _ (.seq _ x))))))=>x
 | _=>.skip
theorem fin10_is:oy=.seq (eT 0) (.seq (eT 1) (.seq (eT 2) (.seq (eT 3) (.seq (eT 4) (.seq (eT 5) (.seq (eT 6) ret10)))))):=rfl
set_option maxRecDepth 100000 in
set_option maxHeartbeats 16000000 in
theorem str10_go (vs:ByteArray) (mb:Nat) (R:Value->World->Prop) (A:Act) (w:World) (hS:Calls Tryz.prog 28 #[.pointer (some ⟨mb,0,none⟩),.string nP] w fun e w'=>∃ v,e=.returned (.tuple #[v,.int .i64 0])/\R v w') (Q:Act->World->Prop) (hA:Fx 251 [(12,.string vs),(14,.pointer (some ⟨mb,0,none⟩)),(17,.int .i64 0)] A) (hQ:∀ A' w' v,R v w'->Fx 251 [(12,.string vs),(14,.pointer (some ⟨mb,0,none⟩)),(17,.int .i64 0),(30,v),(31,.int .i64 0)] A'->Q A' w'):(eT 0).wp Tryz.prog (fun e A' w'=>e=.normal/\Q A' w') A w:=by
 replace hQ:Hid _:=hQ
 unfold nP at hS
 obtain ⟨u,hu,rfl⟩:=eE hA.size hA.defers
 have kq:=hu 12 _ (hA.get 12 _ rfl)
 have kr:=hu 14 _ (hA.get 14 _ rfl)
 have kV:=hu 17 _ (hA.get 17 _ rfl)
 clear hu hA
 simp only [kq,kr,kV]
 clear kq kr kV
 simp only [rP,eT,oy,ez,eK,Tryz.f10,Option.getD_some]
 go_wp2_with fail
 refine hS.mono ?_
 rintro e w1 ⟨v,rfl,hR⟩
 replace hR:Hid _:=hR
 go_wp2_with fail
 first | refine hQ.out _ _ v hR.out ?_ | refine ⟨rfl,hQ.out _ _ v hR.out ?_⟩
 refine Fx.of rfl rfl ?_
 simp only [List.forall_mem_cons,List.not_mem_nil,false_implies,implies_true,and_true]
 exact ⟨rfl,rfl,rfl,rfl,rfl⟩
set_option maxRecDepth 100000 in
set_option maxHeartbeats 16000000 in
theorem txt0_go (vs:ByteArray) (mb:Nat) (v:Value) (A:Act) (w:World) (Q:Act->World->Prop) (hA:Fx 251 [(12,.string vs),(14,.pointer (some ⟨mb,0,none⟩)),(17,.int .i64 0),(30,v),(31,.int .i64 0)] A) (hQ:∀ A',Fx 251 [(12,.string vs),(14,.pointer (some ⟨mb,0,none⟩)),(17,.int .i64 0),(30,v),(31,.int .i64 0),(32,.string ⟨#[]⟩)] A'->Q A' w):(eT 1).wp Tryz.prog (fun e A' w'=>e=.normal/\Q A' w') A w:=by
 replace hQ:Hid _:=hQ
 obtain ⟨u,hu,rfl⟩:=eE hA.size hA.defers
 have kq:=hu 12 _ (hA.get 12 _ rfl)
 have kr:=hu 14 _ (hA.get 14 _ rfl)
 have kV:=hu 17 _ (hA.get 17 _ rfl)
 have k30:=hu 30 _ (hA.get 30 _ rfl)
 have k31:=hu 31 _ (hA.get 31 _ rfl)
 clear hu hA
 simp only [kq,kr,kV,k30,k31]
 clear kq kr kV k30 k31
 simp only [rP,eT,oy,ez,eK,Tryz.f10,Option.getD_some]
 go_wp2_with fail
 first | refine hQ.out _ ?_ | refine ⟨rfl,hQ.out _ ?_⟩
 refine Fx.of rfl rfl ?_
 simp only [List.forall_mem_cons,List.not_mem_nil,false_implies,implies_true,and_true]
 exact ⟨rfl,rfl,rfl,rfl,rfl,rfl⟩
set_option maxRecDepth 100000 in
set_option maxHeartbeats 16000000 in
theorem txt10_go (x:BT aO) (L:List (Int×Int)) (vs:ByteArray) (mb n c:Nat) (o:Option Addr) (hn:n<=25) (A:Act) (w:World) (om:∀ j,j<n->∃ g,o=some ⟨g,0,none⟩/\w.cell? ⟨g,j*4+3,none⟩=some (.bool (verZ x L j))) (Q:Act->World->Prop) (hA:Fx 251 [(12,.string vs),(14,.pointer (some ⟨mb,0,none⟩)),(17,.int .i64 0),(30,.slice o n c),(31,.int .i64 0),(32,.string ⟨#[]⟩)] A) (hQ:∀ A',Fx 251 [(12,.string vs),(14,.pointer (some ⟨mb,0,none⟩)),(17,.int .i64 0),(31,.int .i64 0),(32,.string (eL x L n))] A'->Q A' w):(eT 2).wp Tryz.prog (fun e A' w'=>e=.normal/\Q A' w') A w:=by
 replace hQ:Hid _:=hQ
 replace om:Hid _:=om
 obtain ⟨u,hu,rfl⟩:=eE hA.size hA.defers
 have kq:=hu 12 _ (hA.get 12 _ rfl)
 have kr:=hu 14 _ (hA.get 14 _ rfl)
 have kV:=hu 17 _ (hA.get 17 _ rfl)
 have k30:=hu 30 _ (hA.get 30 _ rfl)
 have k31:=hu 31 _ (hA.get 31 _ rfl)
 have k32:=hu 32 _ (hA.get 32 _ rfl)
 clear hu hA
 simp only [kq,kr,kV,k30,k31,k32]
 clear kq kr kV k30 k31 k32
 simp only [rP,eT,oy,ez,eK,Tryz.f10,Option.getD_some]
 go_wp2_with fail
 go_loopw [33,32] (fun iv sv wr=>∃ i:Nat,iv=.int .i64 i/\i<=n/\sv=.string (eL x L i)/\wr=w) (fun iv _ _=>n-(intOf iv).toNat)
 case atStart=>exact ⟨0,rfl,Nat.zero_le _,rfl,rfl⟩
 case round =>
  obtain ⟨i,rfl,tP,rfl,rfl⟩:=hrel
  by_cases hi:i<n
  ·obtain ⟨g,ho,c3⟩:=om.out i hi
   subst ho
   have oK:=verS_size x L i
   have hno:¬ 9223372036854775807<(eL x L i).size+1:=by omega
   have kU:Hid (eL x L (i+1)=eL x L i++(if verZ x L i then ⟨#[49]⟩ else ⟨#[48]⟩)):=rfl
   cases hvz:verZ x L i with
   | true =>
    rw [hvz] at c3
    have oJ:Hid (eL x L (i+1)=eL x L i++⟨#[49]⟩):=by show _=_;rw [kU.out,hvz];rfl
    clear kU hvz
    generalize eL x L i=ss at *
    go_wp2_with fail
    go_roundw
    case rel=>exact ⟨i+1,by go_num,by omega,by rw [oJ.out],trivial⟩
    case measure=>simp only [intOf];omega
   | false =>
    rw [hvz] at c3
    have oJ:Hid (eL x L (i+1)=eL x L i++⟨#[48]⟩):=by show _=_;rw [kU.out,hvz];rfl
    clear kU hvz
    generalize eL x L i=ss at *
    go_wp2_with fail
    go_roundw
    case rel=>exact ⟨i+1,by go_num,by omega,by rw [oJ.out],trivial⟩
    case measure=>simp only [intOf];omega
  ·obtain rfl:i=n:=by omega
   go_wp2_with fail
   first | refine hQ.out _ ?_ | refine ⟨rfl,hQ.out _ ?_⟩
   refine Fx.of rfl rfl ?_
   simp only [List.forall_mem_cons,List.not_mem_nil,false_implies,implies_true,and_true]
   exact ⟨rfl,rfl,rfl,rfl,rfl⟩
set_option maxRecDepth 100000 in
set_option maxHeartbeats 16000000 in
theorem list10_go (vs t:ByteArray) (mb:Nat) (R:Value->World->Prop) (A:Act) (w:World) (hS:Calls Tryz.prog 33 #[.pointer (some ⟨mb,0,none⟩)] w fun e w'=>∃ v,e=.returned v/\R v w') (Q:Act->World->Prop) (hA:Fx 251 [(12,.string vs),(14,.pointer (some ⟨mb,0,none⟩)),(17,.int .i64 0),(31,.int .i64 0),(32,.string t)] A) (hQ:∀ A' w' v,R v w'->Fx 251 [(12,.string vs),(14,.pointer (some ⟨mb,0,none⟩)),(17,.int .i64 0),(31,.int .i64 0),(32,.string t),(34,v)] A'->Q A' w'):(eT 3).wp Tryz.prog (fun e A' w'=>e=.normal/\Q A' w') A w:=by
 replace hQ:Hid _:=hQ
 obtain ⟨u,hu,rfl⟩:=eE hA.size hA.defers
 have kq:=hu 12 _ (hA.get 12 _ rfl)
 have kr:=hu 14 _ (hA.get 14 _ rfl)
 have kV:=hu 17 _ (hA.get 17 _ rfl)
 have k31:=hu 31 _ (hA.get 31 _ rfl)
 have k32:=hu 32 _ (hA.get 32 _ rfl)
 clear hu hA
 simp only [kq,kr,kV,k31,k32]
 clear kq kr kV k31 k32
 simp only [rP,eT,oy,ez,eK,Tryz.f10,Option.getD_some]
 go_wp2_with fail
 refine hS.mono ?_
 rintro e w1 ⟨v,rfl,hR⟩
 replace hR:Hid _:=hR
 go_wp2_with fail
 first | refine hQ.out _ _ v hR.out ?_ | refine ⟨rfl,hQ.out _ _ v hR.out ?_⟩
 refine Fx.of rfl rfl ?_
 simp only [List.forall_mem_cons,List.not_mem_nil,false_implies,implies_true,and_true]
 exact ⟨rfl,rfl,rfl,rfl,rfl,rfl⟩
set_option maxRecDepth 100000 in
set_option maxHeartbeats 16000000 in
theorem wrk10_go (vs t:ByteArray) (mb m:Nat) (lv:Value) (A:Act) (w:World) (hW:Calls Tryz.prog 30 #[.pointer (some ⟨mb,0,none⟩)] w fun e w'=>e=.returned (.int .i64 (m:Int))/\w'=w) (Q:Act->World->Prop) (hA:Fx 251 [(12,.string vs),(14,.pointer (some ⟨mb,0,none⟩)),(17,.int .i64 0),(31,.int .i64 0),(32,.string t),(34,lv)] A) (hQ:∀ A',Fx 251 [(12,.string vs),(14,.pointer (some ⟨mb,0,none⟩)),(17,.int .i64 0),(31,.int .i64 0),(32,.string t),(34,lv),(35,.int .i64 (m:Int))] A'->Q A' w):(eT 4).wp Tryz.prog (fun e A' w'=>e=.normal/\Q A' w') A w:=by
 replace hQ:Hid _:=hQ
 obtain ⟨u,hu,rfl⟩:=eE hA.size hA.defers
 have kq:=hu 12 _ (hA.get 12 _ rfl)
 have kr:=hu 14 _ (hA.get 14 _ rfl)
 have kV:=hu 17 _ (hA.get 17 _ rfl)
 have k31:=hu 31 _ (hA.get 31 _ rfl)
 have k32:=hu 32 _ (hA.get 32 _ rfl)
 have k34:=hu 34 _ (hA.get 34 _ rfl)
 clear hu hA
 simp only [kq,kr,kV,k31,k32,k34]
 clear kq kr kV k31 k32 k34
 simp only [rP,eT,oy,ez,eK,Tryz.f10,Option.getD_some]
 go_wp2_with fail
 refine hW.mono ?_
 rintro e w1 ⟨rfl,e1⟩
 obtain rfl:=e1.symm
 go_wp2_with fail
 first | refine hQ.out _ ?_ | refine ⟨rfl,hQ.out _ ?_⟩
 refine Fx.of rfl rfl ?_
 simp only [List.forall_mem_cons,List.not_mem_nil,false_implies,implies_true,and_true]
 exact ⟨rfl,rfl,rfl,rfl,rfl,rfl,rfl⟩
set_option maxRecDepth 100000 in
set_option maxHeartbeats 16000000 in
theorem wrl10_go (vs t:ByteArray) (mb m m2:Nat) (lv:Value) (A:Act) (w:World) (hW:Calls Tryz.prog 30 #[.pointer (some ⟨mb,0,none⟩)] w fun e w'=>e=.returned (.int .i64 (m2:Int))/\w'=w) (Q:Act->World->Prop) (hA:Fx 251 [(12,.string vs),(14,.pointer (some ⟨mb,0,none⟩)),(17,.int .i64 0),(31,.int .i64 0),(32,.string t),(34,lv),(35,.int .i64 (m:Int))] A) (hQ:∀ A',Fx 251 [(12,.string vs),(14,.pointer (some ⟨mb,0,none⟩)),(17,.int .i64 0),(31,.int .i64 0),(32,.string t),(34,lv),(35,.int .i64 (m:Int)),(38,.int .i64 (m2:Int))] A'->Q A' w):(eT 6).wp Tryz.prog (fun e A' w'=>e=.normal/\Q A' w') A w:=by
 replace hQ:Hid _:=hQ
 obtain ⟨u,hu,rfl⟩:=eE hA.size hA.defers
 have kq:=hu 12 _ (hA.get 12 _ rfl)
 have kr:=hu 14 _ (hA.get 14 _ rfl)
 have kV:=hu 17 _ (hA.get 17 _ rfl)
 have k31:=hu 31 _ (hA.get 31 _ rfl)
 have k32:=hu 32 _ (hA.get 32 _ rfl)
 have k34:=hu 34 _ (hA.get 34 _ rfl)
 have k35:=hu 35 _ (hA.get 35 _ rfl)
 clear hu hA
 simp only [kq,kr,kV,k31,k32,k34,k35]
 clear kq kr kV k31 k32 k34 k35
 simp only [rP,eT,oy,ez,eK,Tryz.f10,Option.getD_some]
 go_wp2_with fail
 refine hW.mono ?_
 rintro e w1 ⟨rfl,e1⟩
 obtain rfl:=e1.symm
 go_wp2_with fail
 first | refine hQ.out _ ?_ | refine ⟨rfl,hQ.out _ ?_⟩
 refine Fx.of rfl rfl ?_
 simp only [List.forall_mem_cons,List.not_mem_nil,false_implies,implies_true,and_true]
 exact ⟨rfl,rfl,rfl,rfl,rfl,rfl,rfl,rfl⟩
set_option maxRecDepth 100000 in
set_option maxHeartbeats 16000000 in
theorem ret10_go (vs:ByteArray) (mb m n c:Nat) (o:Option Addr) (hm:0<m) (hn:1<=n/\n<=1000) (w0:World) (A:Act) (w:World) (hs:au (fun _=>False) w0 w) (hA:Fx 251 [(12,.string vs),(14,.pointer (some ⟨mb,0,none⟩)),(17,.int .i64 0),(31,.int .i64 0),(32,.string vs),(34,.slice o n c),(35,.int .i64 (m:Int)),(38,.int .i64 0)] A):ret10.wp Tryz.prog (bodyPost Tryz.prog Tryz.f10 (dz w0)) A w:=by
 have hQ0:dz w0 (.returned (.bool true)) w:=⟨rfl,hs⟩
 replace hQ0:Hid _:=hQ0
 clear hs
 obtain ⟨u,hu,rfl⟩:=eE hA.size hA.defers
 have kq:=hu 12 _ (hA.get 12 _ rfl)
 have kr:=hu 14 _ (hA.get 14 _ rfl)
 have kV:=hu 17 _ (hA.get 17 _ rfl)
 have k31:=hu 31 _ (hA.get 31 _ rfl)
 have k32:=hu 32 _ (hA.get 32 _ rfl)
 have k34:=hu 34 _ (hA.get 34 _ rfl)
 have k35:=hu 35 _ (hA.get 35 _ rfl)
 have k38:=hu 38 _ (hA.get 38 _ rfl)
 clear hu hA
 simp only [kq,kr,kV,k31,k32,k34,k35,k38]
 clear kq kr kV k31 k32 k34 k35 k38
 generalize hQ:bodyPost Tryz.prog Tryz.f10 (dz w0)=Q
 simp only [ret10,oy,ez,eK,Tryz.f10,Option.getD_some]
 have e1:decide ((0:Int)<(m:Int))=true:=by simp;omega
 have e2:decide ((1:Int)<=(n:Int))=true:=by simp;omega
 go_wp2_with fail
 rw [<- hQ]
 go_ret
 exact ⟨rfl,hQ0.out.2⟩
theorem drop_one {names:List ByteArray} {j:Nat} (h:j<names.length):∃ s,names[j]? = some s/\names.drop j=s::names.drop (j+1):=⟨names[j],List.getElem?_eq_getElem h,List.drop_eq_getElem_cons h⟩
set_option maxRecDepth 100000 in
set_option maxHeartbeats 16000000 in
theorem rem10_go (vs:ByteArray) (mb aj m n c g:Nat) (names:List ByteArray) (hn:names.length=n) (hn3:n<=3) (w0:World) (mI:Nat) (A:Act) (w:World) (cs:Array Value) (mm:Nat×Nat) (hb:w.heap[g]? = some (.cells cs 9 mm)) (bn:∀ (j:Nat) s,names[j]? = some s->cs[j]? = some (.string s)) (hI:mZ w0.heap.size mb aj names mI w) (hs:au (fun _=>False) w0 w) (Q:Act->World->Prop) (hA:Fx 251 [(12,.string vs),(14,.pointer (some ⟨mb,0,none⟩)),(17,.int .i64 0),(31,.int .i64 0),(32,.string vs),(34,.slice (some ⟨g,0,none⟩) n c),(35,.int .i64 (m:Int))] A) (hQ:∀ A' w',mZ w0.heap.size mb aj [] 0 w'->au (fun _=>False) w0 w'->Fx 251 [(12,.string vs),(14,.pointer (some ⟨mb,0,none⟩)),(17,.int .i64 0),(31,.int .i64 0),(32,.string vs),(34,.slice (some ⟨g,0,none⟩) n c),(35,.int .i64 (m:Int))] A'->Q A' w'):(eT 5).wp Tryz.prog (fun e A' w'=>e=.normal/\Q A' w') A w:=by
 replace hQ:Hid _:=hQ
 have h0:Hid (mZ w0.heap.size mb aj (names.drop 0) mI w/\au (fun _=>False) w0 w/\w.heap[g]? = some (.cells cs 9 mm)):=⟨hI,hs,hb⟩
 have step:Hid (∀ (j m':Nat) (wr:World),j<n->mZ w0.heap.size mb aj (names.drop j) m' wr->au (fun _=>False) w0 wr->wr.heap[g]? = some (.cells cs 9 mm)->∃ s,wr.cell? ⟨g,j*1+0,none⟩=some (.string s)/\Calls Tryz.prog 32 #[.pointer (some ⟨mb,0,none⟩),.string s] wr fun e w'=>∃ m',e=.returned (.int .i64 0)/\mZ w0.heap.size mb aj (names.drop (j+1)) m' w'/\au (fun _=>False) w0 w'/\w'.heap[g]? = some (.cells cs 9 mm)):=by
  intro j m' wr hj h1 h2 h3
  obtain ⟨s,e1,e2⟩:=drop_one (names:=names) (j:=j) (by omega)
  rw [e2] at h1
  refine ⟨s,ae h3 (by rw [show j*1+0=j by omega];exact bn j s e1),h1.remove.mono ?_⟩
  rintro e w' ⟨m',e3,e4,e5,e6⟩
  exact ⟨m',e3,e4,iM h2 e5,e6 g cs 9 mm h3 (by decide) (by decide)⟩
 have fin:Hid (∀ m' wr,mZ w0.heap.size mb aj (names.drop n) m' wr->mZ w0.heap.size mb aj [] 0 wr):=by
  intro m' wr h
  rw [List.drop_eq_nil_of_le (by omega)] at h
  obtain rfl:=h.gone
  exact h
 clear hI hs hb bn hn
 obtain ⟨u,hu,rfl⟩:=eE hA.size hA.defers
 have kq:=hu 12 _ (hA.get 12 _ rfl)
 have kr:=hu 14 _ (hA.get 14 _ rfl)
 have kV:=hu 17 _ (hA.get 17 _ rfl)
 have k31:=hu 31 _ (hA.get 31 _ rfl)
 have k32:=hu 32 _ (hA.get 32 _ rfl)
 have k34:=hu 34 _ (hA.get 34 _ rfl)
 have k35:=hu 35 _ (hA.get 35 _ rfl)
 clear hu hA
 simp only [kq,kr,kV,k31,k32,k34,k35]
 clear kq kr kV k31 k32 k34 k35
 simp only [rP,eT,oy,ez,eK,Tryz.f10,Option.getD_some]
 go_wp2_with fail
 go_loopw [36] (fun iv wr=>∃ j m':Nat,iv=.int .i64 j/\j<=n/\mZ w0.heap.size mb aj (names.drop j) m' wr/\au (fun _=>False) w0 wr/\wr.heap[g]? = some (.cells cs 9 mm)) (fun iv _=>n-(intOf iv).toNat)
 case atStart=>exact ⟨0,mI,rfl,Nat.zero_le _,h0.out.1,h0.out.2⟩
 case round =>
  obtain ⟨j,m',rfl,hjn,h1,h2,h3⟩:=hrel
  by_cases hj:j<n
  ·obtain ⟨s,hc,hcall⟩:=step.out j m' _ hj h1 h2 h3
   simp only [Nat.mul_one,Nat.add_zero] at hc
   replace h1:Hid _:=h1
   replace h2:Hid _:=h2
   clear h3
   go_wp2_with fail
   refine hcall.mono ?_
   rintro e w1 ⟨m2,rfl,r1⟩
   replace r1:Hid _:=r1
   clear hc hcall
   go_wp2_with fail
   go_roundw
   case rel=>exact ⟨j+1,m2,by go_num,by omega,r1.out⟩
   case measure=>simp only [intOf];omega
  ·obtain rfl:j=n:=by omega
   replace h1:Hid _:=h1
   replace h2:Hid _:=h2
   clear h3
   go_wp2_with fail
   first | refine hQ.out _ _ (fin.out _ _ h1.out) h2.out ?_ | refine ⟨rfl,hQ.out _ _ (fin.out _ _ h1.out) h2.out ?_⟩
   refine Fx.of rfl rfl ?_
   simp only [List.forall_mem_cons,List.not_mem_nil,false_implies,implies_true,and_true]
   exact ⟨rfl,rfl,rfl,rfl,rfl,rfl,rfl⟩
theorem strs_row {w:World} {B:Nat} {names:List ByteArray} {v:Value} (h:w.ownsRow B 9 1 v names.length (fH names)) (hn:0<names.length):∃ g c cs,v=.slice (some ⟨g,0,none⟩) names.length c/\w.heap[g]? = some (.cells cs 9 (0,0))/\∀ (j:Nat) s,names[j]? = some s->cs[j]? = some (.string s):=by
 obtain ⟨e1,⟨rfl,e2⟩ | ⟨g,c,cs,rfl,_,h2,_,_,_,h6⟩⟩:=h
 ·omega
 ·refine ⟨g,c,cs,rfl,h2,fun j s hj=>?_⟩
  have hl:=(List.getElem?_eq_some_iff.1 hj).1
  have:(fH names)[j]? = some (.string s):=by simp [fH,hj]
  rw [<- h6,List.getElem?_take,if_pos (by omega),Array.getElem?_toList] at this
  exact this
theorem fin10_go {x:BT aO} {L:List (Int×Int)} {mb aj n v m:Nat} (hn:n<=25) (w0:World) (A:Act) (w:World) (hI:dM 1000 x L w0.heap.size mb aj n v m w) (hs:au (fun _=>False) w0 w) (hA:Fx 251 [(12,.string (eL x L n)),(14,.pointer (some ⟨mb,0,none⟩)),(17,.int .i64 0)] A):oy.wp Tryz.prog (bodyPost Tryz.prog Tryz.f10 (dz w0)) A w:=by
 rw [fin10_is]
 obtain ⟨names,hR,hn0,hn3,hm⟩:=hI.rest
 refine wp_seq (wp_mono (str10_go _ mb (fun v w'=>w'.ownsRow w.heap.size 59 4 v n (nO x L n)/\Below w.heap.size w w') A w ((hI.stream hn).mono fun e w' ⟨v,h1,h2,h3⟩=>⟨v,h1,h2,h3⟩) (fun A' w'=>∃ v,(w'.ownsRow w.heap.size 59 4 v n (nO x L n)/\Below w.heap.size w w')/\Fx 251 [(12,.string (eL x L n)),(14,.pointer (some ⟨mb,0,none⟩)),(17,.int .i64 0),(30,v),(31,.int .i64 0)] A') hA fun A' w' v h1 h2=>⟨v,h1,h2⟩) ?_)
 rintro e A w1 ⟨rfl,v,⟨bT,hb⟩,hA⟩
 have kS:=au.aL (P:=fun _=>False) hb
 obtain ⟨o,c,rfl,om⟩:=vers_row bT
 replace om:∀ j,j<n->∃ g,o=some ⟨g,0,none⟩/\w1.cell? ⟨g,j*4+3,none⟩=some (.bool (verZ x L j)):=fun j hj=>by obtain ⟨g,h1,_,_,h2⟩:=om j hj;exact ⟨g,h1,h2⟩
 refine wp_seq (wp_mono (txt0_go _ mb _ A w1 (fun A' w'=>w'=w1/\Fx 251 [(12,.string (eL x L n)),(14,.pointer (some ⟨mb,0,none⟩)),(17,.int .i64 0),(30,.slice o n c),(31,.int .i64 0),(32,.string ⟨#[]⟩)] A') hA fun A' h=>⟨rfl,h⟩) ?_)
 rintro e A w2 ⟨rfl,e2,hA⟩
 obtain rfl:=e2.symm
 refine wp_seq (wp_mono (txt10_go x L _ mb n c o hn A w1 om (fun A' w'=>w'=w1/\Fx 251 [(12,.string (eL x L n)),(14,.pointer (some ⟨mb,0,none⟩)),(17,.int .i64 0),(31,.int .i64 0),(32,.string (eL x L n))] A') hA fun A' h=>⟨rfl,h⟩) ?_)
 rintro e A w2 ⟨rfl,e2,hA⟩
 obtain rfl:=e2.symm
 have hR1:=hR.move kS
 refine wp_seq (wp_mono (list10_go _ _ mb (fun v w'=>w'.ownsRow w1.heap.size 9 1 v names.length (fH names)/\Below w1.heap.size w1 w') A w1 (hR1.list.mono fun e w' ⟨v,h1,h2,h3⟩=>⟨v,h1,h2,h3⟩) (fun A' w'=>∃ v,(w'.ownsRow w1.heap.size 9 1 v names.length (fH names)/\Below w1.heap.size w1 w')/\Fx 251 [(12,.string (eL x L n)),(14,.pointer (some ⟨mb,0,none⟩)),(17,.int .i64 0),(31,.int .i64 0),(32,.string (eL x L n)),(34,v)] A') hA fun A' w' v h1 h2=>⟨v,h1,h2⟩) ?_)
 rintro e A w2 ⟨rfl,v,⟨hrow2,cB⟩,hA⟩
 have oJ:=au.aL (P:=fun _=>False) cB
 have hR2:=hR1.move oJ
 obtain ⟨g,c2,cs,rfl,hg,bn⟩:=strs_row hrow2 hn0
 refine wp_seq (wp_mono (wrk10_go _ _ mb m _ A w2 hR2.work (fun A' w'=>w'=w2/\Fx 251 [(12,.string (eL x L n)),(14,.pointer (some ⟨mb,0,none⟩)),(17,.int .i64 0),(31,.int .i64 0),(32,.string (eL x L n)),(34,.slice (some ⟨g,0,none⟩) names.length c2),(35,.int .i64 (m:Int))] A') hA fun A' h=>⟨rfl,h⟩) ?_)
 rintro e A w3 ⟨rfl,e3,hA⟩
 obtain rfl:=e3.symm
 refine wp_seq (wp_mono (rem10_go _ mb aj m names.length c2 g names rfl hn3 w0 m A w2 cs _ hg bn hR2 ((hs.trans kS).trans oJ) (fun A' w'=>mZ w0.heap.size mb aj [] 0 w'/\au (fun _=>False) w0 w'/\Fx 251 [(12,.string (eL x L n)),(14,.pointer (some ⟨mb,0,none⟩)),(17,.int .i64 0),(31,.int .i64 0),(32,.string (eL x L n)),(34,.slice (some ⟨g,0,none⟩) names.length c2),(35,.int .i64 (m:Int))] A') hA fun A' w' h1 h2 h3=>⟨h1,h2,h3⟩) ?_)
 rintro e A w3 ⟨rfl,hR3,hs3,hA⟩
 refine wp_seq (wp_mono (wrl10_go _ _ mb m 0 _ A w3 hR3.work (fun A' w'=>w'=w3/\Fx 251 [(12,.string (eL x L n)),(14,.pointer (some ⟨mb,0,none⟩)),(17,.int .i64 0),(31,.int .i64 0),(32,.string (eL x L n)),(34,.slice (some ⟨g,0,none⟩) names.length c2),(35,.int .i64 (m:Int)),(38,.int .i64 ((0:Nat):Int))] A') hA fun A' h=>⟨rfl,h⟩) ?_)
 rintro e A w4 ⟨rfl,e3,hA⟩
 obtain rfl:=e3.symm
 exact ret10_go _ mb m names.length c2 _ hm ⟨hn0,by omega⟩ w0 A w3 hs3 hA
theorem alone_all (R S T:List Int) (o1 o2 o3:Option Addr) (cpR eC ek:Nat) (L:List (Int×Int)) (eo:Option Addr) (cap:Nat) (w:World) (hG:Given10 S T o2 eo o3 L w) (hlR:R.length<=4611686018427387904) (oF:∀ r∈R,mj r) (hR:iD w o1 R) :
  bZ Tryz.prog 10 #[.slice o1 R.length cpR,.slice o2 S.length eC,.slice eo L.length cap,.slice o3 T.length ek] w (dz w):=by
 refine alone_pre R S T o1 o2 o3 cpR eC ek L eo cap w hG.glob hG.size hlR oF hR hG.lL hG.iL hG.com fun x sp vs mb aj m w' A cs tx hgx hn0 hvs hA hI hs bn=>?_
 have hP:=bk
 have ix:∀ it∈([]:List Item),aR it:=by simp
 have dY:∀ (c:Code),∀ it∈[Item.code c],aR it:=fun c=>aJ trivial (by simp)
 have rC:∀ (c d:Code),∀ it∈[Item.code c,Item.code d],aR it:=fun c d=>aJ trivial (dY d)
 have gG:ax (ak x)<=1000:=Int.le_trans (mR hgx) tx.reach
 have e0:ez=.seq (.seq zero10 (.block 0 (.loop ji))) oy:=rfl
 rw [e0]
 refine af.seq hP ix bn (af.seq hP (dY _) bn ?_)
 refine af.piece hP (S10 x L mb aj w (fun _=>kO o2 eo o3 S.length eC L.length cap T.length ek vs mb (aW L 0) 0) 0 1) (fun _ _ τ d x=>x.aU τ d) (rC _ _) bn (fun τ d=>zero10_go o2 eo o3 S.length eC L.length cap T.length ek vs mb A _ _ hA fun A' sN=>⟨m,sN,hI.aU τ d,hs.aU τ d⟩) fun A w2 h0=>?_
 refine af.hpiece (S10 x L mb aj w (fun _=>kO o2 eo o3 S.length eC L.length cap T.length ek vs mb (aW L (min L.length 25)) (min L.length 25:Nat)) (min L.length 25) (min L.length 25+1)) (dY _) bn (e_.blockLoop hP (fun k A w'=>∃ i:Nat,k=25-i/\i<=25/\i<=L.length/\S10 x L mb aj w (fun _=>kO o2 eo o3 S.length eC L.length cap T.length ek vs mb (aW L i) i) i (i+1) A w') _ (fun _ _ τ d x=>x.aU τ d) 25 ⟨0,rfl,by omega,by omega,h0⟩ ?_) fun A w2 h2=>?_
 ·rintro k A w2 ⟨i,rfl,h1,h2,h3⟩
  refine (round10 hG eC cap ek vs mb aj gG i h1 h2 A w2 h3).mono ?_
  rintro e A w3 (⟨rfl,h4,h5,h6⟩ | ⟨rfl,h4,h6⟩)
  ·exact .inl ⟨rfl,25-(i+1),by omega,i+1,rfl,by omega,by omega,h6⟩
  ·have e1:i=min L.length 25:=by omega
   rw [e1] at h6
   exact .inr ⟨rfl,h6⟩
 ·obtain ⟨m,hA,hI,hs⟩:=h2
  refine af.last hP bn Tryz.func10 dz.aU dz.out fun τ d=>?_
  refine fin10_go (n:=min L.length 25) (by omega) w A _ (hI.aU τ d) (hs.aU τ d) ?_
  rw [<- hvs]
  exact hA.less (by unfold kO;simp only [List.forall_mem_cons,List.not_mem_nil,false_implies,implies_true,and_true];exact ⟨rfl,rfl,rfl⟩)
end Ev
section
open Go.ChangeShapes Go.WideShapes Go.ChangeAt Go.RowKit Go.Deep Go.Conc Ev Lf
set_option maxRecDepth 100000 in
theorem alone_runs {H:Type} {enc:TypeId×Value->H} (W:World) (base:Nat) (args:Array Value) (ds gs:List (DataW H)) (before:List MemPlace)
  (hval0:∀ (j:Nat) t v,Tryz.f10.params[j]? = some t->args[j]? = some v->Value.okWide Tryz.prog W .any base t v)
  (hW:DataW.Whole enc Tryz.prog Tryz.f10.params.toList Rows.aloneSpec.vars false W args.toList ds gs before)
  (hz:(DataW.weightsEach Tryz.prog (Tryz.f10.params.toList++Rows.aloneSpec.plain.varTypes Tryz.prog) (ds++gs)).all (·<=reachBytes)=true) (hL:laidMetH Tryz.prog Rows.printedRow.laid W) :
  ∃ M last o w' t',runNT Tryz.prog (M+1) (solo (G (Frame.enter Tryz.prog 10 args .normal) []) W) #[]=(.ended o w',t')/\runN Tryz.prog M (solo (G (Frame.enter Tryz.prog 10 args .normal) []) W)=.next last/\
   step Tryz.prog last=.ended o w'/\Conc.Good Tryz.prog (fun v W'=>Rows.aloneSpec.post enc Tryz.prog Tryz.f10 false true false false W args v W') last o w' t':=by
 have hval:∀ (j:Nat) t v,Tryz.f10.params[j]? = some t->args[j]? = some v->Value.okWide Tryz.prog W .any base t v:=hval0
 have hW':=hW
 obtain ⟨p,q,hA0,hV,rfl,hfz,hnd⟩:=hW
 have hA:DataW.TrodAll enc Tryz.prog W 0 (fun _=>true) true Tryz.f10.params.toList args.toList ds p:=hA0
 rw [Tryz.params10] at hA hval hz
 obtain ⟨al⟩:=args
 obtain ⟨v0,vs0,d0,ds0,p0,q0,ha0,rfl,rfl,h0,hA⟩:=trodAll_cons hA
 obtain ⟨v1,vs1,d1,ds1,p1,q1,rfl,rfl,rfl,h1,hA⟩:=trodAll_cons hA
 obtain ⟨v2,vs2,d2,ds2,p2,q2,rfl,rfl,rfl,h2,hA⟩:=trodAll_cons hA
 obtain ⟨v3,vs3,d3,ds3,p3,q3,rfl,rfl,rfl,h3,hA⟩:=trodAll_cons hA
 obtain ⟨rfl,rfl,rfl⟩:=trodAll_nil hA
 have ha0:al=[v0,v1,v2,v3]:=ha0
 subst ha0
 obtain ⟨rfl,rfl⟩:=trodVars_none hV
 have lr:(d0.weights Tryz.prog 33).all (·<=reachBytes)=true/\(d1.weights Tryz.prog 33).all (·<=reachBytes)=true/\(d3.weights Tryz.prog 33).all (·<=reachBytes)=true:=by
  simp only [List.cons_append,List.nil_append,DataW.weightsEach,List.all_append,Bool.and_eq_true] at hz
  exact ⟨hz.1,hz.2.1,hz.2.2.2.1⟩
 obtain ⟨oR,R,cR,rfl,hlR,oF,hR⟩:=raw_open (hval 0 33 v0 rfl rfl) h0 lr.1
 obtain ⟨oS,S,cS,rfl,hlS,hIS,hS⟩:=raw_open (hval 1 33 v1 rfl rfl) h1 lr.2.1
 obtain ⟨eo,L,cap,rfl,hLm,hL64,hC⟩:=comes_open (hval 2 34 v2 rfl rfl) h2
 obtain ⟨oT,T,cT,rfl,hlT,hIT,hT⟩:=raw_open (hval 3 33 v3 rfl rfl) h3 lr.2.2
 obtain ⟨hg,h7⟩:=glob_of_laid hL
 have pg:=globE_of_laid hL
 clear hA0 hval0 hA hz
 have cz:∀ x∈p0++(p1++(p2++(p3++[])))++[],x.block<W.heap.size:=hW'.lt
 have e1:Rows.aloneSpec.fn H ([d0,d1,d2,d3]++[])={ results:=[.lit (.bool true)],args:=[d0,d1,d2,d3] }:=by simp [Rows.aloneSpec]
 obtain ⟨M,last,o,w',t',r1,r2,r3,r4⟩:=(alone_all R S T oR oS oT cR cS cT L eo cap W ⟨hg,pg,h7,hlS,hIS,hS,hlT,hIT,hT,hLm,hL64,hC⟩ hlR oF hR).good Tryz.func10 (t:=8) rfl (by kernel_rfl) dz.aU (fun e w h=>⟨_,h.1⟩)
 refine ⟨M,last,o,w',t',r1,r2,r3,r4.mono fun v hp=>?_⟩
 obtain ⟨he,hs⟩:=hp
 cases he
 refine ⟨_,_,_,[],p0++(p1++(p2++(p3++[]))),[],hW',?_,?_,?_,spare_frame hs _,fun h=>by cases h⟩
 ·rw [e1];exact trodAll_mk1 (shut_bool Tryz.underlying4 true)
 ·rw [e1]
  exact lB (qe ve readRaw rowRaw h0 hs fun x hx=>cz x (by simp [hx])) (lB (qe ve readRaw rowRaw h1 hs fun x hx=>cz x (by simp [hx])) (lB (qe ve readComes rowComes h2 hs fun x hx=>cz x (by simp [hx])) (lB (qe ve readRaw rowRaw h3 hs fun x hx=>cz x (by simp [hx])) trodAll_mk0)))
 ·rw [e1];rfl
end
end Go.Proofs.YtpbbmagjhkakgaaGreatDoor
