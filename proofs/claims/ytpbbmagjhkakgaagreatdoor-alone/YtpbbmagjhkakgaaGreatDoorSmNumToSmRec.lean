import Derived.Test.YtpbbmagjhkakgaaGreatDoorEdInvToSmSent
namespace Go.Proofs.YtpbbmagjhkakgaaGreatDoor
namespace Ev
open Go.RowKit Go.Deep
def iD (w:World) (o:Option Addr) (R:List Int):Prop:=R≠[]->∃ b off,o=some ⟨b,off,none⟩/\b<w.heap.size/\∀ j,j<R.length->w.cell? ⟨b,off+j,none⟩=some (.int .i64 (R.getD j 0))
theorem iD.below {w w':World} {o:Option Addr} {R:List Int} (h:iD w o R) (hb:Below w.heap.size w w'):iD w' o R:=fun hne=>by
 obtain ⟨b,off,h1,h2,h3⟩:=h hne
 exact ⟨b,off,h1,Nat.lt_of_lt_of_le h2 hb.size,fun j hj=>by rw [World.cell?_of_block (hb.block b h2)];exact h3 j hj⟩
theorem fU (R:List Int) (o:Option Addr) (cap i:Nat) (w:World) (hR:iD w o R) (hlen:R.length<=4611686018427387904) (hi:i<=9223372036854775000) :
  Calls Tryz.prog 29 #[.slice o R.length cap,.int .i64 (i:Int)] w fun e w'=>e=.returned (.int .i64 (R.getD i 0))/\w'=w:=by
 have hi':=hi
 have hlen':=hlen
 clear hi hlen
 by_cases h:i<R.length
 ·obtain ⟨b,off,rfl,_,hc⟩:=hR (by intro e;rw [e] at h;simp at h)
  have c1:=hc i h
  generalize R.getD i 0=r at *
  clear hc
  generalize R.length=n at *
  go_enter Tryz.func29,Tryz.ntmps29
  go_wp2_with fail
  go_ret
  exact ⟨rfl,rfl⟩
 ·have e:R.getD i 0=0:=by rw [List.getD_eq_getElem?_getD,List.getElem?_eq_none (by omega)];rfl
  rw [e]
  clear e hR
  generalize R.length=n at *
  go_enter Tryz.func29,Tryz.ntmps29
  go_wp2_with fail
  go_ret
  exact ⟨rfl,rfl⟩
theorem uV {R:List Int} (h:∀ r∈R,mj r) (i:Nat):mj (R.getD i 0):=by
 rw [List.getD_eq_getElem?_getD]
 cases hx:R[i]? with
 | none=>exact ⟨by decide,by decide⟩
 | some r=>exact h r (List.mem_of_getElem? hx)
theorem ltr_pick (k:Int):(⟨#[97,98,99]⟩:ByteArray).extract (aP k 3).toNat ((aP k 3).toNat+1)=ni (ltrN k):=ltr_at _ (ltrN_lt k)
def cH (R:List Int) (d i:Nat) (w:World) (e:Ending) (w':World):Prop:=(∃ s,e=.returned (.tuple #[.string s,.int .i64 ((ay R d i).next:Int)])/\s.data.toList=(ay R d i).txt)/\Below w.heap.size w w'
theorem cH.of {R:List Int} {d i:Nat} {w:World} {M:Made} (hM:ay R d i=M) {s:ByteArray} {n:Int} {w':World} (hs:s.data.toList=M.txt) (hn:n=(M.next:Int)) (hb:Below w.heap.size w w'):cH R d i w (.returned (.tuple #[.string s,.int .i64 n])) w':=by
 subst hn
 exact ⟨⟨s,by rw [hM],by rw [hM];exact hs⟩,hb⟩
section
variable {R : List Int} {d i : Nat} {k : Int}
theorem sentF_ltr (hk:aP (R.getD i 0) 12=k) (h:d=0\/k<2\/R.length<i+1):ay R d i=⟨(ni (ltrN k)).data.toList,wordX (ni (ltrN k)),i+1⟩:=by
 subst hk
 cases d with
 | zero=>rfl
 | succ d=>unfold ay;rw [if_pos (by omega)]
theorem sentF_not (hk:aP (R.getD i 0) 12=k) (h:2<=k/\i+1<=R.length) (h2:k<4):ay R (d+1) i=⟨notL (ay R d (i+1)).txt,notX (ay R d (i+1)).x,(ay R d (i+1)).next⟩:=by
 subst hk
 rw [ay,if_neg (by omega),if_pos h2]
theorem sentF_op (hk:aP (R.getD i 0) 12=k) (h:2<=k/\i+1<=R.length) {c:UInt8} {op:Int} (h2:(k=4/\c=89/\op=89)\/((k=5\/k=6)/\c=79/\op=79)\/(k=7/\c=72/\op=72)):ay R (d+1) i=⟨opL c (aP (R.getD (ay R d (i+1)).next 0) 5) (aP (R.getD (ay R d (i+1)).next 0) 5+aP (R.getD ((ay R d (i+1)).next+1) 0) 5) (ay R d (i+1)).txt,opX op (aP (R.getD (ay R d (i+1)).next 0) 5) (aP (R.getD (ay R d (i+1)).next 0) 5+aP (R.getD ((ay R d (i+1)).next+1) 0) 5) (ay R d (i+1)).x,(ay R d (i+1)).next+2⟩:=by
 subst hk
 rw [ay,if_neg (by omega),if_neg (by omega)]
 rcases h2 with ⟨h,rfl,rfl⟩ | ⟨h,rfl,rfl⟩ | ⟨h,rfl,rfl⟩
 ·rw [if_pos h]
 ·rw [if_neg (by omega),if_pos (by omega)]
 ·rw [if_neg (by omega),if_neg (by omega),if_pos h]
theorem sentF_since (hk:aP (R.getD i 0) 12=k) (h:2<=k/\i+1<=R.length) (h2:8<=k/\k<10):ay R (d+1) i=⟨t_ (aP (R.getD (ay R d (i+1)).next 0) 5) (aP (R.getD (ay R d (i+1)).next 0) 5+aP (R.getD ((ay R d (i+1)).next+1) 0) 5) (ay R d (i+1)).txt (ay R d ((ay R d (i+1)).next+2)).txt,sinceX (aP (R.getD (ay R d (i+1)).next 0) 5) (aP (R.getD (ay R d (i+1)).next 0) 5+aP (R.getD ((ay R d (i+1)).next+1) 0) 5) (ay R d (i+1)).x (ay R d ((ay R d (i+1)).next+2)).x,(ay R d ((ay R d (i+1)).next+2)).next⟩:=by
 subst hk
 rw [ay,if_neg (by omega),if_neg (by omega),if_neg (by omega),if_neg (by omega),if_neg (by omega),if_pos h2.2]
theorem sentF_two (hk:aP (R.getD i 0) 12=k) (h:2<=k/\i+1<=R.length) {c:UInt8} {op:Int} (h2:(k=10/\c=38/\op=8743)\/(k=11/\c=124/\op=8744)):ay R (d+1) i=⟨twoL c (ay R d (i+1)).txt (ay R d (ay R d (i+1)).next).txt,twoX op (ay R d (i+1)).x (ay R d (ay R d (i+1)).next).x,(ay R d (ay R d (i+1)).next).next⟩:=by
 subst hk
 rw [ay,if_neg (by omega),if_neg (by omega),if_neg (by omega),if_neg (by omega),if_neg (by omega),if_neg (by omega)]
 rcases h2 with ⟨h,rfl,rfl⟩ | ⟨h,rfl,rfl⟩
 ·rw [if_pos h];rfl
 ·rw [if_neg (by omega)];rfl
end
set_option maxRecDepth 100000 in
set_option maxHeartbeats 16000000 in
theorem sent_stop (R:List Int) (o:Option Addr) (cap d i:Nat) (w:World) (hlen:R.length<=4611686018427387904) (hI:∀ r∈R,mj r) (hR:iD w o R) (hi:i<=9223372036854775000) (hd:d<=3) (h:d=0\/aP (R.getD i 0) 12<2\/R.length<i+1):Calls Tryz.prog 18 #[.slice o R.length cap,.int .i64 (i:Int),.int .i64 (d:Int)] w (cH R d i w):=by
 have hn:=fU R o cap i w hR hlen hi
 have hp:=jl (R.getD i 0) 12 w (uV hI i) (by decide)
 have hkr:=bB (R.getD i 0) 12 (by decide)
 obtain ⟨k,hk⟩:∃ k,aP (R.getD i 0) 12=k:=⟨_,rfl⟩
 rw [hk] at hp hkr h
 have hp3:=jl k 3 w ⟨by omega,by omega⟩ (by decide)
 have hr3:=bB k 3 (by decide)
 have hltr:=ltr_pick k
 have bH:∀ w',Below w.heap.size w w'->cH R d i w (.returned (.tuple #[.string (ni (ltrN k)),.int .i64 ((i:Int)+1)])) w':=fun w' hb=>cH.of (sentF_ltr hk h) rfl (by simp) hb
 replace bH:Hid _:=bH
 obtain ⟨q,hq⟩:∃ q:Nat,aP k 3=q:=⟨(aP k 3).toNat,by omega⟩
 rw [hq] at hp3 hr3 hltr
 simp only [Int.toNat_natCast] at hltr
 clear hk hI hR hq
 generalize ni (ltrN k)=lt at *
 generalize R.getD i 0=r at *
 generalize hQ:cH R d i w=Q at *
 clear hQ
 generalize R.length=n at *
 go_enter Tryz.func18,Tryz.ntmps18
 go_wp2_with fail
 refine hn.mono ?_
 rintro e w1 ⟨rfl,l8⟩
 have l8:=l8.symm
 subst l8
 go_wp2_with fail
 refine hp.mono ?_
 rintro e w1 ⟨rfl,l8⟩
 have l8:=l8.symm
 subst l8
 by_cases h0:d=0
 ·subst h0
  go_wp2_with fail
  refine hp3.mono ?_
  rintro e w1 ⟨rfl,l8⟩
  have l8:=l8.symm
  subst l8
  go_wp2_with fail
  refine hp3.mono ?_
  rintro e w1 ⟨rfl,l8⟩
  have l8:=l8.symm
  subst l8
  go_wp2_with fail
  exact bH.out _ (Below.refl _ _)
 ·by_cases h2:k<2
  ·go_wp2_with fail
   refine hp3.mono ?_
   rintro e w1 ⟨rfl,l8⟩
   have l8:=l8.symm
   subst l8
   go_wp2_with fail
   refine hp3.mono ?_
   rintro e w1 ⟨rfl,l8⟩
   have l8:=l8.symm
   subst l8
   go_wp2_with fail
   exact bH.out _ (Below.refl _ _)
  ·have h3:n<i+1:=by omega
   go_wp2_with fail
   refine hp3.mono ?_
   rintro e w1 ⟨rfl,l8⟩
   have l8:=l8.symm
   subst l8
   go_wp2_with fail
   refine hp3.mono ?_
   rintro e w1 ⟨rfl,l8⟩
   have l8:=l8.symm
   subst l8
   go_wp2_with fail
   exact bH.out _ (Below.refl _ _)
end Ev
namespace Ev
open Go.RowKit Go.Deep
theorem dec_one (n:Nat) (h:n<10):(Lib.decDigits n).length<=1:=dec_len 0 n (by omega)
theorem nM {s:ByteArray} {l:List UInt8} (h:s.data.toList=l):s.size=l.length:=by
 rw [<- h,Array.length_toList]
 rfl
set_option maxRecDepth 100000 in
set_option maxHeartbeats 32000000 in
theorem sent_step (R:List Int) (o:Option Addr) (cap d i:Nat) (w:World) (hlen:R.length<=4611686018427387904) (hI:∀ r∈R,mj r) (hR:iD w o R) (hi:i+4*2 ^ (d+1)<=9223372036854775000) (hd:d<=2) (h2k:2<=aP (R.getD i 0) 12) (qo:i+1<=R.length)
  (ih:∀ (i:Nat) (w:World),iD w o R->i+4*2 ^ d<=9223372036854775000->Calls Tryz.prog 18 #[.slice o R.length cap,.int .i64 (i:Int),.int .i64 (d:Int)] w (cH R d i w)) :
  Calls Tryz.prog 18 #[.slice o R.length cap,.int .i64 (i:Int),.int .i64 ((d+1:Nat):Int)] w (cH R (d+1) i w):=by
 have hpw:2 ^ (d+1)=2*2 ^ d:=by rw [Nat.pow_succ];omega
 have hp1:1<=2 ^ d:=Nat.one_le_two_pow
 have hp8:2 ^ d<=4:=Nat.pow_le_pow_right (n:=2) (by omega) hd
 have hn:=fU R o cap i w hR hlen (by omega)
 have hp:=jl (R.getD i 0) 12 w (uV hI i) (by decide)
 have hkr:=bB (R.getD i 0) 12 (by decide)
 obtain ⟨k,hk⟩:∃ k,aP (R.getD i 0) 12=k:=⟨_,rfl⟩
 rw [hk] at hp hkr h2k
 obtain ⟨m1,b1,b2⟩:=iK R d (i+1)
 have l1:=m1.len
 have ih1:=ih (i+1) w hR (by omega)
 obtain ⟨n1,hn1⟩:∃ n,n=(ay R d (i+1)).next:=⟨_,rfl⟩
 rw [<- hn1] at b1 b2
 have hN1:∀ w',Below w.heap.size w w'->Calls Tryz.prog 29 #[.slice o R.length cap,.int .i64 (n1:Int)] w' fun e w2=>e=.returned (.int .i64 (R.getD n1 0))/\w2=w':=fun w' hb=>fU R o cap n1 w' (hR.below hb) hlen (by omega)
 have hN2:∀ w',Below w.heap.size w w'->Calls Tryz.prog 29 #[.slice o R.length cap,.int .i64 ((n1:Int)+1)] w' fun e w2=>e=.returned (.int .i64 (R.getD (n1+1) 0))/\w2=w':=fun w' hb=>fU R o cap (n1+1) w' (hR.below hb) hlen (by omega)
 have hP1:∀ w',Calls Tryz.prog 19 #[.int .i64 (R.getD n1 0),.int .i64 5] w' fun e w2=>e=.returned (.int .i64 (aP (R.getD n1 0) 5))/\w2=w':=fun w'=>jl _ 5 w' (uV hI _) (by decide)
 have hP2:∀ w',Calls Tryz.prog 19 #[.int .i64 (R.getD (n1+1) 0),.int .i64 5] w' fun e w2=>e=.returned (.int .i64 (aP (R.getD (n1+1) 0) 5))/\w2=w':=fun w'=>jl _ 5 w' (uV hI _) (by decide)
 obtain ⟨a,ha⟩:∃ a:Nat,aP (R.getD n1 0) 5=a:=⟨(aP (R.getD n1 0) 5).toNat,by have:=bB (R.getD n1 0) 5 (by decide);omega⟩
 obtain ⟨c,hc⟩:∃ c:Nat,aP (R.getD (n1+1) 0) 5=c:=⟨(aP (R.getD (n1+1) 0) 5).toNat,by have:=bB (R.getD (n1+1) 0) 5 (by decide);omega⟩
 have ha5:a<5:=by have:=bB (R.getD n1 0) 5 (by decide);omega
 have hc5:c<5:=by have:=bB (R.getD (n1+1) 0) 5 (by decide);omega
 have hD1:∀ w',Calls Tryz.prog 20 #[.int .i64 (a:Int)] w' fun e w2=>Below w'.heap.size w' w2/\∃ t,e=.returned (.string t)/\t.data.toList=Lib.decDigits a:=fun w'=>digits_any a w' (by omega)
 have hD2:∀ w',Calls Tryz.prog 20 #[.int .i64 ((a:Int)+(c:Int))] w' fun e w2=>Below w'.heap.size w' w2/\∃ t,e=.returned (.string t)/\t.data.toList=Lib.decDigits (a+c):=fun w'=>digits_any (a+c) w' (by omega)
 have e1a:Lib.itoa (a:Int)=Lib.decDigits a:=si _ (by omega)
 have e1b:Lib.itoa ((a:Int)+(c:Int))=Lib.decDigits (a+c):=si _ (by omega)
 obtain ⟨m2,c1,c2⟩:=iK R d n1
 have l2:=m2.len
 obtain ⟨m3,g1,g2⟩:=iK R d (n1+2)
 have l3:=m3.len
 have hS2:∀ w',Below w.heap.size w w'->Calls Tryz.prog 18 #[.slice o R.length cap,.int .i64 (n1:Int),.int .i64 (d:Int)] w' (cH R d n1 w'):=fun w' hb=>ih n1 w' (hR.below hb) (by omega)
 have hS3:∀ w',Below w.heap.size w w'->Calls Tryz.prog 18 #[.slice o R.length cap,.int .i64 ((n1:Int)+2),.int .i64 (d:Int)] w' (cH R d (n1+2) w'):=fun w' hb=>ih (n1+2) w' (hR.below hb) (by omega)
 have fNot:∀ w' s,Below w.heap.size w w'->k<4->s.data.toList=notL (ay R d (i+1)).txt->cH R (d+1) i w (.returned (.tuple #[.string s,.int .i64 (n1:Int)])) w':=fun w' s hb h2 hs=>cH.of (sentF_not hk ⟨h2k,qo⟩ h2) hs (by rw [hn1]) hb
 have fOp:∀ w' s (cc:UInt8) (op:Int),Below w.heap.size w w'->((k=4/\cc=89/\op=89)\/((k=5\/k=6)/\cc=79/\op=79)\/(k=7/\cc=72/\op=72))->s.data.toList=opL cc a ((a:Int)+c) (ay R d (i+1)).txt->cH R (d+1) i w (.returned (.tuple #[.string s,.int .i64 ((n1:Int)+2)])) w':=fun w' s cc op hb h2 hs=>cH.of (sentF_op hk ⟨h2k,qo⟩ h2) (by rw [<- hn1,ha,hc];exact hs) (by rw [<- hn1];simp) hb
 have fSince:∀ w' s,Below w.heap.size w w'->8<=k/\k<10->s.data.toList=t_ a ((a:Int)+c) (ay R d (i+1)).txt (ay R d (n1+2)).txt->cH R (d+1) i w (.returned (.tuple #[.string s,.int .i64 ((ay R d (n1+2)).next:Int)])) w':=fun w' s hb h2 hs=>cH.of (sentF_since hk ⟨h2k,qo⟩ h2) (by rw [<- hn1,ha,hc];exact hs) (by rw [<- hn1]) hb
 have fTwo:∀ w' s (cc:UInt8) (op:Int),Below w.heap.size w w'->((k=10/\cc=38/\op=8743)\/(k=11/\cc=124/\op=8744))->s.data.toList=twoL cc (ay R d (i+1)).txt (ay R d n1).txt->cH R (d+1) i w (.returned (.tuple #[.string s,.int .i64 ((ay R d n1).next:Int)])) w':=fun w' s cc op hb h2 hs=>cH.of (sentF_two hk ⟨h2k,qo⟩ h2) (by rw [<- hn1];exact hs) (by rw [<- hn1]) hb
 have ih1':Calls Tryz.prog 18 #[.slice o R.length cap,.int .i64 ((i:Int)+1),.int .i64 (d:Int)] w fun e w'=>(∃ s,e=.returned (.tuple #[.string s,.int .i64 (n1:Int)])/\s.data.toList=(ay R d (i+1)).txt)/\Below w.heap.size w w':=by
  rw [hn1];exact ih1
 have hS2':∀ w',Below w.heap.size w w'->Calls Tryz.prog 18 #[.slice o R.length cap,.int .i64 (n1:Int),.int .i64 (d:Int)] w' fun e w2=>(∃ s,e=.returned (.tuple #[.string s,.int .i64 ((ay R d n1).next:Int)])/\s.data.toList=(ay R d n1).txt)/\Below w'.heap.size w' w2:=hS2
 have hS3':∀ w',Below w.heap.size w w'->Calls Tryz.prog 18 #[.slice o R.length cap,.int .i64 ((n1:Int)+2),.int .i64 (d:Int)] w' fun e w2=>(∃ s,e=.returned (.tuple #[.string s,.int .i64 ((ay R d (n1+2)).next:Int)])/\s.data.toList=(ay R d (n1+2)).txt)/\Below w'.heap.size w' w2:=hS3
 rw [ha] at hP1
 rw [hc] at hP2
 replace fNot:Hid _:=fNot
 replace fOp:Hid _:=fOp
 replace fSince:Hid _:=fSince
 replace fTwo:Hid _:=fTwo
 replace hN1:Hid _:=hN1
 replace hN2:Hid _:=hN2
 replace hP1:Hid _:=hP1
 replace hP2:Hid _:=hP2
 replace hD1:Hid _:=hD1
 replace hD2:Hid _:=hD2
 replace hS2':Hid _:=hS2'
 replace hS3':Hid _:=hS3'
 replace e1a:Hid _:=e1a
 replace e1b:Hid _:=e1b
 clear ih ih1 hI hR hk ha hc hn1 m1 m2 m3 hS2 hS3 hpw
 generalize (ay R d (n1+2)).txt=x3 at *
 generalize (ay R d (n1+2)).next=y3 at *
 generalize (ay R d n1).txt=x2 at *
 generalize (ay R d n1).next=y2 at *
 generalize (ay R d (i+1)).txt=x1 at *
 generalize R.getD n1 0=r1 at *
 generalize R.getD (n1+1) 0=r2 at *
 generalize R.getD i 0=r at *
 generalize hQ:cH R (d+1) i w=Q at *
 clear hQ
 generalize R.length=n at *
 generalize 2 ^ d=pd at *
 have qy:decide ((d:Int)+1=0)=false:=by simp;omega
 have hx2:decide (k<2)=false:=by simp;omega
 have hx3:decide ((n:Int)<(i:Int)+1)=false:=by simp;omega
 go_enter Tryz.func18,Tryz.ntmps18
 go_wp2_with fail
 refine hn.mono ?_
 rintro e w1 ⟨rfl,l8⟩
 have l8:=l8.symm
 subst l8
 go_wp2_with fail
 refine hp.mono ?_
 rintro e w1 ⟨rfl,l8⟩
 have l8:=l8.symm
 subst l8
 go_wp2_with fail
 refine ih1'.mono ?_
 rintro e w1 ⟨⟨s1,rfl,kS⟩,a_⟩
 have z1:=nM kS
 go_wp2_with fail
 refine (hN1.out w1 a_).mono ?_
 rintro e w2 ⟨rfl,tR⟩
 have tR:=tR.symm
 subst tR
 go_wp2_with fail
 refine (hP1.out w1).mono ?_
 rintro e w2 ⟨rfl,tR⟩
 have tR:=tR.symm
 subst tR
 go_wp2_with fail
 refine (hN2.out w1 a_).mono ?_
 rintro e w2 ⟨rfl,tR⟩
 have tR:=tR.symm
 subst tR
 go_wp2_with fail
 refine (hP2.out w1).mono ?_
 rintro e w2 ⟨rfl,tR⟩
 have tR:=tR.symm
 subst tR
 go_wp2_with fail
 refine (hD1.out w1).mono ?_
 rintro e w2 ⟨cB,ta,rfl,hta⟩
 have za:=nM hta
 have za1:=dec_one a (by omega)
 go_wp2_with fail
 refine (hD2.out w2).mono ?_
 rintro e w3 ⟨pU,tb,rfl,htb⟩
 have zb:=nM htb
 have zb1:=dec_one (a+c) (by omega)
 have hb:=(a_.tr cB).tr pU
 have zz:∀ x:UInt8,(⟨#[x]⟩:ByteArray).size=1:=fun _=>rfl
 have hk12:k=2\/k=3\/k=4\/k=5\/k=6\/k=7\/k=8\/k=9\/k=10\/k=11:=by omega
 clear qy hx2 hx3 hkr h2k hn hp
 rcases hk12 with rfl | rfl | rfl | rfl | rfl | rfl | rfl | rfl | rfl | rfl
 ·go_wp2_with fail
  exact fNot.out w3 _ hb (by decide) (by simp only [ByteArray.data_append,Array.toList_append,kS,notL])
 ·go_wp2_with fail
  exact fNot.out w3 _ hb (by decide) (by simp only [ByteArray.data_append,Array.toList_append,kS,notL])
 ·go_wp2_with fail
  exact fOp.out w3 _ 89 89 hb (by simp) (by simp only [ByteArray.data_append,Array.toList_append,kS,hta,htb,opL,sT,e1a.out,e1b.out];simp)
 ·go_wp2_with fail
  exact fOp.out w3 _ 79 79 hb (by simp) (by simp only [ByteArray.data_append,Array.toList_append,kS,hta,htb,opL,sT,e1a.out,e1b.out];simp)
 ·go_wp2_with fail
  exact fOp.out w3 _ 79 79 hb (by simp) (by simp only [ByteArray.data_append,Array.toList_append,kS,hta,htb,opL,sT,e1a.out,e1b.out];simp)
 ·go_wp2_with fail
  exact fOp.out w3 _ 72 72 hb (by simp) (by simp only [ByteArray.data_append,Array.toList_append,kS,hta,htb,opL,sT,e1a.out,e1b.out];simp)
 ·go_wp2_with fail
  refine (hS3'.out w3 hb).mono ?_
  rintro e w4 ⟨⟨s2,rfl,oJ⟩,hb4⟩
  have z2:=nM oJ
  go_wp2_with fail
  exact fSince.out w4 _ (hb.tr hb4) (by decide) (by simp only [ByteArray.data_append,Array.toList_append,kS,oJ,hta,htb,t_,sT,e1a.out,e1b.out];simp)
 ·go_wp2_with fail
  refine (hS3'.out w3 hb).mono ?_
  rintro e w4 ⟨⟨s2,rfl,oJ⟩,hb4⟩
  have z2:=nM oJ
  go_wp2_with fail
  exact fSince.out w4 _ (hb.tr hb4) (by decide) (by simp only [ByteArray.data_append,Array.toList_append,kS,oJ,hta,htb,t_,sT,e1a.out,e1b.out];simp)
 ·go_wp2_with fail
  refine (hS2'.out w3 hb).mono ?_
  rintro e w4 ⟨⟨s2,rfl,oJ⟩,hb4⟩
  have z2:=nM oJ
  go_wp2_with fail
  exact fTwo.out w4 _ 38 8743 (hb.tr hb4) (by simp) (by simp only [ByteArray.data_append,Array.toList_append,kS,oJ,twoL];simp)
 ·go_wp2_with fail
  refine (hS2'.out w3 hb).mono ?_
  rintro e w4 ⟨⟨s2,rfl,oJ⟩,hb4⟩
  have z2:=nM oJ
  go_wp2_with fail
  exact fTwo.out w4 _ 124 8744 (hb.tr hb4) (by simp) (by simp only [ByteArray.data_append,Array.toList_append,kS,oJ,twoL];simp)
theorem sent_any (R:List Int) (o:Option Addr) (cap:Nat) (hlen:R.length<=4611686018427387904) (hI:∀ r∈R,mj r):∀ (d:Nat),d<=3->∀ (i:Nat) (w:World),iD w o R->i+4*2 ^ d<=9223372036854775000->Calls Tryz.prog 18 #[.slice o R.length cap,.int .i64 (i:Int),.int .i64 (d:Int)] w (cH R d i w)
 | 0,hd,i,w,hR,hi=>sent_stop R o cap 0 i w hlen hI hR (by omega) hd (.inl rfl)
 | d+1,hd,i,w,hR,hi=>by
  by_cases h:aP (R.getD i 0) 12<2\/R.length<i+1
  ·exact sent_stop R o cap (d+1) i w hlen hI hR (by omega) hd (.inr h)
  ·exact sent_step R o cap d i w hlen hI hR hi (by omega) (by omega) (by omega) fun i w hR hi=>sent_any R o cap hlen hI d (by omega) i w hR hi
end Ev
end Go.Proofs.YtpbbmagjhkakgaaGreatDoor
