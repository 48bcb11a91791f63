import Derived.Test.YtpbbmagjhkakgaaGreatDoorEaPolToSnReach
import Derived.Test.YtpbbmagjhkakgaaGreatDoorElJudgeToEdEvent
import Derived.Test.YtpbbmagjhkakgaaGreatDoorLfSendsToPureLoose
namespace Go.Proofs.YtpbbmagjhkakgaaGreatDoor
namespace Ev
open Go.RowKit Go.Deep Go.Maps Lf
theorem oldF_lt (t:Int):∀ (C:List bx) (j:Nat) (c:bx),C[j]? = some c->j<nj t C->c.time<t
 | [],j,c,h,_=>by simp at h
 | d::C,j,c,h,hj=>by
  simp only [nj] at hj
  split at hj
  ·omega
  ·rename_i hd
   cases j with
   | zero=>simp at h;subst h;omega
   | succ j=>exact oldF_lt t C j c (by simpa using h) (by omega)
end Ev
namespace Ev
open Go.RowKit Go.Deep Go.Maps Lf Go.Conc
theorem arr_get (t:Array Value) (n:Nat) (h:t.size=n):t=((List.range n).map (fun j=>t.getD j undef)).toArray:=by
 apply Array.ext
 ·simp [h]
 ·intro i h1 h2
  simp at h2
  simp [h1]
def eL (x:BT aO) (L:List (Int×Int)):Nat->ByteArray
 | 0=>⟨#[]⟩
 | i+1=>eL x L i++(if verZ x L i then ⟨#[49]⟩ else ⟨#[48]⟩)
def gJ (w:World) (eo:Option Addr) (L:List (Int×Int)):Prop:=L≠[]->∃ b off,eo=some ⟨b,off,none⟩/\b<w.heap.size/\∀ j,j<L.length->w.cell? ⟨b,off+j*2,none⟩=some (.int .i64 (L.getD j (0,0)).1)/\w.cell? ⟨b,off+j*2+1,none⟩=some (.int .i64 (L.getD j (0,0)).2)
theorem gJ.move {w w':World} {eo:Option Addr} {L:List (Int×Int)} (h:gJ w eo L) (hs:au (fun _=>False) w w'):gJ w' eo L:=fun hne=>by
 obtain ⟨b,off,h1,h2,h3⟩:=h hne
 have hc:∀ q,w'.cell? ⟨b,q,none⟩=w.cell? ⟨b,q,none⟩:=fun q=>World.cell?_of_block (hs.block b h2 id)
 exact ⟨b,off,h1,Nat.lt_of_lt_of_le h2 hs.size,fun j hj=>by simp only [hc];exact h3 j hj⟩
theorem iM {w0 w w':World} (h:au (fun _=>False) w0 w) (k:au (fun b=>w0.heap.size<=b) w w'):au (fun _=>False) w0 w' :=
 ⟨k.os.trans h.os,k.output.trans h.output,Nat.le_trans h.size k.size,fun b hb _=>(k.block b (Nat.lt_of_lt_of_le hb h.size) (by omega)).trans (h.block b hb id)⟩
noncomputable def iZ:Code:=Tryz.f21.body.getD .skip
noncomputable def jV:Code:=match iZ with
 | .seq _ (.seq _ (.seq _ (.seq _ (.seq _ (.seq _ (.seq (.seq _ (.block _ (.loop x))) _))))))=>x
 | _=>.skip
theorem lift {f:FuncId} {args:Array Value} {w:World} {R:Ending->World->Prop} (hR:∀ e w τ d,R e w->R e (re w τ d)) (hno:∀ w,¬ R .outgrown w) (h:∀ τ d,Calls Tryz.prog f args (re w τ d) R):bZ Tryz.prog f args w R:=bZ.of_calls bk hR hno h
theorem atoms_H (c:Int) (w:World) (hc:mj c):bZ Tryz.prog 25 #[.int .i64 c] w fun e w'=>∃ ao cap,e=.returned (.slice ao (jQ (aP c 8).toNat).length cap)/\(jQ (aP c 8).toNat).length<=cap/\eI w' ao (jQ (aP c 8).toNat)/\au (fun _=>False) w w':=by
 refine lift ?_ ?_ fun τ d=>(atoms_any c (re w τ d) hc).mono ?_
 ·rintro e w' τ d ⟨ao,cap,h1,h2,h3,h4⟩
  exact ⟨ao,cap,h1,h2,h3,h4.aU τ d⟩
 ·rintro w' ⟨ao,cap,h1,_⟩
  cases h1
 ·rintro e w' ⟨v,rfl,h1,h2⟩
  obtain ⟨ao,cap,rfl,h3,h4,_⟩:=rQ h1
  exact ⟨ao,cap,rfl,h3,h4,(au.aL h2).tape0⟩
section
variable {text : ByteArray} {x : BT aO} {L : List (Int × Int)} {ai : Int} {eo : Option Addr} {cap mb aj : Nat} {w0 : World} {now iv : Int} {i : Nat} {a : Act} {w : World}
end
noncomputable def head21:Code:=match jV with
 | .seq x _=>x
 | _=>.skip
noncomputable def later21:Code:=match jV with
 | .seq _ (.seq (.block _ (.seq x _)) _)=>x
 | _=>.skip
noncomputable def event21:Code:=match jV with
 | .seq _ (.seq (.block _ (.seq _ (.seq x _))) _)=>x
 | _=>.skip
noncomputable def ok21:Code:=match jV with
 | .seq _ (.seq (.block _ (.seq _ (.seq _ x))) _)=>x
 | _=>.skip
noncomputable def next21:Code:=match jV with
 | .seq _ (.seq _ x)=>x
 | _=>.skip
end Ev
namespace Ev
open Go.RowKit Go.Deep Go.Maps Lf Go.Conc
theorem versL_get (x:BT aO) (L:List (Int×Int)):∀ (n j:Nat),j<n->(nO x L n)[j*4]? = some (.int .i64 ((j:Int)+1))/\(nO x L n)[j*4+2]? = some (.int .i64 1)/\(nO x L n)[j*4+3]? = some (.bool (verZ x L j))
 | 0,_,h=>absurd h (Nat.not_lt_zero _)
 | n+1,j,h=>by
  have hl:=versL_len x L n
  unfold nO
  by_cases hj:j<n
  ·have:=versL_get x L n j hj
   rw [List.getElem?_append_left (by omega),List.getElem?_append_left (by omega),List.getElem?_append_left (by omega)]
   exact this
  ·obtain rfl:j=n:=by omega
   rw [List.getElem?_append_right (by omega),List.getElem?_append_right (by omega),List.getElem?_append_right (by omega),hl]
   have e1:j*4-j*4=0:=by omega
   have e2:j*4+2-j*4=2:=by omega
   have e3:j*4+3-j*4=3:=by omega
   rw [e1,e2,e3]
   exact ⟨rfl,rfl,rfl⟩
theorem verS_size (x:BT aO) (L:List (Int×Int)):∀ n,(eL x L n).size=n
 | 0=>rfl
 | n+1=>by
  unfold eL
  rw [ByteArray.size_append,verS_size x L n]
  split<;>rfl
noncomputable def rest21:Code:=match iZ with
 | .seq _ (.seq _ (.seq _ (.seq _ (.seq _ (.seq _ (.seq _ x))))))=>x
 | _=>.skip
noncomputable def zero21:Code:=match iZ with
 | .seq _ (.seq _ (.seq _ (.seq _ (.seq _ (.seq _ (.seq (.seq x _) _))))))=>x
 | _=>.skip
noncomputable def pre21:List Code:=match iZ with
 | .seq a (.seq b (.seq c (.seq d (.seq e (.seq f _)))))=>[a,b,c,d,e,f]
 | _=>[]
theorem glob_tape {w:World} (hg:eF w) (τ:Tape) (d:Nat):eF (re w τ d):=⟨⟨hg.conv.syn,hg.conv.rng⟩,hg.ns,hg.et,hg.tab⟩
def iE (x:BT aO) (L:List (Int×Int)) (w0:World) (e:Ending) (w':World):Prop:=e=.returned (.tuple #[.string (eL x L (min L.length 25)),.bool true])/\au (fun _=>False) w0 w'
end Ev
namespace Ev
open Go.Deep (BT)
def atomT (c:UInt8):BT aO:=mk 97 ⟨#[c]⟩ 0 0 .nil .nil
theorem good_atom (c:UInt8) (h:97<=c.toNat/\c.toNat<=122):Good (atomT c):=by
 refine .inr (.inl ⟨rfl,⟨by show 1<=1;omega,by show 1<=8;omega,?_,?_⟩,rfl,rfl,rfl,rfl⟩)
 ·intro e
  have:=congrArg ByteArray.size e
  exact absurd this (show (1:Nat)≠4 by decide)
 ·intro d hd
  have:d=c:=by simpa using hd
  subst this
  exact h
theorem read_atom:cI ⟨#[97]⟩=(some (atomT 97),0) :=
 read_print (atomT 97) (good_atom 97 (by decide)) ⟨rfl,rfl,trivial,trivial⟩ (by decide) (by decide)
theorem few_nodes {x:BT aO} {n:Nat} (h:aV (ak x)<=n):(dN (fun _=>x) 1).length<=n:=by
 have:=(kt (ak x) []).2.1
 simp at this
 exact Nat.le_trans this h
theorem nodes_atom:aV (ak (atomT 97))<=4:=tU _
section
variable (L : List (Int × Int)) (i : Nat) (a b : Int)
end
section
variable {L : List (Int × Int)} {i : Nat} {a b : Int}
end
end Ev
namespace Ev
open Go.Deep (BT)
def notX (x:BT aO):BT aO:=mk 172 ByteArray.empty 0 0 x .nil
def andX (x y:BT aO):BT aO:=mk 8743 ByteArray.empty 0 0 x y
def orX (x y:BT aO):BT aO:=mk 8744 ByteArray.empty 0 0 x y
def opX (op a b:Int) (x:BT aO):BT aO:=mk op ByteArray.empty a b x .nil
def sinceX (a b:Int) (x y:BT aO):BT aO:=mk 83 ByteArray.empty a b x y
def twoX (op:Int) (x y:BT aO):BT aO:=mk op ByteArray.empty 0 0 x y
def wordX (s:ByteArray):BT aO:=mk 97 s 0 0 .nil .nil
def notL (l:List UInt8):List UInt8:=[33]++l
def opL (c:UInt8) (a b:Int) (l:List UInt8):List UInt8:=[c]++(sT a b++l)
def twoL (c:UInt8) (l r:List UInt8):List UInt8:=[40]++(l++([32]++([c]++([32]++(r++[41])))))
def t_ (a b:Int) (l r:List UInt8):List UInt8:=[40]++(l++([32]++([83]++(sT a b++(r++[41])))))
structure Made where
 txt:List UInt8
 x:BT aO
 next:Nat
def ltrN (k:Int):Nat:=(aP k 3).toNat
def ay (R:List Int):Nat->Nat->Made
 | 0,i=>⟨(ni (ltrN (aP (R.getD i 0) 12))).data.toList,wordX (ni (ltrN (aP (R.getD i 0) 12))),i+1⟩
 | d+1,i =>
  if aP (R.getD i 0) 12<2\/R.length<i+1 then ⟨(ni (ltrN (aP (R.getD i 0) 12))).data.toList,wordX (ni (ltrN (aP (R.getD i 0) 12))),i+1⟩
  else if aP (R.getD i 0) 12<4 then ⟨notL (ay R d (i+1)).txt,notX (ay R d (i+1)).x,(ay R d (i+1)).next⟩
  else if aP (R.getD i 0) 12=4 then ⟨opL 89 (aP (R.getD (ay R d (i+1)).next 0) 5) (aP (R.getD (ay R d (i+1)).next 0) 5+aP (R.getD ((ay R d (i+1)).next+1) 0) 5) (ay R d (i+1)).txt,opX 89 (aP (R.getD (ay R d (i+1)).next 0) 5) (aP (R.getD (ay R d (i+1)).next 0) 5+aP (R.getD ((ay R d (i+1)).next+1) 0) 5) (ay R d (i+1)).x,(ay R d (i+1)).next+2⟩
  else if aP (R.getD i 0) 12<7 then ⟨opL 79 (aP (R.getD (ay R d (i+1)).next 0) 5) (aP (R.getD (ay R d (i+1)).next 0) 5+aP (R.getD ((ay R d (i+1)).next+1) 0) 5) (ay R d (i+1)).txt,opX 79 (aP (R.getD (ay R d (i+1)).next 0) 5) (aP (R.getD (ay R d (i+1)).next 0) 5+aP (R.getD ((ay R d (i+1)).next+1) 0) 5) (ay R d (i+1)).x,(ay R d (i+1)).next+2⟩
  else if aP (R.getD i 0) 12=7 then ⟨opL 72 (aP (R.getD (ay R d (i+1)).next 0) 5) (aP (R.getD (ay R d (i+1)).next 0) 5+aP (R.getD ((ay R d (i+1)).next+1) 0) 5) (ay R d (i+1)).txt,opX 72 (aP (R.getD (ay R d (i+1)).next 0) 5) (aP (R.getD (ay R d (i+1)).next 0) 5+aP (R.getD ((ay R d (i+1)).next+1) 0) 5) (ay R d (i+1)).x,(ay R d (i+1)).next+2⟩
  else if aP (R.getD i 0) 12<10 then ⟨t_ (aP (R.getD (ay R d (i+1)).next 0) 5) (aP (R.getD (ay R d (i+1)).next 0) 5+aP (R.getD ((ay R d (i+1)).next+1) 0) 5) (ay R d (i+1)).txt (ay R d ((ay R d (i+1)).next+2)).txt,sinceX (aP (R.getD (ay R d (i+1)).next 0) 5) (aP (R.getD (ay R d (i+1)).next 0) 5+aP (R.getD ((ay R d (i+1)).next+1) 0) 5) (ay R d (i+1)).x (ay R d ((ay R d (i+1)).next+2)).x,(ay R d ((ay R d (i+1)).next+2)).next⟩
  else if aP (R.getD i 0) 12=10 then ⟨twoL 38 (ay R d (i+1)).txt (ay R d (ay R d (i+1)).next).txt,andX (ay R d (i+1)).x (ay R d (ay R d (i+1)).next).x,(ay R d (ay R d (i+1)).next).next⟩
  else ⟨twoL 124 (ay R d (i+1)).txt (ay R d (ay R d (i+1)).next).txt,orX (ay R d (i+1)).x (ay R d (ay R d (i+1)).next).x,(ay R d (ay R d (i+1)).next).next⟩
structure cV (len dep s9:Nat) (sS:Int) (l:List UInt8) (x:BT aO):Prop where
 reads:Reads l x
 len:l.length<=len
 dep:aK x<=dep
 s9:aV (ak x)<=s9
 sS:ax x<=sS
theorem cV.good {len dep s9:Nat} {sS:Int} {l:List UInt8} {x:BT aO} (h:cV len dep s9 sS l x):Good x:=h.reads.1.1
theorem cV.read {len dep s9:Nat} {sS:Int} {l:List UInt8} {x:BT aO} (h:cV len dep s9 sS l x) (hl:len<=300) (hd:dep<=12) {s:ByteArray} (hs:s.data.toList=l):cI s=(some x,0):=h.reads.read (Nat.le_trans h.dep hd) (Nat.le_trans h.len hl) hs
theorem cV.weaken {len dep s9:Nat} {sS:Int} {l:List UInt8} {x:BT aO} (h:cV len dep s9 sS l x) {len' dep' nod':Nat} {rea':Int} (h1:len<=len') (h2:dep<=dep') (h3:s9<=nod') (h4:sS<=rea'):cV len' dep' nod' rea' l x :=
 ⟨h.reads,Nat.le_trans h.len h1,Nat.le_trans h.dep h2,Nat.le_trans h.s9 h3,Int.le_trans h.sS h4⟩
theorem cV.not {len dep s9:Nat} {sS:Int} {l:List UInt8} {x:BT aO} (h:cV len dep s9 sS l x):cV (len+1) (dep+1) (s9+1) sS (notL l) (notX x):=by
 have hn:=iI (ak x)
 have ec:ak (notX x)=bQ (ak x):=rfl
 have hd:aK (notX x)=1+max (aK x) 0:=rfl
 have hr:ax (notX x)=0+max (ax x) 0:=rfl
 have h0:=eX h.good.win
 exact ⟨h.reads.not,by have:=h.len;simp [notL];omega,by rw [hd];have:=h.dep;omega,by rw [ec];have:=h.s9;omega,by rw [hr];have:=h.sS;omega⟩
theorem win_len {a b:Int} (h:0<=a/\a<=b) {n:Nat} (hb:b<(10:Nat) ^ (n+1)):(sT a b).length<=2*n+5:=by
 have e1:=si a h.1
 have e2:=si b (by omega)
 have l1:=dec_len n a.toNat (by omega)
 have l2:=dec_len n b.toNat (by omega)
 unfold sT
 rw [e1,e2]
 simp
 omega
theorem cV.op {len dep s9:Nat} {sS:Int} {l:List UInt8} {x:BT aO} {c:UInt8} {op a b:Int} {n:Nat} (h:cV len dep s9 sS l x) (hc:(c=89/\op=89)\/(c=79/\op=79)\/(c=72/\op=72)) (hab:0<=a/\a<=b/\b<=1000000) (hb:b<(10:Nat) ^ (n+1)) :
  cV (len+2*n+6) (dep+1) (s9+3) (sS+b) (opL c a b l) (opX op a b x):=by
 have hn:=iI (ak x)
 have hwl:=win_len ⟨hab.1,hab.2.1⟩ hb
 have hd:aK (opX op a b x)=1+max (aK x) 0:=rfl
 have hr:ax (opX op a b x)=b+max (ax x) 0:=rfl
 have h0:=eX h.good.win
 have ho:op=89\/op=79\/op=72:=by omega
 have hcc:c=UInt8.ofNat op.toNat:=by rcases hc with ⟨rfl,rfl⟩ | ⟨rfl,rfl⟩ | ⟨rfl,rfl⟩<;>rfl
 refine ⟨?_,by have:=h.len;simp [opL];omega,by rw [hd];have:=h.dep;omega,?_,by rw [hr];have:=h.sS;omega⟩
 ·unfold opL opX
  rw [hcc]
  exact Reads.win ho hab h.reads
 ·have hnod:=h.s9
  rcases hc with ⟨_,rfl⟩ | ⟨_,rfl⟩ | ⟨_,rfl⟩
  ·have ec:aV (ak (opX 89 a b x))=aV (ak x)+0+1:=rfl
   rw [ec];omega
  ·have ec:aV (ak (opX 79 a b x))=aV (ak x)+0+1:=rfl
   rw [ec];omega
  ·have ec:aV (ak (opX 72 a b x))=(aV (bQ (ak x))+0+1)+0+1:=rfl
   rw [ec];omega
theorem cV.two {len dep s9 len2 dep2 nod2:Nat} {sS rea2:Int} {l r:List UInt8} {x y:BT aO} {c:UInt8} {op:Int} (h:cV len dep s9 sS l x) (h':cV len2 dep2 nod2 rea2 r y) (hc:(c=38/\op=8743)\/(c=124/\op=8744)) :
  cV (len+len2+5) (max dep dep2+1) (s9+nod2+4) (max sS rea2) (twoL c l r) (twoX op x y):=by
 have hn:=iI (ak x)
 have hn2:=iI (ak y)
 have hd:aK (twoX op x y)=1+max (aK x) (aK y):=rfl
 have hr:ax (twoX op x y)=0+max (ax x) (ax y):=rfl
 refine ⟨Reads.two hc h.reads h'.reads,by have:=h.len;have:=h'.len;simp [twoL];omega,by rw [hd];have:=h.dep;have:=h'.dep;omega,?_,by rw [hr];have:=h.sS;have:=h'.sS;omega⟩
 have hnod:=h.s9
 have hnod2:=h'.s9
 rcases hc with ⟨_,rfl⟩ | ⟨_,rfl⟩
 ·have ec:aV (ak (twoX 8743 x y))=aV (ak x)+aV (ak y)+1:=rfl
  rw [ec];omega
 ·have ec:aV (ak (twoX 8744 x y))=(aV (bQ (ak x))+aV (bQ (ak y))+1)+0+1:=rfl
  rw [ec];omega
theorem cV.since {len dep s9 len2 dep2 nod2:Nat} {sS rea2:Int} {l r:List UInt8} {x y:BT aO} {a b:Int} {n:Nat} (h:cV len dep s9 sS l x) (h':cV len2 dep2 nod2 rea2 r y) (hab:0<=a/\a<=b/\b<=1000000) (hb:b<(10:Nat) ^ (n+1)) :
  cV (len+len2+2*n+9) (max dep dep2+1) (s9+nod2+1) (max sS rea2+b) (t_ a b l r) (sinceX a b x y):=by
 have hwl:=win_len ⟨hab.1,hab.2.1⟩ hb
 have hd:aK (sinceX a b x y)=1+max (aK x) (aK y):=rfl
 have hr:ax (sinceX a b x y)=b+max (ax x) (ax y):=rfl
 have ec:aV (ak (sinceX a b x y))=aV (ak x)+aV (ak y)+1:=rfl
 exact ⟨Reads.since hab h.reads h'.reads,by have:=h.len;have:=h'.len;simp [t_];omega,by rw [hd];have:=h.dep;have:=h'.dep;omega,by rw [ec];have:=h.s9;have:=h'.s9;omega,by rw [hr];have:=h.sS;have:=h'.sS;omega⟩
theorem ltrN_lt (k:Int):ltrN k<3:=by have:=bB k 3 (by decide);unfold ltrN;omega
theorem ltrB_name:∀ n,n<3->(1<=(ni n).size/\(ni n).size<=8/\ni n≠vU/\∀ c,c∈(ni n).data.toList->97<=c.toNat/\c.toNat<=122)/\(ni n).data.toList.length<=1:=by decide +kernel
theorem cV.ltr (k:Int):cV 1 1 1 0 (ni (ltrN k)).data.toList (wordX (ni (ltrN k))):=by
 obtain ⟨h1,h2⟩:=ltrB_name _ (ltrN_lt k)
 exact ⟨Reads.word h1,h2,Nat.le_refl _,Nat.le_refl _,Int.le_refl _⟩
theorem iK (R:List Int):∀ (d i:Nat),cV (10*2 ^ d-9) (d+1) (5*2 ^ d-4) (8*d) (ay R d i).txt (ay R d i).x/\i<(ay R d i).next/\(ay R d i).next+3<=i+4*2 ^ d
 | 0,i=>⟨cV.ltr _,by simp [ay],by simp [ay]⟩
 | d+1,i=>by
  have hpw:2 ^ (d+1)=2*2 ^ d:=by rw [Nat.pow_succ];omega
  have hp1:1<=2 ^ d:=Nat.one_le_two_pow
  obtain ⟨m1,b1,b2⟩:=iK R d (i+1)
  have hk:=bB (R.getD i 0) 12 (by decide)
  have ha:=bB (R.getD (ay R d (i+1)).next 0) 5 (by decide)
  have hb:=bB (R.getD ((ay R d (i+1)).next+1) 0) 5 (by decide)
  obtain ⟨m2,c1,c2⟩:=iK R d (ay R d (i+1)).next
  obtain ⟨m3,e1,e2⟩:=iK R d ((ay R d (i+1)).next+2)
  rw [hpw]
  unfold ay
  by_cases h1:aP (R.getD i 0) 12<2\/R.length<i+1
  ·rw [if_pos h1]
   exact ⟨(cV.ltr _).weaken (by omega) (by omega) (by omega) (by omega),by show i<i+1;omega,by show i+1+3<=_;omega⟩
  ·rw [if_neg h1]
   by_cases h2:aP (R.getD i 0) 12<4
   ·rw [if_pos h2]
    exact ⟨m1.not.weaken (by omega) (by omega) (by omega) (by omega),by show i<(ay R d (i+1)).next;omega,by show (ay R d (i+1)).next+3<=_;omega⟩
   ·rw [if_neg h2]
    by_cases h3:aP (R.getD i 0) 12=4
    ·rw [if_pos h3]
     exact ⟨(m1.op (n:=0) (.inl ⟨rfl,rfl⟩) ⟨by omega,by omega,by omega⟩ (by omega)).weaken (by omega) (by omega) (by omega) (by omega),by show i<(ay R d (i+1)).next+2;omega,by show (ay R d (i+1)).next+2+3<=_;omega⟩
    ·rw [if_neg h3]
     by_cases h4:aP (R.getD i 0) 12<7
     ·rw [if_pos h4]
      exact ⟨(m1.op (n:=0) (.inr (.inl ⟨rfl,rfl⟩)) ⟨by omega,by omega,by omega⟩ (by omega)).weaken (by omega) (by omega) (by omega) (by omega),by show i<(ay R d (i+1)).next+2;omega,by show (ay R d (i+1)).next+2+3<=_;omega⟩
     ·rw [if_neg h4]
      by_cases h5:aP (R.getD i 0) 12=7
      ·rw [if_pos h5]
       exact ⟨(m1.op (n:=0) (.inr (.inr ⟨rfl,rfl⟩)) ⟨by omega,by omega,by omega⟩ (by omega)).weaken (by omega) (by omega) (by omega) (by omega),by show i<(ay R d (i+1)).next+2;omega,by show (ay R d (i+1)).next+2+3<=_;omega⟩
      ·rw [if_neg h5]
       by_cases h6:aP (R.getD i 0) 12<10
       ·rw [if_pos h6]
        exact ⟨(m1.since (n:=0) m3 ⟨by omega,by omega,by omega⟩ (by omega)).weaken (by omega) (by omega) (by omega) (by omega),by show i<(ay R d ((ay R d (i+1)).next+2)).next;omega,by show (ay R d ((ay R d (i+1)).next+2)).next+3<=_;omega⟩
       ·rw [if_neg h6]
        by_cases h7:aP (R.getD i 0) 12=10
        ·rw [if_pos h7]
         exact ⟨(m1.two m2 (.inl ⟨rfl,rfl⟩)).weaken (by omega) (by omega) (by omega) (by omega),by show i<(ay R d (ay R d (i+1)).next).next;omega,by show (ay R d (ay R d (i+1)).next).next+3<=_;omega⟩
        ·rw [if_neg h7]
         exact ⟨(m1.two m2 (.inr ⟨rfl,rfl⟩)).weaken (by omega) (by omega) (by omega) (by omega),by show i<(ay R d (ay R d (i+1)).next).next;omega,by show (ay R d (ay R d (i+1)).next).next+3<=_;omega⟩
section
variable (a b : Int) (x y : BT aO) (e : uj) (es : List uj)
end
end Ev
end Go.Proofs.YtpbbmagjhkakgaaGreatDoor
